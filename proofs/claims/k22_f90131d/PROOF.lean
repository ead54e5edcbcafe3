import PyProof.Rows.All
import Wide.All
import OpenK.AllK
import Wide.FinOn
import Lean
import PyProof.EqAt
import PyProof.EqKinds
import PyProof.TupleCall
import PyProof.DictKeyH
import PyProof.DictFindH
import PySem.Challenge.RW_signsmooth_k22_whole_sum_of_ways
set_option genSizeOf false
set_option bootstrap.genMatcherCode false
set_option Elab.async false
set_option linter.all false
set_option maxRecDepth 100000
set_option exponentiation.threshold 4000
namespace L2
open PySem PySem.Spec PyProof.Rows
noncomputable abbrev Key:=Sum Int Str
noncomputable def ra:Key->Value->Bool
 | .inl k,v=>Value.isInt k v
 | .inr x,v=>Value.isStrOf x v
noncomputable def vH (w:World):Key->Int
 | .inl k=>hashInt k
 | .inr x=>hashStr w x
theorem aS:∀ {k:Key} {v:Value},ra k v=true->(∃ i t,k=Sum.inl i/\v=Value.int i t)\/(∃ x t,k=Sum.inr x/\v=Value.str x t)
 | .inl i,v,h=>by
   obtain ⟨t,e⟩:=Value.isInt_shape (k:=i) (v:=v) h
   exact .inl ⟨i,t,rfl,e⟩
 | .inr x,v,h=>by
   obtain ⟨t,e⟩:=Value.isStrOf_shape (x:=x) (v:=v) h
   exact .inr ⟨x,t,rfl,e⟩
theorem sf (a b:Int):decide ((Sum.inl a:Key)=Sum.inl b)=(a == b):=by
 by_cases e:a=b
 · subst e; simp
 · have h:¬ (Sum.inl a:Key)=Sum.inl b:=λq=>e (Sum.inl.inj q)
   rw [decide_eq_false h]
   exact (beq_eq_false_iff_ne.mpr e).symm
theorem tw (a b:Str):decide ((Sum.inr a:Key)=Sum.inr b)=decide (a=b):=by
 by_cases e:a=b
 · subst e; simp
 · have h:¬ (Sum.inr a:Key)=Sum.inr b:=λq=>e (Sum.inr.inj q)
   rw [decide_eq_false h,decide_eq_false e]
theorem tM (a:Int) (b:Str):decide ((Sum.inl a:Key)=Sum.inr b)=false:=decide_eq_false (λq=>nomatch q)
theorem tF (a:Str) (b:Int):decide ((Sum.inr a:Key)=Sum.inl b)=false:=decide_eq_false (λq=>nomatch q)
noncomputable def lP (prog:Program) (w:World):PySem.KeyKind prog w Key where
 is:=ra
 hash:=vH w
 inj:=λv a b ha hb=>by
   rcases aS ha with ⟨i,t,rfl,rfl⟩ | ⟨x,t,rfl,rfl⟩
   · rcases aS hb with ⟨j,u,rfl,e⟩ | ⟨y,u,rfl,e⟩
     · injection e with e1 _; rw [e1]
     · exact nomatch e
   · rcases aS hb with ⟨j,u,rfl,e⟩ | ⟨y,u,rfl,e⟩
     · exact nomatch e
     · injection e with e1 _; rw [e1]
 byValue:=λk v h=>by
   rcases aS h with ⟨i,t,rfl,rfl⟩ | ⟨x,t,rfl,rfl⟩ <;> rfl
 pyHash:=λhv h=>by
   rcases aS hv with ⟨i,t,rfl,rfl⟩ | ⟨x,t,rfl,rfl⟩
   · exact wpAny_pyHash_int h
   · exact wpAny_pyHash_str h
 eqBool:=λhu hv h=>by
   rcases aS hu with ⟨i,t,rfl,rfl⟩ | ⟨x,t,rfl,rfl⟩
   · rcases aS hv with ⟨j,u,rfl,rfl⟩ | ⟨y,u,rfl,rfl⟩
     · rw [sf] at h; exact wpAny_eqBool_int h
     · rw [tM] at h; exact SeqAt.EqAt.int_str i t y u _ _ _ _ h
   · rcases aS hv with ⟨j,u,rfl,rfl⟩ | ⟨y,u,rfl,rfl⟩
     · rw [tF] at h; exact SeqAt.EqAt.str_int x t j u _ _ _ _ h
     · rw [tw] at h; exact wpAny_eqBool_str h
 «strs»:=λk x t v h=>by
   rcases aS h with ⟨i,u,rfl,e⟩ | ⟨y,u,rfl,e⟩
   · exact nomatch e
   · injection e with e1 _
     subst e1
     cases v <;> rfl
inductive V where
 | non | bl (b:Bool) | int (i:Int) | str (x:Str) | byt (b:Array UInt8) | flt (b:UInt64) | ref (a:Addr) | ty (n:String)
 deriving DecidableEq
noncomputable def RelV:V->Value->Prop
 | .non,u=>u=Value.none
 | .bl b,u=>u=Value.bool b
 | .int i,u=>∃ t,u=Value.int i t
 | .str x,u=>∃ t,u=Value.str x t
 | .byt b,u=>∃ t,u=Value.bytes b t
 | .flt b,u=>∃ t,u=Value.float b t
 | .ref a,u=>u=Value.ref a
 | .ty n,u=>u=Value.type n
noncomputable abbrev Vals:List V->List Value->Prop:=Paired RelV
theorem Vals.length {xs:List V} {us:List Value} (r:Vals xs us):xs.length=us.length:=Paired.length r
theorem Vals.get:∀ {xs:List V} {us:List Value} {i:Nat} {x:V},Vals xs us->xs[i]?=some x->∃ u,us[i]?=some u/\RelV x u
 | _,_,_,_,.nil,e=>by simp at e
 | _,_,0,_,.cons r _,e=>by simp at e; subst e; exact ⟨_,rfl,r⟩
 | _,_,i + 1,x,.cons _ t,e=>by
   obtain ⟨u,h1,h2⟩:=Vals.get (i:=i) (x:=x) t (by simpa using e)
   exact ⟨u,by simpa using h1,h2⟩
theorem Vals.set {x:V} {u:Value} (r:RelV x u):∀ {xs:List V} {us:List Value} (i:Nat),Vals xs us->Vals (xs.set i x) (us.set i u)
 | _,_,_,.nil=>.nil
 | _,_,0,.cons _ t=>.cons r t
 | _,_,i + 1,.cons q t=>.cons q (Vals.set r i t)
theorem Vals.append:∀ {xs ys:List V} {us ws:List Value},Vals xs us->Vals ys ws->Vals (xs++ys) (us++ws)
 | _,_,_,_,.nil,s=>s
 | _,_,_,_,.cons r t,s=>.cons r (Vals.append t s)
theorem Vals.take:∀ {xs:List V} {us:List Value} (n:Nat),Vals xs us->Vals (xs.take n) (us.take n)
 | _,_,0,_=>.nil
 | _,_,_ + 1,.nil=>.nil
 | _,_,n + 1,.cons r t=>.cons r (Vals.take n t)
theorem Vals.drop:∀ {xs:List V} {us:List Value} (n:Nat),Vals xs us->Vals (xs.drop n) (us.drop n)
 | _,_,0,r=>r
 | _,_,_ + 1,.nil=>.nil
 | _,_,n + 1,.cons _ t=>Vals.drop n t
noncomputable def mU:Option V->Option Value->Prop
 | some v,some u=>RelV v u
 | none,none=>True
 | _,_=>False
noncomputable def KV {κ:Type}:List (κ × V)->List (κ × Value)->Prop:=Paired λ(p:κ × V) (q:κ × Value)=>p.1=q.1/\RelV p.2 q.2
noncomputable def kV:Key->V
 | .inl i=>.int i
 | .inr x=>.str x
inductive HO where
 | lst (xs:List V)
 | tup (xs:List V)
 | dK (kvs:List (Key × V)) | dT (kvs:List (List Key × V))
 | set (S:Int->Bool) (n:Nat)
 | ins (C dx:Addr) (fs:List (Str × V))
 | own (x:Addr)
 | xd (fs:List (Str × V))
 | met (f x:Addr)
 | rng (lo hi:Int)
 | frz (o:Obj) (u:HO)
 | tbl (ps:Array Value)
 | ext (φ:Heap->Prop)
noncomputable abbrev Hp:=Addr->Option HO
noncomputable def upd (H:Hp) (a:Addr) (o:HO):Hp:=λb=>if b=a then some o else H b
theorem aI {H:Hp} {a:Addr} {o:HO}:upd H a o a=some o:=by unfold upd; rw [if_pos rfl]
theorem ay {H:Hp} {a b:Addr} {o:HO} (h:b ≠ a):upd H a o b=H b:=by unfold upd; rw [if_neg h]
theorem aF {H:Hp} {a b:Addr} {o:HO} (h:H a=some o) (h':H b=none):a ≠ b:=by
 intro e; subst e; rw [h] at h'; cases h'
section
variable (P:Program) (w:World)
noncomputable def bu (H:Hp) (h:Heap) (a:Addr):HO->Prop
 | .lst xs=>xs.length<=sizeLine/\∃ (its:List Value) (n:Nat),Vals xs its/\h.get? a=some { cls:=.type "list",data:=.seq its.toArray n }
 | .tup xs=>xs.length<=sizeLine/\∃ its:List Value,Vals xs its/\IsTup h a its.toArray
 | .dK kvs=>kvs.length<=sizeLine/\(a == sysModules)=false/\∃ vs,KV kvs vs/\h.DictOf (lP P w) a vs
 | .dT kvs=>kvs.length<=sizeLine/\(a == sysModules)=false/\∃ xs:List (List Key × Addr × Value),
     Paired (λ(p:List Key × V) (q:List Key × Addr × Value)=>p.1=q.1/\H q.2.1=some (.tup (p.1.map kV))/\RelV p.2 q.2.2) kvs xs /\
     ∃ o es ep,h.get? a=some o/\o.ExactDict/\o.data=.dict es ep/\es.toList=xs.map (entryOfKey (tupleKind (lP P w)))/\(xs.map (·.1)).Nodup
 | .set S n=>h.SetOf (intKind P w) a S n
 | .ins C dx fs=>H dx=some (.own a)/\fs.length<=1000/\dx ≠ a/\h.get? a=some (PySem.W.instObj C dx) /\
     ∃ mA,h.Ns1 dx mA/\(∀ f,mU (fs.lookup f) (mA f))/\PySem.Within mA (fs.map (·.1))
 | .own _=>∃ o,h.get? a=some o
 | .xd fs=>∃ mA,h.Ns1 a mA/\∀ f,mU (fs.lookup f) (mA f)
 | .rng lo hi=>∃ t u v,h.get? a=some { cls:=.type "range",data:=.fields #[.int lo t,.int hi u,.int 1 v] }
 | .frz o u=>h.get? a=some o/\bu H h a u
 | .tbl ps=>h.get? a=some { cls:=.none,data:=.fields ps }
 | .met f x=>h.get? a=some (PySem.W.methodObj (.ref f) (.ref x))
 | .ext φ=>φ h/\(∃ o,h.get? a=some o)/\∀ h1 h2:Heap,φ h1->(∀ o,h1.get? a=some o->h2.get? a=some o)->φ h2
noncomputable def HOk (H:Hp) (h:Heap):Prop:=∀ a o,H a=some o->bu P w H h a o
end
section
variable {P:Program} {w:World} {H H':Hp} {h h':Heap} {a:Addr} {o:HO}
theorem bu.lt (x:bu P w H h a o):a < h.objs.size:=by
 cases o with
 | lst xs=>obtain ⟨_,_,_,_,e⟩:=x; exact Heap.lt_size e
 | tup xs=>obtain ⟨_,_,_,p⟩:=x; exact p.lt
 | dK kvs=>obtain ⟨_,_,_,_,o,_,_,e,_⟩:=x; exact Heap.lt_size e
 | dT kvs=>obtain ⟨_,_,_,_,o,_,_,e,_⟩:=x; exact Heap.lt_size e
 | set S n=>obtain ⟨o,_,_,_,e,_⟩:=x; exact Heap.lt_size e
 | ins C dx fs=>obtain ⟨_,_,_,e,_⟩:=x; exact Heap.lt_size e
 | own y=>obtain ⟨_,e⟩:=x; exact Heap.lt_size e
 | xd fs=>obtain ⟨_,⟨_,_,_,e,_⟩,_⟩:=x; exact Heap.lt_size e
 | rng lo hi=>obtain ⟨_,_,_,e⟩:=x; exact Heap.lt_size e
 | frz ob u=>obtain ⟨e,_⟩:=x; exact Heap.lt_size e
 | tbl ps=>exact Heap.lt_size (show h.get? a=some _ from x)
 | met f y=>exact Heap.lt_size (show h.get? a=some _ from x)
 | ext φ=>obtain ⟨_,⟨_,e⟩,_⟩:=x; exact Heap.lt_size e
theorem Paired.so {α β:Type} {F G:α->β->Prop}:∀ {l₁:List α} {l₂:List β},Paired F l₁ l₂->(∀ a b,F a b->G a b)->Paired G l₁ l₂
 | _,_,.nil,_=>.nil
 | _,_,.cons r t,f=>.cons (f _ _ r) (Paired.so t f)
theorem bu.gf (x:bu P w H h a o) (k:∀ b u,(b=a\/H b=some (.own a))->h.get? b=some u->h'.get? b=some u)
   (ho:∀ b,H b=some (.own a)->H' b=some (.own a)) (ht:∀ b xs,H b=some (.tup xs)->H' b=some (.tup xs)):bu P w H' h' a o:=by
 induction o with
 | lst xs=>obtain ⟨z,its,n,r,e⟩:=x; exact ⟨z,its,n,r,k _ _ (.inl rfl) e⟩
 | tup xs=>obtain ⟨z,its,r,ob,e,c⟩:=x; exact ⟨z,its,r,ob,k _ _ (.inl rfl) e,c⟩
 | dK kvs=>obtain ⟨z,y,vs,r,ob,es,ep,e,c⟩:=x; exact ⟨z,y,vs,r,ob,es,ep,k _ _ (.inl rfl) e,c⟩
 | dT kvs=>
   obtain ⟨z,y,xs,r,ob,es,ep,e,c⟩:=x
   exact ⟨z,y,xs,Paired.so r λp q z=>⟨z.1,ht _ _ z.2.1,z.2.2⟩,ob,es,ep,k _ _ (.inl rfl) e,c⟩
 | set S n=>obtain ⟨ob,es,ep,t,e,c⟩:=x; exact ⟨ob,es,ep,t,k _ _ (.inl rfl) e,c⟩
 | ins C dx fs=>
   obtain ⟨d,z,ne,e,mA,⟨od,es,ep,e2,c⟩,r⟩:=x
   exact ⟨ho _ d,z,ne,k _ _ (.inl rfl) e,mA,⟨od,es,ep,k _ _ (.inr d) e2,c⟩,r⟩
 | own y=>obtain ⟨ob,e⟩:=x; exact ⟨ob,k _ _ (.inl rfl) e⟩
 | xd fs=>obtain ⟨mA,⟨od,es,ep,e,c⟩,r⟩:=x; exact ⟨mA,⟨od,es,ep,k _ _ (.inl rfl) e,c⟩,r⟩
 | rng lo hi=>obtain ⟨t,u,v,e⟩:=x; exact ⟨t,u,v,k _ _ (.inl rfl) e⟩
 | frz ob u ih=>obtain ⟨e,q⟩:=x; exact ⟨k _ _ (.inl rfl) e,ih q⟩
 | tbl ps=>
   have e:h.get? a=some { cls:=.none,data:=.fields ps }:=x
   show h'.get? a=some { cls:=.none,data:=.fields ps }
   exact k a _ (.inl rfl) e
 | met f y=>
   have e:h.get? a=some (PySem.W.methodObj (.ref f) (.ref y)):=x
   show h'.get? a=some (PySem.W.methodObj (.ref f) (.ref y))
   exact k a _ (.inl rfl) e
 | ext φ=>obtain ⟨p,⟨o,e⟩,st⟩:=x; exact ⟨st _ _ p λo q=>k _ _ (.inl rfl) q,⟨o,k _ _ (.inl rfl) e⟩,st⟩
theorem HOk.lt (x:HOk P w H h) (e:H a=some o):a < h.objs.size:=(x a o e).lt
theorem HOk.fresh (x:HOk P w H h) (e:h.objs.size<=a):H a=none:=by
 cases q:H a with
 | none=>rfl
 | some u=>exact absurd (Nat.lt_of_lt_of_le (x.lt q) e) (Nat.lt_irrefl _)
theorem HOk.kept (x:HOk P w H h) (k:∀ b u,h.get? b=some u->h'.get? b=some u):HOk P w H h':=λa o e=>
 (x a o e).gf (λb u _ q=>k b u q) (λ_ q=>q) λ_ _ q=>q
theorem HOk.laid (x:HOk P w H h) (k:∀ b u,h.get? b=some u->h'.get? b=some u) (hp:h.objs.size<=a) (new:bu P w (upd H a o) h' a o):HOk P w (upd H a o) h':=λb u e=>by
 have hn:=x.fresh hp
 by_cases hb:b=a
 · subst hb; rw [aI] at e; cases e; exact new
 · rw [ay hb] at e
   exact (x b u e).gf (λc v _ q=>k c v q) (λc q=>by rw [ay (aF q hn)]; exact q) λc xs q=>by rw [ay (aF q hn)]; exact q
end
noncomputable def Rd (H:Hp) (a:Addr) (u:HO):Prop:=H a=some u\/∃ o,H a=some (.frz o u)
theorem Rd.ok {P:Program} {w:World} {H:Hp} {h:Heap} {a:Addr} {u:HO} (r:Rd H a u) (x:HOk P w H h):bu P w H h a u:=by
 rcases r with r | ⟨o,r⟩
 · exact x a u r
 · obtain ⟨_,q⟩:=x a _ r
   exact q
noncomputable def Mut:Option HO->Prop
 | some (.lst _)=>True
 | some (.dK _)=>True
 | some (.dT _)=>True
 | some (.set _ _)=>True
 | some (.ins _ _ _)=>True
 | some (.ext _)=>True
 | _=>False
section
variable {P:Program} {w:World} {H:Hp} {h h':Heap} {x e:Addr} {o':HO}
theorem HOk.write (ok:HOk P w H h) (mu:Mut (H x)) (he:e=x\/H e=some (.own x)) (k:∀ b u,b ≠ e->h.get? b=some u->h'.get? b=some u) (heo:∃ u,h'.get? e=some u)
   (new:bu P w (upd H x o') h' x o'):HOk P w (upd H x o') h':=λb u q=>by
 have nown:∀ c y,H c=some (.own y)->c ≠ x:=λc y r z=>by subst z; rw [r] at mu; exact mu
 have ntup:∀ c xs,H c=some (.tup xs)->c ≠ x:=λc xs r z=>by subst z; rw [r] at mu; exact mu
 by_cases hb:b=x
 · subst hb; rw [aI] at q; cases q; exact new
 · rw [ay hb] at q
   by_cases hbe:b=e
   · have q':H b=some (.own x):=by
       rcases he with z | z
       · exact absurd (hbe.trans z) hb
       · rw [hbe]; exact z
     rw [q] at q'; cases q'
     obtain ⟨v,hv⟩:=heo
     exact ⟨v,by rw [hbe]; exact hv⟩
   · refine (ok b u q).gf (λc v hc r=>k c v ?_ r) (λc r=>by rw [ay (nown c b r)]; exact r) λc xs r=>by rw [ay (ntup c xs r)]; exact r
     rcases hc with rfl | hc
     · exact hbe
     · rintro rfl
       rcases he with z | z
       · exact nown c b hc z
       · rw [hc] at z; cases z; exact hb rfl
end
structure Un (fs ex:List Addr) (H H':Hp) (h h':Heap):Prop where
 keep:∀ b o,h.get? b=some o->H b=none->b ∉ fs->b ∉ ex->h'.get? b=some o
 slot:∀ b o,h.get? b=some o->H b=none->b ∈ fs->b ∉ ex->∃ sl,h'.get? b=some { o with slots:=sl }
 free:∀ b o,h.get? b=some o->H b=none->b ∉ ex->H' b=none
 there:∀ b o,h.get? b=some o->b ∉ ex->∃ o',h'.get? b=some o'
 tups:∀ b xs,H b=some (.tup xs)->H' b=some (.tup xs)
 frzs:∀ b o u,H b=some (.frz o u)->H' b=some (.frz o u)
 tbls:∀ b ps,H b=some (.tbl ps)->∃ more,H' b=some (.tbl (ps++more))
section
variable {fs fs' ex ex':List Addr} {H H1 H2:Hp} {h h1 h2 h':Heap} {a x e:Addr} {o:HO}
theorem Un.any (u:Un fs ex H H1 h h1) {b:Addr} {ob:Obj} (q:h.get? b=some ob) (n:H b=none) (hx:b ∉ ex):∃ sl,h1.get? b=some { ob with slots:=sl }:=by
 by_cases hb:b ∈ fs
 · exact u.slot b ob q n hb hx
 · exact ⟨ob.slots,u.keep b ob q n hb hx⟩
theorem Un.kept (k:∀ b u,h.get? b=some u->h'.get? b=some u):Un fs ex H H h h':=
 ⟨λb ob q _ _ _=>k b ob q,λb ob q _ _ _=>⟨ob.slots,k b ob q⟩,λ_ _ _ n _=>n,λb ob q _=>⟨ob,k b ob q⟩,λ_ _ q=>q,λ_ _ _ q=>q,λ_ ps q=>⟨#[],by rw [q]; simp⟩⟩
theorem Un.refl:Un fs ex H H h h:=Un.kept λ_ _ q=>q
theorem Un.laid (k:∀ b u,h.get? b=some u->h'.get? b=some u) (hp:h.objs.size<=a) (hn:H a=none):Un fs ex H (upd H a o) h h' where
 keep:=λb u q _ _ _=>k b u q
 slot:=λb u q _ _ _=>⟨u.slots,k b u q⟩
 free:=λb u q n _=>by rw [ay (Nat.ne_of_lt (Nat.lt_of_lt_of_le (Heap.lt_size q) hp))]; exact n
 there:=λb u q _=>⟨u,k b u q⟩
 tups:=λb xs q=>by rw [ay (aF q hn)]; exact q
 frzs:=λb u xs q=>by rw [ay (aF q hn)]; exact q
 tbls:=λb ps q=>⟨#[],by rw [ay (aF q hn),q]; simp⟩
theorem Un.write (mu:Mut (H x)) (he:e=x\/H e=some (.own x)) (k:∀ b u,b ≠ e->h.get? b=some u->h'.get? b=some u) (heo:∃ u,h'.get? e=some u):Un fs ex H (upd H x o) h h':=by
 have hx:∀ b,H b=none->b ≠ x:=λb n z=>by subst z; rw [n] at mu; exact mu
 have hb:∀ b,H b=none->b ≠ e:=λb n z=>by
   subst z
   rcases he with r | r
   · exact hx b n r
   · rw [n] at r; cases r
 have hm:∀ b u,H b=some u->¬ Mut (some u)->b ≠ x:=λb u q nm z=>by subst z; rw [q] at mu; exact nm mu
 refine ⟨λb u q n _ _=>k b u (hb b n) q,λb u q n _ _=>⟨u.slots,k b u (hb b n) q⟩,λb u q n _=>by rw [ay (hx b n)]; exact n,λb u q _=>?_,
   λb xs q=>by rw [ay (hm b _ q λz=>z)]; exact q,λb u xs q=>by rw [ay (hm b _ q λz=>z)]; exact q,λb ps q=>⟨#[],by rw [ay (hm b _ q λz=>z),q]; simp⟩⟩
 by_cases hbe:b=e
 · subst hbe; exact heo
 · exact ⟨u,k b u hbe q⟩
theorem Un.mono (u:Un fs ex H H1 h h1) (hs:∀ b ∈ fs,b ∈ fs') (hx:∀ b ∈ ex,b ∈ ex'):Un fs' ex' H H1 h h1:=
 ⟨λb ob q n hb he=>u.keep b ob q n (λz=>hb (hs b z)) λz=>he (hx b z),λ_ _ q n _ he=>u.any q n λz=>he (hx _ z),λb ob q n he=>u.free b ob q n λz=>he (hx b z),λb ob q he=>u.there b ob q λz=>he (hx b z),u.tups,u.frzs,u.tbls⟩
end
noncomputable def trk (h:Heap) (H:Hp):List Addr:=(List.range h.objs.size).filter λa=>(H a).isSome
noncomputable def i5 (h:Heap) (H:Hp):Heap:=PySem.W.hideAll h (trk h H)
theorem ny (h:Heap) (H:Hp):(i5 h H).objs.size=h.objs.size:=PySem.W.hideAll_size _ _
theorem oq {h:Heap} {H:Hp} {b:Addr} {o:Obj} (e:h.get? b=some o) (n:H b=none):(i5 h H).get? b=some o:=
 PySem.W.hideAll_get _ e λhm=>by
   have q:(H b).isSome=true:=(List.mem_filter.mp hm).2
   rw [n] at q; simp at q
theorem qr {h:Heap} {H:Hp} {b:Addr} {o:Obj} (e:(i5 h H).get? b=some o):h.get? b=some o/\H b=none:=by
 have e':h.get? b=some o:=PySem.W.of_hideAll (trk h H) e
 refine ⟨e',?_⟩
 cases q:H b with
 | none=>rfl
 | some x=>
   have hm:b ∈ trk h H:=List.mem_filter.mpr ⟨List.mem_range.mpr (Heap.lt_size e'),by simp [q]⟩
   have z:(i5 h H).get? b=none:=PySem.W.hideAll_none (trk h H) hm
   rw [z] at e; cases e
noncomputable def pJ (g h:Heap) (L:Addr):List (Addr × Obj):=(List.range h.objs.size).filterMap λa=>if a=L\/(g.get? a).isSome=true then none else (h.get? a).map λo=>(a,o)
noncomputable def rest (g h:Heap) (L d:Addr):List (Addr × Obj):=(pJ g h L).filter λp=>decide (p.1 ≠ d)
structure Mod (K:PySem.W.Frag) (mg:Str->Option Value) (base:Heap):Prop where
 kin:K.In base
 glob:base.Ns mainGlobals mg
 blt:∃ mb,base.Ns builtinsNs mb/\∀ x:Str,x ≠ "__name__" -> mb x=bootBuiltins x
 nolimit:base.NoLimit
structure Cx where
 prog:Program
 w:World
 K:PySem.W.Frag
 mg:Str->Option Value
 base:Heap
 A:Around
 N:List Str
 s₀:Shared
 H₀:Hp
 env:Env
 outer:List Env
 stack:List Env
 ex:List Addr
 fn:Str->Bool
 calm:Bool
 pn:List (Addr × Obj)
 xe:Value->Shared->Prop
noncomputable def frs (l:List Env):List Addr:=l.filterMap (·.frame)
noncomputable abbrev Cx.fs (X:Cx):List Addr:=frs X.outer
noncomputable def Vis (sc:Scope) (x:Str):Prop:=sc.names.lookup x=some .local\/sc.names.lookup x=some .cell\/sc.names.lookup x=some .free
noncomputable def Loc (sc:Scope) (x:Str):Prop:=sc.names.lookup x=some .local\/sc.names.lookup x=some .cell
noncomputable def Look (env:Env) (h:Heap) (m:Str->Option Value) (x:Str) (u:Value):Prop:=
 (env.kindOf x=some .local/\m x=some u)\/((env.kindOf x=some .cell\/env.kindOf x=some .free)/\∃ c,env.cells.lookup x=some c/\h.IsCell c (some u))
structure Cx.Ok (X:Cx):Prop where
 mod:Mod X.K X.mg X.base
 kind:X.env.scope.kind=.function
 glob:X.env.globals=mainGlobals
 blt:X.env.builtins=builtinsNs
 above:X.s₀.heap.objs.size<=X.env.locals
 inj:∀ x y c,X.env.cells.lookup x=some c->X.env.cells.lookup y=some c->x=y
 has:∀ x,(X.env.kindOf x=some .cell\/X.env.kindOf x=some .free)->∃ c,X.env.cells.lookup x=some c
 cab:∀ x c,X.fn x=true->X.env.cells.lookup x=some c->X.s₀.heap.objs.size<=c
 hd:X.calm=true->X.A.handled=none
 frames:X.A.frames=some X.stack
 stk:X.stack=X.outer\/(X.stack=X.env :: X.outer/\X.env.frame=some X.env.locals)
 exf:∀ b ∈ X.ex,b ≠ X.env.locals/\∀ x c,X.env.cells.lookup x=some c->c ≠ b
 bs:∀ b o,X.base.get? b=some o->X.s₀.heap.get? b=some o/\X.H₀ b=none
 bsz:X.base.objs.size<=X.s₀.heap.objs.size
 noex:∀ b o,X.base.get? b=some o->b ∉ X.ex
 exfs:∀ b ∈ X.ex,b ∉ X.fs
 gB:X.s₀.heap.FunFrames X.base X.outer
 frf:∀ b ∈ X.fs,X.H₀ b=none
structure Inv (X:Cx) (pins:List (Addr × Obj)) (σ:List (Option V)) (H:Hp) (s:Shared):Prop where
 ok:X.Ok
 os:s.os=X.s₀.os
 bare:AllBare s.gens
 base:Un X.fs X.ex X.H₀ H X.s₀.heap s.heap
 loc:∃ m,s.heap.Ns X.env.locals m/\∀ (i:Nat) (x:Str) (v:V),X.N[i]?=some x->σ[i]?=some (some v)->Vis X.env.scope x->∃ u,RelV v u/\Look X.env s.heap m x u
 cell:∀ x c,X.env.cells.lookup x=some c->∃ v,s.heap.IsCell c v
 free:H X.env.locals=none
 freeC:∀ x c,X.env.cells.lookup x=some c->H c=none
 pin:∀ p ∈ X.pn++pins,s.heap.get? p.1=some p.2/\H p.1=none/\p.1 ≠ X.env.locals/\p.1 ∉ X.fs/\∀ v,p.2.data ≠ .cell v
 hok:HOk X.prog X.w H s.heap
 len:σ.length=X.N.length
section
variable {X:Cx} {pins:List (Addr × Obj)} {σ:List (Option V)} {H H':Hp} {s:Shared} {h':Heap}
theorem Cx.Ok.vN (ok:X.Ok) {b:Addr} {o:Obj} (e:X.base.get? b=some o):b ∉ X.fs:=λhb=>by
 have:=(ok.gB.mem hb).1
 rw [e] at this; cases this
theorem Inv.bs (I:Inv X pins σ H s):∀ b o,X.base.get? b=some o->s.heap.get? b=some o/\H b=none:=λb o e=>
 ⟨I.base.keep b o (I.ok.bs b o e).1 (I.ok.bs b o e).2 (I.ok.vN e) (I.ok.noex b o e),I.base.free b o (I.ok.bs b o e).1 (I.ok.bs b o e).2 (I.ok.noex b o e)⟩
theorem Inv.bk (I:Inv X pins σ H s):∀ b o,X.base.get? b=some o->s.heap.get? b=some o:=λb o e=>(I.bs b o e).1
theorem Inv.mod (I:Inv X pins σ H s):Mod X.K X.mg X.base:=I.ok.mod
theorem Inv.kIn (I:Inv X pins σ H s):X.K.In s.heap:=I.ok.mod.kin.keeps I.bk
theorem Inv.lt (I:Inv X pins σ H s):X.env.locals < s.heap.objs.size:=let ⟨_,hn,_⟩:=I.loc; hn.lt
theorem Inv.sz (I:Inv X pins σ H s):X.s₀.heap.objs.size<=s.heap.objs.size:=Nat.le_trans I.ok.above (Nat.le_of_lt I.lt)
theorem Inv.v5 (I:Inv X pins σ H s) {a:Addr} (h:s.heap.objs.size<=a):a ∉ X.fs:=λhb=>by
 obtain ⟨_,o,ho,_⟩:=I.ok.gB.mem hb
 exact absurd (Nat.lt_of_lt_of_le (Heap.lt_size ho) (Nat.le_trans I.sz h)) (Nat.lt_irrefl _)
theorem Inv.cne (I:Inv X pins σ H s):∀ x c,X.env.cells.lookup x=some c->c ≠ X.env.locals:=λx c e z=>by
 obtain ⟨v,o,ho,hd⟩:=I.cell x c e
 obtain ⟨m,⟨o',es,ep,ho',hd',_⟩,_⟩:=I.loc
 rw [z,ho'] at ho; cases ho; rw [hd'] at hd; cases hd
theorem Inv.gB (I:Inv X pins σ H s):s.heap.FunFrames X.base X.outer:=by
 have all:∀ (l:List Env),(∀ b ∈ frs l,b ∈ X.fs)->X.s₀.heap.FunFrames X.base l->s.heap.FunFrames X.base l:=by
   intro l
   induction l with
   | nil=>intro _ _; trivial
   | cons env r ih=>
     intro hs hl
     obtain ⟨hk,⟨L,o,hf,hn,ho,hd⟩,hr⟩:=hl
     have hL:L ∈ X.fs:=hs L (by unfold frs; rw [List.filterMap_cons,hf]; exact List.mem_cons_self)
     obtain ⟨sl,e⟩:=I.base.slot L o ho (I.ok.frf L hL) hL λz=>I.ok.exfs L z hL
     exact ⟨hk,⟨L,_,hf,hn,e,hd⟩,ih (λb hb=>hs b (by unfold frs; rw [List.filterMap_cons,hf]; exact List.mem_cons_of_mem _ hb)) hr⟩
 exact all X.outer (λ_ hb=>hb) I.ok.gB
theorem Inv.stack (I:Inv X pins σ H s):s.heap.FunFrames X.base X.stack:=by
 rcases I.ok.stk with e | ⟨e,hf⟩
 · rw [e]; exact I.gB
 · rw [e]
   obtain ⟨m,hn,_⟩:=I.loc
   refine .cons (by rw [I.ok.kind]; decide) hf hn ?_ I.gB
   exact Heap.get?_none_of_le (Nat.le_trans I.ok.bsz I.ok.above)
theorem Inv.kE (I:Inv X pins σ H s):∀ b ∈ frs X.stack,b ∈ X.env.locals :: X.fs:=λb hb=>by
 rcases I.ok.stk with e | ⟨e,hf⟩
 · rw [e] at hb; exact List.mem_cons_of_mem _ hb
 · rw [e] at hb
   unfold frs at hb
   rw [List.filterMap_cons,hf] at hb
   exact hb
theorem Inv.lM (I:Inv X pins σ H s):∀ b ∈ frs X.stack,H b=none:=λb hb=>by
 rcases List.mem_cons.mp (I.kE b hb) with e | hb
 · rw [e]; exact I.free
 · obtain ⟨_,o,ho,_⟩:=I.ok.gB.mem hb
   exact I.base.free b o ho (I.ok.frf b hb) λz=>I.ok.exfs b z hb
theorem Inv.step {g':Array GenState} {t':Nat} {d':Drawn} {ch:List Addr} (I:Inv X pins σ H s)
   (hch:∀ b ∈ ch,(b ∈ X.ex\/X.s₀.heap.objs.size<=b)/\b ≠ X.env.locals/\(∀ x c,X.env.cells.lookup x=some c->c ≠ b)/\∀ p ∈ X.pn++pins,p.1 ≠ b)
   (keep:∀ b o,b ≠ X.env.locals->b ∉ X.fs->b ∉ ch->s.heap.get? b=some o->H b=none->h'.get? b=some o)
   (slot:∀ b o,b ≠ X.env.locals->b ∈ X.fs->b ∉ ch->s.heap.get? b=some o->H b=none->∃ sl,h'.get? b=some { o with slots:=sl }) (free:∀ b o,b ∉ ch->s.heap.get? b=some o->H b=none->H' b=none)
   (there:∀ b o,b ∉ ch->s.heap.get? b=some o->∃ o',h'.get? b=some o')
   (tups:∀ b xs,H b=some (.tup xs)->H' b=some (.tup xs)) (frzs:∀ b o u,H b=some (.frz o u)->H' b=some (.frz o u)) (tbls:∀ b ps,H b=some (.tbl ps)->∃ more,H' b=some (.tbl (ps++more)))
   (ns:∀ m,s.heap.Ns X.env.locals m->h'.Ns X.env.locals m) (hok:HOk X.prog X.w H' h') (hg:AllBare g') :
   Inv X pins σ H' { s with heap:=h',gens:=g',drawn:=d',toks:=t' }:=by
 have neL:∀ b o,X.s₀.heap.get? b=some o->b ≠ X.env.locals:=λb o e=>Nat.ne_of_lt (Nat.lt_of_lt_of_le (Heap.lt_size e) I.ok.above)
 have neC:∀ b o,X.s₀.heap.get? b=some o->b ∉ X.ex->b ∉ ch:=λb o e hx hb=>by
   rcases (hch b hb).1 with z | z
   · exact hx z
   · exact absurd (Nat.lt_of_lt_of_le (Heap.lt_size e) z) (Nat.lt_irrefl _)
 have cellK:∀ x c,X.env.cells.lookup x=some c->∀ v,s.heap.IsCell c v->h'.IsCell c v:=λx c e v ⟨o,ho,hd⟩=>by
   have nch:c ∉ ch:=λz=>(hch c z).2.2.1 x c e rfl
   by_cases hc:c ∈ X.fs
   · obtain ⟨sl,q⟩:=slot c o (I.cne x c e) hc nch ho (I.freeC x c e)
     exact ⟨_,q,hd⟩
   · exact ⟨o,keep c o (I.cne x c e) hc nch ho (I.freeC x c e),hd⟩
 refine ⟨I.ok,I.os,hg,⟨λb o e n hb hx=>?_,λb o e n hb hx=>?_,λb o e n hx=>?_,λb o e hx=>?_,λb xs e=>tups b xs (I.base.tups b xs e),λb o xs e=>frzs b o xs (I.base.frzs b o xs e),λb ps e=>?_⟩,?_,λx c e=>?_,?_,λx c e=>?_,λp hp=>?_,hok,I.len⟩
 · exact keep b o (neL b o e) hb (neC b o e hx) (I.base.keep b o e n hb hx) (I.base.free b o e n hx)
 · obtain ⟨sl,e1⟩:=I.base.slot b o e n hb hx
   obtain ⟨sl',e2⟩:=slot b _ (neL b o e) hb (neC b o e hx) e1 (I.base.free b o e n hx)
   exact ⟨sl',e2⟩
 · obtain ⟨o',e1⟩:=I.base.there b o e hx
   exact free b o' (neC b o e hx) e1 (I.base.free b o e n hx)
 · obtain ⟨o',e1⟩:=I.base.there b o e hx
   exact there b o' (neC b o e hx) e1
 · obtain ⟨m1,e1⟩:=I.base.tbls b ps e
   obtain ⟨m2,e2⟩:=tbls b _ e1
   exact ⟨m1++m2,by rw [e2,Array.append_assoc]⟩
 · obtain ⟨m,hn,hl⟩:=I.loc
   refine ⟨m,ns m hn,λi x v e1 e2 e3=>?_⟩
   obtain ⟨u,r,l⟩:=hl i x v e1 e2 e3
   refine ⟨u,r,?_⟩
   rcases l with l | ⟨k,c,e,z⟩
   · exact .inl l
   · exact .inr ⟨k,c,e,cellK x c e _ z⟩
 · obtain ⟨v,z⟩:=I.cell x c e
   exact ⟨v,cellK x c e v z⟩
 · obtain ⟨m,⟨o,_,_,ho,_⟩,_⟩:=I.loc
   exact free _ o (λz=>(hch _ z).2.1 rfl) ho I.free
 · obtain ⟨v,o,ho,hd⟩:=I.cell x c e
   exact free c o (λz=>(hch c z).2.2.1 x c e rfl) ho (I.freeC x c e)
 · obtain ⟨e,n,ne,nf,d⟩:=I.pin p hp
   have nch:p.1 ∉ ch:=λz=>(hch p.1 z).2.2.2 p hp rfl
   exact ⟨keep p.1 p.2 ne nf nch e n,free p.1 p.2 nch e n,ne,nf,d⟩
theorem Inv.un {t':Nat} (I:Inv X pins σ H s) (u:Un X.fs [] H H' s.heap h') (hok:HOk X.prog X.w H' h'):Inv X pins σ H' { s with heap:=h',toks:=t' }:=by
 obtain ⟨m,⟨o,es,ep,ho,r⟩,_⟩:=id I.loc
 obtain ⟨sl,hL⟩:=u.any ho I.free (by simp)
 exact I.step (g':=s.gens) (d':=s.drawn) (ch:=[]) (λ_ z=>nomatch z) (λb o _ hb _ e n=>u.keep b o e n hb (by simp)) (λb o _ hb _ e n=>u.slot b o e n hb (by simp)) (λb o _ e n=>u.free b o e n (by simp)) (λb o _ e=>u.there b o e (by simp)) u.tups u.frzs u.tbls (λm' hm=>by
   obtain ⟨o',es',ep',ho',r'⟩:=hm
   rw [ho] at ho'; cases ho'
   exact ⟨_,es',ep',hL,r'⟩) hok I.bare
theorem Inv.call {g':Array GenState} {t':Nat} {d':Drawn} {ch:List Addr} (I:Inv X pins σ H s) (u:Un (frs X.stack) ch H H' s.heap h') (hok:HOk X.prog X.w H' h') (hg:AllBare g')
   (hch:∀ b ∈ ch,(b ∈ X.ex\/X.s₀.heap.objs.size<=b)/\b ≠ X.env.locals/\(∀ x c,X.env.cells.lookup x=some c->c ≠ b)/\∀ p ∈ X.pn++pins,p.1 ≠ b) :
   Inv X pins σ H' { s with heap:=h',gens:=g',drawn:=d',toks:=t' }:=by
 obtain ⟨m,⟨o,es,ep,ho,r⟩,_⟩:=id I.loc
 obtain ⟨sl,hL⟩:=u.any ho I.free λz=>(hch _ z).2.1 rfl
 exact I.step (ch:=ch) hch (λb o hL hb hc e n=>u.keep b o e n (λz=>(List.mem_cons.mp (I.kE b z)).elim hL hb) hc) (λb o _ _ hc e n=>u.any e n hc) (λb o hc e n=>u.free b o e n hc) (λb o hc e=>u.there b o e hc) u.tups u.frzs u.tbls (λm' hm=>by
   obtain ⟨o',es',ep',ho',r'⟩:=hm
   rw [ho] at ho'; cases ho'
   exact ⟨_,es',ep',hL,r'⟩) hok hg
theorem Inv.turned {t':Nat} {it:Addr} (I:Inv X pins σ H s) (k:∀ b o,b ≠ it->s.heap.get? b=some o->h'.get? b=some o) (hn:H it=none) (hL:it ≠ X.env.locals)
   (h1:it ∈ X.ex\/X.s₀.heap.objs.size<=it) (h2:∀ x c,X.env.cells.lookup x=some c->c ≠ it) (h3:∀ p ∈ X.pn++pins,p.1 ≠ it):Inv X pins σ H { s with heap:=h',toks:=t' }:=by
 have nit:∀ b u,H b=some u->b ≠ it:=λb u e z=>by rw [z,hn] at e; cases e
 refine I.step (g':=s.gens) (d':=s.drawn) (ch:=[it]) (λb hb=>?_) (λb o _ _ hc e _=>k b o (λz=>hc (by simp [z])) e) (λb o _ _ hc e _=>⟨o.slots,k b o (λz=>hc (by simp [z])) e⟩) (λ_ _ _ _ n=>n)
   (λb o hc e=>⟨o,k b o (λz=>hc (by simp [z])) e⟩) (λ_ _ e=>e) (λ_ _ _ e=>e) (λb ps e=>⟨#[],by rw [e]; simp⟩) (λm hm=>?_) (λb u e=>?_) I.bare
 · have e:b=it:=by simpa using hb
   subst e
   exact ⟨h1,hL,h2,h3⟩
 · obtain ⟨o,es,ep,ho,r⟩:=hm
   exact ⟨o,es,ep,k _ o (Ne.symm hL) ho,r⟩
 · refine (I.hok b u e).gf (λc v hc q=>k c v ?_ q) (λ_ q=>q) λ_ _ q=>q
   rcases hc with z | z
   · rw [z]; exact nit b u e
   · exact nit c _ z
theorem Inv.tok (I:Inv X pins σ H s) (t:Nat):Inv X pins σ H { s with toks:=t }:=I.un (h':=s.heap) (t':=t) Un.refl I.hok
theorem Inv.kept {t':Nat} (I:Inv X pins σ H s) (k:∀ b u,s.heap.get? b=some u->h'.get? b=some u):Inv X pins σ H { s with heap:=h',toks:=t' }:=I.un (Un.kept k) (I.hok.kept k)
theorem Inv.laid {a:Addr} {o:HO} {t':Nat} (I:Inv X pins σ H s) (k:∀ b u,s.heap.get? b=some u->h'.get? b=some u) (hp:s.heap.objs.size<=a) (new:bu X.prog X.w (upd H a o) h' a o) :
   Inv X pins σ (upd H a o) { s with heap:=h',toks:=t' }:=I.un (Un.laid k hp (I.hok.fresh hp)) (I.hok.laid k hp new)
theorem Inv.write {x e:Addr} {o:HO} {t':Nat} (I:Inv X pins σ H s) (mu:Mut (H x)) (he:e=x\/H e=some (.own x)) (k:∀ b u,b ≠ e->s.heap.get? b=some u->h'.get? b=some u) (heo:∃ u,h'.get? e=some u)
   (new:bu X.prog X.w (upd H x o) h' x o):Inv X pins σ (upd H x o) { s with heap:=h',toks:=t' }:=I.un (Un.write mu he k heo) (I.hok.write mu he k heo new)
theorem Inv.lQ {pins':List (Addr × Obj)} (I:Inv X pins σ H s) (h:∀ p ∈ pins',s.heap.get? p.1=some p.2/\H p.1=none/\p.1 ≠ X.env.locals/\p.1 ∉ X.fs/\∀ v,p.2.data ≠ .cell v):Inv X pins' σ H s:=
 ⟨I.ok,I.os,I.bare,I.base,I.loc,I.cell,I.free,I.freeC,λp hp=>(List.mem_append.mp hp).elim (λz=>I.pin p (List.mem_append_left _ z)) (h p),I.hok,I.len⟩
theorem jO {N:List Str} (hN:N.Nodup) {i j:Nat} {x:Str} (a:N[i]?=some x) (b:N[j]?=some x):i=j:=by
 obtain ⟨h1,e1⟩:=List.getElem?_eq_some_iff.mp a
 obtain ⟨h2,e2⟩:=List.getElem?_eq_some_iff.mp b
 exact (List.getElem_inj hN).mp (e1.trans e2.symm)
theorem mF {M:Model} {A:Around} {E:Value->Shared->Prop} {i:Nat} {x:Str} {v:V} {u:Value} {Q:Unit->Shared->Prop} (I:Inv X pins σ H s) (hN:X.N.Nodup) (hi:X.N[i]?=some x) (hx:Loc X.env.scope x) (r:RelV v u)
   (h:∀ s',Inv X pins (σ.set i (some v)) H s'->(∃ a,Heap.SameBut a s.heap s'.heap/\(a=X.env.locals\/X.env.cells.lookup x=some a))->Q () s') (hf:X.fn x=true\/X.env.scope.names.lookup x=some .local:=by first | exact .inl rfl | exact .inr rfl | assumption):wpAny M A (storeName X.env x u) Q E s:=by
 obtain ⟨m,hn,hl⟩:=id I.loc
 have hcls:(X.env.scope.kind == .class || (X.env.scope.kind == .module && X.env.locals != X.env.globals))=false:=by rw [I.ok.kind]; rfl
 have hiσ:i < σ.length:=by rw [I.len]; exact (List.getElem?_eq_some_iff.mp hi).1
 have cne:=I.cne
 have tracked:∀ {a:Addr} {h':Heap},(∃ o,s.heap.get? a=some o/\H a=none)->Heap.SameBut a s.heap h'->HOk X.prog X.w H h':=λ{a h'} ha hs b ob e=>by
   obtain ⟨_,_,hfree⟩:=ha
   refine (I.hok b ob e).gf (λc w' hc q=>(hs.2 c ?_).trans q) (λ_ q=>q) λ_ _ q=>q
   rintro rfl
   rcases hc with rfl | hc
   · rw [hfree] at e; cases e
   · rw [hfree] at hc; cases hc
 rcases hx with hk | hk
 · refine wpAny_storeName_local hk hn (λh' hn' hs=>?_) hcls
   obtain ⟨oL,_,_,hoL,_⟩:=id hn
   refine h _ ⟨I.ok,I.os,I.bare,⟨λb o e n hb hx=>?_,λb o e n hb hx=>?_,I.base.free,λb o e hx=>?_,I.base.tups,I.base.frzs,I.base.tbls⟩,⟨_,hn',λj y v' e1 e2 e3=>?_⟩,λy c e=>?_,I.free,I.freeC,λp hp=>?_,tracked ⟨oL,hoL,I.free⟩ hs,by simpa using I.len⟩ ⟨_,hs,.inl rfl⟩
   · exact (hs.2 b (Nat.ne_of_lt (Nat.lt_of_lt_of_le (Heap.lt_size e) I.ok.above))).trans (I.base.keep b o e n hb hx)
   · obtain ⟨sl,e1⟩:=I.base.slot b o e n hb hx
     exact ⟨sl,(hs.2 b (Nat.ne_of_lt (Nat.lt_of_lt_of_le (Heap.lt_size e) I.ok.above))).trans e1⟩
   · obtain ⟨o',e1⟩:=I.base.there b o e hx
     exact ⟨o',(hs.2 b (Nat.ne_of_lt (Nat.lt_of_lt_of_le (Heap.lt_size e) I.ok.above))).trans e1⟩
   · by_cases hj:j=i
     · subst hj
       rw [hi] at e1; cases e1
       rw [List.getElem?_set_self hiσ] at e2
       cases e2
       exact ⟨u,r,.inl ⟨hk,by simp⟩⟩
     · rw [List.getElem?_set_ne (Ne.symm hj)] at e2
       obtain ⟨u',r',q⟩:=hl j y v' e1 e2 e3
       refine ⟨u',r',?_⟩
       rcases q with ⟨k,e⟩ | ⟨k,c,e,z⟩
       · refine .inl ⟨k,?_⟩
         have:y ≠ x:=λe=>hj (jO hN e1 (e ▸ hi))
         simp [this,e]
       · exact .inr ⟨k,c,e,z.sameBut hs (cne y c e)⟩
   · obtain ⟨w',z⟩:=I.cell y c e
     exact ⟨w',z.sameBut hs (cne y c e)⟩
   · obtain ⟨e,n,ne,nf,d⟩:=I.pin p hp
     exact ⟨(hs.2 p.1 ne).trans e,n,ne,nf,d⟩
 · have hfn:X.fn x=true:=by
     rcases hf with z | z
     · exact z
     · rw [z] at hk; cases hk
   obtain ⟨c,hc⟩:=I.ok.has x (.inl hk)
   obtain ⟨w',z⟩:=I.cell x c hc
   refine wpAny_storeName_cell I.ok.kind hk hc z (λh' hc' hs=>?_)
   obtain ⟨oc,hoc,hocd⟩:=id z
   refine h { s with heap:=h' } ⟨I.ok,I.os,I.bare,⟨λb o e n hb hx=>?_,λb o e n hb hx=>?_,I.base.free,λb o e hx=>?_,I.base.tups,I.base.frzs,I.base.tbls⟩,⟨m,hn.sameBut hs (Ne.symm (cne x c hc)),λj y v' e1 e2 e3=>?_⟩,λy c' e=>?_,I.free,I.freeC,λp hp=>?_,tracked ⟨oc,hoc,I.freeC x c hc⟩ hs,by simpa using I.len⟩ ⟨c,hs,.inr hc⟩
   · exact (hs.2 b (Nat.ne_of_lt (Nat.lt_of_lt_of_le (Heap.lt_size e) (I.ok.cab x c hfn hc)))).trans (I.base.keep b o e n hb hx)
   · obtain ⟨sl,e1⟩:=I.base.slot b o e n hb hx
     exact ⟨sl,(hs.2 b (Nat.ne_of_lt (Nat.lt_of_lt_of_le (Heap.lt_size e) (I.ok.cab x c hfn hc)))).trans e1⟩
   · obtain ⟨o',e1⟩:=I.base.there b o e hx
     exact ⟨o',(hs.2 b (Nat.ne_of_lt (Nat.lt_of_lt_of_le (Heap.lt_size e) (I.ok.cab x c hfn hc)))).trans e1⟩
   · by_cases hj:j=i
     · subst hj
       rw [hi] at e1; cases e1
       rw [List.getElem?_set_self hiσ] at e2
       cases e2
       exact ⟨u,r,.inr ⟨.inl hk,c,hc,hc'⟩⟩
     · rw [List.getElem?_set_ne (Ne.symm hj)] at e2
       obtain ⟨u',r',q⟩:=hl j y v' e1 e2 e3
       refine ⟨u',r',?_⟩
       rcases q with q | ⟨k,c',e,z'⟩
       · exact .inl q
       · refine .inr ⟨k,c',e,z'.sameBut hs ?_⟩
         rintro rfl
         exact hj (jO hN e1 (I.ok.inj _ _ _ e hc ▸ hi))
   · by_cases hcc:c'=c
     · subst hcc; exact ⟨_,hc'⟩
     · obtain ⟨w2,z2⟩:=I.cell y c' e
       exact ⟨w2,z2.sameBut hs hcc⟩
   · obtain ⟨e,n,ne,nf,d⟩:=I.pin p hp
     refine ⟨(hs.2 p.1 ?_).trans e,n,ne,nf,d⟩
     intro q
     rw [q,hoc] at e
     have q':oc=p.2:=Option.some.inj e
     exact d w' (by rw [<- q']; exact hocd)
theorem kj {M:Model} {A:Around} {E:Value->Shared->Prop} {i:Nat} {x:Str} {v:V} {u:Value} {Q:Unit->Shared->Prop} (I:Inv X pins σ H s) (hN:X.N.Nodup) (hi:X.N[i]?=some x) (hx:Loc X.env.scope x) (r:RelV v u)
   (h:∀ s',Inv X pins (σ.set i (some v)) H s'->Q () s') (hf:X.fn x=true\/X.env.scope.names.lookup x=some .local:=by first | exact .inl rfl | exact .inr rfl | assumption):wpAny M A (storeName X.env x u) Q E s:=
 mF I hN hi hx r (λs' I' _=>h s' I') hf
theorem Inv.rl {s':Shared} {ch:List Addr} (I:Inv X pins σ H s) (ho:s'.os=s.os) (u:Un (frs X.stack) ch H H' s.heap s'.heap) (hok:HOk X.prog X.w H' s'.heap) (hg:AllBare s'.gens)
   (hch:∀ b ∈ ch,(b ∈ X.ex\/X.s₀.heap.objs.size<=b)/\b ≠ X.env.locals/\(∀ x c,X.env.cells.lookup x=some c->c ≠ b)/\∀ p ∈ X.pn++pins,p.1 ≠ b):Inv X pins σ H' s':=by
 obtain ⟨h',g',d',t',o'⟩:=s'
 have e:o'=s.os:=ho
 subst e
 exact I.call (g':=g') (t':=t') (d':=d') u hok hg hch
end
noncomputable abbrev XK:=Value->Option Addr->Hp->Prop
noncomputable abbrev St:=List (Option V)
noncomputable abbrev VK:=V->Hp->Prop
noncomputable abbrev TE:=St->Hp->VK->Prop
noncomputable abbrev TT:=St->Hp->(Bool->Hp->Prop)->Prop
noncomputable abbrev TA:=St->Hp->(List V->Hp->Prop)->Prop
structure Ends where
 nx:St->Hp->Prop
 rt:VK
 bk:St->Hp->Prop:=λ_ _=>False
 ct:St->Hp->Prop:=λ_ _=>False
noncomputable abbrev TS:=Ends->St->Hp->Prop
noncomputable def EP (X:Cx) (pins:List (Addr × Obj)) (σ:St) (Q:VK) (u:Value) (s':Shared):Prop:=∃ v H',Inv X pins σ H' s'/\RelV v u/\Q v H'
noncomputable def TP (X:Cx) (pins:List (Addr × Obj)) (σ:St) (Q:Bool->Hp->Prop) (b:Bool) (s':Shared):Prop:=∃ H',Inv X pins σ H' s'/\Q b H'
noncomputable def AP (X:Cx) (pins:List (Addr × Obj)) (σ:St) (Q:List V->Hp->Prop) (us:List Value) (s':Shared):Prop:=∃ vs H',Inv X pins σ H' s'/\Vals vs us/\Q vs H'
noncomputable def SP (X:Cx) (pins:List (Addr × Obj)) (D:Ends) (f:Flow) (s':Shared):Prop:=
 match f with
 | .next=>∃ σ' H',Inv X pins σ' H' s'/\D.nx σ' H'
 | .brk=>∃ σ' H',Inv X pins σ' H' s'/\D.bk σ' H'
 | .cont=>∃ σ' H',Inv X pins σ' H' s'/\D.ct σ' H'
 | .ret u=>∃ v σ' H',Inv X pins σ' H' s'/\RelV v u/\D.rt v H'
noncomputable def PE (X:Cx) (e:Expr) (t:TE):Prop:=
 ∀ (pins:List (Addr × Obj)) (s:Shared) (σ:St) (H:Hp) (Q:VK),Inv X pins σ H s->t σ H Q->wpAny (model X.prog X.w) X.A (eval e X.env) (EP X pins σ Q) X.xe s
noncomputable def PT (X:Cx) (e:Expr) (t:TT):Prop:=
 ∀ (pins:List (Addr × Obj)) (s:Shared) (σ:St) (H:Hp) (Q:Bool->Hp->Prop),Inv X pins σ H s->t σ H Q->wpAny (model X.prog X.w) X.A (isTrue e X.env (eval e X.env)) (TP X pins σ Q) X.xe s
noncomputable def PW (X:Cx) (e:Expr) (t:TT):Prop:=
 ∀ (whole:Sem Value) (pins:List (Addr × Obj)) (s:Shared) (σ:St) (H:Hp) (Q:Bool->Hp->Prop),Inv X pins σ H s->t σ H Q->wpAny (model X.prog X.w) X.A (isTrue e X.env whole) (TP X pins σ Q) X.xe s
theorem PW.pt {X:Cx} {e:Expr} {t:TT} (h:PW X e t):PT X e t:=h _
noncomputable def PA (X:Cx) (es:List Expr) (t:TA):Prop:=
 ∀ (pos:Pos) (pins:List (Addr × Obj)) (s:Shared) (σ:St) (H:Hp) (Q:List V->Hp->Prop),Inv X pins σ H s->t σ H Q->wpAny (model X.prog X.w) X.A (spliced (backTo pos (starEach es X.env))) (AP X pins σ Q) X.xe s
noncomputable def PS (X:Cx) (st:Stmt) (t:TS):Prop:=
 ∀ (pins:List (Addr × Obj)) (s:Shared) (σ:St) (H:Hp) (D:Ends),Inv X pins σ H s->t D σ H->wpAny (model X.prog X.w) X.A (exec st X.env) (SP X pins D) X.xe s
noncomputable def PSs (X:Cx) (st:List Stmt) (t:TS):Prop:=
 ∀ (pins:List (Addr × Obj)) (s:Shared) (σ:St) (H:Hp) (D:Ends),Inv X pins σ H s->t D σ H->wpAny (model X.prog X.w) X.A (execs st X.env) (SP X pins D) X.xe s
theorem thn {α:Type} {t:Sem α} {Q Q':α->Shared->Prop} {M:Model} {A:Around} {E:Value->Shared->Prop} {s:Shared} (h:wpAny M A t Q E s) (hQ:∀ a s,Q a s->Q' a s):wpAny M A t Q' E s:=wpAny_mono h hQ λ_ _ x=>x
section
variable {X:Cx}
theorem bin {a b:Expr} {ta tb:TE} (ha:PE X a ta) (hb:PE X b tb) {pins:List (Addr × Obj)} {s:Shared} {σ:St} {H:Hp} {R:V->V->Hp->Prop} (I:Inv X pins σ H s) (h:ta σ H λx H1=>tb σ H1 λy H2=>R x y H2)
   {α:Type} {Q:α->Shared->Prop} {f:Value->Value->Sem α}
   (hf:∀ v u s2 x y H2,Inv X pins σ H2 s2->RelV x v->RelV y u->R x y H2->wpAny (model X.prog X.w) X.A (f v u) Q X.xe s2) :
   wpAny (model X.prog X.w) X.A (eval a X.env) (λv s₁=>wpAny (model X.prog X.w) X.A (eval b X.env) (λu s₂=>wpAny (model X.prog X.w) X.A (f v u) Q X.xe s₂) X.xe s₁) X.xe s:=by
 refine thn (ha pins s σ H _ I h) λv s1 ⟨x,H1,I1,r1,q1⟩=>?_
 refine thn (hb pins s1 σ H1 _ I1 q1) λu s2 ⟨y,H2,I2,r2,q2⟩=>?_
 exact hf v u s2 x y H2 I2 r1 r2 q2
noncomputable def vy (i:Nat):TE:=λσ H Q=>∃ v,σ[i]?=some (some v)/\Q v H
noncomputable def tC (v:V):TE:=λ_ H Q=>Q v H
theorem cv {i:Nat} {x:Str} {pos:Pos} (hN:X.N[i]?=some x) (hv:Vis X.env.scope x) (hd:(x == ("__debug__" : Str))=false:=by decide) (hcd:(x == ("__classdict__" : Str))=false:=by decide):PE X (.Name x pos) (vy i):=by
 intro pins s σ H Q I h
 obtain ⟨v,e,h⟩:=h
 obtain ⟨m,hn,hl⟩:=I.loc
 obtain ⟨u,r,l⟩:=hl i x v hN e hv
 have fin:EP X pins σ Q u s:=⟨v,H,I,r,h⟩
 rcases l with ⟨hk,hm⟩ | ⟨hk,c,hc,hcell⟩
 · exact wpAny_Name (wpAny_loadName_local I.ok.kind hk hn hm fin) hd
 · rcases hk with hk | hk
   · exact wpAny_Name (wpAny_loadName_cell I.ok.kind hk hc hcell fin) hd
   · exact wpAny_Name (wpAny_loadName_free I.ok.kind hk hc hcell fin hcd) hd
theorem sk {i j pos}:PE X (.Constant (.int i) j pos) (tC (.int i)):=λ_ _ _ H _ I h=>wpAny_Constant_int ⟨.int i,H,I.tok _,⟨_,rfl⟩,h⟩
theorem uv {b j pos}:PE X (.Constant (.bool b) j pos) (tC (.bl b)):=λ_ _ _ H _ I h=>Constant_bool ⟨.bl b,H,I,rfl,h⟩
theorem sZ {j pos}:PE X (.Constant .none j pos) (tC .non):=λ_ _ _ H _ I h=>Constant_none ⟨.non,H,I,rfl,h⟩
theorem rL {x j pos}:PE X (.Constant (.str x) j pos) (tC (.str x)):=λ_ _ _ H _ I h=>Calls.Constant_str ⟨.str x,H,I.tok _,⟨_,rfl⟩,h⟩
noncomputable def Gl (X:Cx) (x:Str):Prop:=X.env.kindOf x=some .globalImplicit
theorem lJ {E:Value->Shared->Prop} {pins:List (Addr × Obj)} {s:Shared} {σ:St} {H:Hp} {x:Str} {u:Value} {pos:Pos} {Q:Value->Shared->Prop} (I:Inv X pins σ H s) (hg:Gl X x) (hm:X.mg x=some u) (h:Q u s)
   (hd:(x == ("__debug__" : Str))=false:=by decide):wpAny (model X.prog X.w) X.A (eval (.Name x pos) X.env) Q E s:=
 Calls.Name_function_global I.ok.kind hg (Calls.loadGlobal_global (by rw [I.ok.glob]; exact I.mod.glob.keeps I.bk) hm h) hd
theorem cQ {E:Value->Shared->Prop} {pins:List (Addr × Obj)} {s:Shared} {σ:St} {H:Hp} {x:Str} {u:Value} {pos:Pos} {Q:Value->Shared->Prop} (I:Inv X pins σ H s) (hg:Gl X x) (hm:X.mg x=none) (hv:bootBuiltins x=some u) (h:Q u s)
   (hn:x ≠ "__name__":=by decide) (hd:(x == ("__debug__" : Str))=false:=by decide):wpAny (model X.prog X.w) X.A (eval (.Name x pos) X.env) Q E s:=by
 obtain ⟨mb,h1,h2⟩:=I.mod.blt
 exact Calls.Name_function_global I.ok.kind hg (Calls.loadGlobal_builtin (by rw [I.ok.glob]; exact I.mod.glob.keeps I.bk) hm (by rw [I.ok.blt]; exact h1.keeps I.bk) ((h2 x hn).trans hv) h) hd
theorem lO {x:Str} {v:V} {u:Value} {pos:Pos} (hg:Gl X x) (hm:X.mg x=some u) (r:RelV v u) (hd:(x == ("__debug__" : Str))=false:=by decide):PE X (.Name x pos) (tC v):=
 λ_ _ _ H _ I h=>lJ I hg hm ⟨v,H,I,r,h⟩ hd
theorem pO {x:Str} {v:V} {u:Value} {pos:Pos} (hg:Gl X x) (hm:X.mg x=none) (hv:bootBuiltins x=some u) (r:RelV v u) (hn:x ≠ "__name__":=by decide) (hd:(x == ("__debug__" : Str))=false:=by decide):PE X (.Name x pos) (tC v):=
 λ_ _ _ H _ I h=>cQ I hg hm hv ⟨v,H,I,r,h⟩ hn hd
variable {a b:Expr} {ta tb:TE} {pos:Pos}
noncomputable def PC (X:Cx) (op:CmpOp) (a b:Expr) (t:TE):Prop:=
 ∀ (pins:List (Addr × Obj)) (s:Shared) (σ:St) (H:Hp) (Q:VK),Inv X pins σ H s->t σ H Q ->
   wpAny (model X.prog X.w) X.A (eval a X.env) (λv s₁=>wpAny (model X.prog X.w) X.A (eval b X.env) (λu s₂=>wpAny (model X.prog X.w) X.A (compareOp op v u) (EP X pins σ Q) X.xe s₂) X.xe s₁) X.xe s
theorem nH (b:Expr) {op:CmpOp} (h:op ≠ .In) (h2:op ≠ .NotIn):behindInMarks op b=false:=by
 have e1:(op == CmpOp.In)=false:=by cases op <;> first | rfl | exact absurd rfl h
 have e2:(op == CmpOp.NotIn)=false:=by cases op <;> first | rfl | exact absurd rfl h2
 cases b <;> simp [behindInMarks,e1,e2]
noncomputable def tB (t:TE):TT:=λσ H Q=>t σ H λx H1=>∃ c,x=.bl c/\Q c H1
theorem vF {op:CmpOp} {t:TE} (h:PC X op a b t) (h1:behindInMarks op b=false:=by first | exact nH _ (by decide) (by decide) | rfl):PT X (.Compare a [op] [b] pos) (tB t):=by
 intro pins s σ H Q I hw
 refine wpAny_isTrue_Compare1 (thn (h pins s σ H _ I hw) λv s1 h1=>thn h1 λu s2 h2=>thn h2 λc s3 ⟨x,H1,I1,r1,q1⟩=>?_) h1
 obtain ⟨d,rfl,q⟩:=q1
 cases r1
 exact wpAny_truthy_bool ⟨H1,I1,q⟩
theorem rY {e:Expr} {t:TE} (h:PE X e t) (he:∀ whole,isTrue e X.env whole=(do let v <- whole; standAt e.pos; holding [v] (truthy v)):=by intro _; rfl):PT X e (tB t):=by
 intro pins s σ H Q I hw
 refine isTrue_plain (thn (h pins s σ H _ I hw) λv s1 ⟨x,H1,I1,r1,q1⟩=>?_) (he _)
 obtain ⟨d,rfl,q⟩:=q1
 cases r1
 exact wpAny_truthy_bool ⟨H1,I1,q⟩
variable {tA tB':TT} {rest:List Expr}
noncomputable def vt (t u:TT):TT:=λσ H Q=>t σ H λc H1=>if c=true then u σ H1 Q else Q false H1
noncomputable def tOr (t u:TT):TT:=λσ H Q=>t σ H λc H1=>if c=true then Q true H1 else u σ H1 Q
noncomputable def vM (t:TT):TT:=λσ H Q=>t σ H λc H1=>Q (!c) H1
theorem pw_and1 (ha:PT X a tA):PW X (.BoolOp .And [a] pos) tA:=by
 intro wh pins s σ H Q I h
 refine isTrue_and (thn (ha pins s σ H Q I h) λc s1 e=>?_)
 cases c with
 | true=>exact isTrue_and_nil e
 | false=>exact e
theorem pw_or1 (ha:PT X a tA):PW X (.BoolOp .Or [a] pos) tA:=by
 intro wh pins s σ H Q I h
 refine isTrue_or (thn (ha pins s σ H Q I h) λc s1 e=>?_)
 cases c with
 | false=>exact isTrue_or_nil e
 | true=>exact e
theorem pw_and (ha:PT X a tA) (hb:PW X (.BoolOp .And (b :: rest) pos) tB'):PW X (.BoolOp .And (a :: b :: rest) pos) (vt tA tB'):=by
 intro wh pins s σ H Q I h
 refine isTrue_and (thn (ha pins s σ H _ I h) λc s1 ⟨H1,I1,q1⟩=>?_)
 cases c with
 | true=>exact hb wh pins s1 σ H1 Q I1 q1
 | false=>exact ⟨H1,I1,q1⟩
theorem pw_or (ha:PT X a tA) (hb:PW X (.BoolOp .Or (b :: rest) pos) tB'):PW X (.BoolOp .Or (a :: b :: rest) pos) (tOr tA tB'):=by
 intro wh pins s σ H Q I h
 refine isTrue_or (thn (ha pins s σ H _ I h) λc s1 ⟨H1,I1,q1⟩=>?_)
 cases c with
 | true=>exact ⟨H1,I1,q1⟩
 | false=>exact hb wh pins s1 σ H1 Q I1 q1
theorem sY (ha:PT X a tA):PT X (.UnaryOp .Not a pos) (vM tA):=by
 intro pins s σ H Q I h
 exact isTrue_not (ha pins s σ H (λc H1=>Q (!c) H1) I h)
noncomputable def uk (ta tb:TE):TE:=λσ H Q=>ta σ H λx H1=>∃ c,x=.bl c/\if c=true then tb σ H1 Q else Q (.bl false) H1
noncomputable def ur (ta:TE):TE:=λσ H Q=>ta σ H λx H1=>∃ c,x=.bl c/\Q (.bl (!c)) H1
theorem sD {op} {t:TE} (h:PE X a t):PE X (.BoolOp op [a] pos) t:=λpins s σ H Q I hw=>BoolOp_one (h pins s σ H Q I hw)
theorem oj (ha:PE X a ta) (hb:PE X (.BoolOp .And (b :: rest) pos) tb):PE X (.BoolOp .And (a :: b :: rest) pos) (uk ta tb):=by
 intro pins s σ H Q I h
 refine BoolOp_and (thn (ha pins s σ H _ I h) λv s1 ⟨x,H1,I1,r1,q1⟩=>?_)
 obtain ⟨c,rfl,q1⟩:=q1
 cases r1
 refine wpAny_truthy_bool ?_
 cases c with
 | true=>exact hb pins s1 σ H1 Q I1 q1
 | false=>exact ⟨.bl false,H1,I1,rfl,q1⟩
theorem rn (ha:PE X a ta):PE X (.UnaryOp .Not a pos) (ur ta):=by
 intro pins s σ H Q I h
 refine UnaryOp_ (thn (ha pins s σ H _ I h) λv s1 ⟨x,H1,I1,r1,q1⟩=>?_)
 obtain ⟨c,rfl,q1⟩:=q1
 cases r1
 exact not_of (wpAny_truthy_bool ⟨.bl (!c),H1,I1,rfl,q1⟩)
noncomputable def tIf (t:TT) (ta tb:TE):TE:=λσ H Q=>t σ H λc H1=>if c=true then ta σ H1 Q else tb σ H1 Q
theorem j5 {c:Expr} (hc:PT X c tA) (ha:PE X a ta) (hb:PE X b tb):PE X (.IfExp c a b pos) (tIf tA ta tb):=by
 intro pins s σ H Q I h
 refine wpAny_IfExp (thn (hc pins s σ H _ I h) λd s1 ⟨H1,I1,q1⟩=>?_)
 cases d with
 | true=>exact ha pins s1 σ H1 Q I1 q1
 | false=>exact hb pins s1 σ H1 Q I1 q1
end
noncomputable def SqL (K:PySem.W.Frag) (H:Hp) (a:Addr) (xs:List V):Prop:=
 Rd H a (.lst xs) \/
   ∃ (o:Obj) (its:Array Value) (n:Nat),K.lookup a=some o/\o.cls=.type "list" /\ o.dict=none/\o.data=.seq its n/\its.size<=sizeLine/\Vals xs its.toList
noncomputable def SqT (K:PySem.W.Frag) (H:Hp) (a:Addr) (xs:List V):Prop:=
 Rd H a (.tup xs) \/
   ∃ (o:Obj) (its:Array Value) (n:Nat),K.lookup a=some o/\o.cls=.type "tuple" /\ o.data=.seq its n/\its.size<=sizeLine/\Vals xs its.toList
noncomputable def vU:Value->Option V
 | .none=>some .non
 | .bool b=>some (.bl b)
 | .int i _=>some (.int i)
 | .str x _=>some (.str x)
 | .bytes b _=>some (.byt b)
 | .float b _=>some (.flt b)
 | .ref a=>some (.ref a)
 | .type n=>some (.ty n)
 | _=>none
theorem RelV.abs {x:V} {u:Value} (r:RelV x u):vU u=some x:=by
 cases x with
 | non=>cases r; rfl
 | bl _=>cases r; rfl
 | int _=>obtain ⟨t,rfl⟩:=r; rfl
 | str _=>obtain ⟨t,rfl⟩:=r; rfl
 | byt _=>obtain ⟨t,rfl⟩:=r; rfl
 | flt _=>obtain ⟨t,rfl⟩:=r; rfl
 | ref _=>cases r; rfl
 | ty _=>cases r; rfl
theorem RelV.inj {x y:V} {u:Value} (r:RelV x u) (q:RelV y u):x=y:=Option.some.inj (r.abs.symm.trans q.abs)
theorem Vals.inj:∀ {xs ys:List V} {us:List Value},Vals xs us->Vals ys us->xs=ys
 | _,_,_,.nil,.nil=>rfl
 | _,_,_,.cons r t,.cons r' t'=>by rw [r.inj r',Vals.inj t t']
section
variable {X:Cx} {pins:List (Addr × Obj)} {σ:St} {H:Hp} {s:Shared} {a:Addr} {xs ys:List V}
theorem SqL.of {K:PySem.W.Frag} (h:H a=some (.lst xs)):SqL K H a xs:=.inl (.inl h)
theorem SqT.of {K:PySem.W.Frag} (h:H a=some (.tup xs)):SqT K H a xs:=.inl (.inl h)
theorem Inv.list (I:Inv X pins σ H s) (h:SqL X.K H a xs):∃ its:List Value,Vals xs its/\PlainL s.heap a its.toArray/\xs.length<=sizeLine:=by
 rcases h with h | ⟨o,its,n,hk,hc,hd,hs,hz,r⟩
 · obtain ⟨z,its,n,r,e⟩:=h.ok I.hok
   exact ⟨its,r,⟨_,n,e,rfl,rfl,rfl⟩,z⟩
 · refine ⟨its.toList,r,⟨o,n,I.kIn a o hk,hc,hd,by simpa using hs⟩,?_⟩
   have e:=r.length
   simp only [Array.length_toList] at e
   omega
theorem Inv.tuple (I:Inv X pins σ H s) (h:SqT X.K H a xs):∃ its:List Value,Vals xs its/\IsTup s.heap a its.toArray/\xs.length<=sizeLine:=by
 rcases h with h | ⟨o,its,n,hk,hc,hs,hz,r⟩
 · obtain ⟨z,its,r,p⟩:=h.ok I.hok
   exact ⟨its,r,p,z⟩
 · refine ⟨its.toList,r,⟨o,I.kIn a o hk,hc,n,by simpa using hs⟩,?_⟩
   have e:=r.length
   simp only [Array.length_toList] at e
   omega
theorem Inv.da (I:Inv X pins σ H s) (h:SqL X.K H a xs) (h':SqL X.K H a ys):xs=ys:=by
 obtain ⟨its,r,⟨o,n,e,_,_,d⟩,_⟩:=I.list h
 obtain ⟨its',r',⟨o',n',e',_,_,d'⟩,_⟩:=I.list h'
 rw [e] at e'; cases e'
 rw [d] at d'
 injection d' with d1 _
 have:its=its':=by simpa using congrArg Array.toList d1
 subst this
 exact r.inj r'
theorem Inv.mX (I:Inv X pins σ H s) (h:SqT X.K H a xs) (h':SqT X.K H a ys):xs=ys:=by
 obtain ⟨its,r,⟨o,e,_,n,d⟩,_⟩:=I.tuple h
 obtain ⟨its',r',⟨o',e',_,n',d'⟩,_⟩:=I.tuple h'
 rw [e] at e'; cases e'
 rw [d] at d'
 injection d' with d1 _
 have:its=its':=by simpa using congrArg Array.toList d1
 subst this
 exact r.inj r'
end
noncomputable abbrev Cx.ip (X:Cx) (E:Value->Shared->Prop):Cx:={ X with xe:=E }
noncomputable abbrev Cx.nox (X:Cx):Cx:=X.ip λ_ _=>False
theorem Cx.Ok.ip {X:Cx} (ok:X.Ok) (E:Value->Shared->Prop):(X.ip E).Ok:=
 ⟨ok.mod,ok.kind,ok.glob,ok.blt,ok.above,ok.inj,ok.has,ok.cab,ok.hd,ok.frames,ok.stk,ok.exf,ok.bs,ok.bsz,ok.noex,ok.exfs,ok.gB,ok.frf⟩
theorem Cx.Ok.cO {X:Cx} {E:Value->Shared->Prop} (ok:(X.ip E).Ok):X.Ok:=
 ⟨ok.mod,ok.kind,ok.glob,ok.blt,ok.above,ok.inj,ok.has,ok.cab,ok.hd,ok.frames,ok.stk,ok.exf,ok.bs,ok.bsz,ok.noex,ok.exfs,ok.gB,ok.frf⟩
section
variable {X:Cx} {pins:List (Addr × Obj)} {σ:St} {H:Hp} {s:Shared} {E:Value->Shared->Prop}
theorem Inv.ip (I:Inv X pins σ H s) (E:Value->Shared->Prop):Inv (X.ip E) pins σ H s:=⟨I.ok.ip E,I.os,I.bare,I.base,I.loc,I.cell,I.free,I.freeC,I.pin,I.hok,I.len⟩
theorem Inv.cO (I:Inv (X.ip E) pins σ H s):Inv X pins σ H s:=⟨I.ok.cO,I.os,I.bare,I.base,I.loc,I.cell,I.free,I.freeC,I.pin,I.hok,I.len⟩
theorem SP.cO {D:Ends} {f:Flow} {s':Shared} (h:SP (X.ip E) pins D f s'):SP X pins D f s':=by
 cases f with
 | next=>obtain ⟨σ',H',I,q⟩:=h; exact ⟨σ',H',I.cO,q⟩
 | brk=>obtain ⟨σ',H',I,q⟩:=h; exact ⟨σ',H',I.cO,q⟩
 | cont=>obtain ⟨σ',H',I,q⟩:=h; exact ⟨σ',H',I.cO,q⟩
 | ret u=>obtain ⟨v,σ',H',I,r,q⟩:=h; exact ⟨v,σ',H',I.cO,r,q⟩
theorem PSs.nox {st:List Stmt} {t:TS} (h:PSs X.nox st t):PSs X st t:=λpins s σ H D I hw=>
 wpAny_mono (h pins s σ H D (I.ip _) hw) (λ_ _ q=>q.cO) λ_ _ z=>False.elim z
end
section
variable {X:Cx} {st:Stmt} {rest:List Stmt} {t u:TS} {e:Expr} {te:TE} {pos:Pos}
noncomputable def vp:TS:=λD σ H=>D.nx σ H
noncomputable def v7 (t u:TS):TS:=λD σ H=>t { D with nx:=u D } σ H
theorem qG:PSs X [] vp:=λ_ _ σ H _ I h=>wpAny_execs_nil ⟨σ,H,I,h⟩
theorem oF (h1:PS X st t) (h2:PSs X rest u):PSs X (st :: rest) (v7 t u):=by
 intro pins s σ H D I h
 refine wpAny_execs_cons (thn (h1 pins s σ H { D with nx:=u D } I h) λf s1 q=>?_)
 cases f with
 | next=>
   obtain ⟨σ',H',I',q⟩:=q
   exact h2 pins s1 σ' H' D I' q
 | ret v=>exact q
 | brk=>exact q
 | cont=>exact q
theorem Inv.quiet {pins:List (Addr × Obj)} {σ:St} {H:Hp} {s:Shared} (I:Inv X pins σ H s):interactive X.env=false:=by simp [interactive,I.ok.kind]
noncomputable def uC (te:TE):TS:=λD σ H=>te σ H λ_ H1=>D.nx σ H1
theorem fV (he:PE X e te) (hs:swapsWith e none pos.line X.env=pure false:=by rfl):PS X (.Expr e pos) (uC te):=by
 intro pins s σ H D I h
 exact wpAny_Expr_any (thn (he pins s σ H _ I h) λv s1 ⟨x,H1,I1,r1,q1⟩=>⟨σ,H1,I1,q1⟩) I.quiet hs
noncomputable def vX (te:TE):TS:=λD σ H=>te σ H D.rt
theorem oM (he:PE X e te):PS X (.Return (some e) pos) (vX te):=by
 intro pins s σ H D I h
 exact wpAny_Return_some (thn (he pins s σ H _ I h) λv s1 ⟨x,H1,I1,r1,q1⟩=>⟨x,σ,H1,I1,r1,q1⟩)
noncomputable def vx (c:TT) (t u:TS):TS:=λD σ H=>c σ H λb H1=>if b=true then t D σ H1 else u D σ H1
theorem qM {c:Expr} {a b:List Stmt} {tc:TT} (hc:PT X c tc) (ha:PSs X a t) (hb:PSs X b u):PS X (.If c a b pos) (vx tc t u):=by
 intro pins s σ H D I h
 refine wpAny_If (thn (hc pins s σ H _ I h) λd s1 ⟨H1,I1,q1⟩=>?_)
 cases d with
 | true=>exact ha pins s1 σ H1 D I1 q1
 | false=>exact hb pins s1 σ H1 D I1 q1
noncomputable def rE:TS:=λ_ _ _=>False
theorem iJ {sts:List Stmt}:PSs X sts rE:=λ_ _ _ _ _ _ h=>h.elim
end
noncomputable abbrev TG:=V->St->Hp->(St->Hp->Prop)->Prop
noncomputable abbrev TGs:=List V->St->Hp->(St->Hp->Prop)->Prop
noncomputable def PG (X:Cx) (target:Expr) (t:TG):Prop:=
 ∀ (pins:List (Addr × Obj)) (s:Shared) (σ:St) (H:Hp) (v:V) (u:Value) (Q:St->Hp->Prop),Inv X pins σ H s->RelV v u->t v σ H Q ->
   wpAny (model X.prog X.w) X.A (assign target X.env u) (λ_ s'=>∃ σ' H',Inv X pins σ' H' s'/\Q σ' H') X.xe s
noncomputable def PGs (X:Cx) (ts:List Expr) (t:TGs):Prop:=
 ∀ (pins:List (Addr × Obj)) (s:Shared) (σ:St) (H:Hp) (vs:List V) (us:List Value) (Q:St->Hp->Prop),Inv X pins σ H s->Vals vs us->t vs σ H Q ->
   wpAny (model X.prog X.w) X.A (assignInOrder ((assignEach ts X.env).map (·.2)) us) (λ_ s'=>∃ σ' H',Inv X pins σ' H' s'/\Q σ' H') X.xe s
noncomputable abbrev tP:=V->V->V->Hp->(Hp->Prop)->Prop
noncomputable def uo (X:Cx) (t:tP):Prop:=
 ∀ (pins:List (Addr × Obj)) (s:Shared) (σ:St) (H:Hp) (o i v:V) (ov iv u:Value) (Q:Hp->Prop),Inv X pins σ H s->RelV o ov->RelV i iv->RelV v u->t o i v H Q ->
   wpAny (model X.prog X.w) X.A (setItem ov iv u) (λ_ s'=>∃ H',Inv X pins σ H' s'/\Q H') X.xe s
section
variable {X:Cx} {pos:Pos}
noncomputable def rk (i:Nat):TG:=λv σ H Q=>Q (σ.set i (some v)) H
theorem eL {i:Nat} {x:Str} (hN:X.N.Nodup) (hi:X.N[i]?=some x) (hx:Loc X.env.scope x) (hf:X.fn x=true\/X.env.scope.names.lookup x=some .local:=by first | exact .inl rfl | exact .inr rfl | assumption):PG X (.Name x pos) (rk i):=by
 intro pins s σ H v u Q I r h
 exact wpAny_assign_Name (kj I hN hi hx r (λs' I'=>⟨_,H,I',h⟩) hf)
noncomputable def vO:TGs:=λvs σ H Q=>vs=[]/\Q σ H
noncomputable def uz (t:TG) (u:TGs):TGs:=λvs σ H Q=>∃ v r,vs=v :: r/\t v σ H λσ' H'=>u r σ' H' Q
theorem lZ:PGs X [] vO:=by
 intro pins s σ H vs us Q I r h
 obtain ⟨e,h⟩:=h
 subst e
 cases r
 exact assignInOrder_nil ⟨σ,H,I,h⟩
theorem gw {e:Expr} {es:List Expr} {t:TG} {u:TGs} (h1:PG X e t) (h2:PGs X es u)
   (hs:(assignEach (e :: es) X.env).map (·.2)=assign e X.env :: (assignEach es X.env).map (·.2):=by rfl):PGs X (e :: es) (uz t u):=by
 intro pins s σ H vs us Q I r h
 obtain ⟨v,vr,e1,h⟩:=h
 subst e1
 cases r with
 | cons r rr=>
   rw [hs]
   refine assignInOrder_cons (thn (h1 pins s σ H _ _ _ I r h) λ_ s1 ⟨σ1,H1,I1,q1⟩=>?_)
   exact h2 pins s1 σ1 H1 _ _ Q I1 rr q1
noncomputable def vJ (K:PySem.W.Frag) (n:Nat) (t:TGs):TG:=λv σ H Q=>∃ a xs,v=.ref a/\SqT K H a xs/\xs.length=n/\t xs σ H Q
theorem nY {es:List Expr} {k:Nat} {t:TGs} {n:Nat} (hc:X.calm=true) (h:PGs X es t)
   (hn:(assignEach es X.env).length=n:=by rfl) (hst:(assignEach es X.env).findIdx? (·.1)=none:=by rfl):PG X (.Tuple es k pos) (vJ X.K n t):=by
 intro pins s σ H v u Q I r hw
 obtain ⟨a,xs,e1,hq,hl,hw⟩:=hw
 subst e1
 cases r
 obtain ⟨its,rv,ht,hz⟩:=I.tuple hq
 refine assign_Tuple_tuple (I.ok.hd hc) ht (by simp [hn,<- hl,rv.length]) hst λh' hx=>?_
 have I1:Inv X pins σ H { s with heap:=h' }:=I.kept (t':=s.toks) λb o e=>hx b o (Nat.ne_of_lt (Heap.lt_size e)) e
 exact h pins _ σ H xs _ Q I1 (by simpa using rv) hw
noncomputable def vz (to ti:TE) (t:tP):TG:=λv σ H Q=>to σ H λo H1=>ti σ H1 λi H2=>t o i v H2 λH3=>Q σ H3
theorem sP {o i:Expr} {to ti:TE} {t:tP} (ho:PE X o to) (hi:PE X i ti) (hs:uo X t)
   (ha:∀ v,assign (.Subscript o i pos) X.env v=(do
     let ov <- holding [v] (eval o X.env)
     let iv <- holding [v,ov] (eval i X.env)
     standAt pos
     holding [v,ov,iv] (setItem ov iv v)
     release [v,ov,iv] []):=by intro _; rfl):PG X (.Subscript o i pos) (vz to ti t):=by
 intro pins s σ H v u Q I r h
 rw [ha]
 refine wpAny_bind (wpAny_holding (thn (ho pins s σ H _ I h) λov s1 ⟨x,H1,I1,r1,q1⟩=>?_))
 refine wpAny_bind (wpAny_holding (thn (hi pins s1 σ H1 _ I1 q1) λiv s2 ⟨y,H2,I2,r2,q2⟩=>?_))
 refine wpAny_bind (wpAny_standAt (wpAny_bind (wpAny_holding (thn (hs pins s2 σ H2 x y v ov iv u _ I2 r1 r2 r q2) λ_ s3 ⟨H3,I3,q3⟩=>?_))))
 exact wpAny_release ⟨σ,H3,I3,q3⟩
noncomputable def sI (te:TE) (g:TG):TS:=λD σ H=>te σ H λx H1=>g x σ H1 D.nx
theorem oE {tg e:Expr} {te:TE} {g:TG} (he:PE X e te) (hg:PG X tg g) (hs:swapsWithSole [tg] e pos.line X.env=pure false:=by rfl) (hw:swappedStores [tg] e X.env=pure none:=by rfl)
   (h1:(assignEach [tg] X.env).map (·.2)=[assign tg X.env]:=by rfl):PS X (.Assign [tg] e pos) (sI te g):=by
 intro pins s σ H D I h
 refine wpAny_Assign_stores (thn (he pins s σ H _ I h) λv s1 ⟨x,H1,I1,r1,q1⟩=>?_) hs hw
 rw [h1]
 exact thn (hg pins s1 σ H1 x v _ I1 r1 q1) λ_ s2 q=>q
theorem rW {i:Nat} {x:Str} {e:Expr} {te:TE} {pos':Pos} (hN:X.N.Nodup) (hi:X.N[i]?=some x) (hx:Loc X.env.scope x) (he:PE X e te) (hs:swapsWith e (some (.Name x pos')) pos.line X.env=pure false:=by rfl) (hf:X.fn x=true\/X.env.scope.names.lookup x=some .local:=by first | exact .inl rfl | exact .inr rfl | assumption) :
   PS X (.Assign [.Name x pos'] e pos) (sI te (rk i)):=by
 intro pins s σ H D I h
 refine wpAny_Assign_Name (thn (he pins s σ H _ I h) λv s1 ⟨y,H1,I1,r1,q1⟩=>?_) hs
 exact kj I1 hN hi hx r1 (λs2 I2=>⟨_,H1,I2,q1⟩) hf
end
section
variable {X:Cx} {pos:Pos}
noncomputable def sM (c:TT) (tb:TS):TS:=λD σ H=>∃ W:Nat->St->Hp->Prop,(∃ m,W m σ H)/\∀ m σ H,W m σ H ->
 c σ H λb H1=>if b=true then ∃ N:St->Hp->Prop,(∀ σ' H',N σ' H'->∃ m',m' < m/\W m' σ' H')/\tb { D with nx:=N,ct:=N,bk:=D.nx } σ H1 else D.nx σ H1
theorem n8 {c:Expr} {body:List Stmt} {tc:TT} {tb:TS} (hp:PassesOwn (model X.prog X.w) X.A X.env X.xe) (hc:PT X c tc) (hb:PSs X body tb):PS X (.While c body [] pos) (sM tc tb):=by
 intro pins s σ H D I h
 obtain ⟨W,⟨m0,w0⟩,turn⟩:=h
 refine wpAny_While (codeAny_whileLoop (λn s'=>∃ σ' H',Inv X pins σ' H' s'/\W n σ' H') ?_ m0 ⟨σ,H,I,w0⟩)
 rintro n s1 ⟨σ1,H1,I1,w1⟩
 refine wpAny_passesOwn hp (thn (hc pins s1 σ1 H1 _ I1 (turn n σ1 H1 w1)) λb s2 ⟨H2,I2,q2⟩=>?_)
 cases b with
 | true=>
   obtain ⟨N,hN,q2⟩:=q2
   rw [if_pos rfl]
   refine wpAny_passesOwn hp (thn (hb pins s2 σ1 H2 _ I2 q2) λf s3 q3=>?_)
   cases f with
   | next=>
     obtain ⟨σ3,H3,I3,n3⟩:=q3
     obtain ⟨m',hm,w3⟩:=hN σ3 H3 n3
     exact ⟨m',hm,σ3,H3,I3,w3⟩
   | cont=>
     obtain ⟨σ3,H3,I3,n3⟩:=q3
     obtain ⟨m',hm,w3⟩:=hN σ3 H3 n3
     exact ⟨m',hm,σ3,H3,I3,w3⟩
   | brk=>exact q3
   | ret v=>exact q3
 | false=>
   rw [if_neg Bool.false_ne_true]
   exact wpAny_execs_nil ⟨σ1,H2,I2,q2⟩
end
structure It where
 go:Nat->Hp->Prop
 yld:Nat->Hp->V->Hp->Prop
 stop:Nat->Hp->Prop
noncomputable def g8 (X:Cx) (pins:List (Addr × Obj)) (H:Hp) (b:Addr):Prop:=
 H b=none/\b ≠ X.env.locals/\b ∉ X.fs/\(b ∈ X.ex\/X.s₀.heap.objs.size<=b)/\(∀ x c,X.env.cells.lookup x=some c->c ≠ b)/\∀ p ∈ X.pn++pins,p.1 ≠ b
theorem Inv.jD {X:Cx} {pins:List (Addr × Obj)} {σ:St} {H H':Hp} {s:Shared} {b:Addr} (I:Inv X pins σ H s) (hb:s.heap.objs.size<=b) (hn:H' b=none):g8 X pins H' b:=by
 refine ⟨hn,Nat.ne_of_gt (Nat.lt_of_lt_of_le I.lt hb),I.v5 hb,.inr (Nat.le_trans I.sz hb),λx c e z=>?_,λp hp z=>?_⟩
 · obtain ⟨v,q⟩:=I.cell x c e
   exact absurd (Nat.lt_of_lt_of_le q.lt (by rw [z]; exact hb)) (Nat.lt_irrefl _)
 · exact absurd (Nat.lt_of_lt_of_le (Heap.lt_size (I.pin p hp).1) (by rw [z]; exact hb)) (Nat.lt_irrefl _)
structure Turn (P:Program) (w:World) (K:PySem.W.Frag) (tg:Expr) (J:It) (fp:List Addr) (it:Addr) (tn:Nat->Heap->Prop):Prop where
 mem:it ∈ fp
 obj:∀ i h,tn i h->∀ b ∈ fp,∃ o,h.get? b=some o/\∀ v,o.data ≠ .cell v
 keep:∀ i h h',tn i h->(∀ b ∈ fp,∀ o,h.get? b=some o->h'.get? b=some o)->tn i h'
 item:∀ (X:Cx),X.prog=P->X.w=w->X.K=K->X.calm=true->∀ (i:Nat) (pins:List (Addr × Obj)) (s:Shared) (σ:St) (H:Hp) (E:Value->Shared->Prop),Inv X pins σ H s->(∀ b ∈ fp,g8 X pins H b)->tn i s.heap->J.go i H ->
   wpAny (model P w) X.A (pyNext (.ref it)) (λr s1=>∃ u,r=some u /\
     wpAny (model P w) X.A (letOwnedTupleGo tg (.ref it) u) (λ_ s2=>∃ x H',Inv X pins σ H' s2/\RelV x u/\J.yld i H x H'/\tn (i + 1) s2.heap/\∀ b ∈ fp,H' b=none) E s1) E s
 done:∀ (X:Cx),X.prog=P->X.w=w->X.K=K->X.calm=true->∀ (i:Nat) (pins:List (Addr × Obj)) (s:Shared) (σ:St) (H:Hp) (E:Value->Shared->Prop),Inv X pins σ H s->(∀ b ∈ fp,g8 X pins H b)->tn i s.heap->J.stop i H ->
   wpAny (model P w) X.A (pyNext (.ref it)) (λr s1=>r=none/\Inv X pins σ H s1) E s
 self:∀ (A:Around) (i:Nat) (s:Shared) (Q:Value->Shared->Prop) (E:Value->Shared->Prop),tn i s.heap->Q (.ref it) s->wpAny (model P w) A (pyIter (.ref it)) Q E s
noncomputable abbrev TI:=St->Hp->(It->Hp->Prop)->Prop
noncomputable def PIE (X:Cx) (pins:List (Addr × Obj)) (σ:St) (tg:Expr) (R:It->Hp->Prop) (itv:Value) (s2:Shared):Prop:=
 ∃ (it:Addr) (fp:List Addr) (tn:Nat->Heap->Prop) (J:It) (H':Hp),itv=.ref it/\Inv X pins σ H' s2/\Turn X.prog X.w X.K tg J fp it tn/\tn 0 s2.heap/\(∀ b ∈ fp,g8 X pins H' b)/\R J H'
noncomputable def PI (X:Cx) (tg iter:Expr) (wi:TI):Prop:=
 ∀ (pins:List (Addr × Obj)) (s:Shared) (σ:St) (H:Hp) (R:It->Hp->Prop),Inv X pins σ H s->wi σ H R ->
   wpAny (model X.prog X.w) X.A (eval iter X.env) (λv s1=>wpAny (model X.prog X.w) X.A (pyIter v) (PIE X pins σ tg R) X.xe s1) X.xe s
theorem mf {M:Model} {A:Around} {E:Value->Shared->Prop} {s:Shared} {tg:Expr} {it:Addr} {u:Value} {o:Obj} {n:String} {vs:Array Value} {Q:Unit->Shared->Prop} (ho:s.heap.get? it=some o) (hc:o.cls=.type n) (hd:o.data=.fields vs)
   (hn:["enumerate","zip","dict_itemiterator","dict_reverseitemiterator","odict_iterator","itertools.zip_longest","itertools.pairwise"].contains n=false) (hQ:Q () s):wpAny M A (letOwnedTupleGo tg (.ref it) u) Q E s:=by
 unfold letOwnedTupleGo
 cases tg <;> first
   | exact wpAny_pure hQ
   | (cases u <;> first
       | exact wpAny_pure hQ
       | (refine wpAny_bind (wpAny_load ho ?_)
          rw [hc,hd]
          show wpAny M A (if (["enumerate","zip","dict_itemiterator","dict_reverseitemiterator","odict_iterator","itertools.zip_longest","itertools.pairwise"].contains n && vs[0]? == some (rawInt _))=true then _ else _) Q E s
          rw [if_neg (by intro h; rw [hn,Bool.false_and] at h; cases h)]
          exact wpAny_pure hQ))
noncomputable def Itl (K:PySem.W.Frag) (a:Addr):It:=
 ⟨λi H=>∃ xs x,SqL K H a xs/\xs[i]?=some x,λi H x H'=>H'=H/\∀ xs,SqL K H a xs->xs[i]?=some x,λi H=>∃ xs,SqL K H a xs/\xs.length<=i⟩
noncomputable def Itt (K:PySem.W.Frag) (a:Addr):It:=
 ⟨λi H=>∃ xs x,SqT K H a xs/\xs[i]?=some x,λi H x H'=>H'=H/\∀ xs,SqT K H a xs->xs[i]?=some x,λi H=>∃ xs,SqT K H a xs/\xs.length<=i⟩
noncomputable def Itr (lo:Int) (n:Nat):It:=⟨λi _=>i < n,λi H x H'=>H'=H/\x=.int (lo + i),λi _=>n<=i⟩
theorem mN {P:Program} {w:World} {K:PySem.W.Frag} {tg:Expr} (a it:Addr):Turn P w K tg (Itl K a) [it] it (λi h=>h.IsListIter it a i) where
 mem:=by simp
 obj:=λi h st b hb=>by
   have e:b=it:=by simpa using hb
   subst e
   obtain ⟨o,e,c,d⟩:=st
   exact ⟨o,e,λv z=>by rw [d] at z; cases z⟩
 keep:=λi h h' st k=>st.at λo e=>k it (by simp) o e
 item:=by
   intro X hP hw hK hc i pins s σ H E I hf st hg
   subst hP hw hK
   obtain ⟨xs,x,hq,hx⟩:=hg
   obtain ⟨its,rv,p,hz⟩:=I.list hq
   obtain ⟨u,hu,ru⟩:=rv.get hx
   obtain ⟨f0,f1,f2,f3,f4,f5⟩:=hf it (by simp)
   refine wpAny_pyNext_list_item st p.isList (x:=u) (by simpa using hu) λh' st' sb=>?_
   have I1:Inv X pins σ H { s with heap:=h' }:=I.turned (t':=s.toks) (λb o hb e=>(sb.2 b hb).trans e) f0 f1 f3 f4 f5
   obtain ⟨o,e,c,d⟩:=id st'
   exact ⟨u,rfl,mf (s:={ s with heap:=h' }) e c d (by decide) ⟨x,H,I1,ru,⟨rfl,λys hy=>by rw [I.da hy hq]; exact hx⟩,st',λb hb=>(hf b hb).1⟩⟩
 done:=by
   intro X hP hw hK hc i pins s σ H E I hf st hg
   subst hP hw hK
   obtain ⟨xs,hq,hx⟩:=hg
   obtain ⟨its,rv,p,hz⟩:=I.list hq
   obtain ⟨f0,f1,f2,f3,f4,f5⟩:=hf it (by simp)
   have hl:=rv.length
   exact wpAny_pyNext_list_end (I.ok.hd hc) st p.isList (by simp; omega) λh' eb=>⟨rfl,I.turned (t':=s.toks) (λb o hb e=>eb b o hb e) f0 f1 f3 f4 f5⟩
 self:=λ_ _ _ _ _ st h=>wpAny_pyIter_listiter st h
theorem k7 {P:Program} {w:World} {K:PySem.W.Frag} {tg:Expr} (a it:Addr):Turn P w K tg (Itt K a) [it] it (λi h=>h.IsTupleIter it a i) where
 mem:=by simp
 obj:=λi h st b hb=>by
   have e:b=it:=by simpa using hb
   subst e
   obtain ⟨o,e,c,d⟩:=st
   exact ⟨o,e,λv z=>by rw [d] at z; cases z⟩
 keep:=λi h h' st k=>st.at λo e=>k it (by simp) o e
 item:=by
   intro X hP hw hK hc i pins s σ H E I hf st hg
   subst hP hw hK
   obtain ⟨xs,x,hq,hx⟩:=hg
   obtain ⟨its,rv,p,hz⟩:=I.tuple hq
   obtain ⟨u,hu,ru⟩:=rv.get hx
   obtain ⟨f0,f1,f2,f3,f4,f5⟩:=hf it (by simp)
   refine wpAny_pyNext_tuple_item st (show s.heap.IsTuple a its.toArray from p) (x:=u) (by simpa using hu) λh' st' sb=>?_
   have I1:Inv X pins σ H { s with heap:=h' }:=I.turned (t':=s.toks) (λb o hb e=>(sb.2 b hb).trans e) f0 f1 f3 f4 f5
   obtain ⟨o,e,c,d⟩:=id st'
   exact ⟨u,rfl,mf (s:={ s with heap:=h' }) e c d (by decide) ⟨x,H,I1,ru,⟨rfl,λys hy=>by rw [I.mX hy hq]; exact hx⟩,st',λb hb=>(hf b hb).1⟩⟩
 done:=by
   intro X hP hw hK hc i pins s σ H E I hf st hg
   subst hP hw hK
   obtain ⟨xs,hq,hx⟩:=hg
   obtain ⟨its,rv,p,hz⟩:=I.tuple hq
   obtain ⟨f0,f1,f2,f3,f4,f5⟩:=hf it (by simp)
   have hl:=rv.length
   exact wpAny_pyNext_tuple_end (I.ok.hd hc) st (show s.heap.IsTuple a its.toArray from p) (by simp; omega) λh' eb=>⟨rfl,I.turned (t':=s.toks) (λb o hb e=>eb b o hb e) f0 f1 f3 f4 f5⟩
 self:=λ_ _ _ _ _ st h=>wpAny_pyIter_tupleiter st h
theorem k8 {P:Program} {w:World} {K:PySem.W.Frag} {tg:Expr} (it:Addr) (lo:Int) (n:Nat):Turn P w K tg (Itr lo n) [it] it (λi h=>IsRangeIter h it (lo + (i:Nat) * 1) ((n:Int) - (i:Nat)) 1) where
 mem:=by simp
 obj:=λi h st b hb=>by
   have e:b=it:=by simpa using hb
   subst e
   exact ⟨_,st,λv z=>by
     have z':Data.fields _=Data.cell v:=z
     cases z'⟩
 keep:=λi h h' st k=>k it (by simp) _ st
 item:=by
   intro X hP hw hK hc i pins s σ H E I hf st hg
   subst hP hw hK
   obtain ⟨f0,f1,f2,f3,f4,f5⟩:=hf it (by simp)
   have W:=Walks.range (prog:=X.prog) (w:=X.w) (I.ok.hd hc) it lo 1 n
   refine W.item i s _ _ hg st λv h' tk hv st' kk=>?_
   obtain ⟨t,rfl⟩:=hv
   have I1:Inv X pins σ H { s with heap:=h',toks:=tk }:=I.turned (λb o hb e=>kk b o (by simpa using hb) e) f0 f1 f3 f4 f5
   refine ⟨_,rfl,mf (s:={ s with heap:=h',toks:=tk }) (n:="range_iterator") st' rfl rfl (by decide) ⟨.int (lo + i),H,I1,⟨t,?_⟩,⟨rfl,rfl⟩,st',λb hb=>(hf b hb).1⟩⟩
   rw [Int.mul_one]
 done:=by
   intro X hP hw hK hc i pins s σ H E I hf st hg
   subst hP hw hK
   obtain ⟨f0,f1,f2,f3,f4,f5⟩:=hf it (by simp)
   exact wpAny_pyNext_range_end (I.ok.hd hc) st (by have:n<=i:=hg; omega) λh' eb=>⟨rfl,I.turned (t':=s.toks) (λb o hb e=>eb b o hb e) f0 f1 f3 f4 f5⟩
 self:=λ_ _ _ _ _ st h=>wpAny_pyIter_rangeiter st h
section
variable {X:Cx} {tg:Expr}
noncomputable def tX (K:PySem.W.Frag) (tl:TE):TI:=λσ H R=>tl σ H λx H1=>∃ a,x=.ref a/\(∃ xs,SqL K H1 a xs)/\R (Itl K a) H1
noncomputable def vK (K:PySem.W.Frag) (tl:TE):TI:=λσ H R=>tl σ H λx H1=>∃ a,x=.ref a/\(∃ xs,SqT K H1 a xs)/\R (Itt K a) H1
theorem qu {l:Expr} {tl:TE} (hl:PE X l tl):PI X tg l (tX X.K tl):=by
 intro pins s σ H R I h
 refine thn (hl pins s σ H _ I h) λv s1 ⟨x,H1,I1,r1,q1⟩=>?_
 obtain ⟨a,e,⟨xs,hq⟩,q⟩:=q1
 subst e
 cases r1
 obtain ⟨its,rv,p,hz⟩:=I1.list hq
 refine wpAny_pyIter_list p.isList ?_
 refine ⟨s1.heap.objs.size,[s1.heap.objs.size],_,_,H1,rfl,I1.kept (t':=s1.toks) λb o e=>Heap.get?_push_of_some _ e,mN a _,⟨_,Heap.get?_push_size _ rfl,rfl,rfl⟩,λb hb=>?_,q⟩
 have e:b=s1.heap.objs.size:=by simpa using hb
 subst e
 exact I1.jD (Nat.le_refl _) (I1.hok.fresh (Nat.le_refl _))
theorem sU {l:Expr} {tl:TE} (hl:PE X l tl):PI X tg l (vK X.K tl):=by
 intro pins s σ H R I h
 refine thn (hl pins s σ H _ I h) λv s1 ⟨x,H1,I1,r1,q1⟩=>?_
 obtain ⟨a,e,⟨xs,hq⟩,q⟩:=q1
 subst e
 cases r1
 obtain ⟨its,rv,p,hz⟩:=I1.tuple hq
 refine wpAny_pyIter_tuple (show s1.heap.IsTuple a its.toArray from p) ?_
 refine ⟨s1.heap.objs.size,[s1.heap.objs.size],_,_,H1,rfl,I1.kept (t':=s1.toks) λb o e=>Heap.get?_push_of_some _ e,k7 a _,⟨_,Heap.get?_push_size _ rfl,rfl,rfl⟩,λb hb=>?_,q⟩
 have e:b=s1.heap.objs.size:=by simpa using hb
 subst e
 exact I1.jD (Nat.le_refl _) (I1.hok.fresh (Nat.le_refl _))
theorem jQ {pins:List (Addr × Obj)} {σ:St} {H:Hp} {s:Shared} {R:It->Hp->Prop} {E:Value->Shared->Prop} {lo hi:Int} {t u v:Tok} {tk:Nat} (I:Inv X pins σ H s) (h1:-(2 ^ 62)<=lo) (h2:lo < 2 ^ 62) (h3:-(2 ^ 62)<=hi) (h4:hi < 2 ^ 62)
   (q:R (Itr lo (hi - lo).toNat) H):wpAny (model X.prog X.w) X.A (pyIter (.ref s.heap.objs.size)) (PIE X pins σ tg R) E { s with heap:=s.heap.push { cls:=.type "range",data:=.fields #[.int lo t,.int hi u,.int 1 v] },toks:=tk }:=by
 refine wpAny_pyIter_range (IsRange.new ..) (small_one h1 h2 h3 h4) ?_
 have I1:Inv X pins σ H { s with heap:=s.heap.push { cls:=.type "range",data:=.fields #[.int lo t,.int hi u,.int 1 v] },toks:=tk }:=I.kept λb o e=>Heap.get?_push_of_some _ e
 refine ⟨(s.heap.push { cls:=.type "range",data:=.fields #[.int lo t,.int hi u,.int 1 v] }).objs.size,[(s.heap.push { cls:=.type "range",data:=.fields #[.int lo t,.int hi u,.int 1 v] }).objs.size],_,_,H,rfl,
   I1.kept (t':=tk) λb o e=>Heap.get?_push_of_some _ e,k8 _ lo (hi - lo).toNat,?_,λb hb=>?_,q⟩
 · have e1:lo + ((0:Nat):Int) * 1=lo:=by simp
   have e2:(((hi - lo).toNat:Nat):Int) - ((0:Nat):Int)=Builtin.Range.rangeSize lo hi 1:=by rw [rangeSize_one]; split <;> omega
   show IsRangeIter _ _ (lo + ((0:Nat):Int) * 1) ((((hi - lo).toNat:Nat):Int) - ((0:Nat):Int)) 1
   rw [e1,e2]
   exact Heap.get?_push_size _ rfl
 · have e:b=(s.heap.push { cls:=.type "range",data:=.fields #[.int lo t,.int hi u,.int 1 v] }).objs.size:=by simpa using hb
   subst e
   exact I1.jD (Nat.le_refl _) (I1.hok.fresh (Nat.le_refl _))
noncomputable def tS (ta:TA):TI:=λσ H R=>ta σ H λvs H1=>∃ j:Int,vs=[.int j]/\-(2 ^ 62)<=j/\j < 2 ^ 62/\R (Itr 0 j.toNat) H1
noncomputable def vi (ta:TA):TI:=λσ H R=>ta σ H λvs H1=>∃ i j:Int,vs=[.int i,.int j]/\(-(2 ^ 62)<=i/\i < 2 ^ 62/\-(2 ^ 62)<=j/\j < 2 ^ 62)/\R (Itr i (j - i).toNat) H1
theorem mV {a:Expr} {ta:TA} {p pos:Pos} (hg:Gl X "range") (hm:X.mg "range" = none) (ha:PA X [a] ta) (hs:starEach [a] X.env=[(false,eval a X.env)]:=by rfl):PI X tg (.Call (.Name "range" p) [a] [] pos) (tS ta):=by
 intro pins s σ H R I h
 refine Call_ (cQ I hg hm boot_range (PyProof.Rows.callWith_type1 (thn (ha pos pins s σ H _ I h) λus s1 ⟨vs,H1,I1,r1,q1⟩=>?_) hs rfl))
 obtain ⟨j,e,q1,q2,q⟩:=q1
 subst e
 cases r1 with
 | cons r rr=>
   cases rr
   obtain ⟨t,rfl⟩:=r
   exact call_range_1 (jQ I1 (by omega) (by omega) q1 q2 (by simpa using q))
theorem m8 {a b:Expr} {ta:TA} {p pos:Pos} (hg:Gl X "range") (hm:X.mg "range" = none) (ha:PA X [a,b] ta) (hs:starEach [a,b] X.env=[(false,eval a X.env),(false,eval b X.env)]:=by rfl) (hs2:starEach [b] X.env=[(false,eval b X.env)]:=by rfl) :
   PI X tg (.Call (.Name "range" p) [a,b] [] pos) (vi ta):=by
 intro pins s σ H R I h
 refine Call_ (cQ I hg hm boot_range (PyProof.Rows.callWith_type1 (thn (ha pos pins s σ H _ I h) λus s1 ⟨vs,H1,I1,r1,q1⟩=>?_) (by rw [hs,hs2]) (by rw [hs2]; rfl)))
 obtain ⟨i,j,e,⟨q1,q2,q3,q4⟩,q⟩:=q1
 subst e
 cases r1 with
 | cons r rr=>
   cases rr with
   | cons r' rr=>
     cases rr
     obtain ⟨t,rfl⟩:=r
     obtain ⟨t',rfl⟩:=r'
     exact call_range_2 (jQ I1 q1 q2 q3 q4 q)
noncomputable def vD (wi:TI) (g:TG) (tb:TS):TS:=λD σ H=>wi σ H λJ H1=>∃ W:Nat->Nat->St->Hp->Prop,(∃ m,W 0 m σ H1)/\∀ i m σ H,W i m σ H ->
 (J.stop i H/\D.nx σ H)\/(J.go i H/\∃ N:St->Hp->Prop,(∀ σ' H',N σ' H'->∃ m',m' < m/\W (i + 1) m' σ' H')/\∀ x H',J.yld i H x H'->g x σ H' λσ2 H2=>tb { D with nx:=N,ct:=N,bk:=D.nx } σ2 H2)
noncomputable def d0 (fp:List Addr) (h:Heap):List (Addr × Obj):=fp.filterMap λb=>(h.get? b).map λo=>(b,o)
theorem bg {fp:List Addr} {h:Heap} {b:Addr} {o:Obj} (hb:b ∈ fp) (e:h.get? b=some o):(b,o) ∈ d0 fp h:=List.mem_filterMap.mpr ⟨b,hb,by rw [e]; rfl⟩
theorem mZ {fp:List Addr} {h:Heap} {p:Addr × Obj} (hp:p ∈ d0 fp h):p.1 ∈ fp/\h.get? p.1=some p.2:=by
 obtain ⟨b,hb,e⟩:=List.mem_filterMap.mp hp
 cases q:h.get? b with
 | none=>rw [q] at e; cases e
 | some o=>
   rw [q] at e
   have e':(b,o)=p:=Option.some.inj e
   subst e'
   exact ⟨hb,q⟩
theorem Inv.pinned {pins:List (Addr × Obj)} {σ:St} {H:Hp} {s:Shared} {fp:List Addr} (I:Inv X pins σ H s) (hf:∀ b ∈ fp,g8 X pins H b) (ho:∀ b ∈ fp,∃ o,s.heap.get? b=some o/\∀ v,o.data ≠ .cell v):Inv X (pins++d0 fp s.heap) σ H s:=
 I.lQ λp hp=>(List.mem_append.mp hp).elim (λz=>I.pin p (List.mem_append_right _ z)) λz=>by
   obtain ⟨hb,e⟩:=mZ z
   obtain ⟨f0,f1,f2,_⟩:=hf p.1 hb
   obtain ⟨o,e',d⟩:=ho p.1 hb
   rw [e] at e'; cases e'
   exact ⟨e,f0,f1,f2,d⟩
theorem Inv.cg {pins pl:List (Addr × Obj)} {σ:St} {H:Hp} {s:Shared} (I:Inv X (pins++pl) σ H s):Inv X pins σ H s:=I.lQ λp hp=>I.pin p (List.mem_append_right _ (List.mem_append_left _ hp))
theorem sj {iter:Expr} {body:List Stmt} {wi:TI} {g:TG} {tb:TS} {pos:Pos} (hp:PassesOwn (model X.prog X.w) X.A X.env X.xe) (hc:X.calm=true) (hi:PI X tg iter wi) (hg:PG X tg g) (hb:PSs X body tb)
   (hs:∀ x,foldedSetIterable iter X.env x=pure x:=by intro _; rfl):PS X (.For tg iter body [] pos) (vD wi g tb):=by
 intro pins s σ H D I h
 refine wpAny_For (thn (hi pins s σ H _ I h) λv s1 h1=>thn h1 λitv s2 h2=>?_) hs
 obtain ⟨it,fp,tn,J,H2,e,I2,T,st2,f2,W,⟨m0,w0⟩,turn⟩:=h2
 subst e
 have stat:∀ {H':Hp},(∀ b ∈ fp,H' b=none)->∀ b ∈ fp,g8 X pins H' b:=λhn b hb=>⟨hn b hb,(f2 b hb).2⟩
 refine codeAny_forLoop_any (λn s'=>∃ i σ' H',Inv X pins σ' H' s'/\tn i s'.heap/\(∀ b ∈ fp,H' b=none)/\W i n σ' H') ?_ m0 ⟨0,σ,H2,I2,st2,λb hb=>(f2 b hb).1,w0⟩
 rintro n s3 ⟨i,σ3,H3,I3,st3,fr3,w3⟩
 rcases turn i n σ3 H3 w3 with ⟨stop,qn⟩ | ⟨go,N,hN,step⟩
 · refine wpAny_passesOwn hp (thn (T.done X rfl rfl rfl hc i pins s3 σ3 H3 X.xe I3 (stat fr3) st3 stop) λr s4 ⟨hr,I4⟩=>?_)
   subst hr
   exact wpAny_execs_nil ⟨σ3,H3,I4,qn⟩
 · refine wpAny_passesOwn hp (thn (T.item X rfl rfl rfl hc i pins s3 σ3 H3 X.xe I3 (stat fr3) st3 go) λr s4 ⟨u,hr,h4⟩=>?_)
   subst hr
   refine wpAny_passesOwn hp (thn h4 λ_ s5 ⟨x,H5,I5,r5,y5,st5,fr5⟩=>?_)
   have I5':=I5.pinned (stat fr5) (T.obj _ _ st5)
   refine wpAny_passesOwn hp (thn (hg _ s5 σ3 H5 x u _ I5' r5 (step x H5 y5)) λ_ s6 ⟨σ6,H6,I6,q6⟩=>?_)
   refine wpAny_passesOwn hp (thn (hb _ s6 σ6 H6 _ I6 q6) λf s7 q7=>?_)
   have again:∀ {σ7:St} {H7:Hp},Inv X (pins++d0 fp s5.heap) σ7 H7 s7->N σ7 H7->∃ m,m < n/\∃ i σ' H',Inv X pins σ' H' s7/\tn i s7.heap/\(∀ b ∈ fp,H' b=none)/\W i m σ' H':=λ{σ7 H7} I7 n7=>by
     obtain ⟨m',hm,w7⟩:=hN σ7 H7 n7
     refine ⟨m',hm,i + 1,σ7,H7,I7.cg,T.keep _ _ _ st5 λb hb o e=>(I7.pin (b,o) (List.mem_append_right _ (List.mem_append_right _ (bg hb e)))).1,λb hb=>?_,w7⟩
     obtain ⟨o,e,d⟩:=T.obj _ _ st5 b hb
     exact (I7.pin (b,o) (List.mem_append_right _ (List.mem_append_right _ (bg hb e)))).2.1
   cases f with
   | next=>obtain ⟨σ7,H7,I7,n7⟩:=q7; exact again I7 n7
   | cont=>obtain ⟨σ7,H7,I7,n7⟩:=q7; exact again I7 n7
   | brk=>obtain ⟨σ7,H7,I7,q7⟩:=q7; exact ⟨σ7,H7,I7.cg,q7⟩
   | ret v=>obtain ⟨x7,σ7,H7,I7,r7,q7⟩:=q7; exact ⟨x7,σ7,H7,I7.cg,r7,q7⟩
end
noncomputable abbrev R2:=V->V->Hp->VK->Prop
noncomputable def OpR (X:Cx) (f:Value->Value->Sem Value) (r:R2):Prop:=
 ∀ (pins:List (Addr × Obj)) (s:Shared) (σ:St) (H:Hp) (x y:V) (v u:Value) (Q:VK),Inv X pins σ H s->RelV x v->RelV y u->r x y H Q ->
   wpAny (model X.prog X.w) X.A (f v u) (EP X pins σ Q) X.xe s
noncomputable def UnR (X:Cx) (f:Value->Sem Value) (r:V->Hp->VK->Prop):Prop:=
 ∀ (pins:List (Addr × Obj)) (s:Shared) (σ:St) (H:Hp) (x:V) (v:Value) (Q:VK),Inv X pins σ H s->RelV x v->r x H Q ->
   wpAny (model X.prog X.w) X.A (f v) (EP X pins σ Q) X.xe s
noncomputable def dg (X:Cx) (f:Value) (r:List V->Hp->VK->Prop):Prop:=
 ∀ (pins:List (Addr × Obj)) (s:Shared) (σ:St) (H:Hp) (xs:List V) (us:List Value) (Q:VK),Inv X pins σ H s->Vals xs us->r xs H Q ->
   wpAny (model X.prog X.w) X.A (call f us) (EP X pins σ Q) X.xe s
noncomputable def tOp (r:R2) (ta tb:TE):TE:=λσ H Q=>ta σ H λx H1=>tb σ H1 λy H2=>r x y H2 Q
noncomputable def tUn (r:V->Hp->VK->Prop) (ta:TE):TE:=λσ H Q=>ta σ H λx H1=>r x H1 Q
noncomputable def rI (C:Int->Int->Prop) (g:Int->Int->V):R2:=λx y H Q=>∃ i j,x=.int i/\y=.int j/\C i j/\Q (g i j) H
noncomputable def rI0 (g:Int->Int->V):R2:=λx y H Q=>∃ i j,x=.int i/\y=.int j/\Q (g i j) H
noncomputable def rU (g:Int->V):V->Hp->VK->Prop:=λx H Q=>∃ i,x=.int i/\Q (g i) H
section
variable {X:Cx} {a b c:Expr} {ta tb tc:TE} {pos:Pos}
theorem sX (ha:PE X a ta) (hb:PE X b tb) {pins:List (Addr × Obj)} {s:Shared} {σ:St} {H:Hp} {R:V->V->Hp->Prop} (I:Inv X pins σ H s)
   (h:ta σ H λx H1=>tb σ H1 λy H2=>R x y H2) {Q:Value->Shared->Prop} {f:Value->Value->Sem Value}
   (hf:∀ v u s2 x y H2,Inv X pins σ H2 s2->RelV x v->RelV y u->R x y H2->wpAny (model X.prog X.w) X.A (f v u) Q X.xe s2) :
   wpAny (model X.prog X.w) X.A (eval a X.env) (λv s₁=>wpAny (model X.prog X.w) X.A (eval b X.env) (λu s₂=>wpAny (model X.prog X.w) X.A (f v u) Q X.xe s₂) X.xe s₁) X.xe s:=by
 refine thn (ha pins s σ H _ I h) λv s1 ⟨x,H1,I1,r1,q1⟩=>?_
 refine thn (hb pins s1 σ H1 _ I1 q1) λu s2 ⟨y,H2,I2,r2,q2⟩=>?_
 exact hf v u s2 x y H2 I2 r1 r2 q2
theorem n5 {op:Operator} {r:R2} (ho:OpR X (binaryOp op) r) (ha:PE X a ta) (hb:PE X b tb):PE X (.BinOp a op b pos) (tOp r ta tb):=by
 intro pins s σ H Q I h
 exact wpAny_BinOp (sX ha hb I h λv u s2 x y H2 I2 rx ry q=>ho pins s2 σ H2 x y v u Q I2 rx ry q)
theorem vf {op:UnaryOp} {r:V->Hp->VK->Prop} (ho:UnR X (unaryOp op) r) (ha:PE X a ta):PE X (.UnaryOp op a pos) (tUn r ta):=by
 intro pins s σ H Q I h
 exact UnaryOp_ (thn (ha pins s σ H _ I h) λv s1 ⟨x,H1,I1,r1,q1⟩=>ho pins s1 σ H1 x v Q I1 r1 q1)
theorem opI {f:Value->Value->Sem Value} {C:Int->Int->Prop} {g:Int->Int->Int}
   (rule:∀ (i j:Int) (t u:Tok) (s:Shared) (Q:Value->Shared->Prop) (E:Value->Shared->Prop),C i j->Q (.int (g i j) s.toks) { s with toks:=s.toks + 1 }->wpAny (model X.prog X.w) X.A (f (.int i t) (.int j u)) Q E s) :
   OpR X f (rI C λi j=>.int (g i j)):=by
 intro pins s σ H x y v u Q I rx ry h
 obtain ⟨i,j,rfl,rfl,hc,q⟩:=h
 obtain ⟨t,rfl⟩:=rx
 obtain ⟨t',rfl⟩:=ry
 exact rule i j t t' s _ _ hc ⟨.int (g i j),H,I.tok _,⟨_,rfl⟩,q⟩
theorem uB {f:Value->Value->Sem Value} {g:Int->Int->Int}
   (rule:∀ (i j:Int) (t u:Tok) (s:Shared) (Q:Value->Shared->Prop) (E:Value->Shared->Prop),Q (.int (g i j) s.toks) { s with toks:=s.toks + 1 }->wpAny (model X.prog X.w) X.A (f (.int i t) (.int j u)) Q E s) :
   OpR X f (rI0 λi j=>.int (g i j)):=by
 intro pins s σ H x y v u Q I rx ry h
 obtain ⟨i,j,rfl,rfl,q⟩:=h
 obtain ⟨t,rfl⟩:=rx
 obtain ⟨t',rfl⟩:=ry
 exact rule i j t t' s _ _ ⟨.int (g i j),H,I.tok _,⟨_,rfl⟩,q⟩
theorem pZ {f:Value->Value->Sem Value} {g:Int->Int->Bool}
   (rule:∀ (i j:Int) (t u:Tok) (s:Shared) (Q:Value->Shared->Prop) (E:Value->Shared->Prop),Q (.bool (g i j)) s->wpAny (model X.prog X.w) X.A (f (.int i t) (.int j u)) Q E s) :
   OpR X f (rI0 λi j=>.bl (g i j)):=by
 intro pins s σ H x y v u Q I rx ry h
 obtain ⟨i,j,rfl,rfl,q⟩:=h
 obtain ⟨t,rfl⟩:=rx
 obtain ⟨t',rfl⟩:=ry
 exact rule i j t t' s _ _ ⟨.bl (g i j),H,I,rfl,q⟩
noncomputable def uE (i j:Int):Prop:=0<=j/\j<=1000000/\i.natAbs < 2 ^ 64
theorem tQ:OpR X (binaryOp .Add) (rI0 λi j=>.int (i + j)):=uB λ_ _ _ _ _ _ _ q=>add_int q
theorem tm:OpR X (binaryOp .Sub) (rI0 λi j=>.int (i - j)):=uB λ_ _ _ _ _ _ _ q=>sub_int q
theorem qH:OpR X (binaryOp .Mod) (rI (λ_ j=>j ≠ 0) λi j=>.int (i.fmod j)):=opI λ_ _ _ _ _ _ _ hc q=>mod_int' hc q
theorem rN:OpR X (binaryOp .Pow) (rI uE λi j=>.int (i ^ j.toNat)):=opI λ_ _ _ _ _ _ _ hc q=>pow_int_small hc.1 hc.2.1 hc.2.2 q
theorem unI {f:Value->Sem Value} {g:Int->Int}
   (rule:∀ (i:Int) (t:Tok) (s:Shared) (Q:Value->Shared->Prop) (E:Value->Shared->Prop),Q (.int (g i) s.toks) { s with toks:=s.toks + 1 }->wpAny (model X.prog X.w) X.A (f (.int i t)) Q E s) :
   UnR X f (rU λi=>.int (g i)):=by
 intro pins s σ H x v Q I rx h
 obtain ⟨i,rfl,q⟩:=h
 obtain ⟨t,rfl⟩:=rx
 exact rule i t s _ _ ⟨.int (g i),H,I.tok _,⟨_,rfl⟩,q⟩
theorem sF:UnR X (unaryOp .USub) (rU λi=>.int (-i)):=unI λ_ _ _ _ _ q=>neg_int q
end
noncomputable def tU:V->V->Bool
 | .non,.non=>true | .non,.int _=>true | .int _,.non=>true | .non,.bl _=>true | .bl _,.non=>true | .non,.str _=>true | .str _,.non=>true
 | .int _,.int _=>true | .bl _,.bl _=>true | .str _,.str _=>true | .byt _,.byt _=>true
 | .int _,.str _=>true | .str _,.int _=>true | .bl _,.str _=>true | .str _,.bl _=>true
 | _,_=>false
noncomputable def rEq:R2:=λx y H Q=>tU x y=true/\Q (.bl (decide (x=y))) H
noncomputable def rNe:R2:=λx y H Q=>tU x y=true/\Q (.bl (!decide (x=y))) H
theorem ly {i j:Int}:decide (V.int i=V.int j)=(i == j):=by
 rw [Bool.eq_iff_iff]
 simp
theorem pj {i j:Bool}:decide (V.bl i=V.bl j)=(i == j):=by
 rw [Bool.eq_iff_iff]
 simp
theorem mx {i j:Str}:decide (V.str i=V.str j)=(i == j):=by
 rw [Bool.eq_iff_iff]
 simp
theorem lA {i j:Array UInt8}:decide (V.byt i=V.byt j)=(i.toList == j.toList):=by
 rw [Bool.eq_iff_iff]
 cases i
 cases j
 simp
section
variable {X:Cx} {a b c:Expr} {ta tb tc:TE} {pos:Pos}
theorem aK {pins:List (Addr × Obj)} {σ:St} {H:Hp} {s:Shared} {Q:VK} {k k':Bool} (I:Inv X pins σ H s) (q:Q (.bl k) H) (e:k=k'):EP X pins σ Q (.bool k') s:=by
 subst e
 exact ⟨.bl k,H,I,rfl,q⟩
theorem rj:OpR X (compareOp .Eq) rEq:=by
 intro pins s σ H x y v u Q I rx ry h
 obtain ⟨hs,q⟩:=h
 cases x with
 | non=>
   cases rx
   cases y with
   | non=>cases ry; exact PySem.EqNone.eq_none_none (aK I q (by simp))
   | bl j=>cases ry; exact PySem.EqNone.eq_none_bool (aK I q (by simp))
   | int j=>obtain ⟨t',rfl⟩:=ry; exact PySem.EqNone.eq_none_int (aK I q (by simp))
   | str j=>obtain ⟨t',rfl⟩:=ry; exact PySem.EqNone.eq_none_str (aK I q (by simp))
   | _=>exact absurd (show false=true from hs) Bool.false_ne_true
 | bl i=>
   cases rx
   cases y with
   | non=>cases ry; exact PySem.EqNone.eq_bool_none (aK I q (by simp))
   | bl j=>cases ry; exact eq_bool (aK I q pj)
   | str j=>obtain ⟨t',rfl⟩:=ry; exact PySem.EqMixed.eq_bool_str (aK I q (by simp))
   | _=>exact absurd (show false=true from hs) Bool.false_ne_true
 | int i=>
   obtain ⟨t,rfl⟩:=rx
   cases y with
   | non=>cases ry; exact PySem.EqNone.eq_int_none (aK I q (by simp))
   | int j=>obtain ⟨t',rfl⟩:=ry; exact eq_int (aK I q ly)
   | str j=>obtain ⟨t',rfl⟩:=ry; exact PySem.EqMixed.eq_int_str (aK I q (by simp))
   | _=>exact absurd (show false=true from hs) Bool.false_ne_true
 | str i=>
   obtain ⟨t,rfl⟩:=rx
   cases y with
   | non=>cases ry; exact PySem.EqNone.eq_str_none (aK I q (by simp))
   | bl j=>cases ry; exact PySem.EqMixed.eq_str_bool (aK I q (by simp))
   | int j=>obtain ⟨t',rfl⟩:=ry; exact PySem.EqMixed.eq_str_int (aK I q (by simp))
   | str j=>obtain ⟨t',rfl⟩:=ry; exact eq_str (aK I q mx)
   | _=>exact absurd (show false=true from hs) Bool.false_ne_true
 | byt i=>
   obtain ⟨t,rfl⟩:=rx
   cases y with
   | byt j=>obtain ⟨t',rfl⟩:=ry; exact PySem.W.eq_bytes (aK I q lA)
   | _=>exact absurd (show false=true from hs) Bool.false_ne_true
 | _=>cases y <;> exact absurd (show false=true from hs) Bool.false_ne_true
theorem rb:OpR X (compareOp .NotEq) rNe:=by
 intro pins s σ H x y v u Q I rx ry h
 obtain ⟨hs,q⟩:=h
 cases x with
 | non=>
   cases rx
   cases y with
   | non=>cases ry; exact PySem.EqNone.ne_none_none (aK I q (by simp))
   | bl j=>cases ry; exact PySem.EqNone.ne_none_bool (aK I q (by simp))
   | int j=>obtain ⟨t',rfl⟩:=ry; exact PySem.EqNone.ne_none_int (aK I q (by simp))
   | str j=>obtain ⟨t',rfl⟩:=ry; exact PySem.EqNone.ne_none_str (aK I q (by simp))
   | _=>exact absurd (show false=true from hs) Bool.false_ne_true
 | bl i=>
   cases rx
   cases y with
   | non=>cases ry; exact PySem.EqNone.ne_bool_none (aK I q (by simp))
   | bl j=>cases ry; exact ne_bool (aK I q (congrArg not pj))
   | str j=>obtain ⟨t',rfl⟩:=ry; exact PySem.EqMixed.ne_bool_str (aK I q (by simp))
   | _=>exact absurd (show false=true from hs) Bool.false_ne_true
 | int i=>
   obtain ⟨t,rfl⟩:=rx
   cases y with
   | non=>cases ry; exact PySem.EqNone.ne_int_none (aK I q (by simp))
   | int j=>obtain ⟨t',rfl⟩:=ry; exact ne_int (aK I q (congrArg not ly))
   | str j=>obtain ⟨t',rfl⟩:=ry; exact PySem.EqMixed.ne_int_str (aK I q (by simp))
   | _=>exact absurd (show false=true from hs) Bool.false_ne_true
 | str i=>
   obtain ⟨t,rfl⟩:=rx
   cases y with
   | non=>cases ry; exact PySem.EqNone.ne_str_none (aK I q (by simp))
   | bl j=>cases ry; exact PySem.EqMixed.ne_str_bool (aK I q (by simp))
   | int j=>obtain ⟨t',rfl⟩:=ry; exact PySem.EqMixed.ne_str_int (aK I q (by simp))
   | str j=>obtain ⟨t',rfl⟩:=ry; exact ne_str (aK I q (congrArg not mx))
   | _=>exact absurd (show false=true from hs) Bool.false_ne_true
 | byt i=>
   obtain ⟨t,rfl⟩:=rx
   cases y with
   | byt j=>obtain ⟨t',rfl⟩:=ry; exact PySem.W.ne_bytes (aK I q (congrArg not lA))
   | _=>exact absurd (show false=true from hs) Bool.false_ne_true
 | _=>cases y <;> exact absurd (show false=true from hs) Bool.false_ne_true
theorem uX:OpR X (compareOp .Lt) (rI0 λi j=>.bl (decide (i < j))):=pZ λ_ _ _ _ _ _ _ q=>lt_int q
theorem ve:OpR X (compareOp .LtE) (rI0 λi j=>.bl (decide (i<=j))):=pZ λ_ _ _ _ _ _ _ q=>le_int q
theorem uA:OpR X (compareOp .Gt) (rI0 λi j=>.bl (decide (j < i))):=pZ λ_ _ _ _ _ _ _ q=>gt_int q
theorem uU:OpR X (compareOp .GtE) (rI0 λi j=>.bl (decide (j<=i))):=pZ λ_ _ _ _ _ _ _ q=>ge_int q
theorem rJ:OpR X (compareOp .Is) (λx y H Q=>y=.non/\Q (.bl (decide (x=.non))) H):=by
 intro pins s σ H x y v u Q I rx ry h
 obtain ⟨rfl,q⟩:=h
 cases ry
 refine is_none_gen (aK I q ?_)
 cases x <;> first
   | (cases rx; rfl)
   | (obtain ⟨t,rfl⟩:=rx; rfl)
theorem nE (b:Expr) {op:CmpOp} (h:op ≠ .In:=by decide) (h2:op ≠ .NotIn:=by decide):behindInMarks op b=false:=by
 have e1:(op == CmpOp.In)=false:=by cases op <;> first | rfl | exact absurd rfl h
 have e2:(op == CmpOp.NotIn)=false:=by cases op <;> first | rfl | exact absurd rfl h2
 cases b <;> simp [behindInMarks,e1,e2]
theorem pP {op:CmpOp} {r:R2} (ho:OpR X (compareOp op) r) (ha:PE X a ta) (hb:PE X b tb) (hm:behindInMarks op b=false):PE X (.Compare a [op] [b] pos) (tOp r ta tb):=by
 intro pins s σ H Q I h
 exact wpAny_Compare1 (sX ha hb I h λv u s2 x y H2 I2 rx ry q=>ho pins s2 σ H2 x y v u Q I2 rx ry q) hm
noncomputable def qQ (t:TE):TT:=λσ H Q=>t σ H λx H'=>∃ k,x=.bl k/\Q k H'
theorem pw {op:CmpOp} {r:R2} (ho:OpR X (compareOp op) r) (ha:PE X a ta) (hb:PE X b tb) (hm:behindInMarks op b=false):PT X (.Compare a [op] [b] pos) (qQ (tOp r ta tb)):=by
 intro pins s σ H Q I h
 refine wpAny_isTrue_Compare1 (thn (ha pins s σ H _ I h) λv s1 ⟨x,H1,I1,r1,q1⟩=>thn (hb pins s1 σ H1 _ I1 q1) λu s2 ⟨y,H2,I2,r2,q2⟩=>
   thn (ho pins s2 σ H2 x y v u _ I2 r1 r2 q2) λc s3 ⟨z,H3,I3,r3,k,e,q3⟩=>?_) hm
 subst e
 cases r3
 exact wpAny_truthy_bool ⟨H3,I3,q3⟩
noncomputable def k5 (r r':R2) (ta tb tc:TE):TE:=λσ H Q=>ta σ H λx H1=>tb σ H1 λy H2=>r x y H2 λz H3=>∃ k,z=.bl k /\
 (if k=true then tc σ H3 λw' H4=>r' y w' H4 Q else Q (.bl false) H3)
theorem oX {op op':CmpOp} {r r':R2} (ho:OpR X (compareOp op) r) (ho':OpR X (compareOp op') r') (ha:PE X a ta) (hb:PE X b tb) (hc:PE X c tc)
   (hm:lastMarks [op,op'] [b,c]=false:=by with_unfolding_all rfl):PE X (.Compare a [op,op'] [b,c] pos) (k5 r r' ta tb tc):=by
 intro pins s σ H Q I h
 refine Compare_chain (thn (ha pins s σ H _ I h) λv s1 ⟨x,H1,I1,r1,q1⟩=>chain_link (thn (hb pins s1 σ H1 _ I1 q1) λu s2 ⟨y,H2,I2,r2,q2⟩=>
   thn (ho pins s2 σ H2 x y v u _ I2 r1 r2 q2) λd s3 ⟨z,H3,I3,r3,k,e,q3⟩=>?_)) hm
 subst e
 cases r3
 refine wpAny_truthy_bool ?_
 cases k with
 | false=>exact ite_ff ⟨.bl false,H3,I3,rfl,q3⟩
 | true=>exact ite_tt (chain_last (thn (hc pins s3 σ H3 _ I3 q3) λw' s4 ⟨z',H4,I4,r4,q4⟩=>ho' pins s4 σ H4 y z' u w' Q I4 r2 r4 q4))
theorem oh {op op':CmpOp} {r r':R2} (ho:OpR X (compareOp op) r) (ho':OpR X (compareOp op') r') (ha:PE X a ta) (hb:PE X b tb) (hc:PE X c tc)
   (hm:lastMarks [op,op'] [b,c]=false:=by with_unfolding_all rfl):PT X (.Compare a [op,op'] [b,c] pos) (qQ (k5 r r' ta tb tc)):=by
 intro pins s σ H Q I h
 refine isTrue_chain (thn (ha pins s σ H _ I h) λv s1 ⟨x,H1,I1,r1,q1⟩=>test_link (thn (hb pins s1 σ H1 _ I1 q1) λu s2 ⟨y,H2,I2,r2,q2⟩=>
   thn (ho pins s2 σ H2 x y v u _ I2 r1 r2 q2) λd s3 ⟨z,H3,I3,r3,k,e,q3⟩=>?_)) hm
 subst e
 cases r3
 refine wpAny_truthy_bool ?_
 cases k with
 | false=>
   obtain ⟨k',e',q'⟩:=q3
   cases e'
   exact ite_ff ⟨H3,I3,q'⟩
 | true=>
   refine ite_tt (test_last (thn (hc pins s3 σ H3 _ I3 q3) λw' s4 ⟨z',H4,I4,r4,q4⟩=>thn (ho' pins s4 σ H4 y z' u w' _ I4 r2 r4 q4) λd' s5 ⟨z2,H5,I5,r5,k2,e2,q5⟩=>?_))
   subst e2
   cases r5
   exact wpAny_truthy_bool ⟨H5,I5,q5⟩
theorem iY:(sizeLine:Nat) < 2 ^ 63:=by rw [sizeLine_eq]; decide
theorem vals1 {x:V} {us:List Value} (r:Vals [x] us):∃ u,us=[u]/\RelV x u:=by
 cases r with
 | cons r1 r2=>cases r2; exact ⟨_,rfl,r1⟩
theorem vals2 {x y:V} {us:List Value} (r:Vals [x,y] us):∃ u w',us=[u,w']/\RelV x u/\RelV y w':=by
 cases r with
 | cons r1 r2=>
   cases r2 with
   | cons r3 r4=>cases r4; exact ⟨_,_,rfl,r1,r3⟩
theorem nL:dg X (.builtin "abs") (λxs H Q=>∃ i,xs=[.int i]/\Q (.int (if i < 0 then -i else i)) H):=by
 intro pins s σ H xs us Q I r h
 obtain ⟨i,rfl,q⟩:=h
 obtain ⟨u,rfl,t,rfl⟩:=vals1 r
 exact call_abs_int λu tk=>⟨.int (if i < 0 then -i else i),H,I.tok _,⟨_,rfl⟩,q⟩
theorem nj (hc:X.calm=true):dg X (.builtin "max") (λxs H Q=>∃ i j,xs=[.int i,.int j]/\Q (.int (if j > i then j else i)) H):=by
 intro pins s σ H xs us Q I r h
 obtain ⟨i,j,rfl,q⟩:=h
 obtain ⟨u,w',rfl,⟨t,rfl⟩,⟨t',rfl⟩⟩:=vals2 r
 refine max_two_ints (I.ok.hd hc) λh' tk k=>⟨_,H,I.kept k,?_,q⟩
 by_cases hj:j > i
 · rw [if_pos hj,if_pos hj]; exact ⟨_,rfl⟩
 · rw [if_neg hj,if_neg hj]; exact ⟨_,rfl⟩
end
section
variable {prog:Program} {w:World} {A:Around} {E:Value->Shared->Prop} {s:Shared} {K:PySem.W.Frag} {x dx C f:Addr} {mA:Str->Option Value} {name:Str} {v:Value}
end
theorem mU.some_of {v:V} {o:Option Value} (r:mU (some v) o):∃ u,o=some u/\RelV v u:=by
 cases o with
 | none=>exact (show False from r).elim
 | some u=>exact ⟨u,rfl,r⟩
section
variable {P:Program} {w:World} {H H':Hp} {h h':Heap} {a C dx:Addr} {fs fs':List (Str × V)}
end
section
variable {X:Cx} {pins:List (Addr × Obj)} {σ:St} {H:Hp} {s:Shared} {a C dx:Addr} {fs:List (Str × V)} {f:Str} {v:V} {A:Around} {E:Value->Shared->Prop}
end
section
variable {X:Cx} {o e value:Expr} {f:Str} {pos pos' tpos:Pos} {ta tv:TE}
end
section
variable {X:Cx} {pins:List (Addr × Obj)} {σ:St} {H:Hp} {s:Shared} {A:Around} {E:Value->Shared->Prop} {Q:Value->Shared->Prop} {c:Value} {b:Bool}
end
structure cK (k:Nat) (A:Around):Prop where
 hd:A.handled=none
 dp:A.depth + 3 * k + 5 < recursionLimit
 un:A.units + 16 * k + 200 < cLine
theorem cK.mono {j k:Nat} {A:Around} (r:cK k A) (h:j<=k):cK j A:=⟨r.hd,by have:=r.dp; omega,by have:=r.un; omega⟩
theorem cK.deeper {k:Nat} {A:Around} (r:cK (k + 1) A) (env:Env):cK k (A.deeper env):=
 ⟨r.hd,by have:=r.dp; show A.depth + 1 + 3 * k + 5 < _; omega,by have:=r.un; show A.units + 3 + 16 * k + 200 < _; omega⟩
theorem cK.depth {k:Nat} {A:Around} (r:cK k A):A.depth < recursionLimit:=by have:=r.dp; omega
theorem cK.units {k:Nat} {A:Around} (r:cK k A):A.units + 64 < cLine:=by have:=r.un; omega
noncomputable def vG:TA:=λ_ H Q=>Q [] H
noncomputable def u5 (ta:TE) (tr:TA):TA:=λσ H Q=>ta σ H λx H1=>tr σ H1 λxs H2=>Q (x :: xs) H2
section
variable {X:Cx} {e:Expr} {es:List Expr} {te:TE} {t:TA} {pos:Pos}
theorem i0:PA X [] vG:=λ_ _ _ _ H Q I h=>Calls.spliced_nil ⟨[],H,I,.nil,h⟩
theorem d9 (ha:PE X e te) (hr:PA X es t) (hs:starEach (e :: es) X.env=(false,eval e X.env) :: starEach es X.env:=by rfl):PA X (e :: es) (u5 te t):=by
 intro pos pins s σ H Q I h
 rw [hs]
 show wpAny _ _ (spliced ((false,eval e X.env) :: backTo pos (starEach es X.env))) _ _ s
 refine Calls.spliced_cons (thn (ha pins s σ H _ I h) λu s1 ⟨x,H1,I1,r1,q1⟩=>?_)
 exact thn (hr pos pins s1 σ H1 _ I1 q1) λus s2 ⟨xs,H2,I2,r2,q2⟩=>⟨x :: xs,H2,I2,.cons r1 r2,q2⟩
noncomputable def vB (t:TA):TE:=λσ H Q=>t σ H λxs H1=>xs.length<=sizeLine/\∀ p,H1 p=none->Q (.ref p) (upd H1 p (.tup xs))
noncomputable def vW (t:TA):TE:=λσ H Q=>t σ H λxs H1=>xs.length<=sizeLine/\∀ p,H1 p=none->Q (.ref p) (upd H1 p (.lst xs))
theorem rK {x1} (h:PA X es t):PE X (.Tuple es x1 pos) (vB t):=by
 intro pins s σ H Q I hq
 refine wpAny_Tuple_spliced (thn (h pos pins s σ H _ I hq) λus s1 ⟨xs,H1,I1,r,z,q⟩=>⟨by rw [<- r.length]; exact z,?_⟩)
 have hf:H1 s1.heap.objs.size=none:=I1.hok.fresh (Nat.le_refl _)
 refine ⟨.ref s1.heap.objs.size,upd H1 s1.heap.objs.size (.tup xs),I1.laid (t':=s1.toks) (λb u e=>Heap.get?_push_of_some _ e) (Nat.le_refl _) ?_,rfl,q _ hf⟩
 exact ⟨z,us,r,⟨_,Heap.get?_push_size _ rfl,rfl,_,rfl⟩⟩
theorem rp (h:PA X es t):PE X (.List es pos) (vW t):=by
 intro pins s σ H Q I hq
 refine wpAny_List_spliced (thn (h pos pins s σ H _ I hq) λus s1 ⟨xs,H1,I1,r,z,q⟩=>⟨by rw [<- r.length]; exact z,?_⟩)
 have hf:H1 s1.heap.objs.size=none:=I1.hok.fresh (Nat.le_refl _)
 refine ⟨.ref s1.heap.objs.size,upd H1 s1.heap.objs.size (.lst xs),I1.laid (t':=s1.toks) (λb u e=>Heap.get?_push_of_some _ e) (Nat.le_refl _) ?_,rfl,q _ hf⟩
 exact ⟨z,us,0,r,Heap.get?_push_size _ rfl⟩
end
noncomputable abbrev Sp:=List V->Hp->VK->XK->Prop
noncomputable abbrev CXT:=List Env->Hp->Shared->XK->Value->Shared->Prop
structure pN (P:Program) (w:World) (K:PySem.W.Frag) (mg:Str->Option Value) (base:Heap) (A:Around) (outer:List Env) (s:Shared) (H:Hp):Prop where
 frames:A.frames=some outer
 mod:Mod K mg base
 bs:∀ b o,base.get? b=some o->s.heap.get? b=some o/\H b=none
 bsz:base.objs.size<=s.heap.objs.size
 gB:s.heap.FunFrames base outer
 frf:∀ b ∈ frs outer,H b=none
 hok:HOk P w H s.heap
 bare:AllBare s.gens
noncomputable def CE (outer:List Env) (P:Program) (w:World) (H:Hp) (s:Shared) (Q:VK) (u:Value) (s':Shared):Prop:=
 ∃ v H',s'.os=s.os/\AllBare s'.gens/\Un (frs outer) [] H H' s.heap s'.heap/\HOk P w H' s'.heap/\RelV v u/\Q v H'
noncomputable def CR (CX:CXT) (outer:List Env) (P:Program) (w:World) (H:Hp) (s:Shared) (Q:VK) (E:XK) (r:Result) (s':Shared):Prop:=
 match r with
 | .ok (.ret u)=>CE outer P w H s Q u s'
 | .ok _=>False
 | .error e=>CX outer H s E e s'
structure aL (P:Program) (w:World) (K:PySem.W.Frag) (mg:Str->Option Value) (base:Heap) (CX:CXT) (k:Nat) (f:Addr) (fd:FuncData) (ps:List Str) (sp:Sp):Prop where
 len:∀ vs H Q E,sp vs H Q E->vs.length=ps.length
 run:∀ (A:Around) (outer:List Env) (s:Shared) (H:Hp) (args:Args) (us:List Value) (vs:List V) (Q:VK) (E:XK),cK k A->pN P w K mg base A outer s H->BindsTo s fd args (ps.zip us)->Vals vs us->sp vs H Q E ->
   codeAny (model P w) A (.call (.ref f) args) (CR CX outer P w H s Q E) s
theorem aL.mono {P:Program} {w:World} {K:PySem.W.Frag} {mg:Str->Option Value} {base:Heap} {CX:CXT} {j k:Nat} {f:Addr} {fd:FuncData} {ps:List Str} {sp:Sp} (F:aL P w K mg base CX j f fd ps sp) (h:j<=k) :
   aL P w K mg base CX k f fd ps sp:=⟨F.len,λA outer s H args us vs Q E hr=>F.run A outer s H args us vs Q E (hr.mono h)⟩
section
variable {X:Cx} {pins:List (Addr × Obj)} {σ:St} {H:Hp} {s s':Shared}
theorem Inv.vA (I:Inv X pins σ H s):pN X.prog X.w X.K X.mg X.base X.A X.stack s H:=
 ⟨I.ok.frames,I.ok.mod,I.bs,Nat.le_trans I.ok.bsz I.sz,I.stack,I.lM,I.hok,I.bare⟩
theorem Inv.after {Q:VK} {u:Value} (I:Inv X pins σ H s) (h:CE X.stack X.prog X.w H s Q u s'):EP X pins σ Q u s':=by
 obtain ⟨v,H',os,bare,un,hok,r,q⟩:=h
 obtain ⟨hh,g,d,t,os'⟩:=s'
 obtain rfl:os'=s.os:=os
 exact ⟨v,H',I.call (h':=hh) (g':=g) (d':=d) (t':=t) (ch:=[]) un hok bare (λb z=>absurd z (by simp)),r,q⟩
end
noncomputable def vo (sp:Sp) (dvs:List V) (E:XK) (t:TA):TE:=λσ H Q=>t σ H λvs H1=>sp (vs++dvs) H1 Q E
noncomputable def Binds (K:PySem.W.Frag) (fd:FuncData) (ps:List Str) (ds:List Value):Prop:=
 ∀ (s:Shared) (us:List Value),K.In s.heap->(us++ds).length=ps.length->BindsTo s fd ⟨us,[]⟩ (ps.zip (us++ds))
theorem Binds.all {K:PySem.W.Frag} {fd:FuncData} {ps:List Str} (h:∀ us:List Value,us.length=ps.length->bindArgs fd ⟨us,[]⟩=pure (ps.zip us)):Binds K fd ps []:=λs us _ hl=>by
 rw [List.append_nil] at hl ⊢
 exact .of_eq (h us hl)
noncomputable def Passes (CX:CXT) (X:Cx) (E:XK):Prop:=∀ (pins:List (Addr × Obj)) (σ:St) (H:Hp) (s:Shared) (e:Value) (s':Shared),Inv X pins σ H s->CX X.stack H s E e s'->X.xe e s'
section
variable {X:Cx} {CX:CXT} {k:Nat} {f C:Addr} {fd:FuncData} {ps:List Str} {sp:Sp} {dvs:List V} {ds:List Value} {E:XK} {x m:Str} {p pos apos:Pos} {e o:Expr} {es:List Expr} {ta:TE} {t:TA}
theorem sT {pins:List (Addr × Obj)} {σ:St} {H:Hp} {s:Shared} {Q:VK} {us:List Value} {vs:List V} (F:aL X.prog X.w X.K X.mg X.base CX k f fd ps sp) (hr:cK k X.A) (hb:Binds X.K fd ps ds) (hd:Vals dvs ds) (hx:Passes CX X E)
   (I:Inv X pins σ H s) (r:Vals vs us) (h:sp (vs++dvs) H Q E):wpAny (model X.prog X.w) X.A (call (.ref f) us) (EP X pins σ Q) X.xe s:=by
 have r2:Vals (vs++dvs) (us++ds):=r.append hd
 have hl:(us++ds).length=ps.length:=by rw [<- r2.length]; exact F.len _ _ _ _ h
 refine wpAny_call (codeAny_mono (F.run X.A X.stack s H ⟨us,[]⟩ (us++ds) (vs++dvs) Q E hr I.vA (hb s us I.kIn hl) r2 h) λr s' hq=>?_)
 cases r with
 | error e=>exact hx pins σ H s e s' I hq
 | ok fl=>
   cases fl with
   | ret u=>exact I.after hq
   | next=>exact False.elim hq
   | brk=>exact False.elim hq
   | cont=>exact False.elim hq
theorem pF (F:aL X.prog X.w X.K X.mg X.base CX k f fd ps sp) (hr:cK k X.A) (hg:Gl X x) (hm:X.mg x=some (.ref f)) (hk:PySem.W.keepIn X.K (.ref f)=true) (hb:Binds X.K fd ps ds) (hd:Vals dvs ds) (hx:Passes CX X E)
   (ha:PA X (e :: es) t) (hdb:(x == ("__debug__" : Str))=false:=by decide) (he:starEach (e :: es) X.env=(false,eval e X.env) :: starEach es X.env:=by rfl) (hpl:(backTo pos (starEach es X.env)).any (·.1)=false:=by rfl) :
   PE X (.Call (.Name x p) (e :: es) [] pos) (vo sp dvs E t):=by
 intro pins s σ H Q I h
 refine wpAny_Call_Name_kw (lJ I hg hm ?_ hdb)
 refine PySem.W.callWith_K (h₀:=X.base) I.ok.mod.kin hk (thn (ha pos pins s σ H _ I h) λus s1 ⟨vs,H1,I1,r,q⟩=>⟨I1.kIn,?_⟩) he hpl
 exact sT F hr hb hd hx I1 r q
end
section
variable {X:Cx} {CX:CXT} {k:Nat} {f C:Addr} {fd:FuncData} {ps ks:List Str} {sp:Sp} {E:XK} {x m:Str} {p pos apos kpos:Pos} {e o:Expr} {es:List Expr} {kws:List Keyword} {te ta:TE} {t tk:TA} {nm:Option Str}
variable {g:List Value->List Value->List Value} {gV:List V->List V->List V}
end
structure au (N P:List Str) (sc:Scope):Prop where
 kind:sc.kind=.function
 co:sc.isCoroutine=false
 gen:sc.isGenerator=false
 nd:N.Nodup
 pre:N.take P.length=P
 par:∀ x ∈ P,sc.names.lookup x=some .local\/sc.names.lookup x=some .cell
 nofree:∀ y ∈ sc.names,y.2 ≠ .free
theorem iQ {kindOf:Str->Option NameKind} {x:Str}:∀ {binds:List (Str × Value)} {m:Str->Option Value},(∀ v,(x,v) ∉ binds)->bindL kindOf binds m x=m x
 | [],_,_=>rfl
 | (n,v) :: r,m,h=>by
   unfold bindL
   rw [iQ λw hw=>h w (List.mem_cons_of_mem _ hw)]
   split
   · have:x ≠ n:=by rintro rfl; exact h v List.mem_cons_self
     simp [this]
   · rfl
theorem iH {kindOf:Str->Option NameKind} {x:Str}:∀ {binds:List (Str × Value)} {m:Str->Option Value},(∀ v,(x,v) ∉ binds)->bindC kindOf binds m x=m x
 | [],_,_=>rfl
 | (n,v) :: r,m,h=>by
   unfold bindC
   rw [iH λw hw=>h w (List.mem_cons_of_mem _ hw)]
   split
   · rfl
   · have:x ≠ n:=by rintro rfl; exact h v List.mem_cons_self
     simp [this]
theorem iN {kindOf:Str->Option NameKind} {x:Str} {v:Value}:∀ {P:List Str} {vs:List Value} {i:Nat} {m:Str->Option Value},P.Nodup->P[i]?=some x->vs[i]?=some v->kindOf x=some .local ->
   bindL kindOf (P.zip vs) m x=some v
 | [],_,_,_,_,h,_,_=>by simp at h
 | _ :: _,[],_,_,_,_,h,_=>by simp at h
 | p :: P,w :: vs,0,m,nd,h1,h2,hk=>by
   simp at h1 h2; subst h1; subst h2
   show bindL kindOf ((p,w) :: P.zip vs) m p=_
   unfold bindL
   rw [iQ λv hv=>(List.nodup_cons.mp nd).1 (List.of_mem_zip hv).1,if_pos hk]
   simp
 | p :: P,w :: vs,i + 1,m,nd,h1,h2,hk=>by
   show bindL kindOf ((p,w) :: P.zip vs) m x=_
   unfold bindL
   exact iN (i:=i) (List.nodup_cons.mp nd).2 (by simpa using h1) (by simpa using h2) hk
theorem iO {kindOf:Str->Option NameKind} {x:Str} {v:Value}:∀ {P:List Str} {vs:List Value} {i:Nat} {m:Str->Option Value},P.Nodup->P[i]?=some x->vs[i]?=some v->kindOf x ≠ some .local ->
   bindC kindOf (P.zip vs) m x=some v
 | [],_,_,_,_,h,_,_=>by simp at h
 | _ :: _,[],_,_,_,_,h,_=>by simp at h
 | p :: P,w :: vs,0,m,nd,h1,h2,hk=>by
   simp at h1 h2; subst h1; subst h2
   show bindC kindOf ((p,w) :: P.zip vs) m p=_
   unfold bindC
   rw [iH λv hv=>(List.nodup_cons.mp nd).1 (List.of_mem_zip hv).1,if_neg hk]
   simp
 | p :: P,w :: vs,i + 1,m,nd,h1,h2,hk=>by
   show bindC kindOf ((p,w) :: P.zip vs) m x=_
   unfold bindC
   exact iO (i:=i) (List.nodup_cons.mp nd).2 (by simpa using h1) (by simpa using h2) hk
noncomputable def start (N:List Str) (vs:List V):St:=vs.map some++List.replicate (N.length - vs.length) none
noncomputable def kJ (CX:CXT) (P:Program) (w:World) (K:PySem.W.Frag) (mg:Str->Option Value) (base:Heap) (N:List Str) (qual:Str) (scope:Scope) (f:Addr) (cd:Value) (A:Around) (outer:List Env) (s:Shared) (H:Hp) (E:XK):Cx where
 prog:=P
 w:=w
 K:=K
 mg:=mg
 base:=base
 A:=A.deeper (envOfC qual scope s.heap.objs.size f cd)
 N:=N
 s₀:=s
 H₀:=H
 env:=envOfC qual scope s.heap.objs.size f cd
 outer:=outer
 stack:=envOfC qual scope s.heap.objs.size f cd :: outer
 ex:=[]
 calm:=true
 fn:=λ_=>true
 pn:=[]
 xe:=λe s'=>wpAny (model P w) (A.deeper (envOfC qual scope s.heap.objs.size f cd)) (leaving (envOfC qual scope s.heap.objs.size f cd) e) (λ_ s''=>CX outer H s E e s'') (λe' s''=>CX outer H s E e' s'') s'
theorem jB {sc:Scope} {n:Nat} {x:Str} (h:sc.names.lookup x=some .cell):∃ c,(cellsFrom n sc.names []).lookup x=some c:=by
 have q:=PySem.W.cellsFrom_some sc.names n [] (.inl h)
 exact Option.isSome_iff_exists.mp q
theorem mP {CX:CXT} {P:Program} {w:World} {K:PySem.W.Frag} {mg:Str->Option Value} {base:Heap} {N ps:List Str} {qual:Str} {scope:Scope} {f:Addr} {cd:Value} {A:Around} {outer:List Env} {s s1:Shared} {H:Hp} {E:XK} {us:List Value} {vs:List V}
   (S:au N ps scope) (hd:A.handled=none) (e0:pN P w K mg base A outer s H) (hl:vs.length=ps.length) (r:Vals vs us)
   (x:InCallC s s.heap.objs.size (bindL (envOfC qual scope s.heap.objs.size f cd).kindOf (ps.zip us) λ_=>none) (cellsFrom (s.heap.objs.size + 1) scope.names []) (bindC (envOfC qual scope s.heap.objs.size f cd).kindOf (ps.zip us) λ_=>none) s1) :
   Inv (kJ CX P w K mg base N qual scope f cd A outer s H E) [] (start N vs) H s1:=by
 have hpl:ps.length<=N.length:=by have:=congrArg List.length S.pre; rw [List.length_take] at this; omega
 obtain ⟨h1,tk,rfl,hk⟩:=x.done
 have noA:∀ b:Addr,b ∉ (kJ CX P w K mg base N qual scope f cd A outer s H E).ex:=λb z=>absurd (show b ∈ ([]:List Addr) from z) (by simp)
 refine ⟨⟨e0.mod,S.kind,rfl,rfl,Nat.le_refl _,λy z c h1 h2=>?_,λy hy=>?_,λy c _ h=>?_,λ_=>hd,Around.frames_deeper e0.frames,.inr ⟨rfl,rfl⟩,λb z=>absurd z (noA b),e0.bs,e0.bsz,λb _ _=>noA b,λb z=>absurd z (noA b),e0.gB,e0.frf⟩,
   rfl,e0.bare,Un.kept hk,⟨_,x.toInCall.ns,λi y v h1 h2 h3=>?_⟩,λy c h=>⟨_,x.cell y c h⟩,e0.hok.fresh (Nat.le_refl _),λy c h=>?_,λp hp=>absurd (show p ∈ ([]:List (Addr × Obj)) from hp) (by simp),e0.hok.kept hk,?_⟩
 · exact name_of_addr x.apart (PySem.mem_of_lookup h1) (PySem.mem_of_lookup h2)
 · have hy:scope.names.lookup y=some .cell\/scope.names.lookup y=some .free:=hy
   rcases hy with hy | hy
   · exact jB hy
   · exact absurd rfl (S.nofree _ (PySem.mem_of_lookup hy))
 · exact Nat.le_of_lt (x.above y c (PySem.mem_of_lookup h))
 · have hi:i < vs.length:=by
     unfold start at h2
     by_cases hi:i < vs.length
     · exact hi
     · rw [List.getElem?_append_right (by simpa using hi)] at h2
       rw [List.getElem?_replicate] at h2
       split at h2 <;> cases h2
   have ha:vs[i]?=some v:=by
     unfold start at h2
     rw [List.getElem?_append_left (by simpa using hi),List.getElem?_map] at h2
     cases e:vs[i]? with
     | none=>rw [e] at h2; cases h2
     | some a=>rw [e] at h2; cases h2; rfl
   obtain ⟨u,hu,rv⟩:=r.get ha
   have hp:ps[i]?=some y:=by
     rw [<- S.pre,List.getElem?_take_of_lt (by omega)]; exact h1
   have ndP:ps.Nodup:=by rw [<- S.pre]; exact S.nd.sublist (List.take_sublist _ _)
   refine ⟨u,rv,?_⟩
   rcases S.par y (List.mem_of_getElem? hp) with k | k
   · exact .inl ⟨k,iN ndP hp hu k⟩
   · obtain ⟨c,e⟩:=jB (n:=s.heap.objs.size + 1) k
     refine .inr ⟨.inl k,c,e,?_⟩
     have q:=x.cell y c e
     rw [iO ndP hp hu (by show scope.names.lookup y ≠ _; rw [k]; decide)] at q
     exact q
 · exact e0.hok.fresh (Nat.le_of_lt (x.above y c (PySem.mem_of_lookup h)))
 · unfold start
   show _=N.length
   rw [List.length_append,List.length_map,List.length_replicate]
   omega
theorem uc {CX:CXT} {P:Program} {w:World} {K:PySem.W.Frag} {mg:Str->Option Value} {base:Heap} {k:Nat} {f:Addr} {name qual:Str} {params:Arguments} {body:List Stmt} {scope:Scope} {dV kV doc pm cdv ct oc:Value} {an od:Option Addr}
   {osl:Array (Option Value)} {N ps:List Str} {sp:Sp} (lk:K.lookup f=some ⟨oc,od,.func (PySem.W.fnOf name qual params body scope dV kV doc pm an cdv ct),osl⟩) (hcd:PySem.W.codeIn K cdv qual=true) (S:au N ps scope)
   (len:∀ vs H Q E,sp vs H Q E->vs.length=ps.length)
   (hbody:∀ (A:Around) (outer:List Env) (s:Shared) (H:Hp) (vs:List V) (Q:VK) (E:XK),cK k (A.deeper (envOfC qual scope s.heap.objs.size f cdv))->sp vs H Q E ->
     ∃ t,PSs (kJ CX P w K mg base N qual scope f cdv A outer s H E) body t/\t { nx:=λ_ H'=>Q .non H',rt:=Q } (start N vs) H) :
   aL P w K mg base CX (k + 1) f (PySem.W.fnOf name qual params body scope dV kV doc pm an cdv ct) ps sp:=by
 refine ⟨len,λA outer s H args us vs Q E hr e0 hb r hsp=>?_⟩
 have hl:=len _ _ _ _ hsp
 have KX:K.In s.heap:=e0.mod.kin.keeps λb o e=>(e0.bs b o e).1
 have lim:s.heap.NoLimit:=e0.mod.nolimit.keeps λb o e=>(e0.bs b o e).1
 have hkind:∀ y ∈ ps.zip us,scope.names.lookup y.1=some .local\/(scope.names.lookup y.1=some .cell/\((cellsFrom (s.heap.objs.size + 1) scope.names []).lookup y.1).isSome=true):=λ⟨n,v⟩ hy=>by
   rcases S.par n (List.of_mem_zip hy).1 with q | q
   · exact .inl q
   · exact .inr ⟨q,PySem.W.cellsFrom_some _ _ _ (.inl q)⟩
 refine codeAny_call_function hr.depth (KX _ _ lk) rfl S.co S.gen rfl (PySem.W.codeRec_of KX hcd) (hb _ _ _ _ ?_)
 refine wpAny_newFunctionEnv_cells S.kind hkind λenv he s1 x=>?_
 subst he
 refine ⟨lim.keeps x.toInCall.keep,codeAny_func ?_⟩
 obtain ⟨t,ht,hq⟩:=hbody A outer s H vs Q E (hr.deeper _) hsp
 have I:Inv (kJ CX P w K mg base N qual scope f cdv A outer s H E) [] (start N vs) H s1:=mP S hr.hd e0 hl r x
 refine wpAny_mono (ht [] s1 (start N vs) H _ I hq) (λfl s' hs=>?_) λe s' hs=>hs
 have fin:∀ {σ':St} {H':Hp} {v:V} {u:Value},Inv (kJ CX P w K mg base N qual scope f cdv A outer s H E) [] σ' H' s'->RelV v u->Q v H'->CE outer P w H s Q u s':=
   λ{σ' H' v u} J rv q=>⟨v,H',J.os,J.bare,J.base,J.hok,rv,q⟩
 cases fl with
 | ret u=>
   obtain ⟨v,σ',H',J,rv,q⟩:=hs
   exact fin J rv q
 | next=>
   obtain ⟨σ',H',J,q⟩:=hs
   exact fin (v:=V.non) (u:=Value.none) J rfl q
 | brk=>
   obtain ⟨_,_,_,q⟩:=hs
   exact False.elim q
 | cont=>
   obtain ⟨_,_,_,q⟩:=hs
   exact False.elim q
section
variable {X:Cx} {x:Str} {p pos:Pos} {e:Expr} {es:List Expr} {t:TA} {id T:String} {r:List V->Hp->VK->Prop}
noncomputable def tCB (r:List V->Hp->VK->Prop) (t:TA):TE:=λσ H Q=>t σ H λvs H1=>r vs H1 Q
theorem jX (hc:dg X (.builtin id) r) (hg:Gl X x) (hm:X.mg x=none) (hv:bootBuiltins x=some (.builtin id)) (ha:PA X (e :: es) t) (hn:x ≠ "__name__":=by decide) (hdb:(x == ("__debug__" : Str))=false:=by decide)
   (he:starEach (e :: es) X.env=(false,eval e X.env) :: starEach es X.env:=by rfl) (hpl:(backTo pos (starEach es X.env)).any (·.1)=false:=by rfl):PE X (.Call (.Name x p) (e :: es) [] pos) (tCB r t):=by
 intro pins s σ H Q I h
 refine wpAny_Call_Name_kw (cQ I hg hm hv ?_ hn hdb)
 exact PyProof.Rows.callWith_builtin1 (thn (ha pos pins s σ H _ I h) λus s1 ⟨vs,H1,I1,r1,q1⟩=>hc pins s1 σ H1 vs us Q I1 r1 q1) he hpl
theorem m5 (hc:dg X (.type T) r) (hg:Gl X x) (hm:X.mg x=none) (hv:bootBuiltins x=some (.type T)) (ha:PA X (e :: es) t) (hn:x ≠ "__name__":=by decide) (hdb:(x == ("__debug__" : Str))=false:=by decide)
   (he:starEach (e :: es) X.env=(false,eval e X.env) :: starEach es X.env:=by rfl) (hpl:(backTo pos (starEach es X.env)).any (·.1)=false:=by rfl):PE X (.Call (.Name x p) (e :: es) [] pos) (tCB r t):=by
 intro pins s σ H Q I h
 refine wpAny_Call_Name_kw (cQ I hg hm hv ?_ hn hdb)
 exact PyProof.Rows.callWith_type1 (thn (ha pos pins s σ H _ I h) λus s1 ⟨vs,H1,I1,r1,q1⟩=>hc pins s1 σ H1 vs us Q I1 r1 q1) he hpl
end
end L2
namespace HT
open PySem PyProof.Rows
noncomputable def lexLt:List Int->List Int->Bool
 | [],[]=>false
 | [],_ :: _=>true
 | _ :: _,[]=>false
 | x :: xs,y :: ys=>if x=y then lexLt xs ys else decide (x < y)
theorem gM (x y:Int) (xs ys:List Int):lexLt (x :: xs) (y :: ys)=if x=y then lexLt xs ys else decide (x < y):=rfl
theorem dF:lexLt [] []=false:=rfl
theorem gP (y:Int) (ys:List Int):lexLt [] (y :: ys)=true:=rfl
theorem gj (x:Int) (xs:List Int):lexLt (x :: xs) []=false:=rfl
theorem nU (A:Around) (s:Shared) (a:Int) (t:Tok) (c:Int) (u:Tok):∃ e,SeqAt.EqAt A s (.int a t) (.int c u) e/\(e=true ↔ a=c):=
 ⟨(a == c),SeqAt.EqAt.int_int a t c u,by simp⟩
theorem oe (A:Around) (s:Shared) (a:Int) (t:Tok) (c:Int) (u:Tok) (prog:Program) (w:World) (E:Value->Shared->Prop) (Q:Value->Shared->Prop) (h:Q (.bool (decide (a < c))) s) :
   wpAny (model prog w) A (richCompare .Lt (.int a t) (.int c u)) Q E s:=
 (PyProof.Rows.lt_int h:wpAny (model prog w) A (compareOp .Lt (.int a t) (.int c u)) Q E s)
section
open PySem.SeqAt
open PySem.AutoSeq1 (wpAny_loadPart')
open PySem.MeetsSeq PySem.MeetsSeq2 PySem.MeetsSeq3
end
section
variable {prog:Program} {w:World} {A:Around} {E:Value->Shared->Prop} {s:Shared}
theorem pU {t b:Addr} {vs ws:List Value} {Q:Value->Shared->Prop} (ht:IsTup s.heap t vs.toArray) (hb:IsTup s.heap b ws.toArray) (hv:vs ≠ [])
   (h1:ws=[]->Q (.ref t) s) (h2:ws ≠ []->Q (.ref s.heap.objs.size) { s with heap:=s.heap.push { cls:=.type "tuple",data:=.seq (vs++ws).toArray } })
   (hsz:vs.length + ws.length<=sizeLine):wpAny (model prog w) A (binaryOp .Add (.ref t) (.ref b)) Q E s:=by
 obtain ⟨⟨cls,dd,data,sl⟩,ho,hc,n,hd⟩:=id ht
 obtain ⟨⟨cls2,dd2,data2,sl2⟩,ho2,hc2,n2,hd2⟩:=id hb
 simp only at hc hd hc2 hd2
 subst hc hd hc2 hd2
 have e:vs.toArray++ws.toArray=(vs++ws).toArray:=by simp
 by_cases hw:ws=[]
 · exact concat_meets ⟨_,ho,rfl⟩ ⟨_,ho2,rfl⟩ noFill_tuple_add seq_tuple_add PySem.F.slot_tuple_add PySem.F.entry_tuple_add (PySem.F.args_tuple_add_2 _ _)
     (tuple_addW1 t b vs.toArray ws.toArray n n2 dd dd2 sl sl2 (by simpa using hv) (by simp [hw])) ⟨ho,ho2,h1 hw⟩
 · refine concat_meets ⟨_,ho,rfl⟩ ⟨_,ho2,rfl⟩ noFill_tuple_add seq_tuple_add PySem.F.slot_tuple_add PySem.F.entry_tuple_add (PySem.F.args_tuple_add_2 _ _)
     (tuple_addW2 t b vs.toArray ws.toArray n n2 dd dd2 sl sl2 (by simpa using hv) (by simpa using hw) (by rw [List.size_toArray,List.size_toArray]; exact hsz)) ⟨ho,ho2,?_⟩
   rw [e]
   exact h2 hw
noncomputable def sIx (n d:Nat):Option Int->Nat
 | none=>d
 | some v=>if v < 0 then (v + (n:Int)).toNat else min v.toNat n
theorem oH (n d:Nat):sIx n d none=d:=rfl
theorem jj (n d k:Nat):sIx n d (some (k:Int))=min k n:=by
 show (if (k:Int) < 0 then ((k:Int) + (n:Int)).toNat else min (k:Int).toNat n)=min k n
 rw [if_neg (by omega),Int.toNat_natCast]
end
end HT
namespace L2
open PySem PySem.Spec PyProof.Rows
noncomputable abbrev TO:=St->Hp->(Option Int->Hp->Prop)->Prop
noncomputable def PO (X:Cx) (e:Option Expr) (t:TO):Prop:=
 ∀ (pins:List (Addr × Obj)) (s:Shared) (σ:St) (H:Hp) (Q:Option Int->Hp->Prop),Inv X pins σ H s->t σ H Q ->
   wpAny (model X.prog X.w) X.A (evalPart e X.env) (λu s'=>∃ o H',Inv X pins σ H' s'/\IsPart u o/\Q o H') X.xe s
noncomputable def qB:TO:=λ_ H Q=>Q none H
noncomputable def uV (t:TE):TO:=λσ H Q=>t σ H λx H1=>∃ i,x=.int i/\Q (some i) H1
section
variable {X:Cx} {e:Expr} {te:TE} {lo hi:Option Expr} {tl th:TO} {pos p2:Pos}
theorem p9:PO X none qB:=by
 intro pins s σ H Q I h
 rw [evalPart_none]
 exact wpAny_pure ⟨none,H,I,.none,h⟩
theorem p7 (h:PE X e te):PO X (some e) (uV te):=by
 intro pins s σ H Q I hw
 rw [evalPart_some]
 refine thn (h pins s σ H _ I hw) λu s1 ⟨x,H1,I1,r1,q1⟩=>?_
 obtain ⟨i,rfl,q⟩:=q1
 obtain ⟨t,rfl⟩:=r1
 exact ⟨some i,H1,I1,.int i t,q⟩
noncomputable def SlR (X:Cx) (r:V->Option Int->Option Int->Hp->VK->Prop):Prop:=
 ∀ (pins:List (Addr × Obj)) (s:Shared) (σ:St) (H:Hp) (x:V) (v vl vu:Value) (lo hi:Option Int) (sl:Addr) (Q:VK),Inv X pins σ H s->RelV x v->s.heap.IsSliceOf sl vl vu .none->IsPart vl lo->IsPart vu hi->r x lo hi H Q ->
   ∃ T id,typeLookup (.type T) "__getitem__" = pure (some (.builtin id))/\s.TypeIs v T/\wpAny (model X.prog X.w) X.A (getItem v (.ref sl)) (EP X pins σ Q) X.xe s
noncomputable def tSl (r:V->Option Int->Option Int->Hp->VK->Prop) (te:TE) (tl th:TO):TE:=λσ H Q=>te σ H λx H1=>tl σ H1 λl H2=>th σ H2 λu H3=>r x l u H3 Q
theorem nS {r:V->Option Int->Option Int->Hp->VK->Prop} (hr:SlR X r) (he:PE X e te) (hl:PO X lo tl) (hu:PO X hi th):PE X (.Subscript e (.Slice lo hi none p2) pos) (tSl r te tl th):=by
 intro pins s σ H Q I h
 refine Subscript_ (thn (he pins s σ H _ I h) λv s1 ⟨x,H1,I1,r1,q1⟩=>?_)
 refine wpAny_Slice (thn (hl pins s1 σ H1 _ I1 q1) λvl s2 ⟨l,H2,I2,pl,q2⟩=>thn (hu pins s2 σ H2 _ I2 q2) λvu s3 ⟨u,H3,I3,pu,q3⟩=>?_)
 rw [evalPart_none]
 refine wpAny_pure ?_
 have I4:Inv X pins σ H3 { s3 with heap:=s3.heap.push { cls:=.type "slice",data:=.fields #[vl,vu,.none] } }:=I3.kept (t':=s3.toks) λb ob q=>Heap.get?_push_of_some _ q
 obtain ⟨T,id,hT,ht,hg⟩:=hr pins { s3 with heap:=s3.heap.push { cls:=.type "slice",data:=.fields #[vl,vu,.none] } } σ H3 x v vl vu l u s3.heap.objs.size Q I4 r1 (Heap.IsSliceOf.new ..) pl pu q3
 show wpAny (model X.prog X.w) X.A (subscriptTail e (.Slice lo hi none p2) v (.ref s3.heap.objs.size)) (EP X pins σ Q) X.xe { s3 with heap:=s3.heap.push { cls:=.type "slice",data:=.fields #[vl,vu,.none] } }
 exact tail_any (ops:=[.ref s3.heap.objs.size,v]) ht hT hg (by with_unfolding_all rfl)
noncomputable def m9 (xs:List V) (lo hi:Option Int):List V:=(xs.drop (HT.sIx xs.length 0 lo)).take (HT.sIx xs.length xs.length hi - HT.sIx xs.length 0 lo)
theorem km (xs:List V) (lo hi:Option Int):(m9 xs lo hi).length<=xs.length:=by
 unfold m9
 rw [List.length_take,List.length_drop]
 omega
noncomputable def uW (K:PySem.W.Frag):R2:=λx y H Q=>∃ a b xs ys,x=.ref a/\y=.ref b/\SqT K H a xs/\SqT K H b ys/\xs ≠ []/\xs.length + ys.length<=sizeLine /\
 (ys=[]->Q (.ref a) H)/\(ys ≠ []->∀ p,H p=none->Q (.ref p) (upd H p (.tup (xs++ys))))
theorem Vals.jo {xs:List V} {us:List Value} (r:Vals xs us):us=[] ↔ xs=[]:=by
 cases r with
 | nil=>simp
 | cons _ _=>simp
theorem pz:OpR X (binaryOp .Add) (uW X.K):=by
 intro pins s σ H x y v u Q I rx ry h
 obtain ⟨a,b,xs,ys,rfl,rfl,ha,hb,hx,hz,q1,q2⟩:=h
 cases rx
 cases ry
 obtain ⟨its,r1,p1,_⟩:=I.tuple ha
 obtain ⟨its2,r2,p2,_⟩:=I.tuple hb
 refine HT.pU p1 p2 (λz=>hx (r1.jo.mp z)) (λz=>⟨.ref a,H,I,rfl,q1 (r2.jo.mp z)⟩) (λz=>?_) (by rw [<- r1.length,<- r2.length]; exact hz)
 refine ⟨.ref s.heap.objs.size,_,I.laid (t':=s.toks) (o:=.tup (xs++ys)) (λb ob q=>Heap.get?_push_of_some _ q) (Nat.le_refl _) ?_,rfl,q2 (λw=>z (r2.jo.mpr w)) _ (I.hok.fresh (Nat.le_refl _))⟩
 exact ⟨by rw [List.length_append]; exact hz,_,r1.append r2,IsTup.new _ _⟩
end
noncomputable def ixN (n:Nat) (i:Int):Option Nat:=if 0<=i then (if i < n then some i.toNat else none) else if -(n:Int)<=i then some (i + n).toNat else none
noncomputable def atI {α:Type} (xs:List α) (i:Int):Option α:=(ixN xs.length i).bind λj=>xs[j]?
theorem lN {n:Nat} {i:Int} {j:Nat} (h:ixN n i=some j):seqIndex? i n=some j/\j < n/\-(n:Int)<=i/\i < n:=by
 unfold ixN at h
 by_cases h0:0<=i
 · rw [if_pos h0] at h
   by_cases h1:i < n
   · rw [if_pos h1] at h
     have e:i.toNat=j:=Option.some.inj h
     exact ⟨by rw [seqIndex_of h0 h1,e],by omega,by omega,h1⟩
   · rw [if_neg h1] at h; cases h
 · rw [if_neg h0] at h
   by_cases h1:-(n:Int)<=i
   · rw [if_pos h1] at h
     have e:(i + n).toNat=j:=Option.some.inj h
     exact ⟨by rw [seqIndex_neg (by omega) h1,e],by omega,h1,by omega⟩
   · rw [if_neg h1] at h; cases h
theorem lF {α:Type} {xs:List α} {i:Int} {v:α} (h:atI xs i=some v):∃ j,seqIndex? i xs.length=some j/\xs[j]?=some v/\j < xs.length/\-(xs.length:Int)<=i/\i < xs.length:=by
 unfold atI at h
 cases e:ixN xs.length i with
 | none=>rw [e] at h; cases h
 | some j=>
   rw [e] at h
   obtain ⟨h1,h2,h3,h4⟩:=lN e
   exact ⟨j,h1,h,h2,h3,h4⟩
noncomputable def iS (b:Expr):Prop:=∀ o i,subscripted b false o i=operate [o,i] (getItem o i)
noncomputable def IxR (X:Cx) (r:R2):Prop:=
 ∀ (value slice:Expr) (pins:List (Addr × Obj)) (s:Shared) (σ:St) (H:Hp) (x y:V) (v u:Value) (Q:VK),Inv X pins σ H s->RelV x v->RelV y u->r x y H Q ->
   subscripted slice false v u=operate [v,u] (getItem v u)->wpAny (model X.prog X.w) X.A (subscriptTail value slice v u) (EP X pins σ Q) X.xe s
noncomputable def MtR (X:Cx) (id:String) (r:V->List V->Hp->VK->Prop):Prop:=
 ∀ (pins:List (Addr × Obj)) (s:Shared) (σ:St) (H:Hp) (x:V) (xs:List V) (v:Value) (us:List Value) (Q:VK),Inv X pins σ H s->RelV x v->Vals xs us->r x xs H Q ->
   wpAny (model X.prog X.w) X.A (call (.builtin id) (v :: us)) (EP X pins σ Q) X.xe s
section
variable {X:Cx} {a b:Expr} {ta tb:TE} {pos:Pos}
theorem rm {r:R2} (hr:IxR X r) (ha:PE X a ta) (hb:PE X b tb) (hs:iS b):PE X (.Subscript a b pos) (tOp r ta tb):=by
 intro pins s σ H Q I h
 exact Subscript_ (sX ha hb I h λv u s2 x y H2 I2 rx ry q=>hr a b pins s2 σ H2 x y v u Q I2 rx ry q (hs _ _))
noncomputable def vQ (K:PySem.W.Frag):R2:=λx y H Q=>∃ p xs i v,x=.ref p/\y=.int i/\SqL K H p xs/\atI xs i=some v/\Q v H
noncomputable def vY (K:PySem.W.Frag):R2:=λx y H Q=>∃ p xs i v,x=.ref p/\y=.int i/\SqT K H p xs/\atI xs i=some v/\Q v H
theorem lK:IxR X (vQ X.K):=by
 intro value slice pins s σ H x y v u Q I rx ry h hs
 obtain ⟨p,xs,i,z,rfl,rfl,hq,he,q⟩:=h
 cases rx
 obtain ⟨t,rfl⟩:=ry
 obtain ⟨its,r,pl,hz⟩:=I.list hq
 obtain ⟨j,h1,h2,h3,h4,h5⟩:=lF he
 obtain ⟨w,ew,rw'⟩:=r.get h2
 have hl:=r.length
 have hn:=iY
 have fin:EP X pins σ Q w s:=⟨z,H,I,rw',q⟩
 by_cases h0:0<=i
 · have hj:i.toNat=j:=by
     rw [seqIndex_of h0 h5] at h1
     exact Option.some.inj h1
   exact item_listR pl.isList h0 (by omega) (by rw [hj]; simpa using ew) fin hs
 · have hj:(i + (its.toArray.size:Int)).toNat=j:=by
     rw [seqIndex_neg (by omega) h4] at h1
     rw [List.size_toArray,<- hl]
     exact Option.some.inj h1
   exact subscriptTail_builtinR (x:=w) pl.isList.typeIs slot_list_getitem.lookup
     (wpAny_getItem_list_neg (Q:=λr s'=>r=w/\EP X pins σ Q r s') pl.isList (by omega) (by rw [List.size_toArray] <;> omega) (by omega) (by rw [hj]; simpa using ew) ⟨rfl,fin⟩) hs
theorem sC:IxR X (vY X.K):=by
 intro value slice pins s σ H x y v u Q I rx ry h hs
 obtain ⟨p,xs,i,z,rfl,rfl,hq,he,q⟩:=h
 cases rx
 obtain ⟨t,rfl⟩:=ry
 obtain ⟨its,r,pl,hz⟩:=I.tuple hq
 obtain ⟨j,h1,h2,h3,h4,h5⟩:=lF he
 obtain ⟨w,ew,rw'⟩:=r.get h2
 have hl:=r.length
 have hn:=iY
 have fin:EP X pins σ Q w s:=⟨z,H,I,rw',q⟩
 exact subscriptTail_builtinR (x:=w) pl.typeIs slot_tuple_getitem.lookup
   (getItem_tuple (j:=j) (Q:=λr s'=>r=w/\EP X pins σ Q r s') pl (by omega) (by omega) (by rw [List.size_toArray,<- hl]; exact h1) (by simpa using ew) ⟨rfl,fin⟩) hs
theorem kY (its:List Value) (n j:Nat) (u:Value):Obj.mapSeq (·.setIfInBounds j u) { cls:=.type "list",data:=.seq its.toArray n }={ cls:=.type "list",data:=.seq (its.set j u).toArray n }:=by
 simp [Obj.mapSeq]
theorem Inv.lst {pins:List (Addr × Obj)} {σ:St} {H:Hp} {s:Shared} {p:Addr} {xs:List V} (I:Inv X pins σ H s) (h:H p=some (.lst xs)) :
   ∃ (its:List Value) (n:Nat),Vals xs its/\s.heap.get? p=some { cls:=.type "list",data:=.seq its.toArray n }/\xs.length<=sizeLine:=by
 obtain ⟨z,its,n,r,e⟩:=I.hok p _ h
 exact ⟨its,n,r,e,z⟩
theorem Inv.tJ {pins:List (Addr × Obj)} {σ:St} {H:Hp} {s:Shared} {p:Addr} {xs ys:List V} {its its':List Value} {n n':Nat} {f:Obj->Obj} (I:Inv X pins σ H s) (h:H p=some (.lst xs))
   (ho:s.heap.get? p=some { cls:=.type "list",data:=.seq its.toArray n }) (hf:f { cls:=.type "list",data:=.seq its.toArray n }={ cls:=.type "list",data:=.seq its'.toArray n' }) (r:Vals ys its') (hz:ys.length<=sizeLine) (t:Nat) :
   Inv X pins σ (upd H p (.lst ys)) { s with heap:=s.heap.update p f,toks:=t }:=by
 have e:(s.heap.update p f).get? p=some { cls:=.type "list",data:=.seq its'.toArray n' }:=by
   rw [Heap.get?_update_self f ho (by rw [hf] <;> rfl),hf]
 refine I.write (x:=p) (e:=p) (by rw [h]; trivial) (.inl rfl) (λb u hb q=>(Heap.get?_update_other _ _ (Ne.symm hb)).trans q) ⟨_,e⟩ ?_
 exact ⟨hz,its',n',r,e⟩
noncomputable def tV:V->V->V->Hp->(Hp->Prop)->Prop:=λo i v H Q=>∃ p xs k j,o=.ref p/\i=.int k/\H p=some (.lst xs)/\ixN xs.length k=some j/\Q (upd H p (.lst (xs.set j v)))
theorem set_list:uo X tV:=by
 intro pins s σ H o i v ov iv u Q I ro ri rv h
 obtain ⟨p,xs,k,j,rfl,rfl,hp,hj,q⟩:=h
 cases ro
 obtain ⟨t,rfl⟩:=ri
 obtain ⟨its,n,r,ho,hz⟩:=I.lst hp
 obtain ⟨h1,h2,h3,h4⟩:=lN hj
 have hl:=r.length
 have hn:=iY
 have I':Inv X pins σ (upd H p (.lst (xs.set j v))) { s with heap:=s.heap.update p (Obj.mapSeq (·.setIfInBounds j u)) }:=
   I.tJ hp ho (kY its n j u) (r.set rv j) (by rw [List.length_set]; exact hz) s.toks
 by_cases h0:0<=k
 · have hk:k.toNat=j:=by
     rw [seqIndex_of h0 h4] at h1
     exact Option.some.inj h1
   exact PySem.W.ki_setAt ho h0 (by omega) (by rw [List.size_toArray,<- hl]; exact h4) (by rw [hk]; exact ⟨_,I',q⟩)
 · have hk:(k + (its.toArray.size:Int)).toNat=j:=by
     rw [seqIndex_neg (by omega) h3] at h1
     rw [List.size_toArray,<- hl]
     exact Option.some.inj h1
   exact PySem.W.ki_setBack ho (by omega) (by rw [List.size_toArray,<- hl]; exact h3) (by omega) (by rw [hk]; exact ⟨_,I',q⟩)
theorem iV (lo hi:Option Int) (n:Nat):(sliceBounds lo hi none n).1=((HT.sIx n 0 lo:Nat):Int)/\(sliceBounds lo hi none n).2.1=((HT.sIx n n hi:Nat):Int)/\(sliceBounds lo hi none n).2.2=1:=by
 refine ⟨?_,?_,rfl⟩
 · cases lo with
   | none=>simp [sliceBounds,HT.sIx]
   | some i=>
     simp only [sliceBounds,HT.sIx,Option.getD_none,show (1:Int) > 0 by decide,if_true]
     by_cases h:i < 0
     · simp only [h,if_true] <;> omega
     · simp only [h,if_false] <;> omega
 · cases hi with
   | none=>simp [sliceBounds,HT.sIx]
   | some i=>
     simp only [sliceBounds,HT.sIx,Option.getD_none,show (1:Int) > 0 by decide,if_true]
     by_cases h:i < 0
     · simp only [h,if_true] <;> omega
     · simp only [h,if_false] <;> omega
theorem iu (its:List Value) (lo hi:Option Int):slicePick its.toArray lo hi none=((its.drop (HT.sIx its.length 0 lo)).take (HT.sIx its.length its.length hi - HT.sIx its.length 0 lo)).toArray:=by
 obtain ⟨h1,h2,h3⟩:=iV lo hi its.toArray.size
 unfold slicePick
 rw [h1,h2,h3]
 simp only [sliceRange_one,pick_run,List.size_toArray] <;> rfl
noncomputable def vC (K:PySem.W.Frag):V->Option Int->Option Int->Hp->VK->Prop:=λx lo hi H Q=>∃ a xs,x=.ref a/\SqL K H a xs/\∀ p,H p=none->Q (.ref p) (upd H p (.lst (m9 xs lo hi)))
theorem pv:SlR X (vC X.K):=by
 intro pins s σ H x v vl vu lo hi sl Q I rx hs pl pu h
 obtain ⟨a,xs,rfl,hx,q⟩:=h
 cases rx
 obtain ⟨its,r,ht,hz⟩:=I.list hx
 have hlen:=r.length
 refine ⟨"list",_,slot_list_getitem.lookup,ht.isList.typeIs,?_⟩
 refine wpAny_getItem_list_slice ht.isList hs pl pu .none (by simp) ?_ (by rw [List.size_toArray] <;> omega)
 rw [iu,<- hlen]
 refine ⟨.ref s.heap.objs.size,_,I.laid (t':=s.toks) (o:=.lst (m9 xs lo hi)) (λb ob q=>Heap.get?_push_of_some _ q) (Nat.le_refl _) ?_,rfl,q _ (I.hok.fresh (Nat.le_refl _))⟩
 exact ⟨Nat.le_trans (km xs lo hi) hz,_,0,(r.drop (HT.sIx xs.length 0 lo)).take (HT.sIx xs.length xs.length hi - HT.sIx xs.length 0 lo),Heap.get?_push_size _ rfl⟩
noncomputable def fH:V->Bool
 | .non=>true
 | .bl _=>true
 | .int _=>true
 | .str _=>true
 | _=>false
noncomputable def eqV:V->V->Bool
 | .non,.non=>true
 | .bl a,.bl b=>a == b
 | .bl a,.int b=>(if a then 1 else 0) == b
 | .int a,.bl b=>a == (if b then 1 else 0)
 | .int a,.int b=>a == b
 | .str a,.str b=>a == b
 | _,_=>false
theorem tN {A:Around} {s:Shared} {y x:V} {u v:Value} (ry:RelV y u) (rx:RelV x v) (fy:fH y=true) (fx:fH x=true):SeqAt.EqAt A s u v (eqV y x):=by
 cases y with
 | non=>
   cases ry
   cases x with
   | non=>cases rx; exact SeqAt.EqAt.same _
   | bl b=>cases rx; exact SeqAt.EqAt.none_bool b
   | int b=>obtain ⟨t,rfl⟩:=rx; exact SeqAt.EqAt.none_int b t
   | str b=>obtain ⟨t,rfl⟩:=rx; exact SeqAt.EqAt.none_str b t
   | _=>exact absurd (show false=true from fx) Bool.false_ne_true
 | bl a=>
   cases ry
   cases x with
   | non=>cases rx; exact SeqAt.EqAt.bool_none a
   | bl b=>cases rx; exact SeqAt.EqAt.bool_bool a b
   | int b=>obtain ⟨t,rfl⟩:=rx; exact SeqAt.EqAt.bool_int a b t
   | str b=>obtain ⟨t,rfl⟩:=rx; exact SeqAt.EqAt.bool_str a b t
   | _=>exact absurd (show false=true from fx) Bool.false_ne_true
 | int a=>
   obtain ⟨t',rfl⟩:=ry
   cases x with
   | non=>cases rx; exact SeqAt.EqAt.int_none a t'
   | bl b=>cases rx; exact SeqAt.EqAt.int_bool a t' b
   | int b=>obtain ⟨t,rfl⟩:=rx; exact SeqAt.EqAt.int_int a t' b t
   | str b=>obtain ⟨t,rfl⟩:=rx; exact SeqAt.EqAt.int_str a t' b t
   | _=>exact absurd (show false=true from fx) Bool.false_ne_true
 | str a=>
   obtain ⟨t',rfl⟩:=ry
   cases x with
   | non=>cases rx; exact SeqAt.EqAt.str_none a t'
   | bl b=>cases rx; exact SeqAt.EqAt.str_bool a t' b
   | int b=>obtain ⟨t,rfl⟩:=rx; exact SeqAt.EqAt.str_int a t' b t
   | str b=>obtain ⟨t,rfl⟩:=rx; exact SeqAt.EqAt.str_str a t' b t
   | _=>exact absurd (show false=true from fx) Bool.false_ne_true
 | _=>exact absurd (show false=true from fy) Bool.false_ne_true
noncomputable def eqU (x:V) (u:Value):Bool:=match u with
 | .none=>eqV .non x
 | .bool b=>eqV (.bl b) x
 | .int i _=>eqV (.int i) x
 | .str z _=>eqV (.str z) x
 | _=>false
theorem oy {x y:V} {u:Value} (r:RelV y u) (f:fH y=true):eqU x u=eqV y x:=by
 cases y with
 | non=>cases r; rfl
 | bl b=>cases r; rfl
 | int i=>obtain ⟨t,rfl⟩:=r; rfl
 | str z=>obtain ⟨t,rfl⟩:=r; rfl
 | _=>exact absurd (show false=true from f) Bool.false_ne_true
theorem en {x:V}:∀ {xs:List V} {us:List Value},Vals xs us->xs.all fH=true->us.any (eqU x)=xs.any λy=>eqV y x
 | _,_,.nil,_=>rfl
 | y :: xs,u :: us,.cons r t,f=>by
   rw [List.all_cons,Bool.and_eq_true] at f
   rw [List.any_cons,List.any_cons,oy r f.1,en t f.2]
theorem cW {A:Around} {s:Shared} {x:V} {v:Value} (rx:RelV x v) (fx:fH x=true):∀ {xs:List V} {us:List Value},Vals xs us->xs.all fH=true->∀ u ∈ us,SeqAt.EqAt A s u v (eqU x u)
 | _,_,.nil,_=>λu hu=>by cases hu
 | y :: xs,u :: us,.cons r t,f=>λu' hu=>by
   rw [List.all_cons,Bool.and_eq_true] at f
   rcases List.mem_cons.mp hu with rfl | hu
   · rw [oy r f.1]; exact tN r rx f.1 fx
   · exact cW rx fx t f.2 u' hu
noncomputable def inV (x:V) (xs:List V):Bool:=xs.any λy=>eqV y x
noncomputable def rIn (K:PySem.W.Frag) (neg:Bool):R2:=λx y H Q=>∃ p xs,y=.ref p/\(SqL K H p xs\/SqT K H p xs)/\fH x=true/\xs.all fH=true/\Q (.bl (if neg then !inV x xs else inV x xs)) H
theorem eZ:OpR X (compareOp .In) (rIn X.K false):=by
 intro pins s σ H x y v u Q I rx ry h
 obtain ⟨p,xs,rfl,hq,fx,fs,q⟩:=h
 cases ry
 rcases hq with hq | hq
 · obtain ⟨its,r,pl,hz⟩:=I.list hq
   refine SeqAt.in_listAt (eqU x) pl.isList (λw hw=>cW rx fx r fs w (by simpa using hw)) ⟨.bl _,H,I,rfl,?_⟩
   rw [show its.toArray.any (eqU x)=its.any (eqU x) by simp,en r fs]
   exact q
 · obtain ⟨its,r,pl,hz⟩:=I.tuple hq
   refine SeqAt.in_tupleAt (eqU x) pl (λw hw=>cW rx fx r fs w (by simpa using hw)) ⟨.bl _,H,I,rfl,?_⟩
   rw [show its.toArray.any (eqU x)=its.any (eqU x) by simp,en r fs]
   exact q
theorem jd:OpR X (compareOp .NotIn) (rIn X.K true):=by
 intro pins s σ H x y v u Q I rx ry h
 obtain ⟨p,xs,rfl,hq,fx,fs,q⟩:=h
 cases ry
 rcases hq with hq | hq
 · obtain ⟨its,r,pl,hz⟩:=I.list hq
   refine SeqAt.notIn_listAt (eqU x) pl.isList (λw hw=>cW rx fx r fs w (by simpa using hw)) ⟨.bl _,H,I,rfl,?_⟩
   rw [show its.toArray.any (eqU x)=its.any (eqU x) by simp,en r fs]
   exact q
 · obtain ⟨its,r,pl,hz⟩:=I.tuple hq
   refine SeqAt.notIn_tupleAt (eqU x) pl (λw hw=>cW rx fx r fs w (by simpa using hw)) ⟨.bl _,H,I,rfl,?_⟩
   rw [show its.toArray.any (eqU x)=its.any (eqU x) by simp,en r fs]
   exact q
theorem eE:dg X (.builtin "len") (λxs H Q=>∃ p ys,xs=[.ref p]/\(SqL X.K H p ys\/SqT X.K H p ys)/\Q (.int ys.length) H):=by
 intro pins s σ H xs us Q I r h
 obtain ⟨p,ys,rfl,hq,q⟩:=h
 obtain ⟨u,rfl,rx⟩:=vals1 r
 cases rx
 have hn:=iY
 rcases hq with hq | hq
 · obtain ⟨its,r',pl,hz⟩:=I.list hq
   have hlen:=r'.length
   exact Calls.call_len_list pl.isList (by simp only [List.size_toArray] <;> omega) ⟨.int ys.length,H,I.tok _,⟨s.toks + 1,by rw [List.size_toArray,hlen]⟩,q⟩
 · obtain ⟨its,r',pl,hz⟩:=I.tuple hq
   have hlen:=r'.length
   exact len_tuple pl (by simp only [List.size_toArray] <;> omega) ⟨.int ys.length,H,I.tok _,⟨s.toks + 1,by rw [List.size_toArray,hlen]⟩,q⟩
theorem gZ:dg X (.type "tuple") (λxs H Q=>∃ p ys,xs=[.ref p]/\((SqL X.K H p ys/\∀ l,H l=none->Q (.ref l) (upd H l (.tup ys)))\/(SqT X.K H p ys/\Q (.ref p) H))):=by
 intro pins s σ H xs us Q I r h
 obtain ⟨p,ys,rfl,h⟩:=h
 obtain ⟨u,rfl,rx⟩:=vals1 r
 cases rx
 rcases h with ⟨hq,q⟩ | ⟨hq,q⟩
 · obtain ⟨its,r',pl,hz⟩:=I.list hq
   have hlen:=r'.length
   refine call_tuple_list pl.isList (λh' kp=>?_) (by simp only [List.size_toArray] <;> omega)
   have I1:Inv X pins σ H { s with heap:=h' }:=I.kept (t':=s.toks) kp
   have I2:Inv X pins σ (upd H h'.objs.size (.tup ys)) { s with heap:=h'.push { cls:=.type "tuple",data:=.seq its.toArray } }:=
     I1.laid (t':=s.toks) (λb o e=>Heap.get?_push_of_some _ e) (Nat.le_refl _) (show bu X.prog X.w _ _ _ (.tup ys) from ⟨hz,its,r',IsTup.new _ _⟩)
   exact ⟨.ref h'.objs.size,_,I2,rfl,q _ (I1.hok.fresh (Nat.le_refl _))⟩
 · obtain ⟨its,r',pl,hz⟩:=I.tuple hq
   exact call_tuple_same pl ⟨.ref p,H,I,rfl,q⟩
noncomputable def tyV (K:PySem.W.Frag) (T:String) (x:V) (H:Hp):Prop:=match x with
 | .str _=>T = "str"
 | .int _=>T = "int"
 | .ref p=>(T = "list" /\ ∃ xs,SqL K H p xs)\/(T = "tuple" /\ ∃ o,K.lookup p=some o/\o.cls=.type "tuple" /\ o.dict=none) \/
     (T = "dict" /\ ((∃ kvs,H p=some (.dK kvs))\/∃ kvs,H p=some (.dT kvs)))\/(T = "set" /\ ∃ S n,H p=some (.set S n))
 | _=>False
theorem og {pins:List (Addr × Obj)} {σ:St} {H:Hp} {s:Shared} {T:String} {x:V} {v:Value} (I:Inv X pins σ H s) (r:RelV x v) (ty:tyV X.K T x H) :
   s.TypeIs v T/\∀ a,v=.ref a->∃ ob,s.heap.get? a=some ob/\ob.dict=none:=by
 cases x with
 | str z=>
   obtain ⟨t,rfl⟩:=r
   cases (show T = "str" from ty)
   exact ⟨typeIs_str s z t,λ_ e=>nomatch e⟩
 | int i=>
   obtain ⟨t,rfl⟩:=r
   cases (show T = "int" from ty)
   exact ⟨typeIs_int s i t,λ_ e=>nomatch e⟩
 | ref p=>
   cases r
   rcases ty with ⟨rfl,xs,hq⟩ | ⟨rfl,o,hk,hc,hd⟩ | ⟨rfl,hk⟩ | ⟨rfl,S,n,hk⟩
   · obtain ⟨its,_,pl,_⟩:=I.list hq
     refine ⟨pl.isList.typeIs,λa e=>?_⟩
     cases e
     obtain ⟨o,n,e,c,hd,_⟩:=pl
     exact ⟨o,e,hd⟩
   · refine ⟨⟨o,I.kIn p o hk,hc⟩,λa e=>?_⟩
     cases e
     exact ⟨o,I.kIn _ o hk,hd⟩
   · have z:∃ o,s.heap.get? p=some o/\o.ExactDict:=by
       rcases hk with ⟨kvs,hk⟩ | ⟨kvs,hk⟩
       · obtain ⟨_,_,_,_,o,_,_,e,ex,_⟩:=I.hok p _ hk
         exact ⟨o,e,ex⟩
       · obtain ⟨_,_,_,_,o,_,_,e,ex,_⟩:=I.hok p _ hk
         exact ⟨o,e,ex⟩
     obtain ⟨o,e,ex⟩:=z
     refine ⟨⟨o,e,ex.1⟩,λa e2=>?_⟩
     cases e2
     exact ⟨o,e,ex.2.1⟩
   · obtain ⟨o,_,_,_,e,ex,_⟩:=I.hok p _ hk
     refine ⟨⟨o,e,ex.1⟩,λa e2=>?_⟩
     cases e2
     exact ⟨o,e,ex.2.1⟩
 | _=>exact False.elim ty
noncomputable def vV (K:PySem.W.Frag) (T:String) (r:V->List V->Hp->VK->Prop) (to:TE):TE:=λσ H Q=>to σ H λx H1=>tyV K T x H1/\r x [] H1 Q
noncomputable def tBM (K:PySem.W.Frag) (T:String) (r:V->List V->Hp->VK->Prop) (to:TE) (t:TA):TE:=λσ H Q=>to σ H λx H1=>tyV K T x H1/\t σ H1 λxs H2=>r x xs H2 Q
variable {o e:Expr} {es:List Expr} {to:TE} {t:TA} {name:Str} {apos cpos:Pos} {T id:String} {r:V->List V->Hp->VK->Prop}
theorem tH (pa:PlainAttrs T) (slot:Slot T name id) (hty:typeOf (.builtin id)=pure (.type "method_descriptor")) (hm:MtR X id r) (ho:PE X o to)
   (hbase:attributeBase o name X.env (eval o X.env)=eval o X.env:=by rfl) (hline:(apos.endLine == cpos.line)=true:=by rfl):PE X (.Call (.Attribute o name apos) [] [] cpos) (vV X.K T r to):=by
 intro pins s σ H Q I h
 refine wpAny_Call_method0_late hbase hline (thn (ho pins s σ H _ I h) λv s1 ⟨x,H1,I1,r1,ty,q1⟩=>?_)
 obtain ⟨h1,h2⟩:=og I1 r1 ty
 exact ⟨T,id,pa,slot,hty,h1,h2,Calls.callWith_builtin rfl (PySem.evalArgs_none (hm pins s1 σ H1 x [] v [] Q I1 r1 .nil q1))⟩
theorem qU (pa:PlainAttrs T) (slot:Slot T name id) (hty:typeOf (.builtin id)=pure (.type "method_descriptor")) (hm:MtR X id r) (ho:PE X o to) (ha:PA X (e :: es) t)
   (hbase:attributeBase o name X.env (eval o X.env)=eval o X.env:=by rfl)
   (hfew:((backTo cpos (starEach (e :: es) X.env)).all (λx=>!x.1) && (backToKw cpos (keywordEach [] X.env)).all (λx=>x.1.isSome)
     && decide ((e :: es).length + ([]:List Keyword).length + (if ([]:List Keyword).isEmpty then 0 else 1) < 30))=true:=by rfl)
   (hline:(apos.endLine == cpos.line)=true:=by rfl) (hs:starEach (e :: es) X.env=(false,eval e X.env) :: starEach es X.env:=by rfl) (hplain:(backTo cpos (starEach es X.env)).any (·.1)=false:=by rfl) :
   PE X (.Call (.Attribute o name apos) (e :: es) [] cpos) (tBM X.K T r to t):=by
 intro pins s σ H Q I h
 refine wpAny_Call_method_late hbase hfew hline rfl (thn (ho pins s σ H _ I h) λv s1 ⟨x,H1,I1,r1,ty,q1⟩=>?_)
 obtain ⟨h1,h2⟩:=og I1 r1 ty
 refine ⟨T,id,pa,slot,hty,h1,h2,?_⟩
 have hA:=ha cpos pins s1 σ H1 _ I1 q1
 rw [hs] at hA ⊢
 refine Calls.callWith_builtin (by show (false || (backTo cpos (starEach es X.env)).any (·.1))=false; rw [hplain] <;> rfl) (Calls.evalArgs_plain ?_)
 exact thn hA λus s2 ⟨vs,H2,I2,r2,q2⟩=>hm pins s2 σ H2 x vs v us Q I2 r1 r2 q2
end
noncomputable def MtM (X:Cx) (id:String) (r:V->List V->Hp->VK->Prop):Prop:=
 ∀ (pins:List (Addr × Obj)) (s:Shared) (σ:St) (H:Hp) (x:V) (xs:List V) (v:Value) (us:List Value) (Q:VK),Inv X pins σ H s->RelV x v->Vals xs us->r x xs H Q ->
   wpAny (model X.prog X.w) X.A (call (.builtin id) (v :: us)) (EP X pins σ Q) X.xe s
theorem Vals.one:∀ {x:V} {us:List Value},Vals [x] us->∃ u,us=[u]/\RelV x u
 | _,_,.cons r .nil=>⟨_,rfl,r⟩
theorem Vals.two:∀ {x y:V} {us:List Value},Vals [x,y] us->∃ u v,us=[u,v]/\RelV x u/\RelV y v
 | _,_,_,.cons r (.cons q .nil)=>⟨_,_,rfl,r,q⟩
theorem Vals.zero:∀ {us:List Value},Vals [] us->us=[]
 | _,.nil=>rfl
theorem Vals.reverse {xs:List V} {us:List Value} (h:Vals xs us):Vals xs.reverse us.reverse:=by
 induction h with
 | nil=>exact .nil
 | cons r t ih=>rw [List.reverse_cons,List.reverse_cons]; exact Vals.append ih (.cons r .nil)
theorem Vals.rep {xs:List V} {us:List Value} (h:Vals xs us):∀ k:Nat,Vals (List.replicate k xs).flatten (List.replicate k us).flatten
 | 0=>.nil
 | k + 1=>by
   rw [List.replicate_succ,List.replicate_succ,List.flatten_cons,List.flatten_cons]
   exact Vals.append h (Vals.rep h k)
theorem foldl_rep (its:List Value):∀ (k:Nat) (acc:List Value),
   List.foldl (λx1 x2=>x1++x2) acc.toArray (List.replicate k its.toArray)=(acc++(List.replicate k its).flatten).toArray
 | 0,acc=>by simp
 | k + 1,acc=>by
   have e:acc.toArray++its.toArray=(acc++its).toArray:=by simp
   have e2:(acc++its)++(List.replicate k its).flatten=acc++(List.replicate (k + 1) its).flatten:=by
     rw [List.replicate_succ,List.flatten_cons,List.append_assoc]
   rw [<- e2,<- foldl_rep its k (acc++its),<- e,List.replicate_succ,List.foldl_cons]
section
variable {X:Cx} {pins:List (Addr × Obj)} {σ:St} {H:Hp} {s:Shared} {l b:Addr} {xs ys zs:List V}
theorem Inv.se {its its':List Value} {n:Nat} {f:Array Value->Array Value} {t':Nat} (I:Inv X pins σ H s) (hH:H l=some (.lst xs))
   (e:s.heap.get? l=some { cls:=.type "list",data:=.seq its.toArray n }) (hf:f its.toArray=its'.toArray) (hv:Vals ys its') (hz:ys.length<=sizeLine) :
   Inv X pins σ (upd H l (.lst ys)) { s with heap:=s.heap.update l (Obj.mapSeq f),toks:=t' }:=by
 have q:=PySem.IsL.update e f
 rw [hf] at q
 refine I.write (x:=l) (e:=l) (by rw [hH]; exact trivial) (.inl rfl) (λb' u hb hu=>(Heap.get?_update_other s.heap (Obj.mapSeq f) (Ne.symm hb)).trans hu) ⟨_,q⟩ ?_
 exact ⟨hz,its',_,hv,q⟩
theorem Inv.vb {its:List Value} {t':Nat} (I:Inv X pins σ H s) (hv:Vals ys its) (hz:ys.length<=sizeLine) :
   Inv X pins σ (upd H s.heap.objs.size (.lst ys)) { s with heap:=s.heap.push { cls:=.type "list",data:=.seq its.toArray },toks:=t' }:=
 I.laid (λ_ _ q=>Heap.get?_push_of_some _ q) (Nat.le_refl _) ⟨hz,its,0,hv,Heap.get?_push_size _ rfl⟩
theorem Inv.fresh (I:Inv X pins σ H s):H s.heap.objs.size=none:=I.hok.fresh (Nat.le_refl _)
theorem Inv.p8 (I:Inv X pins σ H s) (hH:H l=some (.lst xs)):xs.length<=sizeLine/\∃ (its:List Value) (n:Nat),Vals xs its/\xs.length=its.length/\s.heap.get? l=some { cls:=.type "list",data:=.seq its.toArray n }:=by
 obtain ⟨z,its,n,r,e⟩:=I.hok l _ hH
 exact ⟨z,its,n,r,r.length,e⟩
theorem jY {n:Nat} (h:n<=sizeLine):Builtin.List.listTooLong n=false:=by
 unfold Builtin.List.listTooLong
 exact decide_eq_false (by omega)
end
section
variable {X:Cx}
noncomputable def qd:V->List V->Hp->VK->Prop:=λx vs H Q=>∃ l xs y,x=.ref l/\vs=[y]/\H l=some (.lst xs)/\xs.length < sizeLine/\Q .non (upd H l (.lst (xs++[y])))
theorem eW:MtM X "list.append" qd:=by
 intro pins s σ H x vs v us Q I rx rv h
 obtain ⟨l,xs,y,rfl,rfl,hH,hz,q⟩:=h
 cases rx
 obtain ⟨u,rfl,ru⟩:=rv.one
 obtain ⟨z,its,n,r,hl,e⟩:=I.p8 hH
 refine call_meets F.slot_list_append ⟨_,e,rfl⟩ F.entry_list_append (F.args_list_append_2 _ _) (PySem.list_append l its.toArray n u (by rw [List.size_toArray]; omega)) ⟨e,?_⟩
 refine ⟨.non,_,I.se (its':=its++[u]) hH e (by simp) (r.append (.cons ru .nil)) ?_,rfl,q⟩
 rw [List.length_append,List.length_singleton]
 omega
noncomputable def pX:V->List V->Hp->VK->Prop:=λx vs H Q=>∃ l b xs zs,x=.ref l/\vs=[.ref b]/\H l=some (.lst xs)/\H b=some (.lst zs)/\xs.length + zs.length<=sizeLine/\Q .non (upd H l (.lst (xs++zs)))
theorem m4:MtM X "list.extend" pX:=by
 intro pins s σ H x vs v us Q I rx rv h
 obtain ⟨l,b,xs,zs,rfl,rfl,hH,hB,hz,q⟩:=h
 cases rx
 obtain ⟨u,rfl,ru⟩:=rv.one
 cases ru
 obtain ⟨z,its,n,r,hl,e⟩:=I.p8 hH
 obtain ⟨z2,its2,n2,r2,hl2,e2⟩:=I.p8 hB
 have hsz:its.toArray.size + its2.toArray.size<=sizeLine:=by rw [List.size_toArray,List.size_toArray]; omega
 have hlong:¬ (!its.toArray.isEmpty && Builtin.List.listTooLong (its.toArray.size + its2.toArray.size))=true:=by
   rw [jY hsz,Bool.and_false]
   exact Bool.false_ne_true
 refine call_meets F.slot_list_extend ⟨_,e,rfl⟩ F.entry_list_extend (F.args_list_extend_2 _ _)
   (AutoSeq1.list_extend_list_list_0 l its.toArray n b its2.toArray n2 hlong (by rw [List.size_toArray]; omega) (by omega)) ⟨e,e2,?_⟩
 refine ⟨.non,_,I.se (its':=its++its2) hH e (by simp) (r.append r2) ?_,rfl,q⟩
 rw [List.length_append]
 omega
noncomputable def oi:V->List V->Hp->VK->Prop:=λx vs H Q=>∃ l xs,x=.ref l/\vs=[]/\H l=some (.lst xs)/\Q .non (upd H l (.lst xs.reverse))
theorem kP:MtM X "list.reverse" oi:=by
 intro pins s σ H x vs v us Q I rx rv h
 obtain ⟨l,xs,rfl,rfl,hH,q⟩:=h
 cases rx
 have hus:=rv.zero
 subst hus
 obtain ⟨z,its,n,r,hl,e⟩:=I.p8 hH
 refine call_meets F.slot_list_reverse ⟨_,e,rfl⟩ F.entry_list_reverse (F.args_list_reverse_1 _) (AutoSeq1.list_reverse_list_0 l its.toArray n (by rw [List.size_toArray]; omega)) ⟨e,?_⟩
 refine ⟨.non,_,I.se (its':=its.reverse) hH e (by simp) r.reverse ?_,rfl,q⟩
 rw [List.length_reverse]
 omega
theorem len_rep {α:Type} (xs:List α) (k:Nat):(List.replicate k xs).flatten.length=k * xs.length:=by
 induction k with
 | zero=>simp
 | succ k ih=>rw [List.replicate_succ,List.flatten_cons,List.length_append,ih,Nat.succ_mul,Nat.add_comm]
end
section
variable {prog:Program} {w:World} {A:Around} {E:Value->Shared->Prop} {s:Shared}
end
section
variable {X:Cx}
end
end L2
namespace Att
open PySem PySem.W PySem.Calls PyProof.Rows
theorem fK {P:Params} {h:Heap}:∀ (ns:List Int) (vs:List Value),WellAll P h vs (ns.map WData.int)->IntsAre vs ns:=by
 intro ns
 induction ns with
 | nil=>
   intro vs w
   rw [List.map_nil] at w
   cases w
   exact .nil
 | cons n ns ih=>
   intro vs w
   rw [List.map_cons] at w
   cases w with
   | cons a b=>
     cases a
     exact .cons _ _ (ih _ b)
theorem mS {l:OpenLaw} {n:Nat} (hn:l.most=some n) {P:Params} {h:Heap} {args:List WData} {vals:List Value}
   (hpre:l.row.toRowW.claim.pre args=true) (hwl:WellAll P h vals args) :
   ∃ a vs ns,vals=[Value.ref a]/\args=[WData.list (ns.map WData.int)]/\h.get? a=some { cls:=.type "list",data:=.seq vs.toArray }/\IntsAre vs ns/\ns.length<=n:=by
 have hsh:WShape.hasAll [] args [.list .int]=true:=(pre_splitW hpre).1
 have hc:l.pre.holds [] { args:=args }=true:=(pre_splitW hpre).2
 obtain ⟨d,r,rfl,h1,h2⟩:=hasAllW_cons hsh
 obtain rfl:=hasAllW_nil h2
 obtain ⟨xs,rfl,h3⟩:=hasW_list h1
 obtain ⟨ns,rfl⟩:=items_int h3
 have hlen:ns.length<=n:=by
   unfold OpenLaw.pre at hc
   have h4:(WTm.not (.lt (.lit (.int (n:Int))) (.len (.arg 0)))).holds [] { args:=[.list (ns.map .int)] }=true:=by
     have h4:=(holds_andW hc).1
     rw [hn] at h4
     exact h4
   have h5:=condW_of h4 (w_not (w_lt w_lit (w_len_list (w_arg rfl))))
   rw [List.length_map] at h5
   refine Nat.le_of_not_lt λq=>?_
   have q':(n:Int) < ((ns.length:Nat):Int):=by omega
   first
     | (rw [decide_eq_true q'] at h5; exact absurd h5 (by decide))
     | (simp at h5; omega)
 cases hwl with
 | cons w1 w2=>
   cases w2
   cases w1 with
   | list ho hall=>exact ⟨_,_,ns,rfl,rfl,ho,fK ns _ hall,hlen⟩
theorem nu (l:OpenLaw) (args:List WData):l.row.toRowW.claim.post args (.bool true) args=true:=
 postW_of (r:=l.row.toRowW) (X:=(true == true))
   (show WShape.has [] (.bool true) .bool=true by first | rfl | decide | simp [WShape.has,WShape.arms,WShape.armsAll])
   (show (WTm.eq .res (.lit (.bool true))).value [] { args:=args,res:=some (.bool true),after:=args }=some (.bool (true == true)) from w_eq_bool (w_res rfl) w_lit) rfl
theorem jL {l:OpenLaw} {n:Nat} {q:Program} {loose:List Str} {XP:(Str->Option Value)->Heap->Prop} {YP:World->Heap->Prop} {d:DefRec}
   (hn:l.most=some n) (hdf:d.params.defaults=[])
   (call:∀ (w:World) (s₀ s₁:Shared) (mg mb:Str->Option Value) (fa:Addr) (o:Obj) (pm cd doc:Value) (a:Addr) (vs:List Value) (ns:List Int),
     Ground q loose [] XP w s₀ mg mb s₁.heap->YP w s₁.heap ->
     s₁.heap.get? fa=some o->o.data=.func (docDef d.name d.params d.body d.scope pm cd doc)->s₁.heap.CodeRec cd d.name->mg d.name=some (.ref fa) ->
     s₁.heap.get? a=some { cls:=.type "list",data:=.seq vs.toArray }->IntsAre vs ns->ns.length<=n->s₁.gens=#[] ->
     codeAny (model l.prog w) callerA (.call (.ref fa) ⟨[.ref a],[]⟩) (λr s'=>r=.ok (.ret (.bool true))/\OldK s₁.heap s'.heap/\s'.os=s₁.os/\AllBare s'.gens) s₁) :
   WalkO q loose XP YP l.row.toRowW d [] (λf vs=>PySem.call f vs):=by
 intro w s₀ s₁ mg mb G Y fa o pm cd doc dV kV ho hd hcd hD hmg hg args vals as hpre hlay hrd hwl hlo
 obtain rfl:dV=.none:=Dflts.none hD hdf
 obtain rfl:kV=.none:=Dflts.noKw hD
 obtain ⟨a,vs,ns,rfl,rfl,hobj,hints,hlen⟩:=mS hn hpre hwl
 refine enter_call (codeAny_mono (call w s₀ s₁ mg mb fa o pm cd doc a vs ns G Y ho (fd_plain hd) hcd hmg hobj hints hlen hg) λr s' hq=>?_)
 obtain ⟨rfl,h2,h3,h4⟩:=hq
 exact ⟨.inl ⟨.bool true,.bool true,[],rfl,λ_=>rfl,.bool true,nu l _,λ_=>⟨List.Pairwise.nil,λ_ hm=>(nomatch hm)⟩⟩,h2,h3,h4⟩
section
variable {prog:Program} {w:World} {A:Around} {E:Value->Shared->Prop} {s:Shared} {K:Frag}
end
end Att
namespace L2
open PySem PySem.Spec PyProof.Rows
theorem iM:∀ {vs:List Value} {ns:List Int},IntsAre vs ns->Vals (ns.map V.int) vs
 | _,_,.nil=>.nil
 | _,_,.cons n t h=>.cons ⟨t,rfl⟩ (iM h)
noncomputable def sW (H:Hp):Prop:=∀ b,H b=none\/∃ o xs,H b=some (.frz o (.lst xs))
theorem ot {P:Program} {w:World} {K:PySem.W.Frag} {mg mb:Str->Option Value} {CX:CXT} {k:Nat} {fa a:Addr} {fd:FuncData} {x:Str} {sp:Sp} {s₁:Shared} {vs:List Value} {ns:List Int}
   (KX:K.In s₁.heap) (hns:s₁.heap.Ns mainGlobals mg) (hb:s₁.heap.Ns builtinsNs mb) (hbb:∀ x:Str,x ≠ "__name__" -> mb x=bootBuiltins x) (hlim:s₁.heap.NoLimit) (hg:s₁.gens=#[])
   (ha:s₁.heap.get? a=some { cls:=.type "list",data:=.seq vs.toArray }) (hi:IntsAre vs ns) (hl:ns.length<=sizeLine) (hr:cK k callerA)
   (F:∀ base:Heap,K.In base->base.Ns mainGlobals mg->aL P w K mg base CX k fa fd [x] sp) (hbind:∀ (s:Shared) (u:Value),BindsTo s fd ⟨[u],[]⟩ [(x,u)])
   (hsp:∀ H:Hp,sW H->SqL K H a (ns.map V.int)->sp [.ref a] H (λv _=>v=.bl true) λ_ _ _=>False)
   (hCX:∀ H e s',CX [] H s₁ (λ_ _ _=>False) e s'->False) :
   codeAny (model P w) callerA (.call (.ref fa) ⟨[.ref a],[]⟩) (λr s'=>r=.ok (.ret (.bool true))/\OldK s₁.heap s'.heap/\s'.os=s₁.os/\AllBare s'.gens) s₁:=by
 have rv:=iM hi
 have lenV:=hi.length
 have core:∀ H:Hp,sW H->SqL K H a (ns.map V.int)->HOk P w H s₁.heap->(∀ b,H b ≠ none->b=a)->(H a ≠ none->K.lookup a=none) ->
     codeAny (model P w) callerA (.call (.ref fa) ⟨[.ref a],[]⟩) (λr s'=>r=.ok (.ret (.bool true))/\OldK s₁.heap s'.heap/\s'.os=s₁.os/\AllBare s'.gens) s₁:=by
   intro H hO hS hok hA hK
   have base_of:∀ {b:Addr} {o:Obj},s₁.heap.get? b=some o->H b=none->(i5 s₁.heap H).get? b=some o:=λe n=>oq e n
   have noA:∀ {b:Addr} {o:Obj} {es:Array DictEntry} {ep:Nat},s₁.heap.get? b=some o->o.data=.dict es ep->H b=none:=λ{b o es ep} e d=>by
     cases q:H b with
     | none=>rfl
     | some u=>
       have e':b=a:=hA b (by rw [q]; simp)
       subst e'
       rw [ha] at e; cases e
       have d':Data.seq vs.toArray _=Data.dict es ep:=d
       cases d'
   have nsK:∀ {b:Addr} {m:Str->Option Value},s₁.heap.Ns b m->(i5 s₁.heap H).Ns b m:=λ{b m} ⟨o,es,ep,e,d,r⟩=>⟨o,es,ep,base_of e (noA e d),d,r⟩
   have hKb:K.In (i5 s₁.heap H):=λb o e=>base_of (KX b o e) (by
     cases q:H b with
     | none=>rfl
     | some u=>
       have e':b=a:=hA b (by rw [q]; simp)
       subst e'
       rw [hK (by rw [q]; simp)] at e; cases e)
   have hM:Mod K mg (i5 s₁.heap H):=⟨hKb,nsK hns,⟨mb,nsK hb,hbb⟩,let ⟨mc,h1,h2⟩:=hlim; ⟨mc,nsK h1,h2⟩⟩
   have e0:pN P w K mg (i5 s₁.heap H) callerA [] s₁ H:=⟨rfl,hM,λb o e=>qr e,Nat.le_of_eq (ny _ _),trivial,λb hb=>absurd (show b ∈ ([]:List Addr) from hb) (by simp),hok,.of_eq hg⟩
   refine codeAny_mono ((F _ hKb (nsK hns)).run callerA [] s₁ H ⟨[.ref a],[]⟩ [.ref a] [.ref a] _ _ hr e0 (hbind s₁ (.ref a)) (.cons rfl .nil) (hsp H hO hS)) λr s' h=>?_
   cases r with
   | error e=>exact (hCX H e s' h).elim
   | ok fl=>
     cases fl with
     | next=>exact False.elim h
     | brk=>exact False.elim h
     | cont=>exact False.elim h
     | ret u=>
       obtain ⟨v,H',os,bare,un,hok',r',q⟩:=h
       have q':v=.bl true:=q
       subst q'
       obtain rfl:u=Value.bool true:=r'
       refine ⟨rfl,OldK.of_keep λb o e=>?_,os,bare⟩
       cases q:H b with
       | none=>exact un.keep b o e q (by intro z; exact absurd (show b ∈ ([]:List Addr) from z) (by simp)) (by simp)
       | some u=>
         rcases hO b with z | ⟨ob,xs,z⟩
         · rw [q] at z; cases z
         · have z2:=un.frzs b ob _ z
           obtain ⟨e1,_⟩:=hok b _ z
           obtain ⟨e2,_⟩:=hok' b _ z2
           rw [e] at e1; cases e1
           exact e2
 cases hk:K.lookup a with
 | some o=>
   have e:=KX a o hk
   rw [ha] at e
   cases e
   refine core (λ_=>none) (λ_=>.inl rfl) (.inr ⟨_,vs.toArray,_,hk,rfl,rfl,rfl,by rw [List.size_toArray,lenV]; exact hl,by simpa using rv⟩) (λb u z=>by have z':(none:Option HO)=some u:=z; cases z') (λb z=>absurd rfl z) λz=>absurd rfl z
 | none=>
   refine core (λb=>if b=a then some (.frz { cls:=.type "list",data:=.seq vs.toArray } (.lst (ns.map V.int))) else none) (λb=>?_) (.inl (.inr ⟨{ cls:=.type "list",data:=.seq vs.toArray },if_pos rfl⟩)) (λb u z=>?_) (λb z=>?_) λ_=>hk
   · by_cases hb:b=a
     · exact .inr ⟨_,_,if_pos hb⟩
     · exact .inl (if_neg hb)
   · by_cases hb:b=a
     · have z':=(if_pos hb).symm.trans z
       cases z'
       subst hb
       exact ⟨ha,by rw [List.length_map]; exact hl,vs,_,rv,ha⟩
     · have z':=(if_neg hb).symm.trans z
       cases z'
   · by_cases hb:b=a
     · exact hb
     · exact absurd (if_neg hb) z
theorem qh {l:PySem.W.OpenLaw} {n k:Nat} {q:Program} {loose:List Str} {XP:(Str->Option Value)->Heap->Prop} {YP:World->Heap->Prop} {d:DefRec} {K:Params->PySem.W.Frag} {CX:World->CXT} {sp:World->Sp} {x:Str}
   (hn:l.most=some n) (hn2:n<=sizeLine) (hdf:d.params.defaults=[]) (hr:cK k callerA)
   (hY:∀ (w:World) (h:Heap),YP w h->(K w.params).In h)
   (F:∀ (w:World) (mg:Str->Option Value) (fa:Addr) (h:Heap),(K w.params).In h->h.Ns mainGlobals mg->mg d.name=some (.ref fa) ->
     ∃ fd:FuncData,(∀ (s:Shared) (u:Value),BindsTo s fd ⟨[u],[]⟩ [(x,u)]) /\
       ∀ base:Heap,(K w.params).In base->base.Ns mainGlobals mg->aL l.prog w (K w.params) mg base (CX w) k fa fd [x] (sp w))
   (hsp:∀ (w:World) (H:Hp) (a:Addr) (ns:List Int),ns.length<=n->sW H->SqL (K w.params) H a (ns.map V.int)->sp w [.ref a] H (λv _=>v=.bl true) λ_ _ _=>False)
   (hCX:∀ (w:World) (H:Hp) (s:Shared) (e:Value) (s':Shared),CX w [] H s (λ_ _ _=>False) e s'->False) :
   PySem.W.WalkO q loose XP YP l.row.toRowW d [] (λf vs=>PySem.call f vs):=by
 refine Att.jL hn hdf λw s₀ s₁ mg mb fa o pm cd doc a vs ns G Y ho hd hcd hmg hobj hints hlen hg=>?_
 have KX:=hY w _ Y
 obtain ⟨fd,hb,hF⟩:=F w mg fa _ KX G.T.g hmg
 exact ot KX G.T.g G.T.b G.T.builtins G.T.nolimit hg hobj hints (Nat.le_trans hlen hn2) hr hF hb (λH hO hS=>hsp w H a ns hlen hO hS) λH e s'=>hCX w H s₁ e s'
noncomputable def bz (s:Stmt):Arguments:=match s with
 | .FunctionDef _ a _ _ _ _ _ _ _ _=>a
 | _=>{ posonlyargs:=[],args:=[],vararg:=none,kwonlyargs:=[],kw_defaults:=[],kwarg:=none,defaults:=[] }
noncomputable def bc (s:Stmt):List Stmt:=match s with
 | .FunctionDef _ _ b _ _ _ _ _ _ _=>b
 | _=>[]
noncomputable def ai (s:Stmt):Scope:=match s with
 | .FunctionDef _ _ _ _ _ _ sc _ _ _=>sc
 | _=>{ kind:=.function,names:=[],isGenerator:=false,isCoroutine:=false }
noncomputable abbrev CX0:CXT:=λ_ _ _ _ _ _=>False
noncomputable abbrev E0:XK:=λ_ _ _=>False
theorem uP {X:Cx}:Passes CX0 X E0:=λ_ _ _ _ _ _ _ h=>h.elim
structure Fun (K:PySem.W.Frag) (x qual:Str) (st:Stmt) (f:Addr) (fd:FuncData):Prop where
 ex:∃ (oc:Value) (od:Option Addr) (dV kV doc pm:Value) (an:Option Addr) (cdv ct:Value) (osl:Array (Option Value)),
   fd=PySem.W.fnOf x qual (bz st) (bc st) (ai st) dV kV doc pm an cdv ct/\K.lookup f=some ⟨oc,od,.func fd,osl⟩/\PySem.W.codeIn K cdv qual=true
 kp:PySem.W.keepIn K (.ref f)=true
section
variable {P:Program} {w:World} {K:PySem.W.Frag} {mg:Str->Option Value} {base:Heap}
theorem Fun.ok {x qual:Str} {st:Stmt} {f:Addr} {fd:FuncData} {N ps:List Str} {k:Nat} {sp:Sp} (F:Fun K x qual st f fd) (S:au N ps (ai st)) (len:∀ vs H Q E,sp vs H Q E->vs.length=ps.length)
   (hbody:∀ (cdv:Value) (A:Around) (outer:List Env) (s:Shared) (H:Hp) (vs:List V) (Q:VK) (E:XK),cK k (A.deeper (envOfC qual (ai st) s.heap.objs.size f cdv))->sp vs H Q E ->
     ∃ t,PSs (kJ CX0 P w K mg base N qual (ai st) f cdv A outer s H E).nox (bc st) t/\t { nx:=λ_ H'=>Q .non H',rt:=Q } (start N vs) H):aL P w K mg base CX0 (k + 1) f fd ps sp:=by
 obtain ⟨oc,od,dV,kV,doc,pm,an,cdv,ct,osl,rfl,lk,hcd⟩:=F.ex
 refine uc lk hcd S len λA outer s H vs Q E hr hsp=>?_
 obtain ⟨t,h,q⟩:=hbody cdv A outer s H vs Q E hr hsp
 exact ⟨t,h.nox,q⟩
theorem Fun.binds {x qual:Str} {st:Stmt} {f:Addr} {fd:FuncData} {ps:List Str} (_:Fun K x qual st f fd) (h:∀ us:List Value,us.length=ps.length->bindArgs fd ⟨us,[]⟩=pure (ps.zip us)):Binds K fd ps []:=.all h
theorem kQ {x qual:Str} {st:Stmt} {f:Addr} {oc:Value} {od an:Option Addr} {osl:Array (Option Value)} {dV kV doc pm cdv ct:Value} (l:K.lookup f=some ⟨oc,od,.func (PySem.W.fnOf x qual (bz st) (bc st) (ai st) dV kV doc pm an cdv ct),osl⟩)
   (c:PySem.W.codeIn K cdv qual=true) (k:PySem.W.keepIn K (.ref f)=true):Fun K x qual st f (PySem.W.fnOf x qual (bz st) (bc st) (ai st) dV kV doc pm an cdv ct):=⟨⟨oc,od,dV,kV,doc,pm,an,cdv,ct,osl,rfl,l,c⟩,k⟩
end
theorem iF {n:Nat} (h:n<=1000):n < sizeLine:=Nat.lt_of_le_of_lt h (by decide)
section
variable {X:Cx}
end
theorem mT {A B:Prop} (h:B):if false=true then A else B:=by
 rw [if_neg Bool.false_ne_true]
 exact h
theorem kF {A B:Prop} (h:A):if true=true then A else B:=by
 rw [if_pos rfl]
 exact h
noncomputable def aj (H H':Hp):Prop:=∀ b o,H b=some o->H' b=some o
theorem aj.refl (H:Hp):aj H H:=λ_ _ h=>h
theorem aj.trans {H H1 H2:Hp} (a:aj H H1) (b:aj H1 H2):aj H H2:=λc o h=>b c o (a c o h)
theorem aj.free {H H':Hp} (e:aj H H') {l:Addr} (h:H' l=Option.none):H l=Option.none:=by
 cases q:H l with
 | none=>rfl
 | some o=>
   rw [e l o q] at h
   cases h
theorem aj.seq {K:PySem.W.Frag} {H H':Hp} {a:Addr} {xs:List V} (e:aj H H') (h:SqL K H a xs):SqL K H' a xs:=by
 rcases h with (h | ⟨o,h⟩) | h
 · exact .inl (.inl (e _ _ h))
 · exact .inl (.inr ⟨o,e _ _ h⟩)
 · exact .inr h
end L2
set_option linter.all false
set_option maxRecDepth 100000
namespace Ev
open PySem PySem.Spec PyProof.Rows L2
structure Bx where
 p:PySem.W.Frag->Hp->Addr->Prop
 mono:∀ {K:PySem.W.Frag} {H H':Hp} {a:Addr},aj H H'->p K H a->p K H' a
 isd:∀ {K:PySem.W.Frag} {H:Hp} {a:Addr},p K H a->∃ φ:Heap->Prop,H a=some (.ext φ)/\∀ h,φ h->∃ o,h.get? a=some o/\o.cls=.type "dict"
inductive D where
 | non | bl (b:Bool) | int (i:Int) | str (x:Str) | tup (xs:List D) | lst (xs:List D) | box (x:Bx)
noncomputable instance:Inhabited D:=⟨.non⟩
mutual
inductive Den (K:PySem.W.Frag) (H:Hp):V->D->Prop where
 | non:Den K H .non .non
 | bl {b:Bool}:Den K H (.bl b) (.bl b)
 | int {i:Int}:Den K H (.int i) (.int i)
 | str {x:Str}:Den K H (.str x) (.str x)
 | tup {a:Addr} {vs:List V} {ds:List D} (h:SqT K H a vs) (r:ax K H vs ds):Den K H (.ref a) (.tup ds)
 | lst {a:Addr} {vs:List V} {ds:List D} (h:SqL K H a vs) (r:ax K H vs ds):Den K H (.ref a) (.lst ds)
 | box {a:Addr} {x:Bx} (h:x.p K H a):Den K H (.ref a) (.box x)
inductive ax (K:PySem.W.Frag) (H:Hp):List V->List D->Prop where
 | nil:ax K H [] []
 | cons {v:V} {d:D} {vs:List V} {ds:List D} (h:Den K H v d) (r:ax K H vs ds):ax K H (v :: vs) (d :: ds)
end
section
variable {K:PySem.W.Frag} {H H':Hp}
theorem aP (e:aj H H') {a:Addr} {xs:List V} (h:SqT K H a xs):SqT K H' a xs:=by
 rcases h with (h | ⟨o,h⟩) | h
 · exact .inl (.inl (e _ _ h))
 · exact .inl (.inr ⟨o,e _ _ h⟩)
 · exact .inr h
theorem aE (e:aj H H') {a:Addr} {xs:List V} (h:SqL K H a xs):SqL K H' a xs:=e.seq h
mutual
theorem Den.mono (e:aj H H'):∀ {v:V} {d:D},Den K H v d->Den K H' v d
 | _,_,.non=>.non
 | _,_,.bl=>.bl
 | _,_,.int=>.int
 | _,_,.str=>.str
 | _,_,.tup h r=>.tup (aP e h) (ax.mono e r)
 | _,_,.lst h r=>.lst (aE e h) (ax.mono e r)
 | _,_,.box (x:=x) h=>.box (x.mono e h)
theorem ax.mono (e:aj H H'):∀ {vs:List V} {ds:List D},ax K H vs ds->ax K H' vs ds
 | _,_,.nil=>.nil
 | _,_,.cons h r=>.cons (Den.mono e h) (ax.mono e r)
end
theorem ax.length:∀ {vs:List V} {ds:List D},ax K H vs ds->vs.length=ds.length
 | _,_,.nil=>rfl
 | _,_,.cons _ r=>congrArg (· + 1) r.length
theorem ax.get:∀ {vs:List V} {ds:List D} {i:Nat} {d:D},ax K H vs ds->ds[i]?=some d->∃ v,vs[i]?=some v/\Den K H v d
 | _,_,_,_,.nil,e=>by simp at e
 | _,_,0,_,.cons h _,e=>by simp at e; subst e; exact ⟨_,rfl,h⟩
 | _,_,i + 1,d,.cons _ r,e=>by
   obtain ⟨v,h1,h2⟩:=ax.get (i:=i) (d:=d) r (by simpa using e)
   exact ⟨v,by simpa using h1,h2⟩
theorem ax.append:∀ {xs ys:List V} {ds es:List D},ax K H xs ds->ax K H ys es->ax K H (xs++ys) (ds++es)
 | _,_,_,_,.nil,s=>s
 | _,_,_,_,.cons h r,s=>.cons h (ax.append r s)
theorem ax.take:∀ {xs:List V} {ds:List D} (n:Nat),ax K H xs ds->ax K H (xs.take n) (ds.take n)
 | _,_,0,_=>.nil
 | _,_,_ + 1,.nil=>.nil
 | _,_,n + 1,.cons h r=>.cons h (ax.take n r)
theorem ax.drop:∀ {xs:List V} {ds:List D} (n:Nat),ax K H xs ds->ax K H (xs.drop n) (ds.drop n)
 | _,_,0,r=>r
 | _,_,_ + 1,.nil=>.nil
 | _,_,n + 1,.cons _ r=>ax.drop n r
end
noncomputable def aN (i j:Int):Prop:=i.natAbs.log2 < 64\/j.natAbs.log2 < 64\/(i.natAbs.log2 < 1000000/\j.natAbs.log2 < 1000000)
noncomputable def aH (j:Int):Prop:=j ≠ 0/\j.natAbs.log2 < 9000
theorem aw {H:Hp} {p:Addr} (h:H p=none) (o:HO):aj H (upd H p o):=λb u q=>by rw [ay (aF q h)]; exact q
noncomputable def Ite (K:PySem.W.Frag) (a:Addr):L2.It:=
 ⟨λi H=>∃ xs x,SqL K H a xs/\xs[i]?=some x,λi H v H'=>∃ p x,H p=none/\v=.ref p/\H'=upd H p (.tup [.int (i:Nat),x])/\∀ xs,SqL K H a xs->xs[i]?=some x,λi H=>∃ xs,SqL K H a xs/\xs.length<=i⟩
theorem mO {P:Program} {w:World} {K:PySem.W.Frag} {ts:List Expr} {q:Nat} {tp:Pos} (a e it:Addr) (hne:e ≠ it) :
   Turn P w K (.Tuple ts q tp) (Ite K a) [e,it] e (λi h=>(∃ old,IsEnum h e it (i:Nat) old)/\h.IsListIter it a i) where
 mem:=by simp
 obj:=λi h st b hb=>by
   obtain ⟨⟨old,h1⟩,o,h2,h3,h4⟩:=st
   rcases List.mem_cons.mp hb with rfl | hb
   · exact ⟨_,h1,λv z=>nomatch z⟩
   · have z:b=it:=by simpa using hb
     subst z
     exact ⟨o,h2,λv z=>by rw [h4] at z; cases z⟩
 keep:=λi h h' st k=>by
   obtain ⟨⟨old,h1⟩,o,h2,h3,h4⟩:=st
   exact ⟨⟨old,k e (by simp) _ h1⟩,o,k it (by simp) o h2,h3,h4⟩
 item:=by
   intro X hP hw hK hc i pins s σ H E I hf st hg
   subst hP hw hK
   obtain ⟨xs,x,hq,hx⟩:=hg
   obtain ⟨its,rv,p,hz⟩:=I.list hq
   obtain ⟨u,hu,ru⟩:=rv.get hx
   obtain ⟨⟨old,h1⟩,h2⟩:=st
   have fe:=hf e (by simp)
   have fi:=hf it (by simp)
   refine wpAny_pyNext_enum_item h1 h2 p.isList (x:=u) (by simpa using hu) hne λh' g1 g2 g3 g4 g5=>⟨_,rfl,?_⟩
   refine wpAny_letOwnedTupleGo_enum (s:={ s with heap:=h',toks:=s.toks + 1 }) g1 λh2' k1 k2=>?_
   have hn:H s.heap.objs.size=none:=I.hok.fresh (Nat.le_refl _)
   have le1:e < s.heap.objs.size:=Heap.lt_size h1
   have le2:it < s.heap.objs.size:=by obtain ⟨o,z,_⟩:=h2; exact Heap.lt_size z
   have kp:∀ b o,b ≠ e->b ≠ it->s.heap.get? b=some o->h2'.get? b=some o:=λb o b1 b2 z=>(k2.2 b b1).trans (g5 b o b1 b2 z)
   have nt:h2'.get? s.heap.objs.size=some { cls:=.type "tuple",data:=.seq #[.int (i:Nat) s.toks,u] }:=(k2.2 _ (Nat.ne_of_gt le1)).trans g3
   have ne1:∀ b v,H b=some v->b ≠ e:=λb v z q=>by rw [q,fe.1] at z; cases z
   have ne2:∀ b v,H b=some v->b ≠ it:=λb v z q=>by rw [q,fi.1] at z; cases z
   have hok0:HOk X.prog X.w H h2':=λb v z=>(I.hok b v z).gf (λc v' hc' q=>kp c v' (by
       rcases hc' with hc' | hc'
       · rw [hc']; exact ne1 b v z
       · exact ne1 c _ hc') (by
       rcases hc' with hc' | hc'
       · rw [hc']; exact ne2 b v z
       · exact ne2 c _ hc') q) (λ_ q=>q) λ_ _ q=>q
   have hok1:HOk X.prog X.w (upd H s.heap.objs.size (.tup [.int (i:Nat),x])) h2':=λb v z=>by
     by_cases hb:b=s.heap.objs.size
     · subst hb
       rw [aI] at z; cases z
       exact ⟨(by show 2<=sizeLine; decide),[.int (i:Nat) s.toks,u],.cons ⟨_,rfl⟩ (.cons ru .nil),_,nt,rfl,_,rfl⟩
     · rw [ay hb] at z
       exact (hok0 b v z).gf (λc v' _ q=>q) (λc q=>by rw [ay (aF q hn)]; exact q) λc ys q=>by rw [ay (aF q hn)]; exact q
   have I1:Inv X pins σ (upd H s.heap.objs.size (.tup [.int (i:Nat),x])) { s with heap:=h2',toks:=s.toks + 1 }:=by
     refine I.step (g':=s.gens) (d':=s.drawn) (ch:=[e,it]) (λb hb=>?_) (λb o _ _ hc' z _=>kp b o (λq=>hc' (by simp [q])) (λq=>hc' (by simp [q])) z)
       (λb o _ _ hc' z _=>⟨o.slots,kp b o (λq=>hc' (by simp [q])) (λq=>hc' (by simp [q])) z⟩)
       (λb o hc' z n=>by rw [ay (Nat.ne_of_lt (Heap.lt_size z))]; exact n) (λb o hc' z=>⟨o,kp b o (λq=>hc' (by simp [q])) (λq=>hc' (by simp [q])) z⟩)
       (λb ys z=>by rw [ay (aF z hn)]; exact z) (λb o u z=>by rw [ay (aF z hn)]; exact z) (λb ps z=>⟨#[],by rw [ay (aF z hn),z]; simp⟩) (λm hm=>?_) hok1 I.bare
     · rcases List.mem_cons.mp hb with rfl | hb
       · exact ⟨fe.2.2.2.1,fe.2.1,fe.2.2.2.2.1,fe.2.2.2.2.2⟩
       · have z:b=it:=by simpa using hb
         subst z
         exact ⟨fi.2.2.2.1,fi.2.1,fi.2.2.2.2.1,fi.2.2.2.2.2⟩
     · obtain ⟨o,es,ep,ho,r⟩:=hm
       exact ⟨o,es,ep,kp _ o (Ne.symm fe.2.1) (Ne.symm fi.2.1) ho,r⟩
   refine ⟨.ref s.heap.objs.size,_,I1,rfl,⟨s.heap.objs.size,x,hn,rfl,rfl,λys hy=>by rw [I.da hy hq]; exact hx⟩,⟨⟨_,k1⟩,?_⟩,λb hb=>?_⟩
   · obtain ⟨o,z1,z2,z3⟩:=g2
     exact ⟨o,(k2.2 it (Ne.symm hne)).trans z1,z2,z3⟩
   · rcases List.mem_cons.mp hb with rfl | hb
     · rw [ay (Nat.ne_of_lt le1)]; exact fe.1
     · have z:b=it:=by simpa using hb
       subst z
       rw [ay (Nat.ne_of_lt le2)]; exact fi.1
 done:=by
   intro X hP hw hK hc i pins s σ H E I hf st hg
   subst hP hw hK
   obtain ⟨xs,hq,hx⟩:=hg
   obtain ⟨its,rv,p,hz⟩:=I.list hq
   obtain ⟨⟨old,h1⟩,h2⟩:=st
   obtain ⟨f0,f1,f2,f3,f4,f5⟩:=hf it (by simp)
   have hl:=rv.length
   exact wpAny_pyNext_enum_end (I.ok.hd hc) h1 h2 p.isList (by simp; omega) λh' eb=>⟨rfl,I.turned (t':=s.toks) (λb o hb z=>eb b o hb z) f0 f1 f3 f4 f5⟩
 self:=λ_ _ _ _ _ st h=>by
   obtain ⟨⟨old,h1⟩,_⟩:=st
   exact wpAny_pyIter_enum h1 h
section
variable {X:Cx}
noncomputable def um (K:PySem.W.Frag) (ta:TA):TI:=λσ H R=>ta σ H λvs H1=>∃ a,vs=[.ref a]/\(∃ xs,SqL K H1 a xs)/\R (Ite K a) H1
theorem nk:bootBuiltins "enumerate" = some (.type "enumerate"):=by decide +kernel
theorem lD {ts:List Expr} {q:Nat} {tp:Pos} {a:Expr} {ta:TA} {p pos:Pos} (hg:Gl X "enumerate") (hm:X.mg "enumerate" = none) (ha:PA X [a] ta) (hs:starEach [a] X.env=[(false,eval a X.env)]) :
   PI X (.Tuple ts q tp) (.Call (.Name "enumerate" p) [a] [] pos) (um X.K ta):=by
 intro pins s σ H R I h
 refine Call_ (cQ I hg hm nk (PyProof.Rows.callWith_type1 (thn (ha pos pins s σ H _ I h) λus s1 ⟨vs,H1,I1,r1,q1⟩=>?_) hs rfl))
 obtain ⟨l,e,⟨xs,hq⟩,q⟩:=q1
 subst e
 obtain ⟨u,rfl,ru⟩:=vals1 r1
 cases ru
 obtain ⟨its,rv,pl,hz⟩:=I1.list hq
 refine call_enumerate_list pl.isList λh' g1 g2 g3 g4=>?_
 refine wpAny_pyIter_enum (s:={ s1 with heap:=h' }) g1 ?_
 have I2:Inv X pins σ H1 { s1 with heap:=h' }:=I1.kept (t':=s1.toks) g4
 have n1:H1 (s1.heap.objs.size + 1)=none:=I1.hok.fresh (by omega)
 have n2:H1 s1.heap.objs.size=none:=I1.hok.fresh (Nat.le_refl _)
 refine ⟨s1.heap.objs.size + 1,[s1.heap.objs.size + 1,s1.heap.objs.size],_,_,H1,rfl,I2,mO l (s1.heap.objs.size + 1) s1.heap.objs.size (Nat.succ_ne_self _),⟨⟨_,g1⟩,g2⟩,λb hb=>?_,q⟩
 rcases List.mem_cons.mp hb with rfl | hb
 · exact I1.jD (by omega) n1
 · have z:b=s1.heap.objs.size:=by simpa using hb
   subst z
   exact I1.jD (Nat.le_refl _) n2
end
noncomputable def Itz (K:PySem.W.Frag) (a b:Addr):L2.It:=
 ⟨λi H=>∃ xs ys x y,SqL K H a xs/\SqL K H b ys/\xs[i]?=some x/\ys[i]?=some y,
  λi H v H'=>∃ p x y,H p=none/\v=.ref p/\H'=upd H p (.tup [x,y])/\(∀ xs,SqL K H a xs->xs[i]?=some x)/\∀ ys,SqL K H b ys->ys[i]?=some y,
  λi H=>∃ xs ys,SqL K H a xs/\SqL K H b ys/\(xs.length<=i\/ys.length<=i)⟩
noncomputable def zSt (a b z TI TO i1 i2:Addr) (i:Nat) (h:Heap):Prop:=
 IsZip h z TI TO .none/\IsPair h TI (.ref i1) (.ref i2)/\(∃ u v,IsPair h TO u v)/\h.IsListIter i1 a i/\h.IsListIter i2 b i
theorem iG {h:Heap} {a b z TI TO i1 i2:Addr} {i:Nat} {xs ys:Array Value} (n:TI ≠ TO) (m:i1 ≠ i2) (s:zSt a b z TI TO i1 i2 i h) (l1:h.IsList a xs) (l2:h.IsList b ys):ZipApart z TI TO i1 i2 a b:=by
 obtain ⟨h1,h2,⟨u,v,h3⟩,⟨o4,h4,c4,d4⟩,⟨o5,h5,c5,d5⟩⟩:=s
 obtain ⟨o6,h6,c6,n6,d6⟩:=l1
 obtain ⟨o7,h7,c7,n7,d7⟩:=l2
 have kk:∀ {x y:Addr} {o p:Obj},h.get? x=some o->h.get? y=some p->o.cls ≠ p.cls->x ≠ y:=λe1 e2 c q=>by subst q; rw [e1] at e2; cases e2; exact c rfl
 have cz:∀ {s t:String},s ≠ t->Value.type s ≠ Value.type t:=λn q=>n (by cases q; rfl)
 refine ⟨kk h2 h1 (cz (by decide)),kk h3 h1 (cz (by decide)),kk h4 h1 ?_,kk h5 h1 ?_,n,kk h2 h4 ?_,kk h2 h5 ?_,kk h3 h4 ?_,kk h3 h5 ?_,m,kk h6 h1 ?_,kk h6 h3 ?_,kk h6 h4 ?_,kk h6 h5 ?_,kk h7 h1 ?_,kk h7 h3 ?_,kk h7 h4 ?_,kk h7 h5 ?_⟩
 all_goals first | (rw [c4]; exact cz (by decide)) | (rw [c5]; exact cz (by decide)) | (rw [c6]; exact cz (by decide)) | (rw [c7]; exact cz (by decide)) | (rw [c6,c4]; exact cz (by decide)) | (rw [c6,c5]; exact cz (by decide)) | (rw [c7,c4]; exact cz (by decide)) | (rw [c7,c5]; exact cz (by decide))
theorem oI {P:Program} {w:World} {K:PySem.W.Frag} {ts:List Expr} {q:Nat} {tp:Pos} (a b z TI TO i1 i2:Addr) (nT:TI ≠ TO) (nI:i1 ≠ i2) :
   Turn P w K (.Tuple ts q tp) (Itz K a b) [z,TI,TO,i1,i2] z (zSt a b z TI TO i1 i2) where
 mem:=by simp
 obj:=λi h st c hb=>by
   obtain ⟨h1,h2,⟨u,v,h3⟩,⟨o4,h4,c4,d4⟩,⟨o5,h5,c5,d5⟩⟩:=st
   simp only [List.mem_cons,List.not_mem_nil,or_false] at hb
   rcases hb with rfl | rfl | rfl | rfl | rfl
   · exact ⟨_,h1,λv z=>nomatch z⟩
   · exact ⟨_,h2,λv z=>nomatch z⟩
   · exact ⟨_,h3,λv z=>nomatch z⟩
   · exact ⟨_,h4,λv z=>by rw [d4] at z; cases z⟩
   · exact ⟨_,h5,λv z=>by rw [d5] at z; cases z⟩
 keep:=λi h h' st k=>by
   obtain ⟨h1,h2,⟨u,v,h3⟩,⟨o4,h4,c4,d4⟩,⟨o5,h5,c5,d5⟩⟩:=st
   exact ⟨k z (by simp) _ h1,k TI (by simp) _ h2,⟨u,v,k TO (by simp) _ h3⟩,⟨o4,k i1 (by simp) _ h4,c4,d4⟩,⟨o5,k i2 (by simp) _ h5,c5,d5⟩⟩
 item:=by
   intro X hP hw hK hc i pins s σ H E I hf st hg
   subst hP hw hK
   obtain ⟨xs,ys,x,y,hq1,hq2,hx,hy⟩:=hg
   obtain ⟨its1,rv1,p1,hz1⟩:=I.list hq1
   obtain ⟨its2,rv2,p2,hz2⟩:=I.list hq2
   obtain ⟨u1,hu1,ru1⟩:=rv1.get hx
   obtain ⟨u2,hu2,ru2⟩:=rv2.get hy
   have D:=iG nT nI st p1.isList p2.isList
   obtain ⟨h1,h2,⟨u,v,h3⟩,h4,h5⟩:=st
   refine wpAny_pyNext_zip_item D h1 h2 h3 h4 h5 p1.isList p2.isList (x:=u1) (y:=u2) (by simpa using hu1) (by simpa using hu2) λh' g1 g2 g3 g4 g5 g6 g7=>⟨_,rfl,?_⟩
   refine wpAny_letOwnedTupleGo_zip (s:={ s with heap:=h' }) g1 λh2' k1 k2=>?_
   have hn:H s.heap.objs.size=none:=I.hok.fresh (Nat.le_refl _)
   have le1:z < s.heap.objs.size:=Heap.lt_size h1
   have lt2:TI < s.heap.objs.size:=Heap.lt_size h2
   have lt3:TO < s.heap.objs.size:=Heap.lt_size h3
   have lt4:i1 < s.heap.objs.size:=by obtain ⟨o,z,_⟩:=h4; exact Heap.lt_size z
   have lt5:i2 < s.heap.objs.size:=by obtain ⟨o,z,_⟩:=h5; exact Heap.lt_size z
   have kp:∀ c o,c ≠ z->c ≠ TO->c ≠ i1->c ≠ i2->s.heap.get? c=some o->h2'.get? c=some o:=λc o b1 b2 b3 b4 e=>(k2.2 c b1).trans (g7 c o b1 b2 b3 b4 e)
   have nt:IsPair h2' s.heap.objs.size u1 u2:=(k2.2 _ (Nat.ne_of_gt le1)).trans g5
   have ne:∀ c,c ∈ [z,TI,TO,i1,i2]->∀ d v,H d=some v->d ≠ c:=λc hc d v e q=>by
     have:=(hf c hc).1
     rw [q,this] at e; cases e
   have hok0:HOk X.prog X.w H h2':=λd v e=>(I.hok d v e).gf (λc v' hc' q=>kp c v'
       (by rcases hc' with hc' | hc'
           · rw [hc']; exact ne z (by simp) d v e
           · exact ne z (by simp) c _ hc')
       (by rcases hc' with hc' | hc'
           · rw [hc']; exact ne TO (by simp) d v e
           · exact ne TO (by simp) c _ hc')
       (by rcases hc' with hc' | hc'
           · rw [hc']; exact ne i1 (by simp) d v e
           · exact ne i1 (by simp) c _ hc')
       (by rcases hc' with hc' | hc'
           · rw [hc']; exact ne i2 (by simp) d v e
           · exact ne i2 (by simp) c _ hc') q) (λ_ q=>q) λ_ _ q=>q
   have hok1:HOk X.prog X.w (upd H s.heap.objs.size (.tup [x,y])) h2':=λd v e=>by
     by_cases hb:d=s.heap.objs.size
     · subst hb
       rw [aI] at e; cases e
       exact ⟨(by show 2<=sizeLine; decide),[u1,u2],.cons ru1 (.cons ru2 .nil),_,nt,rfl,_,rfl⟩
     · rw [ay hb] at e
       exact (hok0 d v e).gf (λc v' _ q=>q) (λc q=>by rw [ay (aF q hn)]; exact q) λc ys q=>by rw [ay (aF q hn)]; exact q
   have I1:Inv X pins σ (upd H s.heap.objs.size (.tup [x,y])) { s with heap:=h2' }:=by
     refine I.step (t':=s.toks) (g':=s.gens) (d':=s.drawn) (ch:=[z,TO,i1,i2]) (λc hb=>?_) (λc o _ _ hc' e _=>kp c o (λq=>hc' (by simp [q])) (λq=>hc' (by simp [q])) (λq=>hc' (by simp [q])) (λq=>hc' (by simp [q])) e)
       (λc o _ _ hc' e _=>⟨o.slots,kp c o (λq=>hc' (by simp [q])) (λq=>hc' (by simp [q])) (λq=>hc' (by simp [q])) (λq=>hc' (by simp [q])) e⟩)
       (λc o hc' e n=>by rw [ay (Nat.ne_of_lt (Heap.lt_size e))]; exact n) (λc o hc' e=>⟨o,kp c o (λq=>hc' (by simp [q])) (λq=>hc' (by simp [q])) (λq=>hc' (by simp [q])) (λq=>hc' (by simp [q])) e⟩)
       (λc ys e=>by rw [ay (aF e hn)]; exact e) (λc o u e=>by rw [ay (aF e hn)]; exact e) (λc ps e=>⟨#[],by rw [ay (aF e hn),e]; simp⟩) (λm hm=>?_) hok1 I.bare
     · have hb':c ∈ [z,TI,TO,i1,i2]:=by
         simp only [List.mem_cons,List.not_mem_nil,or_false] at hb ⊢
         rcases hb with h | h | h | h <;> simp [h]
       have fe:=hf c hb'
       exact ⟨fe.2.2.2.1,fe.2.1,fe.2.2.2.2.1,fe.2.2.2.2.2⟩
     · obtain ⟨o,es,ep,ho,r⟩:=hm
       exact ⟨o,es,ep,kp _ o (Ne.symm (hf z (by simp)).2.1) (Ne.symm (hf TO (by simp)).2.1) (Ne.symm (hf i1 (by simp)).2.1) (Ne.symm (hf i2 (by simp)).2.1) ho,r⟩
   refine ⟨.ref s.heap.objs.size,_,I1,rfl,⟨s.heap.objs.size,x,y,hn,rfl,rfl,λzs hy'=>by rw [I.da hy' hq1]; exact hx,λzs hy'=>by rw [I.da hy' hq2]; exact hy⟩,⟨k1,?_,⟨u1,u2,(k2.2 TO D.TOz).trans g2⟩,?_,?_⟩,λc hb=>?_⟩
   · exact kp TI _ D.TIz D.TITO D.TIi1 D.TIi2 h2
   · obtain ⟨o,z1,z2,z3⟩:=g3
     exact ⟨o,(k2.2 i1 D.i1z).trans z1,z2,z3⟩
   · obtain ⟨o,z1,z2,z3⟩:=g4
     exact ⟨o,(k2.2 i2 D.i2z).trans z1,z2,z3⟩
   · have fc:=(hf c hb).1
     have lt:c < s.heap.objs.size:=by
       simp only [List.mem_cons,List.not_mem_nil,or_false] at hb
       rcases hb with rfl | rfl | rfl | rfl | rfl <;> assumption
     rw [ay (Nat.ne_of_lt lt)]
     exact fc
 done:=by
   intro X hP hw hK hc i pins s σ H E I hf st hg
   subst hP hw hK
   obtain ⟨xs,ys,hq1,hq2,hx⟩:=hg
   obtain ⟨its1,rv1,p1,hz1⟩:=I.list hq1
   obtain ⟨its2,rv2,p2,hz2⟩:=I.list hq2
   have D:=iG nT nI st p1.isList p2.isList
   obtain ⟨h1,h2,⟨u,v,h3⟩,h4,h5⟩:=st
   have hl1:=rv1.length
   have hl2:=rv2.length
   refine wpAny_pyNext_zip_end (I.ok.hd hc) D h1 h2 h3 h4 h5 p1.isList p2.isList (by
     rcases hx with hx | hx
     · left; simp; omega
     · right; simp; omega) λh' eb=>⟨rfl,?_⟩
   have ne:∀ c,c ∈ [z,TI,TO,i1,i2]->∀ d v,H d=some v->d ≠ c:=λc hc d v e q=>by
     have:=(hf c hc).1
     rw [q,this] at e; cases e
   have hok0:HOk X.prog X.w H h':=λd v e=>(I.hok d v e).gf (λc v' hc' q=>eb c v'
       (by rcases hc' with hc' | hc'
           · rw [hc']; exact ne z (by simp) d v e
           · exact ne z (by simp) c _ hc')
       (by rcases hc' with hc' | hc'
           · rw [hc']; exact ne TO (by simp) d v e
           · exact ne TO (by simp) c _ hc')
       (by rcases hc' with hc' | hc'
           · rw [hc']; exact ne i1 (by simp) d v e
           · exact ne i1 (by simp) c _ hc')
       (by rcases hc' with hc' | hc'
           · rw [hc']; exact ne i2 (by simp) d v e
           · exact ne i2 (by simp) c _ hc') q) (λ_ q=>q) λ_ _ q=>q
   refine I.step (t':=s.toks) (g':=s.gens) (d':=s.drawn) (ch:=[z,TO,i1,i2]) (λc hb=>?_) (λc o _ _ hc' e _=>eb c o (λq=>hc' (by simp [q])) (λq=>hc' (by simp [q])) (λq=>hc' (by simp [q])) (λq=>hc' (by simp [q])) e)
       (λc o _ _ hc' e _=>⟨o.slots,eb c o (λq=>hc' (by simp [q])) (λq=>hc' (by simp [q])) (λq=>hc' (by simp [q])) (λq=>hc' (by simp [q])) e⟩)
       (λc o hc' e n=>n) (λc o hc' e=>⟨o,eb c o (λq=>hc' (by simp [q])) (λq=>hc' (by simp [q])) (λq=>hc' (by simp [q])) (λq=>hc' (by simp [q])) e⟩)
       (λc ys e=>e) (λc o u e=>e) (λc ps e=>⟨#[],by rw [e]; simp⟩) (λm hm=>?_) hok0 I.bare
   · have hb':c ∈ [z,TI,TO,i1,i2]:=by
       simp only [List.mem_cons,List.not_mem_nil,or_false] at hb ⊢
       rcases hb with h | h | h | h <;> simp [h]
     have fe:=hf c hb'
     exact ⟨fe.2.2.2.1,fe.2.1,fe.2.2.2.2.1,fe.2.2.2.2.2⟩
   · obtain ⟨o,es,ep,ho,r⟩:=hm
     exact ⟨o,es,ep,eb _ o (Ne.symm (hf z (by simp)).2.1) (Ne.symm (hf TO (by simp)).2.1) (Ne.symm (hf i1 (by simp)).2.1) (Ne.symm (hf i2 (by simp)).2.1) ho,r⟩
 self:=λ_ _ _ _ _ st h=>wpAny_pyIter_zip st.1 h
section
variable {X:Cx}
noncomputable def rq (K:PySem.W.Frag) (ta:TA):TI:=λσ H R=>ta σ H λvs H1=>∃ a b,vs=[.ref a,.ref b]/\(∃ xs,SqL K H1 a xs)/\(∃ ys,SqL K H1 b ys)/\R (Itz K a b) H1
theorem kZ {ts:List Expr} {q:Nat} {tp:Pos} {a b:Expr} {ta:TA} {p pos:Pos} (hg:Gl X "zip") (hm:X.mg "zip" = none) (ha:PA X [a,b] ta) (hs:starEach [a,b] X.env=(false,eval a X.env) :: starEach [b] X.env) (hs2:starEach [b] X.env=[(false,eval b X.env)]) :
   PI X (.Tuple ts q tp) (.Call (.Name "zip" p) [a,b] [] pos) (rq X.K ta):=by
 intro pins s σ H R I h
 refine Call_ (cQ I hg hm boot_zip (PyProof.Rows.callWith_type1 (thn (ha pos pins s σ H _ I h) λus s1 ⟨vs,H1,I1,r1,q1⟩=>?_) hs (by rw [hs2]; rfl)))
 obtain ⟨l,l',e,⟨xs,hq1⟩,⟨ys,hq2⟩,q⟩:=q1
 subst e
 obtain ⟨u,u',rfl,ru,ru'⟩:=vals2 r1
 cases ru
 cases ru'
 obtain ⟨its1,rv1,pl1,hz1⟩:=I1.list hq1
 obtain ⟨its2,rv2,pl2,hz2⟩:=I1.list hq2
 refine call_zip_2 pl1.isList pl2.isList λh' g1 g2 g3 g4 g5 g6 g7=>?_
 refine wpAny_pyIter_zip (s:={ s1 with heap:=h' }) g1 ?_
 have I2:Inv X pins σ H1 { s1 with heap:=h' }:=I1.kept (t':=s1.toks) g7
 have nn:∀ j,H1 (s1.heap.objs.size + j)=none:=λj=>I1.hok.fresh (by omega)
 refine ⟨s1.heap.objs.size + 4,[s1.heap.objs.size + 4,s1.heap.objs.size + 2,s1.heap.objs.size + 3,s1.heap.objs.size,s1.heap.objs.size + 1],_,_,H1,rfl,I2,oI l l' (s1.heap.objs.size + 4) (s1.heap.objs.size + 2) (s1.heap.objs.size + 3) s1.heap.objs.size (s1.heap.objs.size + 1) (by simp) (Ne.symm (Nat.succ_ne_self _)),⟨g1,g2,⟨_,_,g3⟩,g4,g5⟩,λc hb=>?_,q⟩
 have hb':∃ j,c=s1.heap.objs.size + j:=by
   simp only [List.mem_cons,List.not_mem_nil,or_false] at hb
   rcases hb with h | h | h | h | h
   · exact ⟨_,h⟩
   · exact ⟨_,h⟩
   · exact ⟨_,h⟩
   · exact ⟨0,h⟩
   · exact ⟨_,h⟩
 obtain ⟨j,rfl⟩:=hb'
 exact I1.jD (Nat.le_add_right _ _) (nn j)
end
noncomputable def Itv (K:PySem.W.Frag) (a:Addr) (n:Nat):L2.It:=
 ⟨λi H=>i < n/\∃ xs x,SqL K H a xs/\xs[n - 1 - i]?=some x,λi H x H'=>H'=H/\∀ xs,SqL K H a xs->xs[n - 1 - i]?=some x,λi _=>n<=i⟩
theorem ph {P:Program} {w:World} {K:PySem.W.Frag} {tg:Expr} (a it:Addr) (n:Nat) :
   Turn P w K tg (Itv K a n) [it] it (λi h=>i<=n/\h.IsRevIter it a ((n:Int) - 1 - (i:Int))) where
 mem:=by simp
 obj:=λi h st b hb=>by
   have e:b=it:=by simpa using hb
   subst e
   obtain ⟨o,e,c,d⟩:=st.2
   exact ⟨o,e,λv z=>by rw [d] at z; cases z⟩
 keep:=λi h h' st k=>⟨st.1,st.2.at λo e=>k it (by simp) o e⟩
 item:=by
   intro X hP hw hK hc i pins s σ H E I hf st hg
   subst hP hw hK
   obtain ⟨hi,xs,x,hq,hx⟩:=hg
   obtain ⟨its,rv,p,hz⟩:=I.list hq
   obtain ⟨u,hu,ru⟩:=rv.get hx
   obtain ⟨f0,f1,f2,f3,f4,f5⟩:=hf it (by simp)
   have st2:=st.2
   rw [show (n:Int) - 1 - (i:Int)=((n - 1 - i:Nat):Int) by omega] at st2
   refine wpAny_pyNext_rev_item st2 p.isList (x:=u) (by simpa using hu) λh' st' sb=>?_
   have I1:Inv X pins σ H { s with heap:=h' }:=I.turned (t':=s.toks) (λb o hb e=>(sb.2 b hb).trans e) f0 f1 f3 f4 f5
   obtain ⟨o,e,c,d⟩:=id st'
   refine ⟨u,rfl,mf (s:={ s with heap:=h' }) e c d (by decide) ⟨x,H,I1,ru,⟨rfl,λys hy=>by rw [I.da hy hq]; exact hx⟩,⟨hi,?_⟩,λb hb=>(hf b hb).1⟩⟩
   rw [show (n:Int) - 1 - ((i + 1:Nat):Int)=((n - 1 - i:Nat):Int) - 1 by omega]
   exact st'
 done:=by
   intro X hP hw hK hc i pins s σ H E I hf st hg
   subst hP hw hK
   obtain ⟨f0,f1,f2,f3,f4,f5⟩:=hf it (by simp)
   have st2:=st.2
   have hg:n<=i:=hg
   rw [show (n:Int) - 1 - (i:Int)=-1 by have:=st.1; omega] at st2
   exact wpAny_pyNext_rev_end (I.ok.hd hc) st2 λh' eb=>⟨rfl,I.turned (t':=s.toks) (λb o hb e=>eb b o hb e) f0 f1 f3 f4 f5⟩
 self:=λ_ _ _ _ _ st h=>wpAny_pyIter_revIter st.2 h
section
variable {X:Cx} {tg:Expr}
noncomputable def rH (K:PySem.W.Frag) (ta:TA):TI:=λσ H R=>ta σ H λvs H1=>∃ a xs,vs=[.ref a]/\SqL K H1 a xs/\R (Itv K a xs.length) H1
theorem nJ:bootBuiltins "reversed" = some (.type "reversed"):=by decide +kernel
theorem kS {a:Expr} {ta:TA} {p pos:Pos} (hg:Gl X "reversed") (hm:X.mg "reversed" = none) (ha:PA X [a] ta) (hs:starEach [a] X.env=[(false,eval a X.env)]):PI X tg (.Call (.Name "reversed" p) [a] [] pos) (rH X.K ta):=by
 intro pins s σ H R I h
 refine Call_ (cQ I hg hm nJ (PyProof.Rows.callWith_type1 (thn (ha pos pins s σ H _ I h) λus s1 ⟨vs,H1,I1,r1,q1⟩=>?_) hs rfl))
 obtain ⟨l,xs,e,hq,q⟩:=q1
 subst e
 obtain ⟨u,rfl,ru⟩:=vals1 r1
 cases ru
 obtain ⟨its,rv,pl,hz⟩:=I1.list hq
 have hl:=rv.length
 refine call_reversed_list pl.isList ?_
 have st:({ s1 with heap:=s1.heap.push (revObj l ((its.toArray.size:Int) - 1)) }:Shared).heap.IsRevIter s1.heap.objs.size l ((its.toArray.size:Int) - 1):=⟨_,Heap.get?_push_size _ rfl,rfl,rfl⟩
 refine wpAny_pyIter_revIter st ?_
 refine ⟨s1.heap.objs.size,[s1.heap.objs.size],_,_,H1,rfl,I1.kept (t':=s1.toks) λb o e=>Heap.get?_push_of_some _ e,ph l _ xs.length,⟨Nat.zero_le _,?_⟩,λb hb=>?_,q⟩
 · rw [show (xs.length:Int) - 1 - ((0:Nat):Int)=(its.toArray.size:Int) - 1 by rw [List.size_toArray,<- hl]; omega]
   exact st
 · have e:b=s1.heap.objs.size:=by simpa using hb
   subst e
   exact I1.jD (Nat.le_refl _) (I1.hok.fresh (Nat.le_refl _))
end
theorem oV:∀ (names:List (Str × NameKind)) (n:Nat) (acc:List (Str × Addr)) (x:Str) (c:Addr),(cellsFrom n names acc).lookup x=some c->n<=c\/acc.lookup x=some c
 | [],_,_,_,_,h=>.inr h
 | (y,k) :: r,n,acc,x,c,h=>by
   unfold cellsFrom at h
   split at h
   · rcases oV r (n + 1) _ x c h with q | q
     · exact .inl (by omega)
     · rw [List.lookup_cons] at q
       split at q
       · cases q; exact .inl (Nat.le_refl _)
       · exact .inr q
   · exact oV r n acc x c h
theorem gm:∀ (names:List (Str × NameKind)) (n:Nat) (acc:List (Str × Addr)) (x:Str),(x,NameKind.cell) ∉ names->(cellsFrom n names acc).lookup x=acc.lookup x
 | [],_,_,_,_=>rfl
 | (y,k) :: r,n,acc,x,h=>by
   have h1:(x,NameKind.cell) ∉ r:=λz=>h (List.mem_cons_of_mem _ z)
   unfold cellsFrom
   split
   · rename_i hk
     rw [gm r _ _ x h1,List.lookup_cons]
     have:(x == y)=false:=by
       rw [beq_eq_false_iff_ne]
       rintro rfl
       exact h (by rw [eq_of_beq hk]; exact List.mem_cons_self)
     rw [this]
   · exact gm r n acc x h1
theorem jz:∀ (names:List (Str × NameKind)) (n:Nat) (acc:List (Str × Addr)) (x:Str),(x,NameKind.cell) ∈ names->∃ c,(cellsFrom n names acc).lookup x=some c/\n<=c
 | (y,k) :: r,n,acc,x,h=>by
   unfold cellsFrom
   by_cases hr:(x,NameKind.cell) ∈ r
   · split
     · obtain ⟨c,e,l⟩:=jz r (n + 1) ((y,n) :: acc) x hr
       exact ⟨c,e,by omega⟩
     · exact jz r n acc x hr
   · rcases List.mem_cons.mp h with q | q
     · cases q
       rw [if_pos (by rfl),gm r _ _ _ hr]
       exact ⟨n,by simp [List.lookup_cons],Nat.le_refl _⟩
     · exact absurd q hr
theorem kG:∀ (names:List (Str × NameKind)) (n:Nat) (acc:List (Str × Addr)),(∀ x c,acc.lookup x=some c->c < n)->(∀ x y c,acc.lookup x=some c->acc.lookup y=some c->x=y) ->
   ∀ x y c,(cellsFrom n names acc).lookup x=some c->(cellsFrom n names acc).lookup y=some c->x=y
 | [],_,_,_,h=>h
 | (z,k) :: r,n,acc,hl,h=>by
   unfold cellsFrom
   split
   · refine kG r (n + 1) _ (λx c e=>?_) (λx y c e1 e2=>?_)
     · rw [List.lookup_cons] at e
       split at e
       · cases e; exact Nat.lt_succ_self _
       · exact Nat.lt_succ_of_lt (hl x c e)
     · rw [List.lookup_cons] at e1 e2
       split at e1
       · rename_i q1
         cases e1
         split at e2
         · rename_i q2
           exact (eq_of_beq q1).trans (eq_of_beq q2).symm
         · exact absurd (hl y _ e2) (Nat.lt_irrefl _)
       · split at e2
         · cases e2
           exact absurd (hl x _ e1) (Nat.lt_irrefl _)
         · exact h x y c e1 e2
   · exact kG r n acc hl h
theorem jv:∀ (names:List (Str × NameKind)) (h:Heap) (acc:List (Str × Addr)),(∀ x c,acc.lookup x=some c->∃ v,h.IsCell c v)->∀ x c,(cellsFrom h.objs.size names acc).lookup x=some c->∃ v,(pushCells h names).IsCell c v
 | [],_,_,ha,x,c,e=>ha x c e
 | (z,k) :: r,h,acc,ha,x,c,e=>by
   unfold cellsFrom at e
   unfold pushCells
   split at e
   · rename_i hk
     rw [if_pos hk]
     refine jv r _ ((z,h.objs.size) :: acc) (λy d q=>?_) x c (by rw [Heap.size_push]; exact e)
     rw [List.lookup_cons] at q
     split at q
     · cases q
       exact ⟨none,_,Heap.get?_push_size _ rfl,rfl⟩
     · obtain ⟨v,o,ho,hd⟩:=ha y d q
       exact ⟨v,o,Heap.get?_push_of_some _ ho,hd⟩
   · rename_i hk
     rw [if_neg hk]
     exact jv r h acc ha x c e
noncomputable def bG (env:PySem.Env):List (Str × NameKind)->List (Str × Addr)->List (Str × Addr)
 | [],acc=>acc
 | (n,k) :: r,acc=>if k == .free then (match env.cells.lookup n with | some c=>bG env r ((n,c) :: acc) | none=>bG env r acc) else bG env r acc
theorem gI (env:PySem.Env):∀ (names:List (Str × NameKind)) (acc:List (Str × Addr)),(∀ x ∈ names,x.2=.free->∃ c,env.cells.lookup x.1=some c) ->
   (forIn (m:=Sem) names acc λx cs=>do
     let (name,kind):=x
     if kind == .free then do
       let c <- cellOf env name
       pure (ForInStep.yield ((name,c) :: cs))
     else pure (ForInStep.yield cs))=pure (bG env names acc)
 | [],acc,_=>rfl
 | (n,k) :: r,acc,h=>by
   rw [List.forIn_cons]
   unfold bG
   by_cases hk:(k == .free)=true
   · obtain ⟨c,hc⟩:=h (n,k) List.mem_cons_self (eq_of_beq hk)
     simp only [hk,if_true,cellOf,hc,pure_bind]
     exact gI env r _ λx hx=>h x (List.mem_cons_of_mem _ hx)
   · simp only [hk,Bool.false_eq_true,if_false,pure_bind]
     exact gI env r _ λx hx=>h x (List.mem_cons_of_mem _ hx)
theorem mm {env:PySem.Env} {scope:Scope} (h:∀ x ∈ scope.names,x.2=.free->∃ c,env.cells.lookup x.1=some c):closureFor scope env=pure (bG env scope.names []):=by
 unfold closureFor
 have:=gI env scope.names [] h
 simp only [bind_pure]
 exact this
theorem cx (env:PySem.Env):∀ (names:List (Str × NameKind)) (acc:List (Str × Addr)) (x:Str) (c:Addr),(∀ y d,acc.lookup y=some d->env.cells.lookup y=some d)->(bG env names acc).lookup x=some c->env.cells.lookup x=some c
 | [],_,x,c,ha,h=>ha x c h
 | (n,k) :: r,acc,x,c,ha,h=>by
   unfold bG at h
   split at h
   · split at h
     · rename_i c' hc
       refine cx env r _ x c (λy d q=>?_) h
       rw [List.lookup_cons] at q
       split at q
       · rename_i qq
         cases q
         rw [eq_of_beq qq]; exact hc
       · exact ha y d q
     · exact cx env r acc x c ha h
   · exact cx env r acc x c ha h
theorem bI (env:PySem.Env):∀ (names:List (Str × NameKind)) (acc:List (Str × Addr)) (x:Str) (c:Addr),(∀ y d,acc.lookup y=some d->env.cells.lookup y=some d)->env.cells.lookup x=some c->((x,NameKind.free) ∈ names\/acc.lookup x=some c)->(bG env names acc).lookup x=some c
 | [],_,x,c,_,_,h=>h.elim (λz=>absurd z (by simp)) id
 | (n,k) :: r,acc,x,c,ha,hc,h=>by
   unfold bG
   split
   · split
     · rename_i c' hc'
       refine bI env r _ x c (λy d q=>?_) hc ?_
       · rw [List.lookup_cons] at q
         split at q
         · rename_i qq
           cases q
           rw [eq_of_beq qq]; exact hc'
         · exact ha y d q
       · by_cases q:x=n
         · subst q
           rw [hc] at hc'; cases hc'
           exact .inr (by simp [List.lookup_cons])
         · rcases h with h | h
           · rcases List.mem_cons.mp h with z | z
             · cases z; exact absurd rfl q
             · exact .inl z
           · refine .inr ?_
             rw [List.lookup_cons,beq_eq_false_iff_ne.mpr q]
             exact h
     · rename_i hc'
       refine bI env r acc x c ha hc ?_
       rcases h with h | h
       · rcases List.mem_cons.mp h with z | z
         · cases z; rw [hc] at hc'; cases hc'
         · exact .inl z
       · exact .inr h
   · rename_i hk
     refine bI env r acc x c ha hc ?_
     rcases h with h | h
     · rcases List.mem_cons.mp h with z | z
       · cases z; exact absurd rfl hk
       · exact .inl z
     · exact .inr h
theorem iz {M:Model} {A:Around} {E:Value->Shared->Prop} {s:Shared} {scope:Scope} {cl:List (Str × Addr)} {env:PySem.Env} {Q:PySem.Env->Shared->Prop}
   (h:Q (newEnv scope s.heap.objs.size env.globals (cellsFrom (s.heap.objs.size + 1) scope.names cl) env.qual none .none (some env) builtinsNs) { s with heap:=pushCells (s.heap.push { cls:=.type "dict",data:=.dict #[] }) scope.names }) :
   wpAny M A (newFunctionEnv scope env.globals cl [] env.qual none .none (some env)) Q E s:=by
 simp only [newFunctionEnv,Option.isSome_some,if_true]
 refine wpAny_bind (wpAny_alloc ?_)
 refine wpAny_bind (wpAny_layCells _ (λname kind cells=>by cases hkc:kind == NameKind.cell <;> simp [hkc]) _ _ _ _ ?_)
 rw [show ({ s with heap:=s.heap.push { cls:=.type "dict",data:=.dict #[] } }:Shared).heap.objs.size=s.heap.objs.size + 1 from Heap.size_push ..]
 exact wpAny_bind (wpAny_pure (wpAny_pure h))
noncomputable def aC (X:Cx) (s:Shared) (H:Hp) (scope:Scope) (N:List Str) (fp:List Addr):Cx:=
 { prog:=X.prog,w:=X.w,K:=X.K,mg:=X.mg,base:=X.base,A:=X.A,N:=N,s₀:=s,H₀:=H
   env:=compEnvC scope (cellsFrom (s.heap.objs.size + 1 + 1) scope.names (bG X.env scope.names [])) (s.heap.objs.size + 1) X.env
   outer:=X.stack,stack:=X.stack,ex:=fp,fn:=λx=>decide ((x,NameKind.cell) ∈ scope.names),calm:=X.calm,pn:=[],xe:=λ_ _=>False }
noncomputable def dr (σ:L2.St) (caps:List (Option Nat)):L2.St:=caps.map λo=>o.bind λi=>(σ[i]?).join
structure cF (X:Cx) (scope:Scope) (N:List Str) (caps:List (Option Nat)):Prop where
 kind:scope.kind=.function
 loc:∀ x ∈ scope.names,x.2=.local->scope.names.lookup x.1=some .local
 fre:∀ x ∈ scope.names,x.2=.free->X.env.kindOf x.1=some .cell
 one:∀ x,(x,NameKind.free) ∈ scope.names->(x,NameKind.cell) ∉ scope.names
 noboth:∀ x,(x,NameKind.free) ∈ scope.names->(x,NameKind.local) ∉ scope.names
 len:N.length=caps.length + 1
 cap:∀ (j i:Nat),caps[j]?=some (some i)->∃ x,N[j]?=some x/\X.N[i]?=some x/\(x,NameKind.free) ∈ scope.names
 acc:∃ z,N[caps.length]?=some z/\¬ Vis (relabel scope X.env) z
section
variable {X:Cx} {pins:List (Addr × Obj)} {σ:L2.St} {H:Hp} {s:Shared} {scope:Scope} {N:List Str} {caps:List (Option Nat)} {fp:List Addr}
theorem cE {env:PySem.Env} {x:Str} {names:List (Str × NameKind)} (h:∀ y,(y,NameKind.free) ∈ names->env.kindOf y=some .cell) (hk:env.scope.kind=.function) {k:NameKind}
   (e:(names.map λ(n,k)=>if (k == NameKind.free && env.scope.kind == .function && env.kindOf n == some .cell) then (n,NameKind.cell) else (n,k)).lookup x=some k) :
   (x,k) ∈ names\/((x,NameKind.free) ∈ names/\k=.cell):=by
 induction names with
 | nil=>cases e
 | cons p r ih=>
   obtain ⟨n,q⟩:=p
   rw [List.map_cons] at e
   have hr:∀ y,(y,NameKind.free) ∈ r->env.kindOf y=some .cell:=λy hy=>h y (List.mem_cons_of_mem _ hy)
   have sub:((x,k) ∈ r\/((x,NameKind.free) ∈ r/\k=.cell))->(x,k) ∈ (n,q) :: r\/((x,NameKind.free) ∈ (n,q) :: r/\k=.cell):=λz=>
     z.elim (λy=>.inl (List.mem_cons_of_mem _ y)) λy=>.inr ⟨List.mem_cons_of_mem _ y.1,y.2⟩
   dsimp only at e
   split at e
   · rename_i c
     rw [List.lookup_cons] at e
     split at e
     · rename_i qq
       cases e
       rw [Bool.and_eq_true,Bool.and_eq_true] at c
       rw [eq_of_beq qq,eq_of_beq c.1.1]
       exact .inr ⟨List.mem_cons_self,rfl⟩
     · exact sub (ih hr e)
   · rename_i c
     rw [List.lookup_cons] at e
     split at e
     · rename_i qq
       cases e
       rw [eq_of_beq qq]
       exact .inl List.mem_cons_self
     · exact sub (ih hr e)
theorem dW (I:Inv X pins σ H s) (c:cF X scope N caps):∀ x ∈ scope.names,x.2=.free->∃ d,X.env.cells.lookup x.1=some d:=λx hx hf=>I.ok.has x.1 (.inl (c.fre x hx hf))
theorem j9 (I:Inv X pins σ H s) (hf:∀ b ∈ fp,g8 X pins H b) (ho:∀ b ∈ fp,∃ o,s.heap.get? b=some o) (c:cF X scope N caps) :
   Inv (aC X s H scope N fp) [] (dr σ caps++[some (.ref s.heap.objs.size)]) (upd H s.heap.objs.size (.lst []))
     { s with heap:=pushCells ((s.heap.push { cls:=.type "list",data:=.seq ([]:List Value).toArray }).push { cls:=.type "dict",data:=.dict #[] }) scope.names }:=by
 have hcl:∀ x d,(bG X.env scope.names []).lookup x=some d->X.env.cells.lookup x=some d:=λx d=>cx X.env scope.names [] x d (λy d z=>by simp at z)
 have kp:∀ b o,s.heap.get? b=some o->(pushCells ((s.heap.push { cls:=.type "list",data:=.seq ([]:List Value).toArray }).push { cls:=.type "dict",data:=.dict #[] }) scope.names).get? b=some o:=λb o e=>
   pushCells_keeps _ _ b o (Heap.get?_push_of_some _ (Heap.get?_push_of_some _ e))
 have sz2:((s.heap.push { cls:=.type "list",data:=.seq ([]:List Value).toArray }).push { cls:=.type "dict",data:=.dict #[] }).objs.size=s.heap.objs.size + 1 + 1:=by rw [Heap.size_push,Heap.size_push]
 have oldc:∀ x d,X.env.cells.lookup x=some d->d < s.heap.objs.size:=λx d e=>by
   obtain ⟨v,o,q,_⟩:=I.cell x d e
   exact Heap.lt_size q
 have cel:∀ x d,(aC X s H scope N fp).env.cells.lookup x=some d->s.heap.objs.size + 1 + 1<=d\/X.env.cells.lookup x=some d:=λx d e=>by
   rcases oV _ _ _ x d e with q | q
   · exact .inl q
   · exact .inr (hcl x d q)
 have ok:(aC X s H scope N fp).Ok:=by
   refine ⟨I.ok.mod,c.kind,I.ok.glob,I.ok.blt,Nat.le_succ _,?_,?_,?_,I.ok.hd,I.ok.frames,.inl rfl,?_,I.bs,Nat.le_trans I.ok.bsz I.sz,?_,?_,I.stack,I.lM⟩
   · exact kG _ _ _ (λx d e=>Nat.lt_of_lt_of_le (oldc x d (hcl x d e)) (by omega)) λx y d e1 e2=>I.ok.inj x y d (hcl x d e1) (hcl y d e2)
   · intro x hx
     have hfk:∀ y,(y,NameKind.free) ∈ scope.names->X.env.kindOf y=some .cell:=λy hy=>c.fre _ hy rfl
     have fre:(x,NameKind.free) ∈ scope.names->∃ d,(aC X s H scope N fp).env.cells.lookup x=some d:=λhm=>by
       obtain ⟨d,hd⟩:=dW I c _ hm rfl
       exact ⟨d,by
         show (cellsFrom _ scope.names _).lookup x=_
         rw [gm _ _ _ x (c.one x hm)]
         exact bI X.env scope.names [] x d (λy e z=>by simp at z) hd (.inl hm)⟩
     have own:(x,NameKind.cell) ∈ scope.names->∃ d,(aC X s H scope N fp).env.cells.lookup x=some d:=λhm=>by
       obtain ⟨d,e,_⟩:=jz scope.names (s.heap.objs.size + 1 + 1) (bG X.env scope.names []) x hm
       exact ⟨d,e⟩
     rcases hx with hx | hx
     · rcases cE hfk I.ok.kind (show (scope.names.map _).lookup x=some .cell from hx) with q | q
       · exact own q
       · exact fre q.1
     · rcases cE hfk I.ok.kind (show (scope.names.map _).lookup x=some .free from hx) with q | q
       · exact fre q
       · exact fre q.1
   · intro x d hfn e
     have hm:(x,NameKind.cell) ∈ scope.names:=of_decide_eq_true hfn
     obtain ⟨d',e',l⟩:=jz scope.names (s.heap.objs.size + 1 + 1) (bG X.env scope.names []) x hm
     have e2:(cellsFrom (s.heap.objs.size + 1 + 1) scope.names (bG X.env scope.names [])).lookup x=some d:=e
     rw [e'] at e2; cases e2
     exact Nat.le_trans (Nat.le_trans (Nat.le_succ _) (Nat.le_succ _)) l
   · intro b hb
     obtain ⟨o,q⟩:=ho b hb
     have bl:=Heap.lt_size q
     refine ⟨λz=>?_,λx d e z=>?_⟩
     · have z':b=s.heap.objs.size + 1:=z
       rw [z'] at bl
       exact absurd bl (Nat.not_lt.mpr (Nat.le_succ _))
     · subst z
       rcases cel x d e with q | q
       · exact absurd (Nat.lt_of_lt_of_le bl (Nat.le_trans (Nat.le_trans (Nat.le_succ _) (Nat.le_succ _)) q)) (Nat.lt_irrefl _)
       · exact (hf d hb).2.2.2.2.1 x d q rfl
   · intro b o e hb
     rcases (hf b hb).2.2.2.1 with q | q
     · exact I.ok.noex b o e q
     · have:=Nat.lt_of_lt_of_le (Heap.lt_size e) I.ok.bsz
       exact absurd (Nat.lt_of_lt_of_le this q) (Nat.lt_irrefl _)
   · intro b hb hm
     rcases List.mem_cons.mp (I.kE b hm) with q | q
     · exact (hf b hb).2.1 q
     · exact (hf b hb).2.2.1 q
 have hD:(pushCells ((s.heap.push { cls:=.type "list",data:=.seq ([]:List Value).toArray }).push { cls:=.type "dict",data:=.dict #[] }) scope.names).get? s.heap.objs.size=some { cls:=.type "list",data:=.seq ([]:List Value).toArray }:=
   pushCells_keeps _ _ _ _ (Heap.get?_push_of_some _ (Heap.get?_push_size _ rfl))
 have fr:∀ a,s.heap.objs.size<=a->a ≠ s.heap.objs.size->(upd H s.heap.objs.size (.lst [])) a=none:=λa h1 h2=>by rw [ay h2]; exact I.hok.fresh h1
 refine ⟨ok,rfl,I.bare,Un.laid kp (Nat.le_refl _) (I.hok.fresh (Nat.le_refl _)),⟨λ_=>none,?_,λi x v e1 e2 e3=>?_⟩,λx d e=>?_,?_,λx d e=>?_,λp hp=>absurd (show p ∈ ([]:List (Addr × Obj)) from hp) (by simp),?_,?_⟩
 · have:=Heap.Ns.new (s.heap.push { cls:=.type "list",data:=.seq ([]:List Value).toArray }) (.type "dict")
   rw [Heap.size_push] at this
   exact this.keeps (pushCells_keeps _ _)
 · by_cases hi:i < caps.length
   · rw [List.getElem?_append_left (by unfold dr; rw [List.length_map]; exact hi)] at e2
     unfold dr at e2
     rw [List.getElem?_map] at e2
     cases hc:caps[i]? with
     | none=>rw [hc] at e2; cases e2
     | some o=>
       rw [hc] at e2
       cases o with
       | none=>cases e2
       | some j=>
         have e2':(σ[j]?).join=some v:=Option.some.inj e2
         have e4:σ[j]?=some (some v):=by
           cases q:σ[j]? with
           | none=>rw [q] at e2'; cases e2'
           | some y=>rw [q] at e2'; exact congrArg some e2'
         obtain ⟨x',g1,g2,g3⟩:=c.cap i j hc
         rw [show (aC X s H scope N fp).N=N from rfl,g1] at e1
         cases e1
         have hkc:=c.fre _ g3 rfl
         obtain ⟨m,_,hl⟩:=I.loc
         obtain ⟨u,ru,look⟩:=hl j x v g2 e4 (.inr (.inl hkc))
         refine ⟨u,ru,?_⟩
         rcases look with ⟨k,_⟩ | ⟨k,d,hd,hcell⟩
         · rw [hkc] at k; cases k
         · have e5:(aC X s H scope N fp).env.cells.lookup x=some d:=by
             show (cellsFrom _ scope.names _).lookup x=_
             rw [gm _ _ _ x (c.one x g3)]
             exact bI X.env scope.names [] x d (λy e z=>by simp at z) hd (.inl g3)
           have hcell':Heap.IsCell (pushCells ((s.heap.push { cls:=.type "list",data:=.seq ([]:List Value).toArray }).push { cls:=.type "dict",data:=.dict #[] }) scope.names) d (some u):=by
             obtain ⟨o,q1,q2⟩:=hcell
             exact ⟨o,kp _ _ q1,q2⟩
           refine .inr ⟨?_,d,e5,hcell'⟩
           rcases e3 with e3 | e3 | e3
           · exfalso
             rcases cE (λy hy=>c.fre _ hy rfl) I.ok.kind (show (scope.names.map _).lookup x=some .local from e3) with q | q
             · have q1:=c.loc _ q rfl
               exact c.noboth x g3 q
             · cases q.2
           · exact .inl e3
           · exact .inr e3
   · exfalso
     obtain ⟨z,z1,z2⟩:=c.acc
     have hl:i < N.length:=(List.getElem?_eq_some_iff.mp e1).1
     have:i=caps.length:=by have:=c.len; omega
     subst this
     rw [show (aC X s H scope N fp).N=N from rfl,z1] at e1
     cases e1
     exact z2 e3
 · rw [show (aC X s H scope N fp).env.cells=cellsFrom (s.heap.objs.size + 1 + 1) scope.names (bG X.env scope.names []) from rfl,<- sz2] at e
   refine jv scope.names _ _ (λy d' q=>?_) x d e
   obtain ⟨v,o,q1,q2⟩:=I.cell y d' (hcl y d' q)
   exact ⟨v,o,Heap.get?_push_of_some _ (Heap.get?_push_of_some _ q1),q2⟩
 · exact fr _ (Nat.le_succ _) (Nat.succ_ne_self _)
 · rcases cel x d e with q | q
   · exact fr d (by omega) (by intro z; omega)
   · rw [ay (Nat.ne_of_lt (oldc x d q))]; exact I.freeC x d q
 · exact I.hok.laid kp (Nat.le_refl _) ⟨Nat.zero_le _,[],0,.nil,hD⟩
 · rw [List.length_append]
   unfold dr
   rw [List.length_map,show (aC X s H scope N fp).N=N from rfl,c.len]
   rfl
end
noncomputable def PTs (X:Cx) (ifs:List Expr) (t:TT):Prop:=
 ∀ (pins:List (Addr × Obj)) (s:Shared) (σ:L2.St) (H:Hp) (Q:Bool->Hp->Prop),Inv X pins σ H s->t σ H Q ->
   wpAny (model X.prog X.w) X.A (forIn ifs true λc r=>if r=true then do let ok <- isTrue c X.env (eval c X.env); pure (ForInStep.yield ok) else pure (ForInStep.yield r)) (TP X pins σ Q) X.xe s
section
variable {prog:Program} {w:World} {A:Around} {R:Result->Shared->Prop} {s:Shared}
theorem gu {elt target iter:Expr} {ifs:List Expr} {scope:Scope} {pos:Pos} {it acc:Value} {env:PySem.Env} (Iv:Nat->Shared->Prop)
   (step:∀ n s,Iv n s->wpAny (model prog w) A (pyNext it) (λr s₁=>match r with
     | none=>R (.ok .next) s₁
     | some v=>wpAny (model prog w) A (letOwnedTupleGo target it v) (λ_ s₀=>wpAny (model prog w) A (assign target env v) (λ_ s₂=>
         wpAny (model prog w) A (forIn ifs true λc r=>if r=true then do let ok <- isTrue c env (eval c env); pure (ForInStep.yield ok) else pure (ForInStep.yield r)) (λok s₃=>
           if ok=true then wpAny (model prog w) A (eval elt env) (λx s₄=>
             wpAny (model prog w) A (call (.builtin "list.append") [acc,x]) (λ_ s₅=>∃ m,m < n/\Iv m s₅) (λ_ _=>False) s₄) (λ_ _=>False) s₃
           else ∃ m,m < n/\Iv m s₃) (λ_ _=>False) s₂) (λ_ _=>False) s₀) (λ_ _=>False) s₁) (λ_ _=>False) s)
   (n:Nat) (h:Iv n s):codeAny (model prog w) A (.compLoop (.ListComp elt [⟨target,iter,ifs,0⟩] scope pos) 0 it acc env) R s:=by
 have no:∀ {α:Type} {t:Sem α} {Q:α->Shared->Prop} {s:Shared} {E:Value->Shared->Prop},wpAny (model prog w) A t Q (λ_ _=>False) s->wpAny (model prog w) A t Q E s:=λh=>wpAny_mono h (λ_ _ q=>q) λ_ _ q=>q.elim
 refine codeAny_loop rfl Iv (λn s hI=>?_) n h
 show wpAny _ A (Sem.onRaise (compTurn (.ListComp elt [⟨target,iter,ifs,0⟩] scope pos) 0 it acc env) (λx=>do noteFrame x env; theTreesLotGoes x)) _ _ s
 refine wpAny_noted ?_
 rw [compTurn_list]
 refine wpAny_bind (wpAny_standAt (wpAny_bind (thn (no (step n s hI)) λr s₁ h₁=>?_)))
 cases r with
 | none=>exact wpAny_pure h₁
 | some v=>
   refine wpAny_bind (thn (no h₁) λ_ s₀ h₀=>wpAny_bind (thn (no h₀) λ_ s₂ h₂=>wpAny_bind (thn (no h₂) λok s₃ h₃=>?_)))
   cases ok with
   | false=>exact wpAny_pure ⟨rfl,h₃⟩
   | true=>exact wpAny_bind (wpAny_bind (thn (no h₃) λx s₄ h₄=>wpAny_bind (thn (no h₄) λ_ s₅ h₅=>wpAny_pure (wpAny_pure ⟨rfl,h₅⟩))))
end
noncomputable def dH (In:TG->TT->TE->Prop) (caps:List (Option Nat)) (wi:TI):TE:=λσ H Q=>wi σ H λJ H1=>∃ g tt te,In g tt te/\∀ D,H1 D=none ->
 ∃ Z:Nat->Nat->L2.St->Hp->Prop,(∃ m,Z 0 m (dr σ caps++[some (.ref D)]) (upd H1 D (.lst [])))/\∀ i m σ' H',Z i m σ' H' ->
   (J.stop i H'/\Q (.ref D) H')\/(J.go i H'/\∀ x H2,J.yld i H' x H2->g x σ' H2 λσ2 H3=>tt σ2 H3 λb H4=>
     if b=true then te σ2 H4 λv H5=>∃ vs m',H5 D=some (.lst vs)/\vs.length < sizeLine/\m' < m/\Z (i + 1) m' σ2 (upd H5 D (.lst (vs++[v]))) else ∃ m',m' < m/\Z (i + 1) m' σ2 H4)
theorem cy {X:Cx} {elt tg iter:Expr} {ifs:List Expr} {scope:Scope} {N:List Str} {caps:List (Option Nat)} {pos:Pos} {wi:TI} {In:TG->TT->TE->Prop} (hc:X.calm=true) (c:cF X scope N caps) (hi:PI X tg iter wi)
   (hs:∀ x,foldedSetIterable iter X.env x=pure x)
   (hin:∀ g tt te,In g tt te->∀ s H fp,PG (aC X s H scope N fp) tg g/\PTs (aC X s H scope N fp) ifs tt/\PE (aC X s H scope N fp) elt te) :
   PE X (.ListComp elt [⟨tg,iter,ifs,0⟩] scope pos) (dH In caps wi):=by
 intro pins s σ H Q I h
 rw [eval_ListComp]
 have hcl:=mm (dW I c)
 refine wpAny_comprehension_free (use:=none) (g:=⟨tg,iter,ifs,0⟩) (gs:=[]) rfl hs hcl c.kind c.loc ?_
 show wpAny _ _ (eval iter X.env) _ _ s
 refine thn (hi pins s σ H _ I h) λv s1 h1=>thn h1 λitv s2 h2=>?_
 obtain ⟨it,fp,tn,J,H2,e,I2,T,st2,f2,g,tt,te,hI,q⟩:=h2
 subst e
 obtain ⟨Z,⟨m0,z0⟩,turn⟩:=q s2.heap.objs.size (I2.hok.fresh (Nat.le_refl _))
 have ho:∀ b ∈ fp,∃ o,s2.heap.get? b=some o:=λb hb=>let ⟨o,e,_⟩:=T.obj _ _ st2 b hb; ⟨o,e⟩
 have I4:=j9 (scope:=scope) (N:=N) (caps:=caps) I2 f2 ho c
 obtain ⟨hg,ht,he⟩:=hin g tt te hI s2 H2 fp
 refine wpAny_newObj_type (iz ?_) (by show 0<=sizeLine; decide)
 have hC:(s2.heap.push { cls:=.type "list",dict:=none,data:=.seq ([]:List Value).toArray }).objs.size=s2.heap.objs.size + 1:=Heap.size_push ..
 dsimp only
 rw [hC]
 have kp:∀ b o,s2.heap.get? b=some o->(pushCells ((s2.heap.push { cls:=.type "list",data:=.seq ([]:List Value).toArray }).push { cls:=.type "dict",data:=.dict #[] }) scope.names).get? b=some o:=λb o e=>
   pushCells_keeps _ _ b o (Heap.get?_push_of_some _ (Heap.get?_push_of_some _ e))
 have st4:tn 0 (pushCells ((s2.heap.push { cls:=.type "list",data:=.seq ([]:List Value).toArray }).push { cls:=.type "dict",data:=.dict #[] }) scope.names):=T.keep _ _ _ st2 λb _ o e=>kp b o e
 have stat:∀ {H':Hp},(∀ b ∈ fp,H' b=none)->∀ b ∈ fp,g8 (aC X s2 H2 scope N fp) [] H' b:=λhn b hb=>
   ⟨hn b hb,(I4.ok.exf b hb).1,I4.ok.exfs b hb,.inl hb,(I4.ok.exf b hb).2,λp hp=>absurd (show p ∈ ([]:List (Addr × Obj)) from hp) (by simp)⟩
 have fr4:∀ b ∈ fp,(upd H2 s2.heap.objs.size (.lst [])) b=none:=λb hb=>by
   obtain ⟨o,e⟩:=ho b hb
   rw [ay (Nat.ne_of_lt (Heap.lt_size e))]; exact (f2 b hb).1
 have loop:codeAny (model X.prog X.w) X.A (.compLoop (.ListComp elt [⟨tg,iter,ifs,0⟩] scope pos) 0 (.ref it) (.ref s2.heap.objs.size) (aC X s2 H2 scope N fp).env)
     (compPost (model X.prog X.w) X.A X.xe none (EP X pins σ Q) (.ref s2.heap.objs.size) (s2.heap.objs.size + 1))
     { s2 with heap:=pushCells ((s2.heap.push { cls:=.type "list",data:=.seq ([]:List Value).toArray }).push { cls:=.type "dict",data:=.dict #[] }) scope.names }:=by
   refine gu (λn s'=>∃ i σ' H',Inv (aC X s2 H2 scope N fp) [] σ' H' s'/\tn i s'.heap/\(∀ b ∈ fp,H' b=none)/\Z i n σ' H') ?_ m0 ⟨0,_,_,I4,st4,fr4,z0⟩
   rintro n s3 ⟨i,σ3,H3,I3,st3,fr3,w3⟩
   rcases turn i n σ3 H3 w3 with ⟨stop,qn⟩ | ⟨go,step⟩
   · refine thn (T.done (aC X s2 H2 scope N fp) rfl rfl rfl hc i [] s3 σ3 H3 _ I3 (stat fr3) st3 stop) λr s5 ⟨hr,I5⟩=>?_
     subst hr
     obtain ⟨m,hn,_⟩:=id I5.loc
     refine ⟨m,hn,λh' sb=>⟨.ref s2.heap.objs.size,H3,?_,rfl,qn⟩⟩
     have lt:∀ b o,s2.heap.get? b=some o->b ≠ s2.heap.objs.size + 1:=λb o e=>Nat.ne_of_lt (Nat.lt_succ_of_lt (Heap.lt_size e))
     have u:=I5.base
     have u':Un (frs X.stack) fp H2 H3 s2.heap h':=⟨λb o e n1 n2 n3=>(sb.2 b (lt b o e)).trans (u.keep b o e n1 n2 n3),λb o e n1 n2 n3=>let ⟨sl,z⟩:=u.slot b o e n1 n2 n3; ⟨sl,(sb.2 b (lt b o e)).trans z⟩,
       u.free,λb o e n1=>let ⟨o',z⟩:=u.there b o e n1; ⟨o',(sb.2 b (lt b o e)).trans z⟩,u.tups,u.frzs,u.tbls⟩
     have fC:H3 (s2.heap.objs.size + 1)=none:=I5.free
     refine I2.rl (s':={ s5 with heap:=h' }) I5.os u' (λb o e=>(I5.hok b o e).gf (λd v hd z=>(sb.2 d ?_).trans z) (λ_ z=>z) λ_ _ z=>z) I5.bare λb hb=>⟨(f2 b hb).2.2.2.1,(f2 b hb).2.1,(f2 b hb).2.2.2.2.1,(f2 b hb).2.2.2.2.2⟩
     rcases hd with hd | hd
     · rw [hd]; exact aF e fC
     · exact aF hd fC
   · refine thn (T.item (aC X s2 H2 scope N fp) rfl rfl rfl hc i [] s3 σ3 H3 _ I3 (stat fr3) st3 go) λr s4 ⟨u,hr,h4⟩=>?_
     subst hr
     refine thn h4 λ_ s5 ⟨x,H5,I5,r5,y5,st5,fr5⟩=>?_
     have I5':=I5.pinned (stat fr5) (T.obj _ _ st5)
     refine thn (hg _ s5 σ3 H5 x u _ I5' r5 (step x H5 y5)) λ_ s6 ⟨σ6,H6,I6,q6⟩=>?_
     have again:∀ {s7:Shared} {σ7:L2.St} {H7:Hp} {m':Nat},Inv (aC X s2 H2 scope N fp) ([]++d0 fp s5.heap) σ7 H7 s7->m' < n->Z (i + 1) m' σ7 H7 ->
         ∃ m,m < n/\∃ i σ' H',Inv (aC X s2 H2 scope N fp) [] σ' H' s7/\tn i s7.heap/\(∀ b ∈ fp,H' b=none)/\Z i m σ' H':=λ{s7 σ7 H7 m'} I7 hm z7=>by
       refine ⟨m',hm,i + 1,σ7,H7,I7.cg,T.keep _ _ _ st5 λb hb o e=>(I7.pin (b,o) (List.mem_append_right _ (List.mem_append_right _ (bg hb e)))).1,λb hb=>?_,z7⟩
       obtain ⟨o,e,d⟩:=T.obj _ _ st5 b hb
       exact (I7.pin (b,o) (List.mem_append_right _ (List.mem_append_right _ (bg hb e)))).2.1
     refine thn (ht _ s6 σ6 H6 _ I6 q6) λok s7 ⟨H7,I7,q7⟩=>?_
     cases ok with
     | false=>
       rw [if_neg (by decide)] at q7
       obtain ⟨m',hm,z7⟩:=q7
       exact again I7 hm z7
     | true=>
       rw [if_pos rfl] at q7
       refine thn (he _ s7 σ6 H7 _ I7 q7) λv' s8 ⟨v,H8,I8,r8,vs,m',q8,l8,hm,z8⟩=>?_
       refine thn (eW (X:=aC X s2 H2 scope N fp) _ s8 σ6 H8 (.ref s2.heap.objs.size) [v] (.ref s2.heap.objs.size) [v'] (λ_ H9=>H9=upd H8 s2.heap.objs.size (.lst (vs++[v]))) I8 rfl (.cons r8 .nil) ⟨_,vs,v,rfl,rfl,q8,l8,rfl⟩) λ_ s9 ⟨_,H9,I9,_,e9⟩=>?_
       subst e9
       exact again I9 hm z8
 exact codeAny_compStart_list loop (T.self _ 0 _ _ _ st4 loop)
theorem jJ {X:Cx} {gT:TG} {y:Str} {py spos:Pos} {elt tg iter:Expr} {ifs:List Expr} {scope:Scope} {N:List Str} {caps:List (Option Nat)} {pos:Pos} {wi:TI} {In:TG->TT->TE->Prop} (hT:PG X (.Name y py) gT) (hc:X.calm=true) (c:cF X scope N caps) (hi:PI X tg iter wi)
   (hs:∀ x,foldedSetIterable iter X.env x=pure x)
   (hin:∀ g tt te,In g tt te->∀ s H fp,PG (aC X s H scope N fp) tg g/\PTs (aC X s H scope N fp) ifs tt/\PE (aC X s H scope N fp) elt te)
   (hsw:swapsWith (.ListComp elt [⟨tg,iter,ifs,0⟩] scope pos) (some (.Name y py)) spos.line X.env=pure true) :
   PS X (.Assign [.Name y py] (.ListComp elt [⟨tg,iter,ifs,0⟩] scope pos) spos) (sI (dH In caps wi) gT):=by
 intro pins s σ H D I h
 rw [exec_Assign_Name_used _ _ _ _ hsw]
 refine wpAny_bind (wpAny_standAt (wpAny_bind ?_))
 show wpAny _ _ (do let _ <- comprehension (.ListComp elt [⟨tg,iter,ifs,0⟩] scope pos) scope X.env _ (newList []) false _ (some (assign (.Name y py) X.env))) _ _ s
 refine wpAny_bind ?_
 have hcl:=mm (dW I c)
 refine wpAny_comprehension_free (use:=some (assign (.Name y py) X.env)) (Q:=λ_ s'=>wpAny (model X.prog X.w) X.A (pure ()) (λ_ s''=>wpAny (model X.prog X.w) X.A (pure Flow.next) (SP X pins D) X.xe s'') X.xe s') (g:=⟨tg,iter,ifs,0⟩) (gs:=[]) rfl hs hcl c.kind c.loc ?_
 show wpAny _ _ (eval iter X.env) _ _ s
 refine thn (hi pins s σ H _ I h) λv s1 h1=>thn h1 λitv s2 h2=>?_
 obtain ⟨it,fp,tn,J,H2,e,I2,T,st2,f2,g,tt,te,hI,q⟩:=h2
 subst e
 obtain ⟨Z,⟨m0,z0⟩,turn⟩:=q s2.heap.objs.size (I2.hok.fresh (Nat.le_refl _))
 have ho:∀ b ∈ fp,∃ o,s2.heap.get? b=some o:=λb hb=>let ⟨o,e,_⟩:=T.obj _ _ st2 b hb; ⟨o,e⟩
 have I4:=j9 (scope:=scope) (N:=N) (caps:=caps) I2 f2 ho c
 obtain ⟨hg,ht,he⟩:=hin g tt te hI s2 H2 fp
 refine wpAny_newObj_type (iz ?_) (by show 0<=sizeLine; decide)
 have hC:(s2.heap.push { cls:=.type "list",dict:=none,data:=.seq ([]:List Value).toArray }).objs.size=s2.heap.objs.size + 1:=Heap.size_push ..
 dsimp only
 rw [hC]
 have kp:∀ b o,s2.heap.get? b=some o->(pushCells ((s2.heap.push { cls:=.type "list",data:=.seq ([]:List Value).toArray }).push { cls:=.type "dict",data:=.dict #[] }) scope.names).get? b=some o:=λb o e=>
   pushCells_keeps _ _ b o (Heap.get?_push_of_some _ (Heap.get?_push_of_some _ e))
 have st4:tn 0 (pushCells ((s2.heap.push { cls:=.type "list",data:=.seq ([]:List Value).toArray }).push { cls:=.type "dict",data:=.dict #[] }) scope.names):=T.keep _ _ _ st2 λb _ o e=>kp b o e
 have stat:∀ {H':Hp},(∀ b ∈ fp,H' b=none)->∀ b ∈ fp,g8 (aC X s2 H2 scope N fp) [] H' b:=λhn b hb=>
   ⟨hn b hb,(I4.ok.exf b hb).1,I4.ok.exfs b hb,.inl hb,(I4.ok.exf b hb).2,λp hp=>absurd (show p ∈ ([]:List (Addr × Obj)) from hp) (by simp)⟩
 have fr4:∀ b ∈ fp,(upd H2 s2.heap.objs.size (.lst [])) b=none:=λb hb=>by
   obtain ⟨o,e⟩:=ho b hb
   rw [ay (Nat.ne_of_lt (Heap.lt_size e))]; exact (f2 b hb).1
 have loop:codeAny (model X.prog X.w) X.A (.compLoop (.ListComp elt [⟨tg,iter,ifs,0⟩] scope pos) 0 (.ref it) (.ref s2.heap.objs.size) (aC X s2 H2 scope N fp).env)
     (compPost (model X.prog X.w) X.A X.xe (some (assign (.Name y py) X.env)) (λ_ s'=>wpAny (model X.prog X.w) X.A (pure ()) (λ_ s''=>wpAny (model X.prog X.w) X.A (pure Flow.next) (SP X pins D) X.xe s'') X.xe s') (.ref s2.heap.objs.size) (s2.heap.objs.size + 1))
     { s2 with heap:=pushCells ((s2.heap.push { cls:=.type "list",data:=.seq ([]:List Value).toArray }).push { cls:=.type "dict",data:=.dict #[] }) scope.names }:=by
   refine gu (λn s'=>∃ i σ' H',Inv (aC X s2 H2 scope N fp) [] σ' H' s'/\tn i s'.heap/\(∀ b ∈ fp,H' b=none)/\Z i n σ' H') ?_ m0 ⟨0,_,_,I4,st4,fr4,z0⟩
   rintro n s3 ⟨i,σ3,H3,I3,st3,fr3,w3⟩
   rcases turn i n σ3 H3 w3 with ⟨stop,qn⟩ | ⟨go,step⟩
   · refine thn (T.done (aC X s2 H2 scope N fp) rfl rfl rfl hc i [] s3 σ3 H3 _ I3 (stat fr3) st3 stop) λr s5 ⟨hr,I5⟩=>?_
     subst hr
     obtain ⟨m,hn,_⟩:=id I5.loc
     have I6:Inv X pins σ H3 s5:=by
       have lt:∀ b o,s2.heap.get? b=some o->b ≠ s2.heap.objs.size + 1:=λb o e=>Nat.ne_of_lt (Nat.lt_succ_of_lt (Heap.lt_size e))
       have u:=I5.base
       have u':Un (frs X.stack) fp H2 H3 s2.heap s5.heap:=⟨λb o e n1 n2 n3=>u.keep b o e n1 n2 n3,λb o e n1 n2 n3=>u.slot b o e n1 n2 n3,u.free,λb o e n1=>u.there b o e n1,u.tups,u.frzs,u.tbls⟩
       exact I2.rl (s':=s5) I5.os u' I5.hok I5.bare λb hb=>⟨(f2 b hb).2.2.2.1,(f2 b hb).2.1,(f2 b hb).2.2.2.2.1,(f2 b hb).2.2.2.2.2⟩
     have fC:H3 (s2.heap.objs.size + 1)=none:=I5.free
     have fk:g8 X pins H3 (s2.heap.objs.size + 1):=I2.jD (Nat.le_succ _) fC
     obtain ⟨oC,es,ep,hoC,hdC,rC⟩:=id hn
     have hpin:=I6.pinned (fp:=[s2.heap.objs.size + 1]) (λb hb=>by rw [List.mem_singleton.mp hb]; exact fk) (λb hb=>by rw [List.mem_singleton.mp hb]; exact ⟨oC,hoC,λv z=>by rw [hdC] at z; cases z⟩)
     have hmem:(s2.heap.objs.size + 1,oC) ∈ d0 [s2.heap.objs.size + 1] s5.heap:=bg (List.mem_singleton_self _) hoC
     refine thn (hT _ s5 σ H3 (.ref s2.heap.objs.size) (.ref s2.heap.objs.size) _ hpin rfl qn) λ_ s6 ⟨σ6,H6,I7,q7⟩=>?_
     obtain ⟨p1,p2,p3,p4,p5⟩:=I7.pin _ (List.mem_append_right _ (List.mem_append_right _ hmem))
     refine ⟨m,⟨oC,es,ep,p1,hdC,rC⟩,λh' sb=>wpAny_pure (wpAny_pure ?_)⟩
     refine ⟨σ6,H6,?_,q7⟩
     exact (I7.cg).turned (t':=s6.toks) (it:=s2.heap.objs.size + 1) (λb o hb e=>(sb.2 b hb).trans e) p2 p3 fk.2.2.2.1 fk.2.2.2.2.1 fk.2.2.2.2.2
   · refine thn (T.item (aC X s2 H2 scope N fp) rfl rfl rfl hc i [] s3 σ3 H3 _ I3 (stat fr3) st3 go) λr s4 ⟨u,hr,h4⟩=>?_
     subst hr
     refine thn h4 λ_ s5 ⟨x,H5,I5,r5,y5,st5,fr5⟩=>?_
     have I5':=I5.pinned (stat fr5) (T.obj _ _ st5)
     refine thn (hg _ s5 σ3 H5 x u _ I5' r5 (step x H5 y5)) λ_ s6 ⟨σ6,H6,I6,q6⟩=>?_
     have again:∀ {s7:Shared} {σ7:L2.St} {H7:Hp} {m':Nat},Inv (aC X s2 H2 scope N fp) ([]++d0 fp s5.heap) σ7 H7 s7->m' < n->Z (i + 1) m' σ7 H7 ->
         ∃ m,m < n/\∃ i σ' H',Inv (aC X s2 H2 scope N fp) [] σ' H' s7/\tn i s7.heap/\(∀ b ∈ fp,H' b=none)/\Z i m σ' H':=λ{s7 σ7 H7 m'} I7 hm z7=>by
       refine ⟨m',hm,i + 1,σ7,H7,I7.cg,T.keep _ _ _ st5 λb hb o e=>(I7.pin (b,o) (List.mem_append_right _ (List.mem_append_right _ (bg hb e)))).1,λb hb=>?_,z7⟩
       obtain ⟨o,e,d⟩:=T.obj _ _ st5 b hb
       exact (I7.pin (b,o) (List.mem_append_right _ (List.mem_append_right _ (bg hb e)))).2.1
     refine thn (ht _ s6 σ6 H6 _ I6 q6) λok s7 ⟨H7,I7,q7⟩=>?_
     cases ok with
     | false=>
       rw [if_neg (by decide)] at q7
       obtain ⟨m',hm,z7⟩:=q7
       exact again I7 hm z7
     | true=>
       rw [if_pos rfl] at q7
       refine thn (he _ s7 σ6 H7 _ I7 q7) λv' s8 ⟨v,H8,I8,r8,vs,m',q8,l8,hm,z8⟩=>?_
       refine thn (eW (X:=aC X s2 H2 scope N fp) _ s8 σ6 H8 (.ref s2.heap.objs.size) [v] (.ref s2.heap.objs.size) [v'] (λ_ H9=>H9=upd H8 s2.heap.objs.size (.lst (vs++[v]))) I8 rfl (.cons r8 .nil) ⟨_,vs,v,rfl,rfl,q8,l8,rfl⟩) λ_ s9 ⟨_,H9,I9,_,e9⟩=>?_
       subst e9
       exact again I9 hm z8
 exact codeAny_compStart_list loop (T.self _ 0 _ _ _ st4 loop)
end Ev
namespace Hy
open PySem PySem.Spec PyProof.Rows L2
open Ev (D Den ax)
open Classical in
noncomputable def hd (H:Hp) (M:Addr->Prop):Hp:=λb=>if M b then none else H b
theorem aq {H:Hp} {M:Addr->Prop} {b:Addr} {o:HO}:hd H M b=some o ↔ ¬ M b/\H b=some o:=by
 unfold hd
 by_cases h:M b
 · rw [if_pos h]; exact ⟨λz=>(nomatch z),λz=>absurd h z.1⟩
 · rw [if_neg h]; exact ⟨λz=>⟨h,z⟩,λz=>z.2⟩
theorem av {H H':Hp} {M M':Addr->Prop} (e:aj H H') (m:∀ b,M' b->M b):aj (hd H M) (hd H' M'):=λb _ h=>aq.mpr ⟨λz=>(aq.mp h).1 (m b z),e b _ (aq.mp h).2⟩
theorem aB {H:Hp} {M:Addr->Prop}:aj (hd H M) H:=λ_ _ h=>(aq.mp h).2
inductive Nd where
 | d (x:D) | l (xs:List Nd) | t (xs:List Nd)
structure Ex where
 p:PySem.W.Frag->Hp->HO->Addr->Prop
 mono:∀ {K:PySem.W.Frag} {G G':Hp} {o:HO} {a:Addr},aj G G'->p K G o a->p K G' o a
 ext:∀ {K:PySem.W.Frag} {G:Hp} {o:HO} {a:Addr},p K G o a->∃ φ,o=.ext φ
inductive Sl where
 | un | d (x:D) | o (xs:List D) | n (t:Nd) | x (E:Ex)
mutual
inductive bh (K:PySem.W.Frag) (G H:Hp):V->List Addr->Nd->Prop where
 | d {u:V} {x:D} (h:Den K G u x):bh K G H u [] (.d x)
 | l {a:Addr} {vs:List V} {bs:List Addr} {xs:List Nd} (h:H a=some (.lst vs)) (r:aJ K G H vs bs xs):bh K G H (.ref a) (a :: bs) (.l xs)
 | t {a:Addr} {vs:List V} {bs:List Addr} {xs:List Nd} (h:H a=some (.tup vs)) (r:aJ K G H vs bs xs):bh K G H (.ref a) (a :: bs) (.t xs)
inductive aJ (K:PySem.W.Frag) (G H:Hp):List V->List Addr->List Nd->Prop where
 | nil:aJ K G H [] [] []
 | cons {v:V} {vs:List V} {b1 b2:List Addr} {s:Nd} {ss:List Nd} (h:bh K G H v b1 s) (r:aJ K G H vs b2 ss):aJ K G H (v :: vs) (b1++b2) (s :: ss)
end
noncomputable def bp (K:PySem.W.Frag) (G H:Hp) (v:Option V) (bs:List Addr):Sl->Prop
 | .un=>bs=[]
 | .d x=>bs=[]/\∃ u,v=some u/\Den K G u x
 | .o xs=>∃ a vs,bs=[a]/\v=some (.ref a)/\H a=some (.lst vs)/\ax K G vs xs
 | .n t=>bs.Nodup/\∃ u,v=some u/\bh K G H u bs t
 | .x E=>∃ a o,bs=[a]/\v=some (.ref a)/\H a=some o/\E.p K G o a
section
variable {K:PySem.W.Frag} {G G' H H':Hp}
mutual
theorem bh.frame (g:aj G G'):∀ {u:V} {bs:List Addr} {t:Nd},(∀ b ∈ bs,H' b=H b)->bh K G H u bs t->bh K G' H' u bs t
 | _,_,_,_,.d h=>.d (h.mono g)
 | _,_,_,e,.l h r=>.l (by rw [e _ (List.mem_cons_self ..)]; exact h) (aJ.frame g (λb hb=>e b (List.mem_cons_of_mem _ hb)) r)
 | _,_,_,e,.t h r=>.t (by rw [e _ (List.mem_cons_self ..)]; exact h) (aJ.frame g (λb hb=>e b (List.mem_cons_of_mem _ hb)) r)
theorem aJ.frame (g:aj G G'):∀ {vs:List V} {bs:List Addr} {xs:List Nd},(∀ b ∈ bs,H' b=H b)->aJ K G H vs bs xs->aJ K G' H' vs bs xs
 | _,_,_,_,.nil=>.nil
 | _,_,_,e,.cons h r=>.cons (bh.frame g (λb hb=>e b (List.mem_append_left _ hb)) h) (aJ.frame g (λb hb=>e b (List.mem_append_right _ hb)) r)
end
mutual
theorem bh.some_of:∀ {u:V} {bs:List Addr} {t:Nd},bh K G H u bs t->∀ b ∈ bs,∃ o,H b=some o
 | _,_,_,.d _,_,z=>nomatch z
 | _,_,_,.l h r,b,z=>(List.mem_cons.mp z).elim (λe=>e ▸ ⟨_,h⟩) λz=>aJ.some_of r b z
 | _,_,_,.t h r,b,z=>(List.mem_cons.mp z).elim (λe=>e ▸ ⟨_,h⟩) λz=>aJ.some_of r b z
theorem aJ.some_of:∀ {vs:List V} {bs:List Addr} {xs:List Nd},aJ K G H vs bs xs->∀ b ∈ bs,∃ o,H b=some o
 | _,_,_,.nil,_,z=>nomatch z
 | _,_,_,.cons h r,b,z=>(List.mem_append.mp z).elim (λz=>bh.some_of h b z) λz=>aJ.some_of r b z
end
theorem bh.mono (g:aj G G') (e:aj H H') {u:V} {bs:List Addr} {t:Nd} (h:bh K G H u bs t):bh K G' H' u bs t:=h.frame g λb hb=>by
 obtain ⟨o,q⟩:=h.some_of b hb
 rw [q,e b o q]
theorem bp.mono (g:aj G G') (e:aj H H') {v:Option V} {bs:List Addr}:∀ {s:Sl},bp K G H v bs s->bp K G' H' v bs s
 | .un,h=>h
 | .d _,⟨h,u,e1,h2⟩=>⟨h,u,e1,h2.mono g⟩
 | .o _,⟨a,vs,h1,h2,h3,h4⟩=>⟨a,vs,h1,h2,e _ _ h3,h4.mono g⟩
 | .n _,⟨h0,u,h1,h2⟩=>⟨h0,u,h1,h2.mono g e⟩
 | .x E,⟨a,o,h1,h2,h3,h4⟩=>⟨a,o,h1,h2,e _ _ h3,E.mono g h4⟩
end
noncomputable def own (A:Addr->Prop) (B:Nat->List Addr) (b:Addr):Prop:=A b\/∃ i,b ∈ B i
noncomputable def vw (C:Bool) (A:Addr->Prop) (B:Nat->List Addr):Addr->Prop:=match C with
 | true=>own A B
 | false=>A
structure Sta (K:PySem.W.Frag) (A:Addr->Prop) (H₀:Hp) (τ:List Sl) (B:Nat->List Addr) (σ:L2.St) (H:Hp):Prop where
 same:aj H₀ H
 len:σ.length=τ.length
 sl:∀ i s,τ[i]?=some s->bp K (hd H (own A B)) H (σ[i]?).join (B i) s
 fr:∀ i b,b ∈ B i->H₀ b=none
 uq:∀ i j b,b ∈ B i->b ∈ B j->i=j
 ad:∀ b,A b->∃ o,H₀ b=some o
 bd:∀ i b,b ∈ B i->∃ o,H b=some o
noncomputable def upB (B:Nat->List Addr) (i:Nat) (bs:List Addr):Nat->List Addr:=λj=>if j=i then bs else B j
section
variable {K:PySem.W.Frag} {A:Addr->Prop} {H₀ H H':Hp} {τ:List Sl} {B:Nat->List Addr} {σ:L2.St}
theorem Sta.dm (S:Sta K A H₀ τ B σ H) (b:Addr) (h:own A B b):∃ o,H b=some o:=h.elim (λz=>let ⟨o,q⟩:=S.ad b z; ⟨o,S.same _ _ q⟩) λ⟨i,z⟩=>S.bd i b z
theorem Sta.mono (S:Sta K A H₀ τ B σ H) (e:aj H H'):Sta K A H₀ τ B σ H' where
 same:=S.same.trans e
 len:=S.len
 sl:=λi s h=>(S.sl i s h).mono (av e λ_ z=>z) e
 fr:=S.fr
 uq:=S.uq
 ad:=S.ad
 bd:=λi b h=>let ⟨o,q⟩:=S.bd i b h; ⟨o,e _ _ q⟩
theorem a7 {i j:Nat} {bs:List Addr} {b:Addr} (h:b ∈ upB B i bs j):(j=i/\b ∈ bs)\/(j ≠ i/\b ∈ B j):=by
 unfold upB at h
 by_cases e:j=i
 · rw [if_pos e] at h; exact .inl ⟨e,h⟩
 · rw [if_neg e] at h; exact .inr ⟨e,h⟩
theorem Sta.set (S:Sta K A H₀ τ B σ H) (e:aj H H') {i:Nat} {v:V} {s:Sl} {bs:List Addr} (hf:∀ b ∈ bs,H b=none/\∃ o,H' b=some o) (h:bp K (hd H' λb=>own A B b\/b ∈ bs) H' (some v) bs s) :
   Sta K A H₀ (τ.set i s) (upB B i bs) (σ.set i (some v)) H':=by
 have sub:∀ b,own A (upB B i bs) b->own A B b\/b ∈ bs:=λb z=>z.elim (λz=>.inl (.inl z)) λ⟨j,z⟩=>(a7 z).elim (λz=>.inr z.2) λz=>.inl (.inr ⟨j,z.2⟩)
 have some_of:∀ b j,b ∈ B j->∃ o,H b=some o:=λb j z=>S.dm b (.inr ⟨j,z⟩)
 refine ⟨S.same.trans e,by rw [List.length_set,List.length_set,S.len],λj t hj=>?_,λj b hb=>?_,λj k b h1 h2=>?_,S.ad,λj b hb=>?_⟩
 · by_cases ej:j=i
   · subst ej
     have hl:j < τ.length:=by
       have:=(List.getElem?_eq_some_iff.mp hj).1
       rwa [List.length_set] at this
     rw [List.getElem?_set_self hl] at hj
     cases hj
     rw [List.getElem?_set_self (by rw [S.len]; exact hl)]
     unfold upB
     rw [if_pos rfl]
     exact h.mono (av (aj.refl _) sub) (aj.refl _)
   · rw [List.getElem?_set_ne (λz=>ej z.symm)] at hj
     rw [List.getElem?_set_ne (λz=>ej z.symm)]
     unfold upB
     rw [if_neg ej]
     have q:=S.sl j t hj
     refine q.mono (λb o z=>?_) e
     obtain ⟨z1,z2⟩:=aq.mp z
     refine aq.mpr ⟨λy=>?_,e _ _ z2⟩
     rcases sub b y with y | y
     · exact z1 y
     · rw [(hf b y).1] at z2; cases z2
 · rcases a7 hb with ⟨_,z⟩ | ⟨_,z⟩
   · exact S.same.free (hf b z).1
   · exact S.fr j b z
 · rcases a7 h1 with ⟨e1,z1⟩ | ⟨e1,z1⟩ <;> rcases a7 h2 with ⟨e2,z2⟩ | ⟨e2,z2⟩
   · exact e1.trans e2.symm
   · obtain ⟨o,q⟩:=some_of b k z2; rw [(hf b z1).1] at q; cases q
   · obtain ⟨o,q⟩:=some_of b j z1; rw [(hf b z2).1] at q; cases q
   · exact S.uq j k b z1 z2
 · rcases a7 hb with ⟨_,z⟩ | ⟨_,z⟩
   · exact (hf b z).2
   · obtain ⟨o,q⟩:=S.bd j b z; exact ⟨o,e _ _ q⟩
theorem Sta.less (S:Sta K A H₀ τ B σ H) {i:Nat} {s:Sl} {bs:List Addr} (hb:∀ b ∈ bs,b ∈ B i) (h:∀ G:Hp,aj (hd H (own A B)) G->(∀ b o,b ∈ B i->b ∉ bs->H b=some o->G b=some o)->bp K G H (σ[i]?).join bs s):Sta K A H₀ (τ.set i s) (upB B i bs) σ H:=by
 have sub:∀ b,own A (upB B i bs) b->own A B b:=λb z=>z.elim .inl λ⟨j,z⟩=>(a7 z).elim (λz=>.inr ⟨i,hb b z.2⟩) λz=>.inr ⟨j,z.2⟩
 refine ⟨S.same,by rw [List.length_set,S.len],λj t hj=>?_,λj b h=>?_,λj k b h1 h2=>?_,S.ad,λj b h=>(a7 h).elim (λz=>S.bd i b (hb b z.2)) λz=>S.bd j b z.2⟩
 · by_cases ej:j=i
   · subst ej
     have hl:j < τ.length:=by
       have:=(List.getElem?_eq_some_iff.mp hj).1
       rwa [List.length_set] at this
     rw [List.getElem?_set_self hl] at hj
     cases hj
     unfold upB
     rw [if_pos rfl]
     refine h _ (av (aj.refl _) sub) λb o z1 z2 z3=>aq.mpr ⟨λy=>?_,z3⟩
     rcases y with y | ⟨m,y⟩
     · obtain ⟨_,q⟩:=S.ad b y
       rw [S.fr j b z1] at q; cases q
     · rcases a7 y with ⟨e,y⟩ | ⟨e,y⟩
       · exact z2 y
       · exact e (S.uq m j b y z1)
   · rw [List.getElem?_set_ne (λz=>ej z.symm)] at hj
     unfold upB
     rw [if_neg ej]
     exact (S.sl j t hj).mono (av (aj.refl _) sub) (aj.refl _)
 · rcases a7 h with ⟨e,z⟩ | ⟨_,z⟩
   · exact S.fr i b (hb b z)
   · exact S.fr j b z
 · rcases a7 h1 with ⟨e1,z1⟩ | ⟨e1,z1⟩ <;> rcases a7 h2 with ⟨e2,z2⟩ | ⟨e2,z2⟩
   · exact e1.trans e2.symm
   · exact absurd (S.uq k i b z2 (hb b z1)) e2
   · exact absurd (S.uq j i b z1 (hb b z2)) e1
   · exact S.uq j k b z1 z2
end
end Hy
namespace Hy
open PySem PySem.Spec PyProof.Rows L2
open Ev (D Den ax aN aH aw aP aE)
noncomputable def Fr (H H':Hp) (bs:List Addr):Prop:=∀ b ∈ bs,H b=none/\∃ o,H' b=some o
noncomputable def dE (K:PySem.W.Frag) (C:Bool) (τ:List Sl) (s:Sl):TE:=λσ H Q=>∃ A H₀ B,Sta K A H₀ τ B σ H /\
 ∀ v H' bs,aj H H'->Fr H H' bs->bp K (hd H' λb=>vw C A B b\/b ∈ bs) H' (some v) bs s->Q v H'
noncomputable def dA (K:PySem.W.Frag) (C:Bool) (τ:List Sl) (ds:List D):TA:=λσ H Q=>∃ A H₀ B,Sta K A H₀ τ B σ H /\
 ∀ vs H',aj H H'->ax K (hd H' (vw C A B)) vs ds->Q vs H'
noncomputable def dT (K:PySem.W.Frag) (τ:List Sl) (c:Bool):TT:=λσ H Q=>∃ A H₀ B,Sta K A H₀ τ B σ H/\∀ H',aj H H'->Q c H'
structure Po where
 nx:List Sl->Prop
 rt:Sl->Prop
 bk:List Sl->Prop:=λ_=>False
 ct:List Sl->Prop:=λ_=>False
structure Meets (K:PySem.W.Frag) (A:Addr->Prop) (H₀:Hp) (N:Po) (D:Ends):Prop where
 nx:∀ τ B σ H,N.nx τ->Sta K A H₀ τ B σ H->D.nx σ H
 bk:∀ τ B σ H,N.bk τ->Sta K A H₀ τ B σ H->D.bk σ H
 ct:∀ τ B σ H,N.ct τ->Sta K A H₀ τ B σ H->D.ct σ H
 rt:∀ v H bs s,N.rt s->aj H₀ H->Fr H₀ H bs->bp K (hd H λb=>A b\/b ∈ bs) H (some v) bs s->D.rt v H
noncomputable def dS (K:PySem.W.Frag) (τ:List Sl) (N:Po):TS:=λD σ H=>∃ A H₀ B,Sta K A H₀ τ B σ H/\Meets K A H₀ N D
theorem peW {X:Cx} {e:Expr} {t t':TE} (h:PE X e t) (f:∀ σ H Q,t' σ H Q->t σ H Q):PE X e t':=λpins s σ H Q I q=>h pins s σ H Q I (f σ H Q q)
theorem ptW {X:Cx} {e:Expr} {t t':TT} (h:PT X e t) (f:∀ σ H Q,t' σ H Q->t σ H Q):PT X e t':=λpins s σ H Q I q=>h pins s σ H Q I (f σ H Q q)
theorem pwW {X:Cx} {e:Expr} {t t':TT} (h:PW X e t) (f:∀ σ H Q,t' σ H Q->t σ H Q):PW X e t':=λwh pins s σ H Q I q=>h wh pins s σ H Q I (f σ H Q q)
theorem paW {X:Cx} {e:List Expr} {t t':TA} (h:PA X e t) (f:∀ σ H Q,t' σ H Q->t σ H Q):PA X e t':=λp pins s σ H Q I q=>h p pins s σ H Q I (f σ H Q q)
theorem psW {X:Cx} {e:Stmt} {t t':TS} (h:PS X e t) (f:∀ D σ H,t' D σ H->t D σ H):PS X e t':=λpins s σ H D I q=>h pins s σ H D I (f D σ H q)
theorem mH {X:Cx} {e:List Stmt} {t t':TS} (h:PSs X e t) (f:∀ D σ H,t' D σ H->t D σ H):PSs X e t':=λpins s σ H D I q=>h pins s σ H D I (f D σ H q)
section
variable {K:PySem.W.Frag} {C:Bool} {τ:List Sl} {A:Addr->Prop} {H₀ H H':Hp} {B:Nat->List Addr} {σ:L2.St} {x y z:D} {Q:VK}
theorem gF {b:Addr} (h:vw C A B b):own A B b:=by
 cases C with
 | true=>exact h
 | false=>exact .inl h
theorem Sta.vd (S:Sta K A H₀ τ B σ H) (b:Addr) (h:vw C A B b):∃ o,H b=some o:=S.dm b (gF h)
theorem aR (S:Sta K A H₀ τ B σ H) (k:∀ v H',aj H H'->Den K (hd H' (vw C A B)) v x->Q v H'):dE K C τ (.d x) σ H Q:=
 ⟨A,H₀,B,S,λv H' bs e _ ⟨hb,u,eu,h⟩=>by
   cases eu
   exact k v H' e (h.mono (av (aj.refl _) λ_ z=>.inl z))⟩
theorem dn (h:dE K C τ (.d x) σ H Q):∃ A H₀ B,Sta K A H₀ τ B σ H/\∀ v H',aj H H'->Den K (hd H' (vw C A B)) v x->Q v H':=by
 obtain ⟨A,H₀,B,S,k⟩:=h
 exact ⟨A,H₀,B,S,λv H' e d=>k v H' [] e (λ_ z=>nomatch z) ⟨rfl,v,rfl,d.mono (av (aj.refl _) λ_ z=>z.elim id λz=>nomatch z)⟩⟩
theorem du {ds:List D} {Q:List V->Hp->Prop} (S:Sta K A H₀ τ B σ H) (k:∀ vs H',aj H H'->ax K (hd H' (vw C A B)) vs ds->Q vs H'):dA K C τ ds σ H Q:=⟨A,H₀,B,S,k⟩
theorem fX {M:Addr->Prop} {p:Addr} {o:HO} (hM:∀ b,M b->∃ o,H b=some o) (hp:H p=none):hd (upd H p o) M p=some o:=
 aq.mpr ⟨λz=>(by obtain ⟨o,q⟩:=hM p z; rw [hp] at q; cases q),aI⟩
mutual
noncomputable def ndD:Nd->D
 | .d x=>x
 | .l xs=>.lst (eQ xs)
 | .t xs=>.tup (eQ xs)
noncomputable def eQ:List Nd->List D
 | []=>[]
 | x :: xs=>ndD x :: eQ xs
end
noncomputable def fzD:Sl->Option D
 | .un=>none
 | .d x=>some x
 | .o xs=>some (.lst xs)
 | .n t=>some (ndD t)
 | .x _=>none
mutual
theorem bh.den {G G':Hp} (g:aj G G'):∀ {u:V} {bs:List Addr} {t:Nd},(∀ b ∈ bs,∀ o,H b=some o->G' b=some o)->bh K G H u bs t->Den K G' u (ndD t)
 | _,_,_,_,.d h=>h.mono g
 | _,_,_,e,.l h r=>.lst (SqL.of (e _ (List.mem_cons_self ..) _ h)) (aJ.den g (λb hb=>e b (List.mem_cons_of_mem _ hb)) r)
 | _,_,_,e,.t h r=>.tup (SqT.of (e _ (List.mem_cons_self ..) _ h)) (aJ.den g (λb hb=>e b (List.mem_cons_of_mem _ hb)) r)
theorem aJ.den {G G':Hp} (g:aj G G'):∀ {vs:List V} {bs:List Addr} {xs:List Nd},(∀ b ∈ bs,∀ o,H b=some o->G' b=some o)->aJ K G H vs bs xs->ax K G' vs (eQ xs)
 | _,_,_,_,.nil=>.nil
 | _,_,_,e,.cons h r=>.cons (bh.den g (λb hb=>e b (List.mem_append_left _ hb)) h) (aJ.den g (λb hb=>e b (List.mem_append_right _ hb)) r)
end
theorem bp.den {G G':Hp} {v:Option V} {bs:List Addr} {s:Sl} (h:bp K G H v bs s) (g:aj G G') (hv:∀ b ∈ bs,∀ o,H b=some o->G' b=some o) (e:fzD s=some x):∃ u,v=some u/\Den K G' u x:=by
 cases s with
 | un=>cases e
 | d y=>cases e; obtain ⟨_,u,e,q⟩:=h; exact ⟨u,e,q.mono g⟩
 | o xs=>
   cases e
   obtain ⟨a,vs,rfl,h2,h3,h4⟩:=h
   exact ⟨_,h2,.lst (SqL.of (hv a (List.mem_cons_self ..) _ h3)) (h4.mono g)⟩
 | n t=>
   cases e
   obtain ⟨_,u,e,q⟩:=h
   exact ⟨u,e,q.den g hv⟩
 | x E=>cases e
theorem slot_of {i:Nat} {u:V} (h:(σ[i]?).join=some u):σ[i]?=some (some u):=by
 cases e:σ[i]? with
 | none=>rw [e] at h; cases h
 | some o=>rw [e] at h; exact congrArg some h
end
section
variable {X:Cx} {C:Bool} {τ:List Sl} {x y z:D} {a b e:Expr} {es:List Expr} {pos:Pos}
theorem aa (i:Nat) {n:Str} {x:D} (h:τ[i]?=some (.d x):=by rfl) (hN:X.N[i]?=some n:=by rfl) (hv:Vis X.env.scope n:=by first | exact Or.inl rfl | exact Or.inr (Or.inl rfl) | exact Or.inr (Or.inr rfl))
   (hd:(n == ("__debug__" : Str))=false:=by decide) (hcd:(n == ("__classdict__" : Str))=false:=by decide):PE X (.Name n pos) (dE X.K C τ (.d x)):=peW (cv hN hv hd hcd) λσ H Q q=>by
 obtain ⟨A,H₀,B,S,k⟩:=dn q
 obtain ⟨_,u,e,d⟩:=S.sl i _ h
 exact ⟨u,slot_of e,k u H (aj.refl _) (d.mono (av (aj.refl _) λ_ z=>gF z))⟩
theorem rF (i:Nat) {n:Str} {s:Sl} {x:D} (h:τ[i]?=some s:=by rfl) (hx:fzD s=some x:=by rfl) (hN:X.N[i]?=some n:=by rfl) (hv:Vis X.env.scope n:=by first | exact Or.inl rfl | exact Or.inr (Or.inl rfl) | exact Or.inr (Or.inr rfl))
   (hd:(n == ("__debug__" : Str))=false:=by decide) (hcd:(n == ("__classdict__" : Str))=false:=by decide):PE X (.Name n pos) (dE X.K false τ (.d x)):=peW (cv hN hv hd hcd) λσ H Q q=>by
 obtain ⟨A,H₀,B,S,k⟩:=dn q
 obtain ⟨u,e,d⟩:=(S.sl i _ h).den (G':=Hy.hd H A) (av (aj.refl _) λ_ z=>.inl z) (λb hb o ho=>aq.mpr ⟨λz=>(by obtain ⟨_,q⟩:=S.ad b z; rw [S.fr i b hb] at q; cases q),ho⟩) hx
 exact ⟨u,slot_of e,k u H (aj.refl _) d⟩
theorem iR {v:V} (h:PE X e (tC v)) (d:∀ H,Den X.K H v x):PE X e (dE X.K C τ (.d x)):=peW h λσ H Q q=>by
 obtain ⟨A,H₀,B,S,k⟩:=dn q
 exact k v H (aj.refl _) (d _)
theorem af {i j}:PE X (.Constant (.int i) j pos) (dE X.K C τ (.d (.int i))):=iR sk λ_=>.int
theorem pG {b j}:PE X (.Constant (.bool b) j pos) (dE X.K C τ (.d (.bl b))):=iR uv λ_=>.bl
theorem ui {j}:PE X (.Constant .none j pos) (dE X.K C τ (.d .non)):=iR sZ λ_=>.non
theorem bB {s j}:PE X (.Constant (.str s) j pos) (dE X.K C τ (.d (.str s))):=iR rL λ_=>.str
theorem lb {n:Str} {i:Int} (hm:∃ t,X.mg n=some (.int i t)) (hg:Gl X n:=by rfl) (hd:(n == ("__debug__" : Str))=false:=by decide):PE X (.Name n pos) (dE X.K C τ (.d (.int i))):=by
 obtain ⟨t,hm⟩:=hm
 exact iR (lO (v:=.int i) hg hm ⟨t,rfl⟩ hd) λ_=>.int
theorem a9 {s:Sl} (h:PE X e (dE X.K C τ s)) (hx:fzD s=some x:=by rfl):PE X e (dE X.K C τ (.d x)):=peW h λσ H Q q=>by
 obtain ⟨A,H₀,B,S,k⟩:=dn q
 refine ⟨A,H₀,B,S,λv H' bs e hf q=>?_⟩
 have vd:=S.vd (C:=C)
 obtain ⟨u,e1,d⟩:=q.den (G':=Hy.hd H' (vw C A B)) (av (aj.refl _) λ_ z=>.inl z) (λb hb o ho=>aq.mpr ⟨λz=>(by obtain ⟨_,q⟩:=vd b z; rw [(hf b hb).1] at q; cases q),ho⟩) hx
 cases e1
 exact k v H' e d
noncomputable def flat:D->Bool
 | .tup _=>false
 | .lst _=>false
 | .box _=>false
 | _=>true
theorem cU {K:PySem.W.Frag} {G G':Hp} {v:V} (h:Den K G v x) (f:flat x=true):Den K G' v x:=by
 cases h with
 | non=>exact .non
 | bl=>exact .bl
 | int=>exact .int
 | str=>exact .str
 | tup _ _=>cases f
 | lst _ _=>cases f
 | box _=>cases f
noncomputable def bA (X:Cx) (f:Value->Value->Sem Value) (x y z:D):Prop:=∃ r:R2,OpR X f r /\
 ∀ (M:Addr->Prop) (v w:V) (H:Hp) (Q:VK),(∀ b,M b->∃ o,H b=some o)->Den X.K (hd H M) v x->Den X.K (hd H M) w y->(∀ u H',aj H H'->Den X.K (hd H' M) u z->Q u H')->r v w H Q
theorem two {r:R2} (hr:∀ (M:Addr->Prop) (v w:V) (H:Hp) (Q:VK),(∀ b,M b->∃ o,H b=some o)->Den X.K (hd H M) v x->Den X.K (hd H M) w y->(∀ u H',aj H H'->Den X.K (hd H' M) u z->Q u H')->r v w H Q) :
   ∀ σ H Q,dE X.K C τ (.d z) σ H Q->tOp r (dE X.K C τ (.d x)) (dE X.K C τ (.d y)) σ H Q:=by
 intro σ H Q h
 obtain ⟨A,H₀,B,S,k⟩:=dn h
 refine aR S λv H1 e1 d1=>aR (S.mono e1) λw H2 e2 d2=>hr (vw C A B) v w H2 Q ((S.mono e1).mono e2).vd (d1.mono (av e2 λ_ z=>z)) d2 λu H' e3 d3=>k u H' (e1.trans (e2.trans e3)) d3
theorem aA {op:Operator} (ha:PE X a (dE X.K C τ (.d x))) (hb:PE X b (dE X.K C τ (.d y))) (ho:bA X (binaryOp op) x y z):PE X (.BinOp a op b pos) (dE X.K C τ (.d z)):=by
 obtain ⟨r,h1,h2⟩:=ho
 exact peW (n5 h1 ha hb) (two h2)
theorem eJ {op:CmpOp} (ha:PE X a (dE X.K C τ (.d x))) (hb:PE X b (dE X.K C τ (.d y))) (ho:bA X (compareOp op) x y z) (hm:behindInMarks op b=false:=by first | exact nE _ | rfl):PE X (.Compare a [op] [b] pos) (dE X.K C τ (.d z)):=by
 obtain ⟨r,h1,h2⟩:=ho
 exact peW (pP h1 ha hb hm) (two h2)
theorem n9 {t:TE} {c:Bool} (h:∀ σ H Q,dE X.K false τ (.d (.bl c)) σ H Q->t σ H Q):∀ σ H Q,dT X.K τ c σ H Q->t σ H λx H'=>∃ k,x=.bl k/\Q k H':=λσ H Q ⟨A,H₀,B,S,k⟩=>
 h σ H _ (aR S λv H' e d=>by cases d; exact ⟨c,rfl,k H' e⟩)
theorem aG {op:CmpOp} {c:Bool} (ha:PE X a (dE X.K false τ (.d x))) (hb:PE X b (dE X.K false τ (.d y))) (ho:bA X (compareOp op) x y (.bl c)) (hm:behindInMarks op b=false:=by first | exact nE _ | rfl):PT X (.Compare a [op] [b] pos) (dT X.K τ c):=by
 obtain ⟨r,h1,h2⟩:=ho
 exact ptW (pw h1 ha hb hm) (n9 (two h2))
theorem aV {c:Bool} (h:PE X e (dE X.K false τ (.d (.bl c)))) (he:∀ whole,isTrue e X.env whole=(do let v <- whole; standAt e.pos; holding [v] (truthy v)):=by intro _; rfl):PT X e (dT X.K τ c):=
 ptW (rY h he) (n9 λ_ _ _ q=>q)
theorem l6 {g:Int->Int->V} {P:Int->Int->Prop} {i j:Int} (hc:P i j) (hz:∀ K H,Den K H (g i j) z):∀ (M:Addr->Prop) (v w:V) (H:Hp) (Q:VK),(∀ b,M b->∃ o,H b=some o)->Den X.K (hd H M) v (.int i)->Den X.K (hd H M) w (.int j) ->
   (∀ u H',aj H H'->Den X.K (hd H' M) u z->Q u H')->rI P g v w H Q:=λ_ v w H Q _ d1 d2 k=>by
 cases d1
 cases d2
 exact ⟨i,j,rfl,rfl,hc,k _ H (aj.refl _) (hz _ _)⟩
theorem iA {g:Int->Int->V} {i j:Int} (hz:∀ K H,Den K H (g i j) z):∀ (M:Addr->Prop) (v w:V) (H:Hp) (Q:VK),(∀ b,M b->∃ o,H b=some o)->Den X.K (hd H M) v (.int i)->Den X.K (hd H M) w (.int j) ->
   (∀ u H',aj H H'->Den X.K (hd H' M) u z->Q u H')->rI0 g v w H Q:=λ_ v w H Q _ d1 d2 k=>by
 cases d1
 cases d2
 exact ⟨i,j,rfl,rfl,k _ H (aj.refl _) (hz _ _)⟩
variable {i j:Int}
theorem aT:bA X (binaryOp .Add) (.int i) (.int j) (.int (i + j)):=⟨_,tQ,iA λ_ _=>.int⟩
theorem iE:bA X (binaryOp .Sub) (.int i) (.int j) (.int (i - j)):=⟨_,tm,iA λ_ _=>.int⟩
theorem aN.ok' {i j:Int} (h:aN i j):IntMulOk i j:=by
 have b:∀ {k:Int} {n:Nat},k.natAbs.log2 < n->Builtin.Int.intBits k<=n:=λ{k n} q=>by
   unfold Builtin.Int.intBits
   split
   · exact Nat.zero_le _
   · exact q
 rcases h with h | h | ⟨h1,h2⟩
 · exact .of_left (b h)
 · exact .of_right (b h)
 · exact .of_bits (Nat.le_trans (b h1) (by decide)) (Nat.le_trans (b h2) (by decide))
theorem aY (h:aN i j):bA X (binaryOp .Mult) (.int i) (.int j) (.int (i * j)):=⟨rI aN λi j=>.int (i * j),opI λ_ _ _ _ _ _ _ hc q=>mul_int q (aN.ok' hc),l6 h λ_ _=>.int⟩
theorem aW (h:aH j):bA X (binaryOp .FloorDiv) (.int i) (.int j) (.int (i.fdiv j)):=⟨rI (λ_ j=>aH j) λi j=>.int (i.fdiv j),opI λ_ _ _ _ _ _ _ hc q=>floordiv_int hc.1 q (.inl (PyProof.noPylong_of_log2 hc.2)),l6 h λ_ _=>.int⟩
theorem bO (h:j ≠ 0):bA X (binaryOp .Mod) (.int i) (.int j) (.int (i.fmod j)):=⟨_,qH,l6 h λ_ _=>.int⟩
theorem uG (h:uE i j):bA X (binaryOp .Pow) (.int i) (.int j) (.int (i ^ j.toNat)):=⟨_,rN,l6 h λ_ _=>.int⟩
theorem pB:bA X (compareOp .Lt) (.int i) (.int j) (.bl (decide (i < j))):=⟨_,uX,iA λ_ _=>.bl⟩
theorem u6:bA X (compareOp .LtE) (.int i) (.int j) (.bl (decide (i<=j))):=⟨_,ve,iA λ_ _=>.bl⟩
theorem jn:bA X (compareOp .Gt) (.int i) (.int j) (.bl (decide (j < i))):=⟨_,uA,iA λ_ _=>.bl⟩
theorem rO:bA X (compareOp .GtE) (.int i) (.int j) (.bl (decide (j<=i))):=⟨_,uU,iA λ_ _=>.bl⟩
theorem eX:bA X (compareOp .Eq) (.int i) (.int j) (.bl (decide (i=j))):=⟨_,rj,λ_ v w H Q _ d1 d2 k=>by
 cases d1
 cases d2
 exact ⟨rfl,by rw [show decide (V.int i=V.int j)=decide (i=j) by simp]; exact k _ H (aj.refl _) .bl⟩⟩
theorem ie:bA X (compareOp .NotEq) (.int i) (.int j) (.bl (!decide (i=j))):=⟨_,rb,λ_ v w H Q _ d1 d2 k=>by
 cases d1
 cases d2
 exact ⟨rfl,by rw [show decide (V.int i=V.int j)=decide (i=j) by simp]; exact k _ H (aj.refl _) .bl⟩⟩
theorem mC (h:PE X a (dE X.K C τ (.d (.int i)))):PE X (.UnaryOp .USub a pos) (dE X.K C τ (.d (.int (-i)))):=peW (vf sF h) λσ H Q q=>by
 obtain ⟨A,H₀,B,S,k⟩:=dn q
 refine aR S λv H1 e1 d1=>?_
 cases d1
 exact ⟨i,rfl,k _ H1 e1 .int⟩
theorem nN {e:Expr}:PE X e λ_ _ _=>False:=λ_ _ _ _ _ _ h=>h.elim
theorem pw_no {e:Expr}:PW X e λ_ _ _=>False:=λ_ _ _ _ _ _ _ h=>h.elim
variable {p q:Bool} {c:Expr} {rest:List Expr}
theorem iB {op} {s:Sl} (h:PE X a (dE X.K C τ s)):PE X (.BoolOp op [a] pos) (dE X.K C τ s):=sD h
theorem iL (ha:PE X a (dE X.K C τ (.d (.bl p)))) (hb:p=true->PE X (.BoolOp .And (b :: rest) pos) (dE X.K C τ (.d (.bl q)))):PE X (.BoolOp .And (a :: b :: rest) pos) (dE X.K C τ (.d (.bl (p && q)))):=by
 cases p with
 | false=>
   refine peW (oj ha nN) λσ H Q z=>?_
   obtain ⟨A,H₀,B,S,k⟩:=dn z
   exact aR S λv H' e d=>by cases d; exact ⟨_,rfl,k _ H' e .bl⟩
 | true=>
   refine peW (oj ha (hb rfl)) λσ H Q z=>?_
   obtain ⟨A,H₀,B,S,k⟩:=dn z
   exact aR S λv H' e d=>by cases d; exact ⟨_,rfl,aR (S.mono e) λv H2 e2 d2=>k v H2 (e.trans e2) d2⟩
theorem qV (ha:PE X a (dE X.K C τ (.d (.bl p)))):PE X (.UnaryOp .Not a pos) (dE X.K C τ (.d (.bl (!p)))):=peW (rn ha) λσ H Q z=>by
 obtain ⟨A,H₀,B,S,k⟩:=dn z
 exact aR S λv H' e d=>by cases d; exact ⟨_,rfl,k _ H' e .bl⟩
theorem gS (ha:PT X a (dT X.K τ p)):PW X (.BoolOp .And [a] pos) (dT X.K τ p):=pw_and1 ha
theorem bY (ha:PT X a (dT X.K τ p)):PW X (.BoolOp .Or [a] pos) (dT X.K τ p):=pw_or1 ha
theorem ft (ha:PT X a (dT X.K τ p)) (hb:p=true->PW X (.BoolOp .And (b :: rest) pos) (dT X.K τ q)):PW X (.BoolOp .And (a :: b :: rest) pos) (dT X.K τ (p && q)):=by
 cases p with
 | false=>exact pwW (pw_and ha pw_no) λσ H Q ⟨A,H₀,B,S,k⟩=>⟨A,H₀,B,S,λH' e=>mT (k H' e)⟩
 | true=>exact pwW (pw_and ha (hb rfl)) λσ H Q ⟨A,H₀,B,S,k⟩=>⟨A,H₀,B,S,λH' e=>kF (⟨A,H₀,B,S.mono e,λH2 e2=>k H2 (e.trans e2)⟩)⟩
theorem cc (ha:PT X a (dT X.K τ p)) (hb:p=false->PW X (.BoolOp .Or (b :: rest) pos) (dT X.K τ q)):PW X (.BoolOp .Or (a :: b :: rest) pos) (dT X.K τ (p || q)):=by
 cases p with
 | true=>exact pwW (pw_or ha pw_no) λσ H Q ⟨A,H₀,B,S,k⟩=>⟨A,H₀,B,S,λH' e=>kF (k H' e)⟩
 | false=>exact pwW (pw_or ha (hb rfl)) λσ H Q ⟨A,H₀,B,S,k⟩=>⟨A,H₀,B,S,λH' e=>mT (⟨A,H₀,B,S.mono e,λH2 e2=>k H2 (e.trans e2)⟩)⟩
theorem a4 (ha:PT X a (dT X.K τ p)):PT X (.UnaryOp .Not a pos) (dT X.K τ (!p)):=ptW (sY ha) λσ H Q ⟨A,H₀,B,S,k⟩=>⟨A,H₀,B,S,λH' e=>k H' e⟩
theorem fG {s:Sl} (hc:PT X c (dT X.K τ p)) (ha:p=true->PE X a (dE X.K C τ s)) (hb:p=false->PE X b (dE X.K C τ s)):PE X (.IfExp c a b pos) (dE X.K C τ s):=by
 have fin:∀ {σ H H' Q} {A:Addr->Prop} {H₀ B},Sta X.K A H₀ τ B σ H->(∀ v H' bs,aj H H'->Fr H H' bs->bp X.K (hd H' λb=>vw C A B b\/b ∈ bs) H' (some v) bs s->Q v H')->aj H H'->dE X.K C τ s σ H' Q:=λS k e=>
   ⟨_,_,_,S.mono e,λv H2 bs e2 hf h=>k v H2 bs (e.trans e2) (λb hb=>⟨e.free (hf b hb).1,(hf b hb).2⟩) h⟩
 cases p with
 | true=>exact peW (j5 hc (ha rfl) nN) λσ H Q ⟨A,H₀,B,S,k⟩=>⟨A,H₀,B,S,λH' e=>kF (fin S k e)⟩
 | false=>exact peW (j5 hc nN (hb rfl)) λσ H Q ⟨A,H₀,B,S,k⟩=>⟨A,H₀,B,S,λH' e=>mT (fin S k e)⟩
theorem qi {op op':CmpOp} (ha:PE X a (dE X.K C τ (.d x))) (hb:PE X b (dE X.K C τ (.d y))) (hc:PE X c (dE X.K C τ (.d z))) (h1:bA X (compareOp op) x y (.bl p)) (h2:bA X (compareOp op') y z (.bl q))
   (hm:lastMarks [op,op'] [b,c]=false:=by with_unfolding_all rfl):PE X (.Compare a [op,op'] [b,c] pos) (dE X.K C τ (.d (.bl (p && q))))/\(C=false->PT X (.Compare a [op,op'] [b,c] pos) (dT X.K τ (p && q))):=by
 obtain ⟨r,o1,k1⟩:=h1
 obtain ⟨r',o2,k2⟩:=h2
 have key:∀ σ H Q,dE X.K C τ (.d (.bl (p && q))) σ H Q->k5 r r' (dE X.K C τ (.d x)) (dE X.K C τ (.d y)) (dE X.K C τ (.d z)) σ H Q:=λσ H Q h=>by
   obtain ⟨A,H₀,B,S,k⟩:=dn h
   refine aR S λv H1 e1 d1=>aR (S.mono e1) λw H2 e2 d2=>k1 (vw C A B) v w H2 _ ((S.mono e1).mono e2).vd (d1.mono (av e2 λ_ z=>z)) d2 λu H3 e3 d3=>?_
   cases d3
   refine ⟨p,rfl,?_⟩
   cases p with
   | false=>exact mT (k _ H3 (e1.trans (e2.trans e3)) .bl)
   | true=>exact kF (aR (((S.mono e1).mono e2).mono e3) λw' H4 e4 d4=>k2 (vw C A B) w w' H4 Q ((((S.mono e1).mono e2).mono e3).mono e4).vd (d2.mono (av (e3.trans e4) λ_ z=>z)) d4 λu H5 e5 d5=>k u H5 (e1.trans (e2.trans (e3.trans (e4.trans e5)))) d5)
 exact ⟨peW (oX o1 o2 ha hb hc hm) key,λhC=>by subst hC; exact ptW (oh o1 o2 ha hb hc hm) (n9 key)⟩
theorem ah:PA X [] (dA X.K C τ []):=paW i0 λσ H Q ⟨A,H₀,B,S,k⟩=>k [] H (aj.refl _) .nil
theorem ae {ds:List D} (ha:PE X e (dE X.K C τ (.d x))) (hr:PA X es (dA X.K C τ ds)) (hs:starEach (e :: es) X.env=(false,eval e X.env) :: starEach es X.env:=by rfl):PA X (e :: es) (dA X.K C τ (x :: ds)):=paW (d9 ha hr hs) λσ H Q ⟨A,H₀,B,S,k⟩=>
 aR S λv H1 e1 d1=>du (S.mono e1) λvs H2 e2 d2=>k _ H2 (e1.trans e2) (.cons (d1.mono (av e2 λ_ z=>z)) d2)
theorem bN {ds:List D} {m} (h:PA X es (dA X.K C τ ds)) (hl:Nat.ble ds.length 1000=true:=by rfl):PE X (.Tuple es m pos) (dE X.K C τ (.d (.tup ds))):=peW (rK h) λσ H Q q=>by
 obtain ⟨A,H₀,B,S,k⟩:=dn q
 refine du S λvs H1 e1 d1=>⟨by rw [d1.length]; exact Nat.le_of_lt (iF (Nat.le_of_ble_eq_true hl)),λp hp=>k _ _ (e1.trans (aw hp _)) ?_⟩
 exact .tup (SqT.of (fX (S.mono e1).vd hp)) (d1.mono (av (aw hp _) λ_ z=>z))
theorem a6 {ds:List D} (h:PA X es (dA X.K C τ ds)) (hl:Nat.ble ds.length 1000=true:=by rfl):PE X (.List es pos) (dE X.K C τ (.o ds)):=peW (rp h) λσ H Q ⟨A,H₀,B,S,k⟩=>
 du S λvs H1 e1 d1=>⟨by rw [d1.length]; exact Nat.le_of_lt (iF (Nat.le_of_ble_eq_true hl)),λp hp=>k _ _ [p] (e1.trans (aw hp _)) (λb hb=>by
   obtain rfl:=List.mem_singleton.mp hb
   exact ⟨e1.free hp,_,aI⟩) ⟨p,vs,rfl,rfl,aI,d1.mono λb o z=>by
     obtain ⟨z1,z2⟩:=aq.mp z
     refine aq.mpr ⟨λy=>?_,aw hp _ _ _ z2⟩
     rcases y with y | y
     · exact z1 y
     · rw [List.mem_singleton.mp y] at z2; rw [hp] at z2; cases z2⟩⟩
end
noncomputable def spD (K:PySem.W.Frag) (Φ:List D->Sl->Prop):Sp:=λvs H Q _=>∃ A ds s,(∀ b,A b->∃ o,H b=some o)/\ax K (hd H A) vs ds/\Φ ds s /\
 ∀ v H' bs,aj H H'->Fr H H' bs->bp K (hd H' λb=>A b\/b ∈ bs) H' (some v) bs s->Q v H'
noncomputable def Cal (P:Program) (w:World) (K:PySem.W.Frag) (mg:Str->Option Value) (base:Heap) (k:Nat) (n:Str) (Φ:List D->Sl->Prop):Prop:=
 ∃ f fd ps,aL P w K mg base CX0 k f fd ps (spD K Φ)/\mg n=some (.ref f)/\PySem.W.keepIn K (.ref f)=true/\Binds K fd ps []
theorem Cal.mono {P:Program} {w:World} {K:PySem.W.Frag} {mg:Str->Option Value} {base:Heap} {j k:Nat} {n:Str} {Φ:List D->Sl->Prop} (c:Cal P w K mg base j n Φ) (h:j<=k):Cal P w K mg base k n Φ:=
 let ⟨f,fd,ps,F,r⟩:=c; ⟨f,fd,ps,F.mono h,r⟩
noncomputable def ak:List Str:=["len","abs","max","min","int","bool","list","tuple","str","isinstance","range","enumerate","all","zip","sorted","sum","any","reversed"]
structure Bk (X:Cx) (k:Nat):Prop where
 room:cK k X.A
 calm:X.calm=true
 blt:∀ x ∈ ak,X.mg x=none
 po:PassesOwn (model X.prog X.w) X.A X.env X.xe
section
variable {X:Cx} {C:Bool} {τ:List Sl} {x y z:D} {a b e:Expr} {es:List Expr} {pos p:Pos} {k:Nat} {s:Sl} {ds:List D} {i j:Int}
theorem x_call {n:Str} {Φ:List D->Sl->Prop} (B:Bk X k) (c:Cal X.prog X.w X.K X.mg X.base k n Φ) (ha:PA X (e :: es) (dA X.K C τ ds)) (h:Φ ds s) (hg:Gl X n:=by rfl) (hdb:(n == ("__debug__" : Str))=false:=by decide)
   (he:starEach (e :: es) X.env=(false,eval e X.env) :: starEach es X.env:=by rfl) (hpl:(backTo pos (starEach es X.env)).any (·.1)=false:=by rfl):PE X (.Call (.Name n p) (e :: es) [] pos) (dE X.K C τ s):=by
 obtain ⟨f,fd,ps,F,hm,hk,hb⟩:=c
 refine peW (pF F B.room hg hm hk hb .nil uP ha hdb he hpl) λσ H Q ⟨A,H₀,B,S,q⟩=>du S λvs H1 e1 d1=>?_
 rw [List.append_nil]
 exact ⟨vw C A B,ds,s,(S.mono e1).vd,d1,h,λv H' bs e2 hf h2=>q v H' bs (e1.trans e2) (λb hb=>⟨e1.free (hf b hb).1,(hf b hb).2⟩) h2⟩
noncomputable def hJ (X:Cx) (f:Value) (ds:List D) (s:Sl):Prop:=∃ r:List V->Hp->VK->Prop,dg X f r /\
 ∀ (M:Addr->Prop) (vs:List V) (H:Hp) (Q:VK),(∀ b,M b->∃ o,H b=some o)->ax X.K (hd H M) vs ds->(∀ u H' bs,aj H H'->Fr H H' bs->bp X.K (hd H' λb=>M b\/b ∈ bs) H' (some u) bs s->Q u H')->r vs H Q
theorem oP {r:List V->Hp->VK->Prop} (hr:∀ (M:Addr->Prop) (vs:List V) (H:Hp) (Q:VK),(∀ b,M b->∃ o,H b=some o)->ax X.K (hd H M) vs ds->(∀ u H' bs,aj H H'->Fr H H' bs->bp X.K (hd H' λb=>M b\/b ∈ bs) H' (some u) bs s->Q u H')->r vs H Q) :
   ∀ σ H Q,dE X.K C τ s σ H Q->tCB r (dA X.K C τ ds) σ H Q:=λσ H Q ⟨A,H₀,B,S,q⟩=>
 du S λvs H1 e1 d1=>hr (vw C A B) vs H1 Q (S.mono e1).vd d1 λv H' bs e2 hf h2=>q v H' bs (e1.trans e2) (λb hb=>⟨e1.free (hf b hb).1,(hf b hb).2⟩) h2
theorem b9 {n:Str} {id:String} (B:Bk X k) (ha:PA X (e :: es) (dA X.K C τ ds)) (c:hJ X (.builtin id) ds s) (hn:n ∈ ak:=by decide) (hg:Gl X n:=by rfl) (hv:bootBuiltins n=some (.builtin id):=by decide +kernel) (h1:n ≠ "__name__":=by decide) (hdb:(n == ("__debug__" : Str))=false:=by decide)
   (he:starEach (e :: es) X.env=(false,eval e X.env) :: starEach es X.env:=by rfl) (hpl:(backTo pos (starEach es X.env)).any (·.1)=false:=by rfl):PE X (.Call (.Name n p) (e :: es) [] pos) (dE X.K C τ s):=by
 obtain ⟨r,h1,h2⟩:=c
 exact peW (jX h1 hg (B.blt _ hn) hv ha (by assumption) hdb he hpl) (oP h2)
theorem vZ {n:Str} {T:String} (B:Bk X k) (ha:PA X (e :: es) (dA X.K C τ ds)) (c:hJ X (.type T) ds s) (hn:n ∈ ak:=by decide) (hg:Gl X n:=by rfl) (hv:bootBuiltins n=some (.type T):=by decide +kernel) (h1:n ≠ "__name__":=by decide) (hdb:(n == ("__debug__" : Str))=false:=by decide)
   (he:starEach (e :: es) X.env=(false,eval e X.env) :: starEach es X.env:=by rfl) (hpl:(backTo pos (starEach es X.env)).any (·.1)=false:=by rfl):PE X (.Call (.Name n p) (e :: es) [] pos) (dE X.K C τ s):=by
 obtain ⟨r,h1,h2⟩:=c
 exact peW (m5 h1 hg (B.blt _ hn) hv ha (by assumption) hdb he hpl) (oP h2)
theorem fM {K:PySem.W.Frag} {H:Hp} {M:Addr->Prop} {v:V} (h:Den K (hd H M) v x):bp K (hd H λb=>M b\/b ∈ ([]:List Addr)) H (some v) [] (.d x):=⟨rfl,v,rfl,h.mono (av (aj.refl _) λ_ z=>z.elim id λz=>nomatch z)⟩
theorem cP {H H':Hp}:Fr H H' []:=λ_ z=>nomatch z
theorem jS {xs:List D}:hJ X (.builtin "len") [.lst xs] (.d (.int xs.length)):=⟨_,eE,λM vs H Q _ d q=>by
 cases d with
 | cons d r=>
   cases r
   cases d with
   | lst h r=>
     refine ⟨_,_,rfl,.inl (aE aB h),?_⟩
     rw [r.length]
     exact q _ H [] (aj.refl _) cP (fM .int)⟩
theorem gE {xs:List D}:hJ X (.builtin "len") [.tup xs] (.d (.int xs.length)):=⟨_,eE,λM vs H Q _ d q=>by
 cases d with
 | cons d r=>
   cases r
   cases d with
   | tup h r=>
     refine ⟨_,_,rfl,.inr (aP aB h),?_⟩
     rw [r.length]
     exact q _ H [] (aj.refl _) cP (fM .int)⟩
noncomputable def qF (i:Int):Int:=if i < 0 then -i else i
theorem ka:hJ X (.builtin "abs") [.int i] (.d (.int (qF i))):=⟨_,nL,λM vs H Q _ d q=>by
 cases d with
 | cons d r=>
   cases r
   cases d
   exact ⟨_,rfl,q _ H [] (aj.refl _) cP (fM .int)⟩⟩
theorem uh (hc:X.calm=true):hJ X (.builtin "max") [.int i,.int j] (.d (.int (if j > i then j else i))):=⟨_,nj hc,λM vs H Q _ d q=>by
 cases d with
 | cons d r=>
   cases r with
   | cons d' r=>
     cases r
     cases d
     cases d'
     exact ⟨_,_,rfl,q _ H [] (aj.refl _) cP (fM .int)⟩⟩
theorem gd {K:PySem.W.Frag} {H:Hp} {M:Addr->Prop} {p:Addr} {vs:List V} {xs:List D} (hp:H p=none) (d:ax K (hd H M) vs xs) :
   aj H (upd H p (.lst vs))/\Fr H (upd H p (.lst vs)) [p]/\bp K (hd (upd H p (.lst vs)) λb=>M b\/b ∈ [p]) (upd H p (.lst vs)) (some (.ref p)) [p] (.o xs):=
 ⟨aw hp _,λb hb=>by
   obtain rfl:=List.mem_singleton.mp hb
   exact ⟨hp,_,aI⟩,p,vs,rfl,rfl,aI,d.mono λb o z=>by
     obtain ⟨z1,z2⟩:=aq.mp z
     refine aq.mpr ⟨λy=>?_,aw hp _ _ _ z2⟩
     rcases y with y | y
     · exact z1 y
     · rw [List.mem_singleton.mp y] at z2; rw [hp] at z2; cases z2⟩
theorem kO {K:PySem.W.Frag} {H:Hp} {vs:List V} {ds:List D} {i:Int} {d:D} (r:ax K H vs ds) (h:atI ds i=some d):∃ v,atI vs i=some v/\Den K H v d:=by
 unfold atI at h ⊢
 rw [r.length]
 cases e:ixN ds.length i with
 | none=>rw [e] at h; cases h
 | some j=>rw [e] at h; exact r.get h
noncomputable def tO (X:Cx) (x y z:D):Prop:=∃ r:R2,IxR X r /\
 ∀ (M:Addr->Prop) (v w:V) (H:Hp) (Q:VK),(∀ b,M b->∃ o,H b=some o)->Den X.K (hd H M) v x->Den X.K (hd H M) w y->(∀ u H',aj H H'->Den X.K (hd H' M) u z->Q u H')->r v w H Q
theorem ar (ha:PE X a (dE X.K C τ (.d x))) (hb:PE X b (dE X.K C τ (.d y))) (ho:tO X x y z) (hs:iS b:=by exact λ_ _=>rfl):PE X (.Subscript a b pos) (dE X.K C τ (.d z)):=by
 obtain ⟨r,h1,h2⟩:=ho
 exact peW (rm h1 ha hb hs) (two h2)
theorem aX {xs:List D} (h:atI xs i=some z):tO X (.lst xs) (.int i) z:=⟨_,lK,λM v w H Q _ d1 d2 q=>by
 cases d2
 cases d1 with
 | lst hs r=>
   obtain ⟨v,e,d⟩:=kO r h
   exact ⟨_,_,_,_,rfl,rfl,aE aB hs,e,q _ H (aj.refl _) d⟩⟩
theorem ao {xs:List D} (h:atI xs i=some z):tO X (.tup xs) (.int i) z:=⟨_,sC,λM v w H Q _ d1 d2 q=>by
 cases d2
 cases d1 with
 | tup hs r=>
   obtain ⟨v,e,d⟩:=kO r h
   exact ⟨_,_,_,_,rfl,rfl,aP aB hs,e,q _ H (aj.refl _) d⟩⟩
theorem lI (n:Nat) {nm:Str} {xs:List D} (hb:PE X b (dE X.K false τ (.d (.int i)))) (hz:atI xs i=some z) (h:τ[n]?=some (.o xs):=by rfl) (hs:iS b:=by exact λ_ _=>rfl) (hN:X.N[n]?=some nm:=by rfl)
   (hv:Vis X.env.scope nm:=by first | exact Or.inl rfl | exact Or.inr (Or.inl rfl) | exact Or.inr (Or.inr rfl)) (hd:(nm == ("__debug__" : Str))=false:=by decide) (hcd:(nm == ("__classdict__" : Str))=false:=by decide):PE X (.Subscript (.Name nm p) b pos) (dE X.K C τ (.d z)):=
 peW (rm lK (cv (i:=n) hN hv hd hcd) hb hs) λσ H Q q=>by
   obtain ⟨A,H₀,B,S,k⟩:=dn q
   obtain ⟨l,vs,hb,e1,e2,d⟩:=S.sl n _ h
   refine ⟨_,slot_of e1,aR S λw H1 e3 d1=>?_⟩
   cases d1
   obtain ⟨v,e4,d4⟩:=kO d hz
   exact ⟨l,vs,i,v,rfl,rfl,SqL.of (e3 _ _ e2),e4,k v H1 e3 (d4.mono (av e3 λ_ z=>gF z))⟩
noncomputable def dO (K:PySem.W.Frag) (τ:List Sl) (c:Option Int):TO:=λσ H Q=>∃ A H₀ B,Sta K A H₀ τ B σ H/\∀ H',aj H H'->Q c H'
theorem uj {e:Option Expr} {t t':TO} (h:PO X e t) (f:∀ σ H Q,t' σ H Q->t σ H Q):PO X e t':=λpins s σ H Q I q=>h pins s σ H Q I (f σ H Q q)
theorem sr:PO X none (dO X.K τ none):=uj p9 λσ H Q ⟨A,H₀,B,S,k⟩=>k H (aj.refl _)
theorem k9 (h:PE X e (dE X.K false τ (.d (.int i)))):PO X (some e) (dO X.K τ (some i)):=uj (p7 h) λσ H Q ⟨A,H₀,B,S,k⟩=>aR S λv H1 e1 d1=>by
 cases d1
 exact ⟨_,rfl,k H1 e1⟩
noncomputable def cutD (xs:List D) (lo hi:Option Int):List D:=(xs.drop (HT.sIx xs.length 0 lo)).take (HT.sIx xs.length xs.length hi - HT.sIx xs.length 0 lo)
theorem uH {lo hi:Option Expr} {l u:Option Int} {xs:List D} {p2:Pos} (ha:PE X a (dE X.K C τ (.d (.lst xs)))) (hl:PO X lo (dO X.K τ l)) (hu:PO X hi (dO X.K τ u)):PE X (.Subscript a (.Slice lo hi none p2) pos) (dE X.K C τ (.o (cutD xs l u))):=
 peW (nS pv ha hl hu) λσ H Q ⟨A,H₀,B,S,k⟩=>aR S λv H1 e1 d1=>⟨A,H₀,B,S.mono e1,λH2 e2=>⟨A,H₀,B,(S.mono e1).mono e2,λH3 e3=>by
   cases d1 with
   | @lst _ ws _ h r=>
     have h:=aE (e2.trans e3) (aE aB h)
     refine ⟨_,_,rfl,h,λp hp=>?_⟩
     have r:=r.mono (av (e2.trans e3) λ_ z=>z)
     have r':ax X.K (hd H3 (vw C A B)) (m9 ws l u) (cutD xs l u):=by
       unfold m9 cutD
       rw [r.length]
       exact (r.drop _).take _
     obtain ⟨z1,z2,z3⟩:=gd (K:=X.K) hp r'
     exact k _ _ [p] (e1.trans (e2.trans (e3.trans z1))) (λb hb=>⟨(e1.trans (e2.trans e3)).free (z2 b hb).1,(z2 b hb).2⟩) z3⟩⟩
inductive Ty where
 | int | bool | str | list | tuple
noncomputable def tyN:Ty->String
 | .int=>"int" | .bool=>"bool" | .str=>"str" | .list=>"list" | .tuple=>"tuple"
noncomputable def uJ:D->String
 | .non=>"NoneType" | .bl _=>"bool" | .int _=>"int" | .str _=>"str" | .tup _=>"tuple" | .lst _=>"list" | .box _=>"dict"
noncomputable def hX:Ty->D->Bool
 | .int,.int _=>true
 | .int,.bl _=>true
 | .bool,.bl _=>true
 | .str,.str _=>true
 | .list,.lst _=>true
 | .tuple,.tup _=>true
 | _,_=>false
theorem sG (K:PySem.W.Frag) (d:D) (t:Ty):PySem.W.kitOne K (.type (uJ d)) (.type (tyN t))=some (hX t d):=by
 cases d <;> cases t <;> (show PySem.W.kitOne K (.type _) (.type _)=some _) <;> with_unfolding_all rfl
theorem rX (t:Ty):dg X (.builtin "isinstance") (λxs H Q=>∃ G x d,aj G H/\xs=[x,.ty (tyN t)]/\Den X.K G x d/\Q (.bl (hX t d)) H):=by
 intro pins s σ H xs us Q I r q
 obtain ⟨G,x,d,sg,rfl,dx,q⟩:=q
 obtain ⟨u,w,rfl,rx,rt⟩:∃ u w,us=[u,w]/\RelV x u/\RelV (.ty (tyN t)) w:=by
   cases r with
   | cons r1 r=>cases r with
     | cons r2 r=>cases r; exact ⟨_,_,rfl,r1,r2⟩
 cases (show w=Value.type (tyN t) from rt)
 have kt:=sG X.K d t
 have fin:∀ tk,EP X pins σ Q (.bool (hX t d)) { s with toks:=tk }:=λtk=>⟨.bl _,H,I.tok _,rfl,q⟩
 cases dx with
 | non=>cases (show u=Value.none from rx); exact PySem.W.kia_one PySem.W.kitx_none I.kIn True.intro kt (λz=>nomatch z) fin
 | bl=>cases (show u=Value.bool _ from rx); exact PySem.W.kia_one PySem.W.kitx_bool I.kIn True.intro kt (λz=>nomatch z) fin
 | int=>obtain ⟨t',z⟩:=(show ∃ t,u=Value.int _ t from rx); cases z; exact PySem.W.kia_one PySem.W.kitx_int I.kIn True.intro kt (λz=>nomatch z) fin
 | str=>obtain ⟨t',z⟩:=(show ∃ t,u=Value.str _ t from rx); cases z; exact PySem.W.kia_one PySem.W.kitx_str I.kIn True.intro kt (λz=>nomatch z) fin
 | tup h r1=>
   cases (show u=Value.ref _ from rx)
   obtain ⟨its,_,⟨o,h1,h2,_⟩,_⟩:=I.tuple (aP sg h)
   exact PySem.W.kia_one PySem.W.kitx_tuple I.kIn ⟨o,h1,h2⟩ kt (λz=>nomatch z) fin
 | lst h r1=>
   cases (show u=Value.ref _ from rx)
   obtain ⟨its,_,⟨o,n,h1,h2,_⟩,_⟩:=I.list (aE sg h)
   exact PySem.W.kia_one PySem.W.kitx_list I.kIn ⟨o,h1,h2⟩ kt (λz=>nomatch z) fin
 | @box a x h=>
   cases (show u=Value.ref _ from rx)
   obtain ⟨φ,h1,h2⟩:=x.isd h
   obtain ⟨o,h3,h4⟩:=h2 _ (show bu X.prog X.w H s.heap a (.ext φ) from I.hok a _ (sg _ _ h1)).1
   exact PySem.W.kia_one PySem.W.kitx_dict I.kIn ⟨o,h3,h4⟩ kt (λz=>nomatch z) fin
theorem cV {n:Str} {q:Pos} (t:Ty) (B:Bk X k) (ha:PE X a (dE X.K false τ (.d x))) (hn:n ∈ ak:=by decide) (ht:bootBuiltins n=some (.type (tyN t)):=by decide +kernel) (hg:Gl X "isinstance":=by rfl) (hg':Gl X n:=by rfl) (h1:n ≠ "__name__":=by decide) (hdb:(n == ("__debug__" : Str))=false:=by decide)
   (he:starEach [a,.Name n q] X.env=(false,eval a X.env) :: starEach [.Name n q] X.env:=by rfl) (hpl:(backTo pos (starEach [.Name n q] X.env)).any (·.1)=false:=by rfl):PE X (.Call (.Name "isinstance" p) [a,.Name n q] [] pos) (dE X.K C τ (.d (.bl (hX t x)))):=by
 refine peW (jX (rX t) hg (B.blt _ (by decide)) (by decide +kernel) (d9 ha (d9 (pO (v:=.ty (tyN t)) hg' (B.blt _ hn) ht rfl h1 hdb) i0) he) (by decide) (by decide) he hpl) λσ H Q q=>?_
 obtain ⟨A,H₀,B,S,k⟩:=dn q
 exact aR S λv H1 e1 d1=>⟨_,v,x,aB,rfl,d1,k _ H1 e1 .bl⟩
end
section
variable {K:PySem.W.Frag} {A:Addr->Prop} {H₀ H H':Hp} {τ:List Sl} {B:Nat->List Addr} {σ:L2.St}
theorem Sta.put (S:Sta K A H₀ τ B σ H) {i:Nat} {a:Addr} {xs ys:List D} {vs:List V} (hi:τ[i]?=some (.o xs)) (hB:B i=[a]) (d:ax K (hd H (own A B)) vs ys):Sta K A H₀ (τ.set i (.o ys)) B σ (upd H a (.lst vs)):=by
 have ha:own A B a:=.inr ⟨i,by rw [hB]; exact List.mem_singleton.mpr rfl⟩
 have ne:∀ b,b ≠ a->upd H a (.lst vs) b=H b:=λb h=>ay h
 have sm:aj (hd H (own A B)) (hd (upd H a (.lst vs)) (own A B)):=λb o z=>by
   obtain ⟨z1,z2⟩:=aq.mp z
   exact aq.mpr ⟨z1,by rw [ne b (λe=>z1 (e ▸ ha))]; exact z2⟩
 have f0:H₀ a=none:=S.fr i a (by rw [hB]; exact List.mem_singleton.mpr rfl)
 have hs:aj H₀ (upd H a (.lst vs)):=λb o z=>by rw [ne b (λe=>by rw [e,f0] at z; cases z)]; exact S.same b o z
 refine ⟨hs,by rw [List.length_set,S.len],λj t hj=>?_,S.fr,S.uq,S.ad,λj b hb=>?_⟩
 · by_cases ej:j=i
   · subst ej
     have hl:=(List.getElem?_eq_some_iff.mp hi).1
     rw [List.getElem?_set_self hl] at hj
     cases hj
     obtain ⟨a',vs',e1,e2,_,_⟩:=S.sl j _ hi
     rw [hB] at e1
     cases e1
     exact ⟨a,vs,hB,e2,aI,d.mono sm⟩
   · rw [List.getElem?_set_ne (λz=>ej z.symm)] at hj
     have q:=S.sl j t hj
     have off:∀ b ∈ B j,b ≠ a:=λb hb e=>ej (S.uq j i a (e ▸ hb) (by rw [hB]; exact List.mem_singleton.mpr rfl))
     cases t with
     | un=>exact q
     | d x=>obtain ⟨z,u,e,d⟩:=q; exact ⟨z,u,e,d.mono sm⟩
     | o zs=>
       obtain ⟨c,ws,z1,z2,z3,z4⟩:=q
       exact ⟨c,ws,z1,z2,by rw [ne c (off c (by rw [z1]; exact List.mem_singleton.mpr rfl))]; exact z3,z4.mono sm⟩
     | n t=>
       obtain ⟨z0,u,z1,z2⟩:=q
       exact ⟨z0,u,z1,z2.frame sm λb hb=>ne b (off b hb)⟩
     | x E=>
       obtain ⟨c,o,z1,z2,z3,z4⟩:=q
       exact ⟨c,o,z1,z2,by rw [ne c (off c (by rw [z1]; exact List.mem_singleton.mpr rfl))]; exact z3,E.mono sm z4⟩
 · by_cases e:b=a
   · subst e; exact ⟨_,aI⟩
   · rw [ne b e]; exact S.bd j b hb
theorem Sta.fz (S:Sta K A H₀ τ B σ H) {i:Nat} {s:Sl} {x:D} (hi:τ[i]?=some s) (hx:fzD s=some x):Sta K A H₀ (τ.set i (.d x)) (upB B i []) σ H:=
 S.less (λ_ z=>nomatch z) λG g hv=>by
   obtain ⟨u,e,d⟩:=(S.sl i s hi).den (G':=G) g (λb hb o ho=>hv b o hb (λz=>nomatch z) ho) hx
   exact ⟨rfl,u,e,d⟩
theorem Sta.un (S:Sta K A H₀ τ B σ H) (i:Nat):Sta K A H₀ (τ.set i .un) (upB B i []) σ H:=S.less (λ_ z=>nomatch z) λG g hv=>rfl
end
section
variable {X:Cx} {C:Bool} {τ:List Sl} {x y z:D} {a b e c:Expr} {es:List Expr} {pos p:Pos} {k:Nat} {s:Sl} {ds:List D} {N:Po} {st:Stmt} {rest body els:List Stmt}
theorem aQ (h:N.nx τ):PSs X [] (dS X.K τ N):=mH qG λD σ H ⟨A,H₀,B,S,M⟩=>M.nx τ B σ H h S
theorem bf {M:List Sl->Prop} (h1:PS X st (dS X.K τ { N with nx:=M })) (h2:∀ τ',M τ'->PSs X rest (dS X.K τ' N)):PSs X (st :: rest) (dS X.K τ N):=by
 have h:PSs X rest λD σ H=>∃ τ',M τ'/\dS X.K τ' N D σ H:=λpins s σ H D I ⟨τ',m,q⟩=>h2 τ' m pins s σ H D I q
 exact mH (oF h1 h) λD σ H ⟨A,H₀,B,S,Me⟩=>⟨A,H₀,B,S,λτ' B' σ' H' m S'=>⟨τ',m,A,H₀,B',S',Me⟩,Me.bk,Me.ct,Me.rt⟩
theorem pW (i:Nat) {s:Sl} {x:D} (h:PSs X rest (dS X.K (τ.set i (.d x)) N)) (hi:τ[i]?=some s:=by rfl) (hx:fzD s=some x:=by rfl):PSs X rest (dS X.K τ N):=mH h λD σ H ⟨A,H₀,B,S,Me⟩=>⟨A,H₀,_,S.fz hi hx,Me⟩
theorem az (i:Nat) {n:Str} {p:Pos} (hN:X.N.Nodup) (he:PE X e (dE X.K true τ s)) (hr:PSs X rest (dS X.K (τ.set i s) N)) (hi:X.N[i]?=some n:=by rfl) (hx:Loc X.env.scope n:=by first | exact .inl rfl | exact .inr rfl) (hs:swapsWith e (some (.Name n p)) pos.line X.env=pure false:=by rfl)
   (hf:X.fn n=true\/X.env.scope.names.lookup n=some .local:=by first | exact .inl rfl | exact .inr rfl | assumption):PSs X (.Assign [.Name n p] e pos :: rest) (dS X.K τ N):=
 bf (M:=(·=τ.set i s)) (psW (rW hN hi hx he hs hf) λD σ H ⟨A,H₀,B,S,Me⟩=>⟨A,H₀,B,S,λv H' bs e hf h=>Me.nx _ _ _ _ rfl (S.set e hf h)⟩) λ_ e=>e ▸ hr
theorem kW (he:PE X e (dE X.K true τ s)) (hr:PSs X rest (dS X.K τ N)) (hs:swapsWith e none pos.line X.env=pure false:=by rfl):PSs X (.Expr e pos :: rest) (dS X.K τ N):=
 bf (M:=(·=τ)) (psW (fV he hs) λD σ H ⟨A,H₀,B,S,Me⟩=>⟨A,H₀,B,S,λv H' bs e hf h=>Me.nx _ _ _ _ rfl (S.mono e)⟩) λ_ e=>e ▸ hr
theorem aD (he:PE X e (dE X.K false τ s)) (h:N.rt s):PSs X (.Return (some e) pos :: rest) (dS X.K τ N):=
 bf (M:=λ_=>False) (psW (oM he) λD σ H ⟨A,H₀,B,S,Me⟩=>⟨A,H₀,B,S,λv H' bs e hf q=>Me.rt v H' bs s h (S.same.trans e) (λb hb=>⟨S.same.free (hf b hb).1,(hf b hb).2⟩) q⟩) λ_ e=>e.elim
theorem i7 (i:Nat) {n:Str} (h:N.rt s) (hi:τ[i]?=some s:=by rfl) (h0:s ≠ .un:=by exact nofun) (hN:X.N[i]?=some n:=by rfl) (hv:Vis X.env.scope n:=by first | exact Or.inl rfl | exact Or.inr (Or.inl rfl) | exact Or.inr (Or.inr rfl))
   (hd:(n == ("__debug__" : Str))=false:=by decide) (hcd:(n == ("__classdict__" : Str))=false:=by decide):PSs X (.Return (some (.Name n p)) pos :: rest) (dS X.K τ N):=
 bf (M:=λ_=>False) (psW (oM (cv hN hv hd hcd)) λD σ H ⟨A,H₀,B,S,Me⟩=>by
   have q:=S.sl i s hi
   obtain ⟨u,e⟩:∃ u,(σ[i]?).join=some u:=by
     cases s with
     | un=>exact absurd rfl h0
     | d x=>obtain ⟨_,u,e,_⟩:=q; exact ⟨u,e⟩
     | o xs=>obtain ⟨_,_,_,e,_⟩:=q; exact ⟨_,e⟩
     | n t=>obtain ⟨_,u,e,_⟩:=q; exact ⟨u,e⟩
     | x E=>obtain ⟨_,_,_,e,_⟩:=q; exact ⟨_,e⟩
   rw [e] at q
   exact ⟨u,slot_of e,Me.rt u H (B i) s h S.same (λb hb=>⟨S.fr i b hb,S.bd i b hb⟩) (q.mono (av (aj.refl _) λb z=>z.elim .inl λz=>.inr ⟨i,z⟩) (aj.refl _))⟩) λ_ e=>e.elim
theorem q9 {H H':Hp} {σ:L2.St} {D:Ends} {A:Addr->Prop} {H₀:Hp} {B:Nat->List Addr} (S:Sta X.K A H₀ τ B σ H) (Me:Meets X.K A H₀ N D) (e:aj H H'):dS X.K τ N D σ H':=⟨A,H₀,B,S.mono e,Me⟩
theorem vE {t:Bool} (hc:PT X c (dT X.K τ t)) (ha:t=true->PSs X body (dS X.K τ N)) (hb:t=false->PSs X els (dS X.K τ N)):PS X (.If c body els pos) (dS X.K τ N):=by
 cases t with
 | true=>exact psW (qM hc (ha rfl) iJ) λD σ H ⟨A,H₀,B,S,Me⟩=>⟨A,H₀,B,S,λH' e=>kF (q9 S Me e)⟩
 | false=>exact psW (qM hc iJ (hb rfl)) λD σ H ⟨A,H₀,B,S,Me⟩=>⟨A,H₀,B,S,λH' e=>mT (q9 S Me e)⟩
theorem jb {t:Bool} {M:List Sl->Prop} (hc:PT X c (dT X.K τ t)) (ha:t=true->PSs X body (dS X.K τ { N with nx:=M })) (hb:t=false->PSs X els (dS X.K τ { N with nx:=M })) (hr:∀ τ',M τ'->PSs X rest (dS X.K τ' N)):PSs X (.If c body els pos :: rest) (dS X.K τ N):=
 bf (vE hc ha hb) hr
theorem cn {t:Bool} (hc:PT X c (dT X.K τ t)) (ha:t=true->PSs X body (dS X.K τ { N with nx:=λ_=>False })) (hr:t=false->PSs X rest (dS X.K τ N)):PSs X (.If c body [] pos :: rest) (dS X.K τ N):=by
 cases t with
 | true=>exact jb (M:=λ_=>False) hc ha (λz=>nomatch z) λ_ z=>z.elim
 | false=>exact jb (M:=(·=τ)) hc (λz=>nomatch z) (λ_=>aQ rfl) λ_ e=>e ▸ hr rfl
theorem bt {t:Bool} (hc:PT X c (dT X.K τ t)) (ht:t=false) (hr:PSs X rest (dS X.K τ N)):PSs X (.If c body [] pos :: rest) (dS X.K τ N):=cn hc (λz=>by rw [ht] at z; cases z) λ_=>hr
theorem kn (i:Nat) {n:Str} {xs:List D} {ap cp:Pos} (he:PE X e (dE X.K true τ (.d x))) (hl:xs.length < 1000000) (hr:PSs X rest (dS X.K (τ.set i (.o (xs++[x]))) N)) (hi:τ[i]?=some (.o xs):=by rfl) (hN:X.N[i]?=some n:=by rfl)
   (hv:Vis X.env.scope n:=by first | exact Or.inl rfl | exact Or.inr (Or.inl rfl) | exact Or.inr (Or.inr rfl)) (hd:(n == ("__debug__" : Str))=false:=by decide) (hcd:(n == ("__classdict__" : Str))=false:=by decide)
   (hfew:((backTo cp (starEach [e] X.env)).all (λx=>!x.1) && (backToKw cp (keywordEach [] X.env)).all (λx=>x.1.isSome) && decide (([e]:List Expr).length + ([]:List Keyword).length + (if ([]:List Keyword).isEmpty then 0 else 1) < 30))=true:=by rfl)
   (hline:(ap.endLine == cp.line)=true:=by rfl) (hst:starEach [e] X.env=(false,eval e X.env) :: starEach [] X.env:=by rfl) (hpl:(backTo cp (starEach [] X.env)).any (·.1)=false:=by rfl)
   (hs:swapsWith (.Call (.Attribute (.Name n p) "append" ap) [e] [] cp) none pos.line X.env=pure false:=by rfl) (hbase:attributeBase (.Name n p) "append" X.env (eval (.Name n p) X.env)=eval (.Name n p) X.env:=by rfl) :
   PSs X (.Expr (.Call (.Attribute (.Name n p) "append" ap) [e] [] cp) pos :: rest) (dS X.K τ N):=
 bf (M:=(·=τ.set i (.o (xs++[x])))) (psW (fV (qU PySem.F.plainAttrs_list PySem.F.slot_list_append PySem.F.type_list_append eW (cv hN hv hd hcd) (d9 he i0 hst) hbase hfew hline hst hpl) hs) λD σ H ⟨A,H₀,B,S,Me⟩=>by
   obtain ⟨l,vs,hb,e1,e2,d⟩:=S.sl i _ hi
   refine ⟨_,slot_of e1,.inl ⟨rfl,_,SqL.of e2⟩,aR S λv H1 e3 d1=>⟨l,vs,v,rfl,rfl,e3 _ _ e2,by rw [d.length]; exact Nat.lt_trans hl (by decide),?_⟩⟩
   exact Me.nx _ _ _ _ rfl ((S.mono e3).put hi hb ((d.mono (av e3 λ_ z=>z)).append (.cons d1 .nil)))) λ_ e=>e ▸ hr
theorem l4 {K:PySem.W.Frag} {H:Hp}:∀ {vs:List V} {ds:List D} {v:V} {d:D} (j:Nat),ax K H vs ds->Den K H v d->ax K H (vs.set j v) (ds.set j d)
 | _,_,_,_,_,.nil,_=>.nil
 | _,_,_,_,0,.cons _ r,h=>.cons h r
 | _,_,_,_,j + 1,.cons h' r,h=>.cons h' (l4 j r h)
theorem qX (i:Nat) {n:Str} {xs:List D} {m:Int} {j:Nat} {ix:Expr} {sp:Pos} (hx:PE X ix (dE X.K false τ (.d (.int m)))) (he:PE X e (dE X.K true τ (.d x))) (hj:ixN xs.length m=some j) (hr:PSs X rest (dS X.K (τ.set i (.o (xs.set j x))) N)) (hi:τ[i]?=some (.o xs):=by rfl) (hN:X.N[i]?=some n:=by rfl)
   (hv:Vis X.env.scope n:=by first | exact Or.inl rfl | exact Or.inr (Or.inl rfl) | exact Or.inr (Or.inr rfl)) (hd:(n == ("__debug__" : Str))=false:=by decide) (hcd:(n == ("__classdict__" : Str))=false:=by decide)
   (hs:swapsWithSole [.Subscript (.Name n p) ix sp] e pos.line X.env=pure false:=by rfl) (hw:swappedStores [.Subscript (.Name n p) ix sp] e X.env=pure none:=by rfl) (h1:(assignEach [.Subscript (.Name n p) ix sp] X.env).map (·.2)=[assign (.Subscript (.Name n p) ix sp) X.env]:=by rfl)
   (ha:∀ v,assign (.Subscript (.Name n p) ix sp) X.env v=(do
     let ov <- holding [v] (eval (.Name n p) X.env)
     let iv <- holding [v,ov] (eval ix X.env)
     standAt sp
     holding [v,ov,iv] (setItem ov iv v)
     release [v,ov,iv] []):=by intro _; rfl) :
   PSs X (.Assign [.Subscript (.Name n p) ix sp] e pos :: rest) (dS X.K τ N):=
 bf (M:=(·=τ.set i (.o (xs.set j x)))) (psW (oE he (sP (cv hN hv hd hcd) hx set_list ha) hs hw h1) λD σ H ⟨A,H₀,B,S,Me⟩=>aR S λv H1 e1 d1=>by
   obtain ⟨l,vs,hb,f1,f2,d⟩:=(S.mono e1).sl i _ hi
   refine ⟨_,slot_of f1,aR (S.mono e1) λw H2 e2 d2=>?_⟩
   cases d2
   refine ⟨l,vs,m,j,rfl,rfl,e2 _ _ f2,by rw [d.length]; exact hj,?_⟩
   exact Me.nx _ _ _ _ rfl (((S.mono e1).mono e2).put hi hb (l4 j (d.mono (av e2 λ_ z=>z)) (d1.mono (av e2 λ_ z=>z))))) λ_ e=>e ▸ hr
end
end Hy
namespace Hy
open PySem PySem.Spec PyProof.Rows L2
open Ev (D Den ax aw aP aE Ite Itz Itv um rq rH lD kZ kS aC dr cF PTs cy dH)
noncomputable def Yl (K:PySem.W.Frag) (J:L2.It) (xs:List D) (G:Hp):Prop:=∀ H,aj G H->(∀ i,xs.length<=i->J.stop i H)/\∀ (i:Nat) (h:i < xs.length),J.go i H /\
 ∀ x H',J.yld i H x H'->aj H H'/\∀ M:Addr->Prop,(∀ b,M b->∃ o,H b=some o)->aj G (hd H M)->Den K (hd H' M) x xs[i]
noncomputable def dI (K:PySem.W.Frag) (τ:List Sl) (xs:List D):TI:=λσ H R=>∃ A H₀ B,Sta K A H₀ τ B σ H/\∀ J H',aj H H'->Yl K J xs (hd H' (own A B))->R J H'
noncomputable def dG (K:PySem.W.Frag) (τ:List Sl) (x:D) (τ':List Sl):TG:=λv σ H Q=>∃ A H₀ B,Sta K A H₀ τ B σ H/\Den K (hd H (own A B)) v x/\∀ σ' B',Sta K A H₀ τ' B' σ' H->Q σ' H
theorem piW {X:Cx} {tg e:Expr} {t t':TI} (h:PI X tg e t) (f:∀ σ H Q,t' σ H Q->t σ H Q):PI X tg e t':=λpins s σ H Q I q=>h pins s σ H Q I (f σ H Q q)
theorem pgW {X:Cx} {e:Expr} {t t':TG} (h:PG X e t) (f:∀ v σ H Q,t' v σ H Q->t v σ H Q):PG X e t':=λpins s σ H v u Q I r q=>h pins s σ H v u Q I r (f v σ H Q q)
section
variable {K:PySem.W.Frag} {G:Hp} {a:Addr} {vs:List V} {xs:List D}
theorem qE (h:SqL K G a vs) (r:ax K G vs xs):Yl K (Itl K a) xs G:=by
 intro H sg
 have hl:=r.length
 refine ⟨λi hi=>⟨vs,aE sg h,by omega⟩,λi hi=>?_⟩
 obtain ⟨v,hv,dv⟩:=r.get (List.getElem?_eq_getElem hi)
 refine ⟨⟨vs,v,aE sg h,hv⟩,λx H' ⟨e1,e2⟩=>?_⟩
 subst e1
 have ex:x=v:=by have:=e2 vs (aE sg h); rw [hv] at this; exact (Option.some.inj this).symm
 subst ex
 exact ⟨aj.refl _,λM _ sv=>dv.mono sv⟩
theorem rD (h:SqT K G a vs) (r:ax K G vs xs):Yl K (Itt K a) xs G:=by
 intro H sg
 have hl:=r.length
 refine ⟨λi hi=>⟨vs,aP sg h,by omega⟩,λi hi=>?_⟩
 obtain ⟨v,hv,dv⟩:=r.get (List.getElem?_eq_getElem hi)
 refine ⟨⟨vs,v,aP sg h,hv⟩,λx H' ⟨e1,e2⟩=>?_⟩
 subst e1
 have ex:x=v:=by have:=e2 vs (aP sg h); rw [hv] at this; exact (Option.some.inj this).symm
 subst ex
 exact ⟨aj.refl _,λM _ sv=>dv.mono sv⟩
noncomputable def hW (lo:Int) (n:Nat):List D:=(List.range n).map λk=>D.int (lo + (k:Nat))
theorem aO (lo:Int) (n:Nat):(hW lo n).length=n:=by simp [hW]
theorem jm (lo:Int) (n i:Nat) (h:i < (hW lo n).length):(hW lo n)[i]=.int (lo + (i:Nat)):=by simp [hW]
theorem pb (lo:Int) (n:Nat):Yl K (Itr lo n) (hW lo n) G:=by
 intro H sg
 refine ⟨λi hi=>by rw [aO] at hi; exact hi,λi hi=>?_⟩
 have hi':i < n:=by rw [aO] at hi; exact hi
 refine ⟨hi',λx H' ⟨e1,e2⟩=>?_⟩
 subst e1 e2
 refine ⟨aj.refl _,λM _ sv=>?_⟩
 rw [jm]
 exact .int
noncomputable def eH (xs:List D):List D:=(List.range xs.length).map λi=>D.tup [.int (i:Nat),xs.getD i .non]
theorem aU (xs:List D):(eH xs).length=xs.length:=by simp [eH]
theorem jx (xs:List D) (i:Nat) (h:i < (eH xs).length):(eH xs)[i]=.tup [.int (i:Nat),xs.getD i .non]:=by simp [eH]
theorem rQ (h:SqL K G a vs) (r:ax K G vs xs):Yl K (Ite K a) (eH xs) G:=by
 intro H sg
 have hl:=r.length
 have el:=aU xs
 refine ⟨λi hi=>⟨vs,aE sg h,by omega⟩,λi hi=>?_⟩
 have hi':i < xs.length:=by omega
 obtain ⟨v,hv,dv⟩:=r.get (List.getElem?_eq_getElem hi')
 refine ⟨⟨vs,v,aE sg h,hv⟩,λy H' ⟨p,x,hp,e0,e1,e2⟩=>?_⟩
 subst e0 e1
 have ex:x=v:=by have:=e2 vs (aE sg h); rw [hv] at this; exact (Option.some.inj this).symm
 subst ex
 refine ⟨aw hp _,λM hM sv=>?_⟩
 rw [jx,show xs.getD i .non=xs[i] by simp [List.getD,hi']]
 exact .tup (SqT.of (fX hM hp)) (.cons .int (.cons (dv.mono (sv.trans (av (aw hp _) λ_ z=>z))) .nil))
end
section
variable {X:Cx} {C:Bool} {τ:List Sl} {x y z:D} {a b e c tg it:Expr} {es:List Expr} {pos p q:Pos} {k:Nat} {s:Sl} {xs:List D} {N:Po} {st:Stmt} {rest body els:List Stmt}
theorem a0 (h:PE X it (dE X.K true τ (.d (.lst xs)))):PI X tg it (dI X.K τ xs):=piW (qu h) λσ H R ⟨A,H₀,B,S,k⟩=>aR S λv H1 e1 d1=>by
 cases d1 with
 | lst h r=>exact ⟨_,rfl,⟨_,aE aB h⟩,k _ H1 e1 (qE h r)⟩
theorem vm (h:PE X it (dE X.K true τ (.d (.tup xs)))):PI X tg it (dI X.K τ xs):=piW (sU h) λσ H R ⟨A,H₀,B,S,k⟩=>aR S λv H1 e1 d1=>by
 cases d1 with
 | tup h r=>exact ⟨_,rfl,⟨_,aP aB h⟩,k _ H1 e1 (rD h r)⟩
theorem fD {n:Int} (B:Bk X k) (h:PE X a (dE X.K false τ (.d (.int n)))) (h1:-(2 ^ 62)<=n) (h2:n < 2 ^ 62) (hg:Gl X "range":=by rfl) (hs:starEach [a] X.env=[(false,eval a X.env)]:=by rfl):PI X tg (.Call (.Name "range" p) [a] [] pos) (dI X.K τ (hW 0 n.toNat)):=
 piW (mV hg (B.blt _ (by decide)) (ae h ah hs) hs) λσ H R ⟨A,H₀,B,S,k⟩=>du S λvs H1 e1 d1=>by
   cases d1 with
   | cons d r=>
     cases r
     cases d
     exact ⟨n,rfl,h1,h2,k _ H1 e1 (pb 0 _)⟩
theorem tE {m n:Int} (B:Bk X k) (h:PE X a (dE X.K false τ (.d (.int m)))) (h':PE X b (dE X.K false τ (.d (.int n)))) (h1:-(2 ^ 62)<=m/\m < 2 ^ 62/\-(2 ^ 62)<=n/\n < 2 ^ 62) (hg:Gl X "range":=by rfl) (hs:starEach [a,b] X.env=[(false,eval a X.env),(false,eval b X.env)]:=by rfl)
   (hs2:starEach [b] X.env=[(false,eval b X.env)]:=by rfl):PI X tg (.Call (.Name "range" p) [a,b] [] pos) (dI X.K τ (hW m (n - m).toNat)):=
 piW (m8 hg (B.blt _ (by decide)) (ae h (ae h' ah hs2) (by rw [hs,hs2])) hs hs2) λσ H R ⟨A,H₀,B,S,k⟩=>du S λvs H1 e1 d1=>by
   cases d1 with
   | cons d r=>
     cases r with
     | cons d' r=>
       cases r
       cases d
       cases d'
       exact ⟨m,n,rfl,h1,k _ H1 e1 (pb m _)⟩
theorem jV {ts:List Expr} {m:Nat} {tp:Pos} (B:Bk X k) (h:PE X a (dE X.K true τ (.d (.lst xs)))) (hg:Gl X "enumerate":=by rfl) (hs:starEach [a] X.env=[(false,eval a X.env)]:=by rfl):PI X (.Tuple ts m tp) (.Call (.Name "enumerate" p) [a] [] pos) (dI X.K τ (eH xs)):=
 piW (lD hg (B.blt _ (by decide)) (ae h ah hs) hs) λσ H R ⟨A,H₀,B,S,k⟩=>du S λvs H1 e1 d1=>by
   cases d1 with
   | cons d r=>
     cases r
     cases d with
     | lst h r=>exact ⟨_,rfl,⟨_,aE aB h⟩,k _ H1 e1 (rQ h r)⟩
theorem rB (i:Nat) {n:Str} (hN:X.N.Nodup) (hi:X.N[i]?=some n:=by rfl) (hx:Loc X.env.scope n:=by first | exact .inl rfl | exact .inr rfl) (hf:X.fn n=true\/X.env.scope.names.lookup n=some .local:=by first | exact .inl rfl | exact .inr rfl | assumption):PG X (.Name n p) (dG X.K τ x (τ.set i (.d x))):=
 pgW (eL (i:=i) hN hi hx hf) λv σ H Q ⟨A,H₀,B,S,d,k⟩=>k _ _ (S.set (aj.refl _) (bs:=[]) (λ_ z=>nomatch z) (fM d))
theorem qS (i j:Nat) {n m:Str} {p2 pt:Pos} {md:Nat} (hc:X.calm=true) (hN:X.N.Nodup) (hi:X.N[i]?=some n:=by rfl) (hj:X.N[j]?=some m:=by rfl) (hx:Loc X.env.scope n:=by first | exact .inl rfl | exact .inr rfl) (hy:Loc X.env.scope m:=by first | exact .inl rfl | exact .inr rfl)
   (hf:X.fn n=true\/X.env.scope.names.lookup n=some .local:=by first | exact .inl rfl | exact .inr rfl | assumption) (hf':X.fn m=true\/X.env.scope.names.lookup m=some .local:=by first | exact .inl rfl | exact .inr rfl | assumption) :
   PG X (.Tuple [.Name n p,.Name m p2] md pt) (dG X.K τ (.tup [x,y]) ((τ.set i (.d x)).set j (.d y))):=by
 refine pgW (nY hc (gw (eL (i:=i) hN hi hx hf) (gw (eL (i:=j) hN hj hy hf') lZ))) λv σ H Q ⟨A,H₀,B,S,d,k⟩=>?_
 cases d with
 | tup h r=>
   cases r with
   | cons d1 r=>
     cases r with
     | cons d2 r=>
       cases r
       have S1:=S.set (i:=i) (aj.refl _) (bs:=[]) (λ_ z=>nomatch z) (fM d1)
       have sub:∀ b,own A (upB B i []) b->own A B b:=λb z=>z.elim .inl λ⟨j,z⟩=>(a7 z).elim (λz=>nomatch z.2) λz=>.inr ⟨j,z.2⟩
       exact ⟨_,_,rfl,aP aB h,rfl,_,_,rfl,_,_,rfl,rfl,k _ _ (S1.set (i:=j) (aj.refl _) (bs:=[]) (λ_ z=>nomatch z) (fM (d2.mono (av (aj.refl _) sub))))⟩
theorem Sta.base {K:PySem.W.Frag} {A:Addr->Prop} {H₀ H:Hp} {τ:List Sl} {B:Nat->List Addr} {σ:L2.St} (S:Sta K A H₀ τ B σ H):aj H₀ (hd H λb=>∃ i,b ∈ B i)/\Sta K A (hd H λb=>∃ i,b ∈ B i) τ B σ H:=by
 have s0:aj H₀ (hd H λb=>∃ i,b ∈ B i):=λb o h=>aq.mpr ⟨λ⟨i,z⟩=>(by rw [S.fr i b z] at h; cases h),S.same _ _ h⟩
 exact ⟨s0,aB,S.len,S.sl,λi b hb=>by
   cases e:hd H (λb=>∃ i,b ∈ B i) b with
   | none=>rfl
   | some o=>exact absurd ⟨i,hb⟩ (aq.mp e).1,S.uq,λb hb=>let ⟨o,q⟩:=S.ad b hb; ⟨o,s0 _ _ q⟩,S.bd⟩
theorem Sta.back {K:PySem.W.Frag} {A:Addr->Prop} {H₀ G H:Hp} {τ:List Sl} {B:Nat->List Addr} {σ:L2.St} (S:Sta K A G τ B σ H) (s:aj H₀ G) (ad:∀ b,A b->∃ o,H₀ b=some o):Sta K A H₀ τ B σ H:=
 ⟨s.trans S.same,S.len,S.sl,λi b hb=>s.free (S.fr i b hb),S.uq,ad,S.bd⟩
theorem qY {M:Nat->List Sl->Prop} {T:Nat->List Sl->List Sl} (B:Bk X k) (hi:PI X tg it (dI X.K τ xs)) (h0:M 0 τ) (hg:∀ i (h:i < xs.length) τ',M i τ'->PG X tg (dG X.K τ' xs[i] (T i τ')))
   (hb:∀ i,i < xs.length->∀ τ',M i τ'->PSs X body (dS X.K (T i τ') { N with nx:=M (i + 1),ct:=M (i + 1),bk:=N.nx })) (hn:∀ τ',M xs.length τ'->N.nx τ')
   (hs:∀ x,foldedSetIterable it X.env x=pure x:=by intro _; rfl):PS X (.For tg it body [] pos) (dS X.K τ N):=by
 have hg':PG X tg λv σ H Q=>∃ (i:Nat) (h:i < xs.length) (τ':List Sl),M i τ'/\dG X.K τ' xs[i] (T i τ') v σ H Q:=λpins s σ H v u Q I r ⟨i,h,τ',m,q⟩=>hg i h τ' m pins s σ H v u Q I r q
 have hb':PSs X body λD σ H=>∃ i τ',i < xs.length/\M i τ'/\dS X.K (T i τ') { N with nx:=M (i + 1),ct:=M (i + 1),bk:=N.nx } D σ H:=λpins s σ H D I ⟨i,τ',h,m,q⟩=>hb i h τ' m pins s σ H D I q
 refine psW (sj B.po B.calm hi hg' hb' hs) λD σ H ⟨A,H₀,B,S,Me⟩=>⟨A,H₀,B,S,λJ H1 e1 yl=>?_⟩
 obtain ⟨s0,S1⟩:=(S.mono e1).base
 have sub:∀ {H'},aj (hd H1 λb=>∃ i,b ∈ B i) H'->aj (hd H1 (own A B)) H':=λe=>(av (aj.refl _) λ_ z=>.inr z).trans e
 refine ⟨λi m σ' H'=>m=xs.length - i/\i<=xs.length/\∃ τ' B',M i τ'/\Sta X.K A (hd H1 λb=>∃ i,b ∈ B i) τ' B' σ' H',⟨xs.length,rfl,Nat.zero_le _,τ,B,h0,S1⟩,?_⟩
 rintro i m σ' H' ⟨rfl,hi,τ',B',hM,S'⟩
 obtain ⟨y1,y2⟩:=yl H' (sub S'.same)
 by_cases hlt:i < xs.length
 · obtain ⟨g,y⟩:=y2 i hlt
   refine .inr ⟨g,λσ2 H2=>∃ τ2 B2,M (i + 1) τ2/\Sta X.K A (hd H1 λb=>∃ i,b ∈ B i) τ2 B2 σ2 H2,λσ2 H2 q=>⟨xs.length - (i + 1),by omega,rfl,hlt,q⟩,λx H2 hy=>?_⟩
   obtain ⟨e2,dx⟩:=y x H2 hy
   have S2:=S'.mono e2
   refine ⟨i,hlt,τ',hM,A,_,B',S2,dx (own A B') S'.dm ?_,λσ3 B3 S3=>⟨i,τ',hlt,hM,A,_,B3,S3,?_⟩⟩
   · intro b o z
     obtain ⟨z1,z2⟩:=aq.mp z
     have z3:hd H1 (λb=>∃ i,b ∈ B i) b=some o:=aq.mpr ⟨λy=>z1 (.inr y),z2⟩
     refine aq.mpr ⟨λy=>?_,S'.same _ _ z3⟩
     rcases y with y | ⟨l,y⟩
     · exact z1 (.inl y)
     · rw [S'.fr l b y] at z3; cases z3
   · exact ⟨λτ3 B3 σ3 H3 m S3=>⟨τ3,B3,m,S3⟩,λτ3 B3 σ3 H3 m S3=>Me.nx τ3 B3 σ3 H3 m (S3.back s0 S.ad),λτ3 B3 σ3 H3 m S3=>⟨τ3,B3,m,S3⟩,
       λv H3 bs s3 hr e3 hf q=>Me.rt v H3 bs s3 hr (s0.trans e3) (λb hb=>⟨s0.free (hf b hb).1,(hf b hb).2⟩) q⟩
 · have e:i=xs.length:=by omega
   subst e
   exact .inl ⟨y1 _ (Nat.le_refl _),Me.nx τ' B' σ' H' (hn τ' hM) (S'.back s0 S.ad)⟩
theorem bX (j:Nat) {n:Str} (M:Nat->List Sl->Prop) {g:Nat->D} (B:Bk X k) (hN:X.N.Nodup) (hi:PI X (.Name n p) it (dI X.K τ xs)) (hx:∀ i (h:i < xs.length),xs[i]=g i) (h0:M 0 τ)
   (hb:∀ i,i < xs.length->∀ τ',M i τ'->PSs X body (dS X.K (τ'.set j (.d (g i))) { N with nx:=M (i + 1),ct:=M (i + 1),bk:=λ_=>False }))
   (hr:∀ τ',M xs.length τ'->PSs X rest (dS X.K τ' N)) (hs:∀ x,foldedSetIterable it X.env x=pure x:=by intro _; rfl) (hi':X.N[j]?=some n:=by rfl) (hl:Loc X.env.scope n:=by first | exact .inl rfl | exact .inr rfl)
   (hf:X.fn n=true\/X.env.scope.names.lookup n=some .local:=by first | exact .inl rfl | exact .inr rfl | assumption):PSs X (.For (.Name n p) it body [] pos :: rest) (dS X.K τ N):=
 bf (M:=M xs.length) (qY (M:=M) (T:=λi τ'=>τ'.set j (.d (g i))) B hi h0 (λi h τ' m=>by rw [hx i h]; exact rB j hN hi' hl hf)
   (λi h τ' m=>mH (hb i h τ' m) λD σ H ⟨A,H₀,B,S,Me⟩=>⟨A,H₀,B,S,Me.nx,λ_ _ _ _ z=>z.elim,Me.ct,Me.rt⟩) (λ_ m=>m) hs) hr
theorem jg (j l:Nat) {n m:Str} {p2 pt:Pos} {md:Nat} (M:Nat->List Sl->Prop) {g g':Nat->D} (B:Bk X k) (hN:X.N.Nodup) (hi:PI X (.Tuple [.Name n p,.Name m p2] md pt) it (dI X.K τ xs)) (hx:∀ i (h:i < xs.length),xs[i]=.tup [g i,g' i]) (h0:M 0 τ)
   (hb:∀ i,i < xs.length->∀ τ',M i τ'->PSs X body (dS X.K ((τ'.set j (.d (g i))).set l (.d (g' i))) { N with nx:=M (i + 1),ct:=M (i + 1),bk:=λ_=>False }))
   (hr:∀ τ',M xs.length τ'->PSs X rest (dS X.K τ' N)) (hs:∀ x,foldedSetIterable it X.env x=pure x:=by intro _; rfl) (hi':X.N[j]?=some n:=by rfl) (hj':X.N[l]?=some m:=by rfl) (hl:Loc X.env.scope n:=by first | exact .inl rfl | exact .inr rfl) (hl':Loc X.env.scope m:=by first | exact .inl rfl | exact .inr rfl)
   (hf:X.fn n=true\/X.env.scope.names.lookup n=some .local:=by first | exact .inl rfl | exact .inr rfl | assumption) (hf':X.fn m=true\/X.env.scope.names.lookup m=some .local:=by first | exact .inl rfl | exact .inr rfl | assumption):PSs X (.For (.Tuple [.Name n p,.Name m p2] md pt) it body [] pos :: rest) (dS X.K τ N):=
 bf (M:=M xs.length) (qY (M:=M) (T:=λi τ'=>(τ'.set j (.d (g i))).set l (.d (g' i))) B hi h0 (λi h τ' m=>by rw [hx i h]; exact qS j l B.calm hN hi' hj' hl hl' hf hf')
   (λi h τ' m=>mH (hb i h τ' m) λD σ H ⟨A,H₀,B,S,Me⟩=>⟨A,H₀,B,S,Me.nx,λ_ _ _ _ z=>z.elim,Me.ct,Me.rt⟩) (λ_ m=>m) hs) hr
theorem fI {n:Nat} (i:Nat) (h:i < (hW 0 n).length):(hW 0 n)[i]=.int (i:Nat):=by rw [jm,Int.zero_add]
theorem gN {bs:List Int} (i:Nat) (h:i < (bs.map D.int).length):(bs.map D.int)[i]=.int (bs.getD i 0):=by
 have:i < bs.length:=by simpa using h
 simp [this]
theorem rf {bs:List Int} (i:Nat) (h:i < (eH (bs.map D.int)).length):(eH (bs.map D.int))[i]=.tup [.int (i:Nat),.int (bs.getD i 0)]:=by
 have:i < bs.length:=by rw [aU] at h; simpa using h
 rw [jx]
 simp [this]
end
end Hy
namespace Hy
open PySem PySem.Spec PyProof.Rows L2
open Ev (D Den ax aw aP aE aC dr cF PTs cy dH jJ)
noncomputable def slot:List Str->Str->Option Nat
 | [],_=>none
 | y :: r,x=>if x=y then some 0 else (slot r x).map (· + 1)
theorem slot_get:∀ {N:List Str} {x:Str} {i:Nat},slot N x=some i->N[i]?=some x
 | [],_,_,h=>by cases h
 | y :: r,x,i,h=>by
   unfold slot at h
   split at h
   · cases h; rename_i e; rw [e]; rfl
   · cases e:slot r x with
     | none=>rw [e] at h; cases h
     | some j=>rw [e] at h; cases h; simpa using slot_get e
noncomputable def nF (scope sc:Scope):Scope:={ scope with names:=scope.names.map λ(n,k)=>if (k == .free && sc.kind == .function && sc.names.lookup n == some .cell) then (n,.cell) else (n,k) }
noncomputable def bNm (scope:Scope):List Str:=(scope.names.filter λp=>(p.2 == .local || p.2 == .cell || p.2 == .free) && p.1 != (".0" : Str)).map (·.1)
noncomputable def bCp (No:List Str) (scope:Scope):List (Option Nat):=(bNm scope).map λx=>if (x,NameKind.free) ∈ scope.names then slot No x else none
noncomputable def bOk (sc scope:Scope):Bool:=
 scope.kind == .function && scope.names.all (λp=>p.2 != .local || scope.names.lookup p.1 == some .local) && scope.names.all (λp=>p.2 != .free || sc.names.lookup p.1 == some .cell)
   && scope.names.all (λp=>p.2 != .free || (!decide ((p.1,NameKind.cell) ∈ scope.names) && !decide ((p.1,NameKind.local) ∈ scope.names))) && decide (bNm scope++[("#" : Str)]).Nodup
   && (nF scope sc).names.all (λp=>p.1 != ("#" : Str))
theorem nK {a b:Bool} (h:(a && b)=true):a=true/\b=true:=by rw [Bool.and_eq_true] at h; exact h
theorem nW {x:Str} {q:NameKind}:∀ {names:List (Str × NameKind)},names.lookup x=some q->(x,q) ∈ names
 | (y,k) :: r,h=>by
   rw [List.lookup_cons] at h
   split at h
   · rename_i e; cases h; rw [eq_of_beq e]; exact List.mem_cons_self ..
   · exact List.mem_cons_of_mem _ (nW h)
theorem eo {X:Cx} {scope:Scope} (h:bOk X.env.scope scope=true):cF X scope (bNm scope++[("#" : Str)]) (bCp X.N scope)/\(bNm scope++[("#" : Str)]).Nodup:=by
 unfold bOk at h
 obtain ⟨h,h6⟩:=nK h
 obtain ⟨h,h5⟩:=nK h
 obtain ⟨h,h4⟩:=nK h
 obtain ⟨h,h3⟩:=nK h
 obtain ⟨h1,h2⟩:=nK h
 rw [List.all_eq_true] at h2 h3 h4 h6
 refine ⟨⟨eq_of_beq h1,λx hx hk=>?_,λx hx hk=>?_,λx hx hm=>?_,λx hx hm=>?_,?_,λj i hj=>?_,?_⟩,of_decide_eq_true h5⟩
 · have:=h2 x hx; rw [hk] at this; simpa using this
 · have:=h3 x hx; rw [hk] at this; show X.env.scope.names.lookup x.1=_; simpa using this
 · have:=h4 _ hx; simp [hm] at this
 · have:=h4 _ hx; simp [hm] at this
 · unfold bCp; rw [List.length_append,List.length_map]; rfl
 · unfold bCp at hj
   rw [List.getElem?_map] at hj
   cases e:(bNm scope)[j]? with
   | none=>rw [e] at hj; cases hj
   | some x=>
     rw [e] at hj
     simp only [Option.map_some,Option.some.injEq] at hj
     split at hj
     · exact ⟨x,by rw [List.getElem?_append_left (List.getElem?_eq_some_iff.mp e).1]; exact e,slot_get hj,by assumption⟩
     · cases hj
 · refine ⟨("#" : Str),?_,λhv=>?_⟩
   · unfold bCp; rw [List.length_map,List.getElem?_append_right (Nat.le_refl _),Nat.sub_self]; rfl
   · have key:∀ q,(nF scope X.env.scope).names.lookup ("#" : Str) ≠ some q:=λq hq=>by
       have:=h6 _ (nW hq)
       simp at this
     rcases hv with hv | hv | hv <;> exact key _ hv
noncomputable abbrev cpX (X:Cx) (s:Shared) (H:Hp) (scope:Scope) (fp:List Addr):Cx:=aC X s H scope (bNm scope++[("#" : Str)]) fp
theorem Bk.comp {X:Cx} {k:Nat} (B:Bk X k) (s:Shared) (H:Hp) (scope:Scope) (fp:List Addr):Bk (cpX X s H scope fp) k:=⟨B.room,B.calm,B.blt,PassesOwn.never⟩
noncomputable def a5 (τ:List Sl) (caps:List (Option Nat)):List Sl:=caps.map λo=>match o with
 | some i=>match τ[i]? with
   | some (.d x)=>.d x
   | _=>.un
 | none=>.un
theorem ju {X:Cx}:PTs X [] λ_ H Q=>Q true H:=λpins s σ H Q I q=>by
 show wpAny _ _ (pure true) _ _ _
 exact wpAny_pure ⟨H,I,q⟩
section
variable {X:Cx} {C:Bool} {τ:List Sl} {x y z:D} {a b e c tg it elt:Expr} {es ifs:List Expr} {pos p q:Pos} {k:Nat} {xs:List D} {scope:Scope}
structure Cmp (X:Cx) (elt tg it:Expr) (ifs:List Expr) (scope:Scope) (τ:List Sl) (ys:List D):Prop where
 ex:∃ (In:TG->TT->TE->Prop) (caps:List (Option Nat)) (N:List Str) (wi:TI),cF X scope N caps/\PI X tg it wi/\(∀ g tt te,In g tt te->∀ s H fp,PG (aC X s H scope N fp) tg g/\PTs (aC X s H scope N fp) ifs tt/\PE (aC X s H scope N fp) elt te) /\
   ∀ C σ H Q,dE X.K C τ (.o ys) σ H Q->dH In caps wi σ H Q
 hs:∀ x,foldedSetIterable it X.env x=pure x
 hc:X.calm=true
theorem eU {ys:List D} (h:Cmp X elt tg it ifs scope τ ys):PE X (.ListComp elt [⟨tg,it,ifs,0⟩] scope pos) (dE X.K C τ (.o ys)):=by
 obtain ⟨In,caps,N,wi,h1,h2,h3,h4⟩:=h.ex
 exact peW (cy h.hc h1 h2 h.hs h3) (h4 C)
theorem ox (i:Nat) {n:Str} {p spos:Pos} {rest:List Stmt} {N:Po} {ys:List D} {s:Sl} (hN:X.N.Nodup) (h:Cmp X elt tg it ifs scope τ ys) (hz:s=.o ys\/s=.d (.lst ys)) (hr:PSs X rest (dS X.K (τ.set i s) N)) (hi:X.N[i]?=some n:=by rfl) (hx:Loc X.env.scope n:=by first | exact .inl rfl | exact .inr rfl)
   (hsw:swapsWith (.ListComp elt [⟨tg,it,ifs,0⟩] scope pos) (some (.Name n p)) spos.line X.env=pure true:=by rfl) (hf:X.fn n=true\/X.env.scope.names.lookup n=some .local:=by first | exact .inl rfl | exact .inr rfl | assumption) :
   PSs X (.Assign [.Name n p] (.ListComp elt [⟨tg,it,ifs,0⟩] scope pos) spos :: rest) (dS X.K τ N):=by
 obtain ⟨In,caps,N',wi,h1,h2,h3,h4⟩:=h.ex
 have h5:∀ σ H Q,dE X.K true τ s σ H Q->dH In caps wi σ H Q:=by
   rcases hz with rfl | rfl
   · exact h4 true
   · intro σ H Q q
     obtain ⟨A,H₀,B,S,k⟩:=dn q
     refine h4 true σ H Q ⟨A,H₀,B,S,λv H' bs e hf q=>?_⟩
     obtain ⟨u,e1,d⟩:=q.den (G':=Hy.hd H' (vw true A B)) (av (aj.refl _) λ_ z=>.inl z) (λb hb o ho=>aq.mpr ⟨λz=>(by obtain ⟨_,q⟩:=S.vd (C:=true) b z; rw [(hf b hb).1] at q; cases q),ho⟩) rfl
     cases e1
     exact k v H' e d
 exact bf (M:=(·=τ.set i s)) (psW (jJ (eL (i:=i) hN hi hx hf) h.hc h1 h2 h.hs h3 hsw) λD σ H ⟨A,H₀,B,S,Me⟩=>h5 _ _ _ ⟨A,H₀,B,S,λv H' bs e hf h=>Me.nx _ _ _ _ rfl (S.set e hf h)⟩) λ_ e=>e ▸ hr
theorem oU {T:Nat->List Sl} {t:Nat->Bool} {f:Nat->D} (B:Bk X k) (hc:bOk X.env.scope scope=true) (hi:PI X tg it (dI X.K τ xs)) (hT:∀ i,(T i).length=(a5 τ (bCp X.N scope)++[Sl.un]).length/\∀ (l:Nat) (x:D),(a5 τ (bCp X.N scope)++[Sl.un])[l]?=some (.d x)->(T i)[l]?=some (.d x))
   (hg:∀ i (h:i < xs.length) s H fp,PG (cpX X s H scope fp) tg (dG X.K (a5 τ (bCp X.N scope)++[Sl.un]) xs[i] (T i)))
   (ht:∀ i,i < xs.length->∀ s H fp,PTs (cpX X s H scope fp) ifs (dT X.K (T i) (t i)))
   (he:∀ i,i < xs.length->t i=true->∀ s H fp,PE (cpX X s H scope fp) elt (dE X.K true (T i) (.d (f i)))) (hl:xs.length < 1000000) (hs:∀ x,foldedSetIterable it X.env x=pure x:=by intro _; rfl) :
   Cmp X elt tg it ifs scope τ (((List.range xs.length).filter t).map f):=by
 obtain ⟨cap,_⟩:=eo hc
 generalize hτ:a5 τ (bCp X.N scope)++[Sl.un]=τb at *
 refine ⟨⟨λg tt te=>g=(λv σ H Q=>∃ (i:Nat) (h:i < xs.length),dG X.K τb xs[i] (T i) v σ H Q)/\tt=(λσ H Q=>∃ i,i < xs.length/\dT X.K (T i) (t i) σ H Q)/\te=(λσ H Q=>∃ i,i < xs.length/\t i=true/\dE X.K true (T i) (.d (f i)) σ H Q),_,_,_,cap,hi,?_,?_⟩,hs,B.calm⟩
 · rintro g tt te ⟨rfl,rfl,rfl⟩ s H fp
   exact ⟨λpins s' σ H' v u Q I r ⟨i,h,q⟩=>hg i h s H fp pins s' σ H' v u Q I r q,λpins s' σ H' Q I ⟨i,h,q⟩=>ht i h s H fp pins s' σ H' Q I q,λpins s' σ H' Q I ⟨i,h,h',q⟩=>he i h h' s H fp pins s' σ H' Q I q⟩
 rintro C σ H Q ⟨A,H₀,B,S,kk⟩
 refine ⟨A,H₀,B,S,λJ H1 e1 yl=>⟨_,_,_,⟨rfl,rfl,rfl⟩,λD hD=>?_⟩⟩
 have S1:=S.mono e1
 have nD:¬ own A B D:=λz=>by obtain ⟨o,q⟩:=S1.dm D z; rw [hD] at q; cases q
 have noN:∀ (l:Nat) (t:Nd),τb[l]?=some (.n t)->0 ≠ 0:=λl t h=>by
   exfalso
   rw [<- hτ] at h
   have:=List.mem_of_getElem? h
   rcases List.mem_append.mp this with z | z
   · unfold a5 at z
     obtain ⟨o,_,ho⟩:=List.mem_map.mp z
     split at ho
     · split at ho <;> cases ho
     · cases ho
   · cases List.mem_singleton.mp z
 have slots:∀ {σ':L2.St} {H':Hp},aj H1 H'->(∃ o,H' D=some o)->σ'.length=τb.length->(∀ (l:Nat) (s:Sl),τb[l]?=some s->bp X.K (hd H' λb=>own A B b\/b=D) H' (σ'[l]?).join [] s)->Sta X.K (λb=>own A B b\/b=D) H' τb (λ_=>[]) σ' H':=λ{σ' H'} e1 e2 e3 e4=>
   ⟨aj.refl _,e3,λl s h=>(e4 l s h).mono (av (aj.refl _) λ_ z=>z.elim id λ⟨_,z⟩=>(nomatch z)) (aj.refl _),λ_ _ z=>(nomatch z),λ_ _ _ z=>(nomatch z),λb z=>z.elim (λz=>let ⟨o,q⟩:=S1.dm b z; ⟨o,e1 _ _ q⟩) λz=>z ▸ e2,λ_ _ z=>(nomatch z)⟩
 refine ⟨λi m σ' H'=>m=xs.length - i/\i<=xs.length/\aj H1 H'/\(∃ vs,H' D=some (.lst vs)/\vs.length<=i/\ax X.K (hd H' λb=>own A B b\/b=D) vs (((List.range i).filter t).map f)) /\
   σ'.length=τb.length/\∀ (l:Nat) (s:Sl),τb[l]?=some s->bp X.K (hd H' λb=>own A B b\/b=D) H' (σ'[l]?).join [] s,⟨xs.length,rfl,Nat.zero_le _,aw hD _,⟨[],aI,Nat.le_refl _,.nil⟩,?_,λl s h=>?_⟩,?_⟩
 · rw [<- hτ]; unfold dr a5; rw [List.length_append,List.length_append,List.length_map,List.length_map]; rfl
 · have hv:aj (hd H (own A B)) (hd (upd H1 D (.lst [])) λb=>own A B b\/b=D):=λb o z=>by
     obtain ⟨z1,z2⟩:=aq.mp z
     have z2:=e1 _ _ z2
     have ne:b ≠ D:=λz=>by rw [z,hD] at z2; cases z2
     exact aq.mpr ⟨λy=>y.elim z1 ne,by rw [ay ne]; exact z2⟩
   cases s with
   | un=>rfl
   | d x=>
     rw [<- hτ] at h
     have hlt:l < (bCp X.N scope).length:=by
       rcases Nat.lt_or_ge l (bCp X.N scope).length with h' | h'
       · exact h'
       · exfalso
         rw [List.getElem?_append_right (by unfold a5; rw [List.length_map]; exact h')] at h
         cases e:l - (a5 τ (bCp X.N scope)).length with
         | zero=>rw [e] at h; cases h
         | succ n=>rw [e] at h; cases h
     rw [List.getElem?_append_left (by unfold a5; rw [List.length_map]; exact hlt)] at h
     rw [List.getElem?_append_left (by unfold dr; rw [List.length_map]; exact hlt)]
     unfold a5 at h
     unfold dr
     rw [List.getElem?_map] at h ⊢
     cases e:(bCp X.N scope)[l]? with
     | none=>rw [e] at h; cases h
     | some o=>
       rw [e] at h
       cases o with
       | none=>cases h
       | some i=>
         simp only [Option.map_some,Option.some.injEq] at h
         split at h
         · rename_i x' hx'
           cases h
           obtain ⟨_,u,eu,d⟩:=S.sl i _ hx'
           exact ⟨rfl,u,by simpa using eu,d.mono hv⟩
         · cases h
   | o xs'=>
     exfalso
     rw [<- hτ] at h
     have:=List.mem_of_getElem? h
     rcases List.mem_append.mp this with z | z
     · unfold a5 at z
       obtain ⟨o,_,ho⟩:=List.mem_map.mp z
       split at ho
       · split at ho <;> cases ho
       · cases ho
     · cases List.mem_singleton.mp z
   | n t'=>
     exfalso
     rw [<- hτ] at h
     have:=List.mem_of_getElem? h
     rcases List.mem_append.mp this with z | z
     · unfold a5 at z
       obtain ⟨o,_,ho⟩:=List.mem_map.mp z
       split at ho
       · split at ho <;> cases ho
       · cases ho
     · cases List.mem_singleton.mp z
   | x E'=>
     exfalso
     rw [<- hτ] at h
     have:=List.mem_of_getElem? h
     rcases List.mem_append.mp this with z | z
     · unfold a5 at z
       obtain ⟨o,_,ho⟩:=List.mem_map.mp z
       split at ho
       · split at ho <;> cases ho
       · cases ho
     · cases List.mem_singleton.mp z
 rintro i m σ' H' ⟨rfl,hi,e2,⟨vs,hv1,hv2,hv3⟩,hlen,hsl⟩
 obtain ⟨y1,y2⟩:=yl H' (aB.trans e2)
 by_cases hlt:i < xs.length
 · obtain ⟨g,y⟩:=y2 i hlt
   refine .inr ⟨g,λx H2 hy=>?_⟩
   obtain ⟨e3,dx⟩:=y x H2 hy
   have S2:Sta X.K (λb=>own A B b\/b=D) H' τb (λ_=>[]) σ' H':=slots e2 ⟨_,hv1⟩ hlen hsl
   have o0:∀ b,own (λb=>own A B b\/b=D) (λ_=>([]:List Addr)) b->own A B b\/b=D:=λb z=>z.elim id λ⟨_,z⟩=>(nomatch z)
   have dx':=dx _ S2.dm (λb o z=>by
     obtain ⟨z1,z2⟩:=aq.mp z
     exact aq.mpr ⟨λy=>(o0 b y).elim z1 λy=>(by rw [y,hD] at z2; cases z2),e2 _ _ z2⟩)
   refine ⟨i,hlt,_,_,_,S2.mono e3,dx',λσ2 B2 S3=>?_⟩
   have hB2:∀ j b,b ∈ B2 j->b ≠ D:=λj b hb z=>by
     have:=S3.fr j b hb
     rw [z,hv1] at this
     cases this
   have back:∀ {H5:Hp},aj H2 H5->σ2.length=τb.length/\∀ (l:Nat) (s:Sl),τb[l]?=some s->bp X.K (hd H5 λb=>own A B b\/b=D) H5 (σ2[l]?).join [] s:=λ{H5} e5=>by
     refine ⟨S3.len.trans (hT i).1,λl s h=>?_⟩
     cases s with
     | un=>rfl
     | d x=>
       obtain ⟨_,u,eu,d⟩:=S3.sl l _ ((hT i).2 l x h)
       exact ⟨rfl,u,eu,d.mono (av e5 λ_ z=>.inl z)⟩
     | o xs'=>exact absurd (hsl l _ h) (λ⟨_,_,z,_⟩=>(nomatch z))
     | n t'=>exact absurd rfl (noN l t' h)
     | x E'=>exact absurd (hsl l _ h) (λ⟨_,_,z,_⟩=>(nomatch z))
   refine ⟨i,hlt,_,_,_,S3,λH4 e4=>?_⟩
   cases ht:t i with
   | false=>
     rw [if_neg Bool.false_ne_true]
     obtain ⟨b1,b2⟩:=back e4
     refine ⟨xs.length - (i + 1),by omega,rfl,hlt,e2.trans (e3.trans e4),⟨vs,e4 _ _ (e3 _ _ hv1),by omega,?_⟩,b1,b2⟩
     rw [List.range_succ,List.filter_append,List.map_append,List.filter_cons,ht]
     simpa using hv3.mono (av (e3.trans e4) λ_ z=>z)
   | true=>
     rw [if_pos rfl]
     refine ⟨i,hlt,ht,aR (S3.mono e4) λv H5 e5 d5=>?_⟩
     have e6:=e3.trans (e4.trans e5)
     have hv5:=e6 _ _ hv1
     refine ⟨vs,xs.length - (i + 1),hv5,Nat.lt_trans (Nat.lt_of_le_of_lt hv2 (Nat.lt_trans hlt hl)) (by decide),by omega,rfl,hlt,?_,?_⟩
     · intro b o z
       have ne:b ≠ D:=λy=>by rw [y,hD] at z; cases z
       rw [ay ne]
       exact e6 _ _ (e2 _ _ z)
     have sm:aj (hd H5 λb=>own A B b\/b=D) (hd (upd H5 D (.lst (vs++[v]))) λb=>own A B b\/b=D):=λb o z=>by
       obtain ⟨z1,z2⟩:=aq.mp z
       exact aq.mpr ⟨z1,by rw [ay λy=>z1 (.inr y)]; exact z2⟩
     obtain ⟨b1,b2⟩:=back (e4.trans e5)
     refine ⟨⟨vs++[v],aI,by rw [List.length_append]; exact Nat.succ_le_succ hv2,?_⟩,b1,λl s h=>?_⟩
     · rw [List.range_succ,List.filter_append,List.map_append,List.filter_cons,ht,if_pos rfl]
       refine ax.append (hv3.mono ((av e6 λ_ z=>z).trans sm)) (.cons (d5.mono ((av (aj.refl _) λ_ z=>.inl z).trans sm)) .nil)
     · cases s with
       | un=>rfl
       | d x=>obtain ⟨z1,u,eu,d⟩:=b2 l _ h; exact ⟨z1,u,eu,d.mono sm⟩
       | o xs'=>exact absurd (hsl l _ h) (λ⟨_,_,z,_⟩=>(nomatch z))
       | n t'=>exact absurd rfl (noN l t' h)
       | x E'=>exact absurd (hsl l _ h) (λ⟨_,_,z,_⟩=>(nomatch z))
 · have e:i=xs.length:=by omega
   subst e
   refine .inl ⟨y1 _ (Nat.le_refl _),kk _ _ [D] (e1.trans e2) (λb hb=>?_) ⟨D,vs,rfl,rfl,hv1,hv3.mono (av (aj.refl _) λb z=>z.elim (λz=>.inl (gF z)) λz=>.inr (List.mem_singleton.mp z))⟩⟩
   obtain rfl:=List.mem_singleton.mp hb
   exact ⟨e1.free hD,_,hv1⟩
theorem cmp (j:Nat) {n:Str} {g f:Nat->D} (B:Bk X k) (hi:PI X (.Name n p) it (dI X.K τ xs)) (hx:∀ i (h:i < xs.length),xs[i]=g i) (hl:xs.length < 1000000)
   (he:∀ i,i < xs.length->∀ s H fp,PE (cpX X s H scope fp) elt (dE X.K true ((a5 τ (bCp X.N scope)++[Sl.un]).set j (.d (g i))) (.d (f i))))
   (hc:bOk X.env.scope scope=true:=by kernel_rfl) (hu:(a5 τ (bCp X.N scope)++[Sl.un])[j]?=some .un:=by rfl) (hN:(bNm scope++[("#" : Str)])[j]?=some n:=by rfl) (hv:∀ s H fp,Loc (cpX X s H scope fp).env.scope n:=by intro _ _ _; first | exact .inl rfl | exact .inr rfl)
   (hf:∀ s H fp,(cpX X s H scope fp).fn n=true\/(cpX X s H scope fp).env.scope.names.lookup n=some .local:=by intro _ _ _; first | exact .inr rfl | exact .inl rfl) (hs:∀ x,foldedSetIterable it X.env x=pure x:=by intro _; rfl) :
   Cmp X elt (.Name n p) it [] scope τ ((List.range xs.length).map f):=by
 have h:=oU (T:=λi=>(a5 τ (bCp X.N scope)++[Sl.un]).set j (.d (g i))) (t:=λ_=>true) (f:=f) (elt:=elt) (ifs:=[]) B hc hi (λi=>⟨List.length_set,λl x h=>?_⟩) (λi h s H fp=>?_) (λi h s H fp=>?_) (λi h _ s H fp=>he i h s H fp) hl hs
 · rwa [List.filter_eq_self.mpr λ_ _=>rfl] at h
 · rw [List.getElem?_set_ne (λz=>by rw [<- z,hu] at h; cases h)]
   exact h
 · rw [hx i h]
   exact rB j (eo hc).2 hN (hv s H fp) (hf s H fp)
 · exact λpins s' σ H' Q I ⟨A,H₀,B,S,q⟩=>ju pins s' σ H' Q I (q H' (aj.refl _))
end
section
variable {P:Program} {w:World} {K:PySem.W.Frag} {mg:Str->Option Value} {base:Heap}
noncomputable def sA (N:List Str) (ds:List D):List Sl:=ds.map .d++List.replicate (N.length - ds.length) .un
noncomputable abbrev Xc (P:Program) (w:World) (K:PySem.W.Frag) (mg:Str->Option Value) (base:Heap) (N:List Str) (qual:Str) (st:Stmt) (f:Addr) (cdv:Value) (A:Around) (outer:List Env) (s:Shared) (H:Hp) (E:XK):Cx:=(kJ CX0 P w K mg base N qual (ai st) f cdv A outer s H E).nox
theorem fnD {x qual:Str} {st:Stmt} {f:Addr} {fd:FuncData} {N ps:List Str} {k:Nat} {Φ:List D->Sl->Prop} (F:Fun K x qual st f fd) (S:au N ps (ai st)) (hb:∀ x ∈ ak,mg x=none) (len:∀ ds r,Φ ds r->ds.length=ps.length)
   (body:∀ ds r,Φ ds r->∀ cdv A outer s H E,Bk (Xc P w K mg base N qual st f cdv A outer s H E) k->PSs (Xc P w K mg base N qual st f cdv A outer s H E) (bc st) (dS K (sA N ds) { nx:=λ_=>r=.d .non,rt:=λr'=>r'=r })) :
   aL P w K mg base CX0 (k + 1) f fd ps (spD K Φ):=by
 refine F.ok S (λvs H Q E ⟨A,ds,r,_,d,h,_⟩=>d.length.trans (len ds r h)) λcdv A outer s H vs Q E hr ⟨A',ds,r,ha,d,h,q⟩=>⟨_,body ds r h cdv A outer s H E ⟨hr,rfl,hb,PassesOwn.never⟩,A',H,λ_=>[],⟨aj.refl _,?_,λi s hi=>?_,λ_ _ z=>(nomatch z),λ_ _ _ z=>(nomatch z),ha,λ_ _ z=>(nomatch z)⟩,λτ B σ H' h S=>?_,λ_ _ _ _ h=>h.elim,λ_ _ _ _ h=>h.elim,λv H' bs s h e hf z=>?_⟩
 · unfold L2.start sA
   simp [d.length]
 · have hl:=d.length
   unfold sA at hi
   unfold L2.start
   by_cases hlt:i < ds.length
   · rw [List.getElem?_append_left (by simpa using hlt),List.getElem?_map,List.getElem?_eq_getElem hlt] at hi
     cases hi
     obtain ⟨v,e,dv⟩:=d.get (List.getElem?_eq_getElem hlt)
     refine ⟨rfl,v,?_,dv.mono (av (aj.refl _) λ_ z=>z.elim id λ⟨_,z⟩=>(nomatch z))⟩
     rw [List.getElem?_append_left (by simpa [hl] using hlt),List.getElem?_map,e]
     rfl
   · rw [List.getElem?_append_right (by simpa using hlt),List.getElem?_replicate] at hi
     split at hi
     · cases hi; rfl
     · cases hi
 · obtain rfl:=(h:r=_)
   exact q .non H' [] S.same cP (fM .non)
 · obtain rfl:=(h:s=r)
   exact q v H' bs e hf z
theorem qK {K:PySem.W.Frag} {Φ:List D->Sl->Prop} (hΦ:∀ ns:List Int,ns.length<=63->Φ [.lst (ns.map .int)] (.d (.bl true))) (H:Hp) (a:Addr) (ns:List Int) (hl:ns.length<=63) (hS:SqL K H a (ns.map V.int)):spD K Φ [.ref a] H (λv _=>v=.bl true) λ_ _ _=>False:=by
 have hh:hd H (λ_=>False)=H:=by funext b; unfold hd; rw [if_neg id]
 refine ⟨λ_=>False,_,_,λ_ z=>z.elim,.cons (.lst (vs:=ns.map V.int) (by rw [hh]; exact hS) ?_) .nil,hΦ ns hl,λv H' bs _ _ h=>?_⟩
 · clear hl hS
   induction ns with
   | nil=>exact .nil
   | cons n ns ih=>exact .cons .int ih
 · obtain ⟨_,u,e,d⟩:=h
   cases e
   cases d
   rfl
end
end Hy
namespace Hy
open PySem PySem.Spec PyProof.Rows L2
open Ev (D Den ax aN aH aw aP aE)
section
variable {X:Cx} {C:Bool} {τ:List Sl} {x y z:D} {a b e:Expr} {es:List Expr} {pos p:Pos} {k:Nat} {s:Sl} {ds:List D} {i j:Int}
theorem bR {K:PySem.W.Frag} {H:Hp}:∀ {vs:List V} {ns:List Int},ax K H vs (ns.map .int)->vs=ns.map V.int
 | _,[],h=>by cases h; rfl
 | _,n :: ns,h=>by
   cases h with
   | cons d r=>cases d; rw [bR r]; rfl
theorem gn:∀ {ns:List Int} {us:List Value},Vals (ns.map V.int) us->∃ xs:List (Int × Tok),us=xs.map (λp=>Value.int p.1 p.2)/\xs.map (·.1)=ns
 | [],_,h=>by cases h; exact ⟨[],rfl,rfl⟩
 | n :: ns,_,h=>by
   cases h with
   | cons rv rs=>
     obtain ⟨xs,rfl,rfl⟩:=gn rs
     obtain ⟨t,rfl⟩:=(show ∃ t,_=Value.int n t from rv)
     exact ⟨(n,t) :: xs,rfl,rfl⟩
theorem nR (hc:X.calm=true):dg X (.builtin "sum") (λxs H Q=>∃ (p:Addr) (ns:List Int),xs=[.ref p]/\SqL X.K H p (ns.map V.int)/\Q (.int ns.sum) H):=by
 intro pins s σ H xs us Q I r q
 obtain ⟨p,ns,rfl,h,q⟩:=q
 obtain ⟨u,rfl,ru⟩:∃ u,us=[u]/\RelV (.ref p) u:=by
   cases r with
   | cons r1 r=>cases r; exact ⟨_,rfl,r1⟩
 cases (show u=Value.ref _ from ru)
 obtain ⟨its,rv,pl,hz⟩:=I.list h
 obtain ⟨xs,rfl,hx⟩:=gn rv
 refine sum_intListG (xs:=xs.toArray) (I.ok.hd hc) (by have:=pl.isList; simpa [intItems] using this) λh' tk t' k=>?_
 refine ⟨.int ns.sum,H,I.kept k,⟨t',?_⟩,q⟩
 rw [List.size_toArray,preSum_eq,List.take_of_length_le (by simp),hx]
theorem t8 (hc:X.calm=true) (ns:List Int) {xs:List D} (hx:xs=ns.map .int):hJ X (.builtin "sum") [.lst xs] (.d (.int ns.sum)):=⟨_,nR hc,λM vs H Q _ d q=>by
 subst hx
 cases d with
 | cons d r=>
   cases r
   cases d with
   | lst h r=>
     cases bR r
     exact ⟨_,_,rfl,aE aB h,q _ H [] (aj.refl _) cP (fM .int)⟩⟩
theorem pY:OpR X (binaryOp .Add) (λx y H Q=>∃ l b xs zs,x=.ref l/\y=.ref b/\SqL X.K H l xs/\SqL X.K H b zs/\xs.length + zs.length<=sizeLine/\∀ p,H p=none->Q (.ref p) (upd H p (.lst (xs++zs)))):=by
 intro pins s σ H x y v u Q I rx ry h
 obtain ⟨l,b,xs,zs,rfl,rfl,hH,hB,hz,q⟩:=h
 cases rx
 cases ry
 obtain ⟨its,r,pl,_⟩:=I.list hH
 obtain ⟨its2,r2,pl2,_⟩:=I.list hB
 have hl:=r.length
 have hl2:=r2.length
 obtain ⟨⟨cls,dd,data,sl⟩,ho,hc,n,hd⟩:=pl.isList
 obtain ⟨⟨cls2,dd2,data2,sl2⟩,ho2,hc2,n2,hd2⟩:=pl2.isList
 simp only at hc hd hc2 hd2
 subst hc hd hc2 hd2
 have e:its.toArray++its2.toArray=(its++its2).toArray:=by simp
 refine concat_meets ⟨_,ho,rfl⟩ ⟨_,ho2,rfl⟩ noFill_list_add seq_list_add PySem.F.slot_list_add PySem.F.entry_list_add (PySem.F.args_list_add_2 _ _) (list_addW l b its.toArray its2.toArray n n2 dd dd2 sl sl2 (by rw [List.size_toArray,List.size_toArray]; omega)) ⟨ho,ho2,?_⟩
 rw [e]
 exact ⟨.ref _,_,I.vb (t':=s.toks) (r.append r2) (by rw [List.length_append]; omega),rfl,q _ I.fresh⟩
theorem qN {xs ys:List D} (ha:PE X a (dE X.K C τ (.d (.lst xs)))) (hb:PE X b (dE X.K C τ (.d (.lst ys)))) (hl:xs.length + ys.length < 1000000):PE X (.BinOp a .Add b pos) (dE X.K C τ (.o (xs++ys))):=peW (n5 pY ha hb) λσ H Q ⟨A,H₀,B,S,k⟩=>
 aR S λv H1 e1 d1=>aR (S.mono e1) λw H2 e2 d2=>by
   cases d1 with
   | lst h1 r1=>cases d2 with
     | lst h2 r2=>
       refine ⟨_,_,_,_,rfl,rfl,aE (aB.trans e2) h1,aE aB h2,by rw [r1.length,r2.length]; exact Nat.le_of_lt (Nat.lt_trans hl (by decide)),λp hp=>?_⟩
       obtain ⟨z1,z2,z3⟩:=gd (K:=X.K) hp ((r1.mono (av e2 λ_ z=>z)).append r2)
       exact k _ _ [p] (e1.trans (e2.trans z1)) (λb hb=>⟨(e1.trans e2).free (z2 b hb).1,(z2 b hb).2⟩) z3
theorem mkL (h:i.natAbs < 2 ^ 60):aN i j:=.inl (by
 rcases Nat.eq_zero_or_pos i.natAbs with z | z
 · rw [z]; decide
 · exact Nat.lt_trans ((Nat.log2_lt (by omega)).mpr h) (by decide))
theorem mkR (h:j.natAbs < 2 ^ 60):aN i j:=.inr (.inl (by
 rcases Nat.eq_zero_or_pos j.natAbs with z | z
 · rw [z]; decide
 · exact Nat.lt_trans ((Nat.log2_lt (by omega)).mpr h) (by decide)))
theorem mkD (h0:j ≠ 0) (h:j.natAbs < 2 ^ 62):aH j:=⟨h0,Nat.lt_trans ((Nat.log2_lt (by omega)).mpr h) (by decide)⟩
end
theorem ag {α:Type} {xs:List α} {i:Nat} {x:α} (h:xs[i]?=some x):atI xs (i:Int)=some x:=by
 unfold atI ixN
 have:=(List.getElem?_eq_some_iff.mp h).1
 rw [if_pos (by omega),if_pos (by omega)]
 simpa using h
theorem ba {ns:List Int} {i:Int} (h0:0<=i) (h:i.toNat < ns.length):atI (ns.map D.int) i=some (.int (ns.getD i.toNat 0)):=by
 obtain ⟨n,rfl⟩:=Int.eq_ofNat_of_zero_le h0
 exact ag (by
   have h:n < ns.length:=h
   simp [h])
theorem kH {xs:List D} (n:Nat):cutD xs none (some (n:Int))=xs.take n:=by
 unfold cutD
 rw [HT.jj,HT.oH,List.drop_zero,Nat.sub_zero]
 rcases Nat.le_total n xs.length with h | h
 · rw [Nat.min_eq_left h]
 · rw [Nat.min_eq_right h,List.take_of_length_le (Nat.le_refl _),List.take_of_length_le h]
theorem qg {xs:List D} (m n:Nat):cutD xs (some (m:Int)) (some (n:Int))=(xs.take n).drop m:=by
 unfold cutD
 rw [HT.jj,HT.jj]
 rw [<- List.drop_take]
 rcases Nat.le_total n xs.length with h | h
 · rw [Nat.min_eq_left h]
   rcases Nat.le_total m xs.length with h' | h'
   · rw [Nat.min_eq_left h']
   · rw [Nat.min_eq_right h',List.drop_eq_nil_of_le (by simp; omega),List.drop_eq_nil_of_le (by simp; omega)]
 · rw [Nat.min_eq_right h,List.take_of_length_le (Nat.le_refl _),List.take_of_length_le h]
   rcases Nat.le_total m xs.length with h' | h'
   · rw [Nat.min_eq_left h']
   · rw [Nat.min_eq_right h',List.drop_eq_nil_of_le (Nat.le_refl _),List.drop_eq_nil_of_le h']
theorem getD_none {α:Type} {xs:List α} {i:Nat} {d:α} (h:xs.length<=i):xs.getD i d=d:=by simp [List.getD,h]
theorem ex1 {α:Type} {p:α->Prop} {a:α} (h:p a):∃ a,p a:=⟨a,h⟩
theorem ex3 {α:Type} {p:α->α->α->Prop} {a b c:α} (h:p a b c):∃ a b c,p a b c:=⟨a,b,c,h⟩
end Hy
namespace Hy
open PySem PySem.Spec PyProof.Rows L2
open Ev (D Den ax)
noncomputable def Dfn (K:PySem.W.Frag) (x:Str) (st:Stmt) (f:Addr):Prop:=PySem.W.nsIn K mainGlobals x=some (some (.ref f))/\(∃ oc od kV dc pm an cd ct sl,K.lookup f=some ⟨oc,od,.func (PySem.W.fnOf x x (bz st) (bc st) (ai st) .none kV dc pm an cd ct),sl⟩/\PySem.W.codeIn K cd x=true)/\PySem.W.keepIn K (.ref f)=true
noncomputable def BdA (x:Str) (st:Stmt) (ps:List Str):Prop:=∀ (kV dc pm:Value) (an:Option Addr) (cd ct:Value) (us:List Value),us.length=ps.length->bindArgs (PySem.W.fnOf x x (bz st) (bc st) (ai st) .none kV dc pm an cd ct) ⟨us,[]⟩=pure (ps.zip us)
noncomputable def nsL (K:PySem.W.Frag):List Str->Prop
 | []=>True
 | x :: r=>PySem.W.nsIn K mainGlobals x=some none/\nsL K r
section
variable {P:Program} {w:World} {K:PySem.W.Frag} {h:Heap} {mg:Str->Option Value} {base:Heap} {x:Str} {st:Stmt} {f:Addr} {ps:List Str} {k:Nat} {Φ:List D->Sl->Prop}
theorem Dfn.of {oc:Value} {od an:Option Addr} {kV dc pm cd ct:Value} {sl:Array (Option Value)} (a:PySem.W.nsIn K mainGlobals x=some (some (.ref f))) (l:K.lookup f=some ⟨oc,od,.func (PySem.W.fnOf x x (bz st) (bc st) (ai st) .none kV dc pm an cd ct),sl⟩) (c:PySem.W.codeIn K cd x=true) (k:PySem.W.keepIn K (.ref f)=true):Dfn K x st f:=⟨a,⟨_,_,_,_,_,_,_,_,_,l,c⟩,k⟩
theorem nsL.none (X:K.In h) (G:h.Ns mainGlobals mg):∀ {l:List Str},nsL K l->∀ x ∈ l,mg x=none
 | _ :: _,z,x,m=>by
   rcases List.mem_cons.mp m with rfl | m
   · exact PySem.W.mg_none_of X G z.1
   · exact nsL.none X G z.2 x m
theorem Dfn.fn (d:Dfn K x st f) (X:K.In h) (G:h.Ns mainGlobals mg) (b:BdA x st ps):∃ fd,Fun K x x st f fd/\mg x=some (.ref f)/\PySem.W.keepIn K (.ref f)=true/\Binds K fd ps []:=by
 obtain ⟨a,⟨oc,od,kV,dc,pm,an,cd,ct,sl,l,c'⟩,q⟩:=d
 have F:=kQ l c' q
 exact ⟨_,F,PySem.W.mg_of X G a,q,F.binds (b kV dc pm an cd ct)⟩
theorem Dfn.cal (d:Dfn K x st f) (X:K.In h) (G:h.Ns mainGlobals mg) (b:BdA x st ps) (o:∀ fd,Fun K x x st f fd->aL P w K mg base CX0 k f fd ps (spD K Φ)):Cal P w K mg base k x Φ:=by
 obtain ⟨fd,F,h1,h2,h3⟩:=d.fn X G b
 exact ⟨f,fd,ps,o fd F,h1,h2,h3⟩
end
theorem bd1 {Q:List Value->Prop} (h:∀ a,Q [a]):∀ us:List Value,us.length=1->Q us:=λus e=>match us,e with | [a],_=>h a
theorem bd2 {Q:List Value->Prop} (h:∀ a b,Q [a,b]):∀ us:List Value,us.length=2->Q us:=λus e=>match us,e with | [a,b],_=>h a b
theorem bd3 {Q:List Value->Prop} (h:∀ a b c,Q [a,b,c]):∀ us:List Value,us.length=3->Q us:=λus e=>match us,e with | [a,b,c],_=>h a b c
theorem bd4 {Q:List Value->Prop} (h:∀ a b c d,Q [a,b,c,d]):∀ us:List Value,us.length=4->Q us:=λus e=>match us,e with | [a,b,c,d],_=>h a b c d
theorem bd6 {Q:List Value->Prop} (h:∀ a b c d e f,Q [a,b,c,d,e,f]):∀ us:List Value,us.length=6->Q us:=λus e=>match us,e with | [a,b,c,d,f,g],_=>h a b c d f g
end Hy
namespace Hy
open PySem PySem.Spec PyProof.Rows L2
open Ev (D Den ax aw aP aE)
noncomputable def lY (H:Hp):List Nat->V->V->Prop
 | [],u,v=>v=u
 | i :: p,u,v=>∃ a vs w,u=.ref a/\(H a=some (.lst vs)\/H a=some (.tup vs))/\vs[i]?=some w/\lY H p w v
theorem lY.mono {H H':Hp} (e:aj H H'):∀ {p:List Nat} {u v:V},lY H p u v->lY H' p u v
 | [],_,_,h=>h
 | _ :: _,_,_,⟨a,vs,w,h1,h2,h3,h4⟩=>⟨a,vs,w,h1,h2.elim (λz=>.inl (e _ _ z)) (λz=>.inr (e _ _ z)),h3,h4.mono e⟩
section
variable {K:PySem.W.Frag} {G H:Hp}
theorem aJ.part:∀ {vs:List V} {bs:List Addr} {xs:List Nd} {i:Nat} {c:Nd},aJ K G H vs bs xs->xs[i]?=some c->∃ v l m r,vs[i]?=some v/\bs=l++(m++r)/\bh K G H v m c /\
   ∀ {G' H':Hp} {m':List Addr} {c':Nd},aj G G'->(∀ b,b ∈ l\/b ∈ r->H' b=H b)->bh K G' H' v m' c'->aJ K G' H' vs (l++(m'++r)) (xs.set i c')
 | _,_,_,_,_,.nil,e=>by cases e
 | _,_,_,0,_,.cons (b1:=b1) (b2:=b2) h r,e=>by
   cases e
   exact ⟨_,[],b1,b2,rfl,rfl,h,λg e h'=>by rw [List.nil_append]; exact .cons h' (r.frame g λb hb=>e b (.inr hb))⟩
 | _,_,_,i + 1,c,.cons (b1:=b1) h r,e=>by
   obtain ⟨v,l,m,q,h1,h2,h3,h4⟩:=aJ.part (i:=i) (c:=c) r (by simpa using e)
   refine ⟨v,b1++l,m,q,by simpa using h1,by rw [h2,List.append_assoc],h3,λ{G' H' m' c'} g e h'=>?_⟩
   rw [List.append_assoc]
   exact .cons (h.frame g λb hb=>e b (.inl (List.mem_append_left _ hb))) (h4 g (λb hb=>e b (hb.elim (λz=>.inl (List.mem_append_right _ z)) .inr)) h')
theorem bp.frame {G' H':Hp} (g:aj G G') {v:Option V} {bs:List Addr}:∀ {s:Sl},(∀ b ∈ bs,H' b=H b)->bp K G H v bs s->bp K G' H' v bs s
 | .un,_,h=>h
 | .d _,_,⟨h,u,e1,h2⟩=>⟨h,u,e1,h2.mono g⟩
 | .o _,e,⟨a,vs,h1,h2,h3,h4⟩=>⟨a,vs,h1,h2,by rw [e a (by rw [h1]; exact List.mem_cons_self ..)]; exact h3,h4.mono g⟩
 | .n _,e,⟨h0,u,h1,h2⟩=>⟨h0,u,h1,h2.frame g e⟩
 | .x E,e,⟨a,o,h1,h2,h3,h4⟩=>⟨a,o,h1,h2,by rw [e a (by rw [h1]; exact List.mem_cons_self ..)]; exact h3,E.mono g h4⟩
end
noncomputable def qA:Sl->Option Nd
 | .un=>none
 | .d x=>some (.d x)
 | .o xs=>some (.l (xs.map .d))
 | .n t=>some t
 | .x _=>none
section
variable {K:PySem.W.Frag} {G H:Hp}
theorem nV:∀ {vs:List V} {xs:List D},ax K G vs xs->aJ K G H vs [] (xs.map .d)
 | _,_,.nil=>.nil
 | _,_,.cons h r=>.cons (b1:=[]) (b2:=[]) (.d h) (nV r)
theorem bp.nd {v:V} {bs:List Addr} {s:Sl} {c:Nd} (h:bp K G H (some v) bs s) (e:qA s=some c):bh K G H v bs c/\bs.Nodup:=by
 cases s with
 | un=>cases e
 | d x=>cases e; obtain ⟨rfl,u,eu,d⟩:=h; cases eu; exact ⟨.d d,List.nodup_nil⟩
 | o xs=>cases e; obtain ⟨a,vs,rfl,e2,h3,h4⟩:=h; cases e2; exact ⟨.l h3 (nV h4),by simp⟩
 | n t=>cases e; obtain ⟨h0,u,eu,h2⟩:=h; cases eu; exact ⟨h2,h0⟩
 | x E=>cases e
theorem aJ.snoc {v:V} {c:Nd} {b2:List Addr} (h:bh K G H v b2 c):∀ {vs:List V} {bs:List Addr} {xs:List Nd},aJ K G H vs bs xs->aJ K G H (vs++[v]) (bs++b2) (xs++[c])
 | _,_,_,.nil=>by have:=aJ.cons h .nil; rw [List.append_nil] at this; exact this
 | _,_,_,.cons h1 r=>by rw [List.append_assoc]; exact .cons h1 (aJ.snoc h r)
theorem Sta.nd {A:Addr->Prop} {H₀:Hp} {τ:List Sl} {B:Nat->List Addr} {σ:L2.St} (S:Sta K A H₀ τ B σ H) {i:Nat} {s:Sl} {c:Nd} (hi:τ[i]?=some s) (hc:qA s=some c):Sta K A H₀ (τ.set i (.n c)) (upB B i (B i)) σ H:=
 S.less (λ_ z=>z) λG' g _=>by
   have q:=S.sl i s hi
   obtain ⟨u,e⟩:∃ u,(σ[i]?).join=some u:=by
     cases s with
     | un=>cases hc
     | d x=>obtain ⟨_,u,e,_⟩:=q; exact ⟨u,e⟩
     | o xs=>obtain ⟨_,_,_,e,_⟩:=q; exact ⟨_,e⟩
     | n t=>obtain ⟨_,u,e,_⟩:=q; exact ⟨u,e⟩
     | x E=>cases hc
   rw [e] at q ⊢
   obtain ⟨q1,q2⟩:=q.nd hc
   exact ⟨q2,u,rfl,q1.frame g λ_ _=>rfl⟩
end
section
variable {X:Cx} {C:Bool} {τ:List Sl} {x y z:D} {a b e o ix:Expr} {es:List Expr} {pos p q:Pos} {k:Nat} {s:Sl} {N:Po} {rest:List Stmt} {i:Nat} {t c:Nd} {pt:List Nat} {xs:List Nd} {j:Int} {m:Nat}
end
end Hy
namespace Ev
open PySem PySem.Spec PyProof.Rows L2
noncomputable def bad:Str:=⟨#[0x110000]⟩
mutual
noncomputable def eqD:D->D->Bool
 | .non,.non=>true
 | .bl a,.bl b=>a == b
 | .bl a,.int j=>(if a then 1 else 0) == j
 | .int i,.bl b=>i == (if b then 1 else 0)
 | .int a,.int b=>a == b
 | .str a,.str b=>a == b
 | .tup xs,.tup ys=>j0 xs ys
 | .lst xs,.lst ys=>j0 xs ys
 | .box _,.box _=>true
 | .box _,.str b=>bad == b
 | .str a,.box _=>a == bad
 | .box _,.non | .box _,.bl _ | .box _,.int _ | .box _,.tup _ | .box _,.lst _=>false
 | .non,.box _ | .bl _,.box _ | .int _,.box _ | .tup _,.box _ | .lst _,.box _=>false
 | .non,.bl _ | .non,.int _ | .non,.str _ | .non,.tup _ | .non,.lst _=>false
 | .bl _,.non | .bl _,.str _ | .bl _,.tup _ | .bl _,.lst _=>false
 | .int _,.non | .int _,.str _ | .int _,.tup _ | .int _,.lst _=>false
 | .str _,.non | .str _,.bl _ | .str _,.int _ | .str _,.tup _ | .str _,.lst _=>false
 | .tup _,.non | .tup _,.bl _ | .tup _,.int _ | .tup _,.str _ | .tup _,.lst _=>false
 | .lst _,.non | .lst _,.bl _ | .lst _,.int _ | .lst _,.str _ | .lst _,.tup _=>false
noncomputable def j0:List D->List D->Bool
 | [],[]=>true
 | x :: xs,y :: ys=>eqD x y && j0 xs ys
 | [],_ :: _=>false
 | _ :: _,[]=>false
end
mutual
noncomputable def toP:D->PyData
 | .non=>.none
 | .bl b=>.bool b
 | .int i=>.int i
 | .str x=>.str x
 | .tup xs=>.tuple (dq xs)
 | .lst xs=>.list (dq xs)
 | .box _=>.str bad
noncomputable def dq:List D->List PyData
 | []=>[]
 | x :: xs=>toP x :: dq xs
end
mutual
noncomputable def cln:D->Bool
 | .str x=>PyData.strOk x
 | .tup xs=>jC xs
 | .lst xs=>jC xs
 | .box _=>false
 | .non | .bl _ | .int _=>true
noncomputable def jC:List D->Bool
 | []=>true
 | x :: xs=>cln x && jC xs
end
mutual
noncomputable def dep:D->Nat
 | .tup xs=>mL xs + 1
 | .lst xs=>mL xs + 1
 | .non | .bl _ | .int _ | .str _ | .box _=>0
noncomputable def mL:List D->Nat
 | []=>0
 | x :: xs=>max (dep x) (mL xs)
end
noncomputable def tj (x:D):Prop:=cln x=true/\dep x<=64
noncomputable instance (x:D):Decidable (tj x):=inferInstanceAs (Decidable (_/\_))
mutual
theorem lu:∀ x y:D,PyData.eqv (toP x) (toP y)=eqD x y
 | .non,y=>by cases y <;> simp [toP,PyData.eqv,eqD]
 | .bl a,y=>by cases y <;> simp [toP,PyData.eqv,eqD]
 | .int a,y=>by cases y <;> simp [toP,PyData.eqv,eqD]
 | .str a,y=>by cases y <;> simp [toP,PyData.eqv,eqD]
 | .tup xs,.tup ys=>by simp only [toP,PyData.eqv,eqD]; exact gD xs ys
 | .lst xs,.lst ys=>by simp only [toP,PyData.eqv,eqD]; exact gD xs ys
 | .tup xs,.non=>by simp [toP,PyData.eqv,eqD]
 | .tup xs,.bl _=>by simp [toP,PyData.eqv,eqD]
 | .tup xs,.int _=>by simp [toP,PyData.eqv,eqD]
 | .tup xs,.str _=>by simp [toP,PyData.eqv,eqD]
 | .tup xs,.lst _=>by simp [toP,PyData.eqv,eqD]
 | .lst xs,.non=>by simp [toP,PyData.eqv,eqD]
 | .lst xs,.bl _=>by simp [toP,PyData.eqv,eqD]
 | .lst xs,.int _=>by simp [toP,PyData.eqv,eqD]
 | .lst xs,.str _=>by simp [toP,PyData.eqv,eqD]
 | .lst xs,.tup _=>by simp [toP,PyData.eqv,eqD]
 | .tup xs,.box _=>by simp [toP,PyData.eqv,eqD]
 | .lst xs,.box _=>by simp [toP,PyData.eqv,eqD]
 | .box _,y=>by cases y <;> simp [toP,PyData.eqv,eqD]
theorem gD:∀ xs ys:List D,PyData.eqvAll (dq xs) (dq ys)=j0 xs ys
 | [],[]=>by simp [dq,PyData.eqvAll,j0]
 | [],_ :: _=>by simp [dq,PyData.eqvAll,j0]
 | _ :: _,[]=>by simp [dq,PyData.eqvAll,j0]
 | x :: xs,y :: ys=>by simp only [dq,PyData.eqvAll,j0]; rw [lu x y,gD xs ys]
end
mutual
theorem mj:∀ x:D,(toP x).canLay0=cln x
 | .non=>by simp [toP,PyData.canLay0,cln]
 | .bl _=>by simp [toP,PyData.canLay0,cln]
 | .int _=>by simp [toP,PyData.canLay0,cln]
 | .str _=>by simp [toP,PyData.canLay0,cln]
 | .tup xs=>by simp only [toP,PyData.canLay0,cln]; exact gb xs
 | .lst xs=>by simp only [toP,PyData.canLay0,cln]; exact gb xs
 | .box _=>by simp only [toP,PyData.canLay0,cln]; decide +kernel
theorem gb:∀ xs:List D,PyData.canLayAll0 (dq xs)=jC xs
 | []=>by simp [dq,PyData.canLayAll0,jC]
 | x :: xs=>by simp only [dq,PyData.canLayAll0,jC]; rw [mj x,gb xs]
end
mutual
theorem lr:∀ x:D,(toP x).depth=dep x
 | .non=>by simp [toP,PyData.depth,dep]
 | .bl _=>by simp [toP,PyData.depth,dep]
 | .int _=>by simp [toP,PyData.depth,dep]
 | .str _=>by simp [toP,PyData.depth,dep]
 | .tup xs=>by simp only [toP,PyData.depth,dep]; rw [gX xs]
 | .lst xs=>by simp only [toP,PyData.depth,dep]; rw [gX xs]
 | .box _=>by simp [toP,PyData.depth,dep]
theorem gX:∀ xs:List D,PyData.depthAll (dq xs)=mL xs
 | []=>by simp [dq,PyData.depthAll,mL]
 | x :: xs=>by simp only [dq,PyData.depthAll,mL]; rw [lr x,gX xs]
end
theorem kB {x:D} (h:tj x):SeqAt.shaped (toP x)=true:=by
 unfold SeqAt.shaped
 rw [mj,lr,h.1,Bool.true_and]
 exact decide_eq_true h.2
section
variable {X:Cx} {pins:List (Addr × Obj)} {σ:L2.St} {H G:Hp} {s:Shared}
mutual
theorem jN (I:Inv X pins σ H s) (e:aj G H):∀ {v:V} {d:D} {u:Value},Den X.K G v d->RelV v u->cln d=true->∃ as,Reads s.heap u (toP d) as
 | _,_,_,.non,r,_=>by cases r; exact ⟨_,.none⟩
 | _,_,_,.bl,r,_=>by cases r; exact ⟨_,.bool _⟩
 | _,_,_,.int,r,_=>by obtain ⟨t,rfl⟩:=r; exact ⟨_,.int _ _⟩
 | _,_,_,.str,r,_=>by obtain ⟨t,rfl⟩:=r; exact ⟨_,.str _ _⟩
 | _,_,_,.tup h q,r,c=>by
   cases r
   obtain ⟨its,rv,⟨o,h1,h2,n,h3⟩,_⟩:=I.tuple (aP e h)
   obtain ⟨as,z⟩:=eV I e q rv (by rw [cln] at c; exact c)
   exact ⟨_,.tuple h1 h2 h3 (by simpa using z)⟩
 | _,_,_,.lst h q,r,c=>by
   cases r
   obtain ⟨its,rv,⟨o,n,h1,h2,_,h3⟩,_⟩:=I.list (aE e h)
   obtain ⟨as,z⟩:=eV I e q rv (by rw [cln] at c; exact c)
   exact ⟨_,.list h1 h2 h3 (by simpa using z)⟩
 | _,_,_,.box _,_,c=>by rw [cln] at c; cases c
theorem eV (I:Inv X pins σ H s) (e:aj G H):∀ {vs:List V} {ds:List D} {us:List Value},ax X.K G vs ds->Vals vs us->jC ds=true->∃ as,ReadsAll s.heap us (dq ds) as
 | _,_,_,.nil,.nil,_=>⟨_,.nil⟩
 | _,_,_,.cons h q,.cons r rs,c=>by
   rw [jC,Bool.and_eq_true] at c
   obtain ⟨as,z⟩:=jN I e h r c.1
   obtain ⟨bs,z'⟩:=eV I e q rs c.2
   exact ⟨_,.cons z z'⟩
end
end
end Ev
namespace Hy
open PySem PySem.Spec PyProof.Rows L2
open Ev (D Den ax aw aP aE Itz Itv rq rH kZ kS eqD tj jN kB lu)
section
variable {X:Cx} {C:Bool} {τ:List Sl} {x y z:D} {a b e c tg it elt:Expr} {es ifs:List Expr} {pos p q:Pos} {k:Nat} {s:Sl} {N:Po} {rest body:List Stmt} {ds xs ys:List D} {i j:Int} {scope:Scope}
theorem lX (M:Nat->Bool->List Sl->Prop) (B:Bk X k) (h0:∃ n t,M n t τ) (hc:∀ n t τ',M n t τ'->PT X c (dT X.K τ' t)) (hb:∀ n τ',M n true τ'->PSs X body (dS X.K τ' { N with nx:=λτ2=>∃ m t,m < n/\M m t τ2,ct:=λτ2=>∃ m t,m < n/\M m t τ2,bk:=λ_=>False }))
   (hr:∀ n τ',M n false τ'->PSs X rest (dS X.K τ' N)):PSs X (.While c body [] pos :: rest) (dS X.K τ N):=by
 have hc':PT X c λσ H Q=>∃ n t τ',M n t τ'/\dT X.K τ' t σ H Q:=λpins s σ H Q I ⟨n,t,τ',m,q⟩=>hc n t τ' m pins s σ H Q I q
 have hb':PSs X body λD σ H=>∃ n τ',M n true τ'/\dS X.K τ' { N with nx:=λτ2=>∃ m t,m < n/\M m t τ2,ct:=λτ2=>∃ m t,m < n/\M m t τ2,bk:=λ_=>False } D σ H:=λpins s σ H D I ⟨n,τ',m,q⟩=>hb n τ' m pins s σ H D I q
 refine bf (M:=λτ'=>∃ n,M n false τ') (psW (n8 B.po hc' hb') λD σ H ⟨A,H₀,B,S,Me⟩=>⟨λm σ' H'=>∃ t τ' B',M m t τ'/\Sta X.K A H₀ τ' B' σ' H',?_,?_⟩) λτ' h=>let ⟨n,h⟩:=h; hr n τ' h
 · obtain ⟨n,t,h0⟩:=h0
   exact ⟨n,t,τ,B,h0,S⟩
 rintro m σ' H' ⟨t,τ',B',hM,S'⟩
 refine ⟨m,t,τ',hM,A,H₀,B',S',λH1 e1=>?_⟩
 cases t with
 | false=>exact mT (Me.nx τ' B' σ' H1 ⟨m,hM⟩ (S'.mono e1))
 | true=>
   refine kF ⟨λσ2 H2=>∃ τ2 B2,(∃ n t,n < m/\M n t τ2)/\Sta X.K A H₀ τ2 B2 σ2 H2,λσ2 H2 ⟨τ2,B2,⟨n,t,l,q⟩,S2⟩=>⟨n,l,t,τ2,B2,q,S2⟩,m,τ',hM,A,H₀,B',S'.mono e1,?_⟩
   exact ⟨λτ2 B2 σ2 H2 m S2=>⟨τ2,B2,m,S2⟩,λ_ _ _ _ z=>z.elim,λτ2 B2 σ2 H2 m S2=>⟨τ2,B2,m,S2⟩,Me.rt⟩
noncomputable def hZ (xs ys:List D):List D:=(xs.zip ys).map λp=>.tup [p.1,p.2]
theorem c9:(hZ xs ys).length=min xs.length ys.length:=by simp [hZ]
theorem lR (i:Nat) (h:i < (hZ xs ys).length):(hZ xs ys)[i]=.tup [xs.getD i .non,ys.getD i .non]:=by
 rw [c9] at h
 simp [hZ,show i < xs.length by omega,show i < ys.length by omega]
theorem tG {K:PySem.W.Frag} {G:Hp} {a b:Addr} {vs ws:List V} (h:SqL K G a vs) (r:ax K G vs xs) (h':SqL K G b ws) (r':ax K G ws ys):Yl K (Itz K a b) (hZ xs ys) G:=by
 intro H sg
 have hl:=r.length
 have hl':=r'.length
 refine ⟨λi hi=>⟨vs,ws,aE sg h,aE sg h',by rw [c9] at hi; omega⟩,λi hi=>?_⟩
 have hi':=hi
 rw [c9] at hi'
 obtain ⟨v,hv,dv⟩:=r.get (List.getElem?_eq_getElem (show i < xs.length by omega))
 obtain ⟨w,hw,dw⟩:=r'.get (List.getElem?_eq_getElem (show i < ys.length by omega))
 refine ⟨⟨vs,ws,v,w,aE sg h,aE sg h',hv,hw⟩,λy H' ⟨p,x1,x2,hp,e0,e1,e2,e3⟩=>?_⟩
 subst e0 e1
 have ex:x1=v:=by have:=e2 vs (aE sg h); rw [hv] at this; exact (Option.some.inj this).symm
 have ey:x2=w:=by have:=e3 ws (aE sg h'); rw [hw] at this; exact (Option.some.inj this).symm
 subst ex ey
 refine ⟨aw hp _,λM hM sv=>?_⟩
 rw [lR,show xs.getD i .non=xs[i] by simp [show i < xs.length by omega],show ys.getD i .non=ys[i] by simp [show i < ys.length by omega]]
 have up:=sv.trans (av (aw hp (.tup [x1,x2])) λ_ z=>z)
 exact .tup (SqT.of (fX hM hp)) (.cons (dv.mono up) (.cons (dw.mono up) .nil))
theorem u3 {ts:List Expr} {m:Nat} {tp:Pos} (B:Bk X k) (h:PE X a (dE X.K true τ (.d (.lst xs)))) (h':PE X b (dE X.K true τ (.d (.lst ys)))) (hg:Gl X "zip":=by rfl) (hs:starEach [a,b] X.env=(false,eval a X.env) :: starEach [b] X.env:=by rfl) (hs2:starEach [b] X.env=[(false,eval b X.env)]:=by rfl) :
   PI X (.Tuple ts m tp) (.Call (.Name "zip" p) [a,b] [] pos) (dI X.K τ (hZ xs ys)):=
 piW (kZ hg (B.blt _ (by decide)) (ae h (ae h' ah hs2) hs) hs hs2) λσ H R ⟨A,H₀,B,S,k⟩=>du S λvs H1 e1 d1=>by
   cases d1 with
   | cons d r=>
     cases r with
     | cons d' r=>
       cases r
       cases d with
       | lst h r=>cases d' with
         | lst h' r'=>exact ⟨_,_,rfl,⟨_,aE aB h⟩,⟨_,aE aB h'⟩,k _ H1 e1 (tG h r h' r')⟩
theorem r0 {K:PySem.W.Frag} {G:Hp} {a:Addr} {vs:List V} (h:SqL K G a vs) (r:ax K G vs xs):Yl K (Itv K a vs.length) xs.reverse G:=by
 intro H sg
 have hl:=r.length
 refine ⟨λi hi=>by rw [List.length_reverse] at hi; show vs.length<=i; omega,λi hi=>?_⟩
 rw [List.length_reverse] at hi
 obtain ⟨v,hv,dv⟩:=r.get (List.getElem?_eq_getElem (show xs.length - 1 - i < xs.length by omega))
 rw [<- hl] at hv
 refine ⟨⟨by omega,vs,v,aE sg h,hv⟩,λx H' ⟨e1,e2⟩=>?_⟩
 subst e1
 have ex:x=v:=by have:=e2 vs (aE sg h); rw [hv] at this; exact (Option.some.inj this).symm
 subst ex
 refine ⟨aj.refl _,λM _ sv=>?_⟩
 rw [List.getElem_reverse]
 exact dv.mono sv
theorem vj (B:Bk X k) (h:PE X a (dE X.K true τ (.d (.lst xs)))) (hg:Gl X "reversed":=by rfl) (hs:starEach [a] X.env=[(false,eval a X.env)]:=by rfl):PI X tg (.Call (.Name "reversed" p) [a] [] pos) (dI X.K τ xs.reverse):=
 piW (kS hg (B.blt _ (by decide)) (ae h ah hs) hs) λσ H R ⟨A,H₀,B,S,k⟩=>du S λvs H1 e1 d1=>by
   cases d1 with
   | cons d r=>
     cases r
     cases d with
     | lst h r=>exact ⟨_,_,rfl,aE aB h,k _ H1 e1 (r0 h r)⟩
variable {u v:Str}
theorem ek:bA X (compareOp .Eq) (.str u) (.str v) (.bl (decide (u=v))):=⟨_,rj,λ_ v' w H Q _ d1 d2 k=>by
 cases d1
 cases d2
 exact ⟨rfl,by rw [show decide (V.str u=V.str v)=decide (u=v) by simp]; exact k _ H (aj.refl _) .bl⟩⟩
theorem qW:bA X (compareOp .NotEq) (.str u) (.str v) (.bl (!decide (u=v))):=⟨_,rb,λ_ v' w H Q _ d1 d2 k=>by
 cases d1
 cases d2
 exact ⟨rfl,by rw [show decide (V.str u=V.str v)=decide (u=v) by simp]; exact k _ H (aj.refl _) .bl⟩⟩
theorem tR {us:List Str}:bA X (compareOp .In) (.str u) (.tup (us.map .str)) (.bl (us.any λw=>decide (w=u))):=⟨_,eZ,λM x' y' H Q _ d1 d2 q=>by
 cases d1
 cases d2 with
 | @tup ad vs _ h r=>
   have ev:vs=us.map V.str:=by
     clear h q
     induction us generalizing vs with
     | nil=>cases r; rfl
     | cons w ws ih=>
       cases r with
       | cons d r=>cases d; rw [ih r]; rfl
   subst ev
   refine ⟨_,_,rfl,.inr (aP aB h),rfl,?_,?_⟩
   · rw [List.all_map,List.all_eq_true]; intro _ _; rfl
   · rw [if_neg Bool.false_ne_true]
     unfold inV
     rw [List.any_map]
     exact q _ H (aj.refl _) (by
       have e:(us.any λw=>decide (w=u))=us.any ((λy=>eqV y (V.str u)) ∘ V.str):=by
         congr 1
       rw [e]; exact .bl)⟩
theorem fE:∀ {bs:List Bool} {us:List Value},Vals (bs.map V.bl) us->us=bs.map Value.bool
 | [],_,h=>by cases h; rfl
 | b :: bs,_,h=>by
   cases h with
   | cons rv rs=>rw [fE rs,show _=Value.bool b from rv]; rfl
theorem nP (hc:X.calm=true):dg X (.builtin "all") (λxs H Q=>∃ (p:Addr) (bs:List Bool),xs=[.ref p]/\SqL X.K H p (bs.map V.bl)/\Q (.bl (bs.all id)) H):=by
 intro pins s σ H xs us Q I r q
 obtain ⟨p,bs,rfl,h,q⟩:=q
 obtain ⟨u,rfl,ru⟩:∃ u,us=[u]/\RelV (.ref p) u:=by
   cases r with
   | cons r1 r=>cases r; exact ⟨_,rfl,r1⟩
 cases (show u=Value.ref _ from ru)
 obtain ⟨its,rv,pl,hz⟩:=I.list h
 obtain rfl:=fE rv
 have lt:∀ a,s.heap.IsList a (bs.map Value.bool).toArray->a ≠ s.heap.objs.size:=λa ⟨o,z,_⟩=>Nat.ne_of_lt (Heap.lt_size z)
 refine call_all_walk (wpAny_pyIter_list pl.isList ⟨_,_,_,_,_,_,λi=>(bs.map Value.bool)[i]? == some (Value.bool true),rfl,Walks.list (A:=X.A.in1) (I.ok.hd hc) _ _ (lt _ pl.isList) (bs.map Value.bool).toArray,⟨⟨_,Heap.get?_push_size _ rfl,rfl,rfl⟩,?_⟩,λi v s' Q' E' hP hQ=>?_,λh' tk hk=>?_⟩)
 · obtain ⟨o,z1,z2⟩:=pl.isList
   exact ⟨o,Heap.get?_push_of_some _ z1,z2⟩
 · have hP':(bs.map Value.bool)[i]?=some v:=by simpa using hP
   obtain ⟨c,_,rfl⟩:=List.mem_map.mp (List.mem_of_getElem? hP')
   refine wpAny_truthy_bool ?_
   have hQ:Q' ((bs.map Value.bool)[i]? == some (Value.bool true)) s':=hQ
   rw [hP'] at hQ
   cases c
   · exact hQ
   · exact hQ
 · refine ⟨.bl (bs.all id),H,I.kept (t':=tk) λb' o z=>?_,?_,q⟩
   · refine hk b' o (λhm=>?_) (Heap.get?_push_of_some _ z)
     have:b'=s.heap.objs.size:=by simpa using hm
     exact absurd (Heap.lt_size z) (by rw [this]; exact Nat.lt_irrefl _)
   · have e:∀ bs:List Bool,bs.all id=(List.range (bs.map Value.bool).toArray.size).all λi=>(bs.map Value.bool)[i]? == some (Value.bool true):=λbs=>by
       rw [List.size_toArray,List.length_map]
       induction bs with
       | nil=>rfl
       | cons b bs ih=>
         rw [List.all_cons,ih,List.length_cons,List.range_succ_eq_map,List.all_cons,List.all_map]
         congr 1
         cases b <;> rfl
     rw [e]; rfl
theorem mi {K:PySem.W.Frag} {H:Hp}:∀ {vs:List V} {bs:List Bool},ax K H vs (bs.map .bl)->vs=bs.map V.bl
 | _,[],h=>by cases h; rfl
 | _,_ :: _,h=>by
   cases h with
   | cons d r=>cases d; rw [mi r]; rfl
theorem oS (hc:X.calm=true) (bs:List Bool) (hx:xs=bs.map .bl):hJ X (.builtin "all") [.lst xs] (.d (.bl (bs.all id))):=⟨_,nP hc,λM vs H Q _ d q=>by
 subst hx
 cases d with
 | cons d r=>
   cases r
   cases d with
   | lst h r=>
     cases mi r
     exact ⟨_,_,rfl,aE aB h,q _ H [] (aj.refl _) cP (fM .bl)⟩⟩
end
end Hy
namespace Hy
open PySem PySem.Spec PyProof.Rows L2
open Ev (D Den ax aw aP aE aC dr cF PTs cy dH)
section
variable {X:Cx} {C:Bool} {τ:List Sl} {x y z:D} {a b e c tg it elt o:Expr} {es ifs:List Expr} {pos p q:Pos} {k:Nat} {s:Sl} {N:Po} {rest body:List Stmt} {ds xs ys:List D} {i j:Int} {scope:Scope}
theorem pQ:OpR X (binaryOp .Mult) (λx y H Q=>∃ l k xs,x=.ref l/\y=.int k/\SqL X.K H l xs/\0<=k/\k < 100000/\xs.length * k.toNat<=sizeLine/\∀ p,H p=none->Q (.ref p) (upd H p (.lst (List.replicate k.toNat xs).flatten))):=by
 intro pins s σ H x y v u Q I rx ry h
 obtain ⟨l,k,xs,rfl,rfl,hH,h1,h2,hz,q⟩:=h
 cases rx
 obtain ⟨t,rfl⟩:=ry
 obtain ⟨its,r,pl,_⟩:=I.list hH
 have hl:=r.length
 obtain ⟨⟨cls,dd,data,sl⟩,e,hc,n,hd⟩:=pl.isList
 simp only at hc hd
 subst hc hd
 have hlen:its.toArray.size * k.toNat<=sizeLine:=by rw [List.size_toArray,<- hl]; exact hz
 have hcap:¬ its.toArray.size * k.toNat > (2 ^ 63 - 1) / 8:=by
   have:(sizeLine:Nat)<=(2 ^ 63 - 1) / 8:=by decide
   omega
 have hfit:¬ (!Builtin.List.listFitsIndex k)=true:=by
   rw [fitsIndex_both (by omega) (by omega)]
   exact Bool.false_ne_true
 have hlong:¬ Builtin.List.listTooLong (its.toArray.size * k.toNat)=true:=by
   rw [jY hlen]
   exact Bool.false_ne_true
 have hnew:List.foldl (λx1 x2=>x1++x2) #[] (List.replicate (if its.toArray.isEmpty=true then 0 else k.toNat) its.toArray)=(List.replicate k.toNat its).flatten.toArray:=by
   have f0:∀ m:Nat,List.foldl (λx1 x2=>x1++x2) #[] (List.replicate m its.toArray)=(List.replicate m its).flatten.toArray:=λm=>by
     have:=foldl_rep its m []
     rw [List.nil_append] at this
     exact this
   rw [f0]
   cases its with
   | nil=>simp
   | cons a r'=>rw [if_neg (by simp)]
 refine wpAny_binaryOp_repeat_ref (T:="list") (U:="int") (by decide) ⟨_,e,rfl⟩ (λs'=>typeIs_int s' k t) noFill_list_mul F.fills_int_mul F.slot_int_rmul repeat_list F.slot_int_index.lookup
   (call_meets F.slot_int_rmul (typeIs_int s k t) F.entry_int_rmul (F.args_int_rmul_2 _ _) (lm_int_rmul_list_any k t l its.toArray n dd sl)
     ⟨e,rfl,⟨_,e,rfl⟩,call_meets F.slot_list_mul ⟨_,e,rfl⟩ F.entry_list_mul (F.args_list_mul_2 _ _) (lm_list_mul_any l its.toArray n dd sl k t hfit hcap hlong) ⟨e,?_⟩⟩)
 rw [hnew]
 exact ⟨.ref _,_,I.vb (t':=s.toks) (r.rep k.toNat) (by rw [len_rep,Nat.mul_comm]; exact hz),rfl,q _ I.fresh⟩
theorem ll {K:PySem.W.Frag} {H:Hp} {vs:List V} (h:ax K H vs xs):∀ k:Nat,ax K H (List.replicate k vs).flatten (List.replicate k xs).flatten
 | 0=>.nil
 | k + 1=>by rw [List.replicate_succ,List.replicate_succ,List.flatten_cons,List.flatten_cons]; exact h.append (ll h k)
theorem tW (ha:PE X a (dE X.K C τ (.d (.lst xs)))) (hb:PE X b (dE X.K C τ (.d (.int j)))) (h0:0<=j) (h1:j < 100000) (hl:xs.length * j.toNat < 1000000):PE X (.BinOp a .Mult b pos) (dE X.K C τ (.o (List.replicate j.toNat xs).flatten)):=peW (n5 pQ ha hb) λσ H Q ⟨A,H₀,B,S,k⟩=>
 aR S λv H1 e1 d1=>aR (S.mono e1) λw H2 e2 d2=>by
   cases d2
   cases d1 with
   | lst h1' r1=>
     refine ⟨_,j,_,rfl,rfl,aE (aB.trans e2) h1',h0,h1,by rw [r1.length]; exact Nat.le_of_lt (Nat.lt_trans hl (by decide)),λp hp=>?_⟩
     obtain ⟨z1,z2,z3⟩:=gd (K:=X.K) hp (ll (r1.mono (av e2 λ_ z=>z)) j.toNat)
     exact k _ _ [p] (e1.trans (e2.trans z1)) (λb hb=>⟨(e1.trans e2).free (z2 b hb).1,(z2 b hb).2⟩) z3
theorem Sta.hide {K:PySem.W.Frag} {A:Addr->Prop} {H₀ H H1:Hp} {B:Nat->List Addr} {σ:L2.St} {b1:List Addr} (S:Sta K A H₀ τ B σ H) (e:aj H H1) (f:Fr H H1 b1):Sta K (λb=>A b\/b ∈ b1) (hd H1 λb=>∃ i,b ∈ B i) τ B σ H1 where
 same:=aB
 len:=S.len
 sl:=λi s h=>(S.sl i s h).mono (λb o z=>by
   obtain ⟨z1,z2⟩:=aq.mp z
   refine aq.mpr ⟨λw=>?_,e _ _ z2⟩
   rcases w with (w | w) | w
   · exact z1 (.inl w)
   · rw [(f b w).1] at z2; cases z2
   · exact z1 (.inr w)) e
 fr:=λi b hb=>by
   cases q:hd H1 (λb=>∃ i,b ∈ B i) b with
   | none=>rfl
   | some o=>exact absurd ⟨i,hb⟩ (aq.mp q).1
 uq:=S.uq
 ad:=λb hb=>by
   rcases hb with z | z
   · obtain ⟨o,q⟩:=S.ad b z
     exact ⟨o,aq.mpr ⟨λ⟨i,w⟩=>(by rw [S.fr i b w] at q; cases q),e _ _ (S.same _ _ q)⟩⟩
   · obtain ⟨w1,o,w2⟩:=f b z
     exact ⟨o,aq.mpr ⟨λ⟨i,w⟩=>(by obtain ⟨o',q⟩:=S.bd i b w; rw [w1] at q; cases q),w2⟩⟩
 bd:=λi b hb=>let ⟨o,q⟩:=S.bd i b hb; ⟨o,e _ _ q⟩
theorem pS {A:Addr->Prop} {B:Nat->List Addr} {b1:List Addr} {b:Addr} (h:vw C A B b\/b ∈ b1):vw C (λb=>A b\/b ∈ b1) B b:=by
 cases C with
 | true=>
   rcases h with (h | h) | h
   · exact .inl (.inl h)
   · exact .inr h
   · exact .inl (.inr h)
 | false=>exact h
end
section
variable {X:Cx} {C:Bool} {τ τ':List Sl} {x y z:D} {a b e c tg it elt o ix:Expr} {es ifs:List Expr} {pos p q:Pos} {k:Nat} {s:Sl} {N:Po} {rest body:List Stmt} {ds xs ys:List D} {i:Nat} {j:Int} {scope:Scope}
noncomputable def dGs (K:PySem.W.Frag) (τ:List Sl) (xs:List D) (τ':List Sl):TGs:=λvs σ H Q=>∃ A H₀ B,Sta K A H₀ τ B σ H/\ax K (hd H (own A B)) vs xs/\∀ σ' B',Sta K A H₀ τ' B' σ' H->Q σ' H
theorem uL {es:List Expr} {t t':TGs} (h:PGs X es t) (f:∀ v σ H Q,t' v σ H Q->t v σ H Q):PGs X es t':=λpins s σ H v u Q I r q=>h pins s σ H v u Q I r (f v σ H Q q)
theorem sx:PGs X [] (dGs X.K τ [] τ):=uL lZ λv σ H Q ⟨A,H₀,B,S,d,k⟩=>by
 cases d
 exact ⟨rfl,k σ B S⟩
theorem iT (i:Nat) {n:Str} (hN:X.N.Nodup) (h:PGs X es (dGs X.K (τ.set i (.d x)) xs τ')) (hi:X.N[i]?=some n:=by rfl) (hx:Loc X.env.scope n:=by first | exact .inl rfl | exact .inr rfl) (hf:X.fn n=true\/X.env.scope.names.lookup n=some .local:=by first | exact .inl rfl | exact .inr rfl | assumption):PGs X (.Name n p :: es) (dGs X.K τ (x :: xs) τ'):=
 uL (gw (eL (i:=i) hN hi hx hf) h) λv σ H Q ⟨A,H₀,B,S,d,k⟩=>by
   cases d with
   | cons d r=>
     have sub:∀ b,own A (upB B i []) b->own A B b:=λb z=>z.elim .inl λ⟨j,z⟩=>(a7 z).elim (λz=>nomatch z.2) λz=>.inr ⟨j,z.2⟩
     exact ⟨_,_,rfl,A,H₀,_,S.set (aj.refl _) (bs:=[]) (λ_ z=>nomatch z) (fM d),r.mono (av (aj.refl _) sub),k⟩
theorem tT {m:Nat} (hc:X.calm=true) (h:PGs X es (dGs X.K τ xs τ')) (hl:(assignEach es X.env).length=xs.length:=by rfl) (hst:(assignEach es X.env).findIdx? (·.1)=none:=by rfl):PG X (.Tuple es m pos) (dG X.K τ (.tup xs) τ'):=
 pgW (nY (n:=xs.length) hc h hl hst) λv σ H Q ⟨A,H₀,B,S,d,k⟩=>by
   cases d with
   | tup h r=>exact ⟨_,_,rfl,aP aB h,r.length,A,H₀,B,S,r,k⟩
theorem tD {m:Nat} (he:PE X e (dE X.K true τ (.d x))) (hg:PG X (.Tuple es m p) (dG X.K τ x τ')) (hr:PSs X rest (dS X.K τ' N)) (hs:swapsWithSole [.Tuple es m p] e pos.line X.env=pure false:=by rfl) (hw:swappedStores [.Tuple es m p] e X.env=pure none:=by rfl)
   (h1:(assignEach [.Tuple es m p] X.env).map (·.2)=[assign (.Tuple es m p) X.env]:=by rfl):PSs X (.Assign [.Tuple es m p] e pos :: rest) (dS X.K τ N):=
 bf (M:=(·=τ')) (psW (oE he hg hs hw h1) λD σ H ⟨A,H₀,B,S,Me⟩=>aR S λv H1 e1 d1=>⟨A,H₀,B,S.mono e1,d1,λσ' B' S'=>Me.nx _ _ _ _ rfl S'⟩) λ_ e=>e ▸ hr
theorem vI (T:Nat->List Sl) {f:Nat->D} (B:Bk X k) (hi:PI X tg it (dI X.K τ xs)) (hl:xs.length < 1000000) (hT:∀ i,(T i).length=(a5 τ (bCp X.N scope)++[Sl.un]).length/\∀ (l:Nat) (x:D),(a5 τ (bCp X.N scope)++[Sl.un])[l]?=some (.d x)->(T i)[l]?=some (.d x))
   (hg:∀ i (h:i < xs.length) s H fp,PG (cpX X s H scope fp) tg (dG X.K (a5 τ (bCp X.N scope)++[.un]) xs[i] (T i)))
   (he:∀ i,i < xs.length->∀ s H fp,PE (cpX X s H scope fp) elt (dE X.K true (T i) (.d (f i)))) (hc:bOk X.env.scope scope=true:=by kernel_rfl) (hs:∀ x,foldedSetIterable it X.env x=pure x:=by intro _; rfl) :
   Cmp X elt tg it [] scope τ ((List.range xs.length).map f):=by
 have h:=oU (T:=T) (t:=λ_=>true) (f:=f) (elt:=elt) (ifs:=[]) B hc hi hT hg (λi h s H fp=>λpins s' σ H' Q I ⟨A,H₀,B,S,q⟩=>ju pins s' σ H' Q I (q H' (aj.refl _))) (λi h _ s H fp=>he i h s H fp) hl hs
 rwa [List.filter_eq_self.mpr λ_ _=>rfl] at h
structure rR (X:Cx) (elt tg it:Expr) (ifs:List Expr) (scope:Scope) (τ:List Sl) (ns:List Nd):Prop where
 ex:∃ (In:TG->TT->TE->Prop) (caps:List (Option Nat)) (N:List Str) (wi:TI),cF X scope N caps/\PI X tg it wi/\(∀ g tt te,In g tt te->∀ s H fp,PG (aC X s H scope N fp) tg g/\PTs (aC X s H scope N fp) ifs tt/\PE (aC X s H scope N fp) elt te) /\
   ∀ C σ H Q,dE X.K C τ (.n (.l ns)) σ H Q->dH In caps wi σ H Q
 hs:∀ x,foldedSetIterable it X.env x=pure x
 hc:X.calm=true
theorem qT {ns:List Nd} (h:rR X elt tg it ifs scope τ ns):PE X (.ListComp elt [⟨tg,it,ifs,0⟩] scope pos) (dE X.K C τ (.n (.l ns))):=by
 obtain ⟨In,caps,N,wi,h1,h2,h3,h4⟩:=h.ex
 exact peW (cy h.hc h1 h2 h.hs h3) (h4 C)
theorem p6 {T:Nat->List Sl} {f:Nat->Nd} {S':Nat->Sl} (B:Bk X k) (hc:bOk X.env.scope scope=true) (hi:PI X tg it (dI X.K τ xs)) (hT:∀ i,(T i).length=(a5 τ (bCp X.N scope)++[Sl.un]).length/\∀ (l:Nat) (x:D),(a5 τ (bCp X.N scope)++[Sl.un])[l]?=some (.d x)->(T i)[l]?=some (.d x))
   (hg:∀ i (h:i < xs.length) s H fp,PG (cpX X s H scope fp) tg (dG X.K (a5 τ (bCp X.N scope)++[.un]) xs[i] (T i)))
   (he:∀ i,i < xs.length->∀ s H fp,PE (cpX X s H scope fp) elt (dE X.K true (T i) (S' i))) (hn:∀ i,i < xs.length->qA (S' i)=some (f i)) (hl:xs.length < 1000000) (hs:∀ x,foldedSetIterable it X.env x=pure x:=by intro _; rfl) :
   rR X elt tg it [] scope τ ((List.range xs.length).map f):=by
 obtain ⟨cap,_⟩:=eo hc
 generalize hτ:a5 τ (bCp X.N scope)++[Sl.un]=τb at *
 refine ⟨⟨λg tt te=>g=(λv σ H Q=>∃ (i:Nat) (h:i < xs.length),dG X.K τb xs[i] (T i) v σ H Q)/\tt=(λσ H Q=>Q true H)/\te=(λσ H Q=>∃ i,i < xs.length/\dE X.K true (T i) (S' i) σ H Q),_,_,_,cap,hi,?_,?_⟩,hs,B.calm⟩
 · rintro g tt te ⟨rfl,rfl,rfl⟩ s H fp
   exact ⟨λpins s' σ H' v u Q I r ⟨i,h,q⟩=>hg i h s H fp pins s' σ H' v u Q I r q,ju,λpins s' σ H' Q I ⟨i,h,q⟩=>he i h s H fp pins s' σ H' Q I q⟩
 rintro C σ H Q ⟨A,H₀,B,S,kk⟩
 refine ⟨A,H₀,B,S,λJ H1 e1 yl=>⟨_,_,_,⟨rfl,rfl,rfl⟩,λD hD=>?_⟩⟩
 have S1:=S.mono e1
 have flat:∀ (l:Nat) (s:Sl),τb[l]?=some s->s=.un\/∃ x,s=.d x:=λl s h=>by
   rw [<- hτ] at h
   rcases List.mem_append.mp (List.mem_of_getElem? h) with z | z
   · unfold a5 at z
     obtain ⟨o,_,ho⟩:=List.mem_map.mp z
     split at ho
     · split at ho
       · exact .inr ⟨_,ho.symm⟩
       · exact .inl ho.symm
     · exact .inl ho.symm
   · exact .inl (List.mem_singleton.mp z)
 have slots:∀ {σ':L2.St} {H':Hp} {rs:List Addr},aj H1 H'->(∃ o,H' D=some o)->(∀ b ∈ rs,∃ o,H' b=some o)->σ'.length=τb.length->(∀ (l:Nat) (s:Sl),τb[l]?=some s->bp X.K (hd H' λb=>own A B b\/b=D\/b ∈ rs) H' (σ'[l]?).join [] s)->Sta X.K (λb=>own A B b\/b=D\/b ∈ rs) H' τb (λ_=>[]) σ' H':=λ{σ' H' rs} e1 e2 e5 e3 e4=>
   ⟨aj.refl _,e3,λl s h=>(e4 l s h).mono (av (aj.refl _) λ_ z=>z.elim id λ⟨_,z⟩=>(nomatch z)) (aj.refl _),λ_ _ z=>(nomatch z),λ_ _ _ z=>(nomatch z),λb z=>z.elim (λz=>let ⟨o,q⟩:=S1.dm b z; ⟨o,e1 _ _ q⟩) λz=>z.elim (λz=>z ▸ e2) (e5 b),λ_ _ z=>(nomatch z)⟩
 refine ⟨λi m σ' H'=>m=xs.length - i/\i<=xs.length/\aj H1 H'/\(∃ vs rs,H' D=some (.lst vs)/\vs.length<=i/\aJ X.K (hd H' λb=>own A B b\/b=D\/b ∈ rs) H' vs rs ((List.range i).map f)/\(D :: rs).Nodup/\(∀ b ∈ rs,H1 b=none) /\
   σ'.length=τb.length/\∀ (l:Nat) (s:Sl),τb[l]?=some s->bp X.K (hd H' λb=>own A B b\/b=D\/b ∈ rs) H' (σ'[l]?).join [] s),⟨xs.length,rfl,Nat.zero_le _,aw hD _,[],[],aI,Nat.le_refl _,.nil,by simp,λ_ z=>(nomatch z),?_,λl s h=>?_⟩,?_⟩
 · rw [<- hτ]; unfold dr a5; rw [List.length_append,List.length_append,List.length_map,List.length_map]; rfl
 · have hv:aj (hd H (own A B)) (hd (upd H1 D (.lst [])) λb=>own A B b\/b=D\/b ∈ ([]:List Addr)):=λb o z=>by
     obtain ⟨z1,z2⟩:=aq.mp z
     have z2:=e1 _ _ z2
     have ne:b ≠ D:=λz=>by rw [z,hD] at z2; cases z2
     exact aq.mpr ⟨λy=>y.elim z1 λy=>y.elim ne λy=>(nomatch y),by rw [ay ne]; exact z2⟩
   rcases flat l s h with rfl | ⟨x,rfl⟩
   · rfl
   · rw [<- hτ] at h
     have hlt:l < (bCp X.N scope).length:=by
       rcases Nat.lt_or_ge l (bCp X.N scope).length with h' | h'
       · exact h'
       · exfalso
         rw [List.getElem?_append_right (by unfold a5; rw [List.length_map]; exact h')] at h
         cases e:l - (a5 τ (bCp X.N scope)).length with
         | zero=>rw [e] at h; cases h
         | succ n=>rw [e] at h; cases h
     rw [List.getElem?_append_left (by unfold a5; rw [List.length_map]; exact hlt)] at h
     rw [List.getElem?_append_left (by unfold dr; rw [List.length_map]; exact hlt)]
     unfold a5 at h
     unfold dr
     rw [List.getElem?_map] at h ⊢
     cases e:(bCp X.N scope)[l]? with
     | none=>rw [e] at h; cases h
     | some o=>
       rw [e] at h
       cases o with
       | none=>cases h
       | some i=>
         simp only [Option.map_some,Option.some.injEq] at h
         split at h
         · rename_i x' hx'
           cases h
           obtain ⟨_,u,eu,d⟩:=S.sl i _ hx'
           exact ⟨rfl,u,by simpa using eu,d.mono hv⟩
         · cases h
 rintro i m σ' H' ⟨rfl,hi,e2,vs,rs,hv1,hv2,hv3,hnd,hfr,hlen,hsl⟩
 obtain ⟨y1,y2⟩:=yl H' (aB.trans e2)
 have rsd:∀ b ∈ rs,∃ o,H' b=some o:=hv3.some_of
 by_cases hlt:i < xs.length
 · obtain ⟨g,y⟩:=y2 i hlt
   refine .inr ⟨g,λx H2 hy=>?_⟩
   obtain ⟨e3,dx⟩:=y x H2 hy
   have S2:=slots e2 ⟨_,hv1⟩ rsd hlen hsl
   have o0:∀ b,own (λb=>own A B b\/b=D\/b ∈ rs) (λ_=>([]:List Addr)) b->own A B b\/b=D\/b ∈ rs:=λb z=>z.elim id λ⟨_,z⟩=>(nomatch z)
   have dx':=dx _ S2.dm (λb o z=>by
     obtain ⟨z1,z2⟩:=aq.mp z
     exact aq.mpr ⟨λy=>(o0 b y).elim z1 λy=>y.elim (λy=>(by rw [y,hD] at z2; cases z2)) λy=>(by rw [hfr b y] at z2; cases z2),e2 _ _ z2⟩)
   refine ⟨i,hlt,_,_,_,S2.mono e3,dx',λσ2 B2 S3=>?_⟩
   refine kF ⟨i,hlt,_,_,_,S3,λv H5 bs e5 hf5 d5=>?_⟩
   obtain ⟨nv,ndv⟩:=d5.nd (hn i hlt)
   have e6:=e3.trans e5
   have hv5:=e6 _ _ hv1
   have bsD:∀ b ∈ bs,b ≠ D:=λb hb z=>by have:=(hf5 b hb).1; rw [z,e3 _ _ hv1] at this; cases this
   have bsR:∀ b ∈ bs,b ∉ rs:=λb hb z=>by obtain ⟨o,q⟩:=rsd b z; have:=(hf5 b hb).1; rw [e3 _ _ q] at this; cases this
   refine ⟨vs,xs.length - (i + 1),hv5,Nat.lt_trans (Nat.lt_of_le_of_lt hv2 (Nat.lt_trans hlt hl)) (by decide),by omega,rfl,hlt,?_,vs++[v],rs++bs,aI,by rw [List.length_append]; exact Nat.succ_le_succ hv2,?_,?_,?_,S3.len.trans (hT i).1,λl s h=>?_⟩
   · intro b o z
     have ne:b ≠ D:=λy=>by rw [y,hD] at z; cases z
     rw [ay ne]
     exact e6 _ _ (e2 _ _ z)
   · rw [List.range_succ,List.map_append]
     have sm1:aj (hd H5 λb=>vw true (λb=>own A B b\/b=D\/b ∈ rs) B2 b\/b ∈ bs) (hd (upd H5 D (.lst (vs++[v]))) λb=>own A B b\/b=D\/b ∈ rs++bs):=λb o z=>by
       obtain ⟨z1,z2⟩:=aq.mp z
       refine aq.mpr ⟨λy=>z1 ?_,by rw [ay (λy:b=D=>z1 (.inl (.inl (.inr (.inl y)))))]; exact z2⟩
       rcases y with y | y | y
       · exact .inl (.inl (.inl y))
       · exact .inl (.inl (.inr (.inl y)))
       · exact (List.mem_append.mp y).elim (λy=>.inl (.inl (.inr (.inr y)))) .inr
     have sm2:aj (hd H' λb=>own A B b\/b=D\/b ∈ rs) (hd (upd H5 D (.lst (vs++[v]))) λb=>own A B b\/b=D\/b ∈ rs++bs):=λb o z=>by
       obtain ⟨z1,z2⟩:=aq.mp z
       refine aq.mpr ⟨λy=>?_,by rw [ay (λy:b=D=>z1 (.inr (.inl y)))]; exact e6 _ _ z2⟩
       rcases y with y | y | y
       · exact z1 (.inl y)
       · exact z1 (.inr (.inl y))
       · rcases List.mem_append.mp y with y | y
         · exact z1 (.inr (.inr y))
         · have:=(hf5 b y).1; rw [e3 _ _ z2] at this; cases this
     refine aJ.snoc (nv.frame sm1 λb hb=>ay (bsD b hb)) (hv3.frame sm2 λb hb=>?_)
     obtain ⟨o,q⟩:=rsd b hb
     rw [ay (λz:b=D=>(List.nodup_cons.mp hnd).1 (by rw [<- z]; exact hb)),e6 _ _ q,q]
   · obtain ⟨n1,n2⟩:=List.nodup_cons.mp hnd
     refine List.nodup_cons.mpr ⟨λz=>?_,List.nodup_append.mpr ⟨n2,ndv,λx hx y hy z=>bsR y hy (z ▸ hx)⟩⟩
     exact (List.mem_append.mp z).elim n1 λz=>bsD D z rfl
   · intro b hb
     rcases List.mem_append.mp hb with z | z
     · exact hfr b z
     · exact (e2.trans e3).free (hf5 b z).1
   · rcases flat l s h with rfl | ⟨x,rfl⟩
     · rfl
     · obtain ⟨_,u,eu,d⟩:=S3.sl l _ ((hT i).2 l x h)
       refine ⟨rfl,u,eu,d.mono λb o z=>?_⟩
       obtain ⟨z1,z2⟩:=aq.mp z
       refine aq.mpr ⟨λy=>?_,by rw [ay (λy:b=D=>z1 (.inl (.inr (.inl y))))]; exact e5 _ _ z2⟩
       rcases y with y | y | y
       · exact z1 (.inl (.inl y))
       · exact z1 (.inl (.inr (.inl y)))
       · rcases List.mem_append.mp y with y | y
         · exact z1 (.inl (.inr (.inr y)))
         · rw [(hf5 b y).1] at z2; cases z2
 · have e:i=xs.length:=by omega
   subst e
   refine .inl ⟨y1 _ (Nat.le_refl _),kk _ _ (D :: rs) (e1.trans e2) (λb hb=>?_) ⟨hnd,_,rfl,.l hv1 (hv3.frame (av (aj.refl _) λb z=>?_) λ_ _=>rfl)⟩⟩
   · rcases List.mem_cons.mp hb with rfl | z
     · exact ⟨e1.free hD,_,hv1⟩
     · exact ⟨e1.free (hfr b z),rsd b z⟩
   · rcases z with z | z
     · exact .inl (gF z)
     · exact .inr ((List.mem_cons.mp z).elim .inl .inr)
theorem uO (j:Nat) {n:Str} {g:Nat->D} {f:Nat->Nd} {S':Nat->Sl} (B:Bk X k) (hi:PI X (.Name n p) it (dI X.K τ xs)) (hx:∀ i (h:i < xs.length),xs[i]=g i) (hl:xs.length < 1000000)
   (he:∀ i,i < xs.length->∀ s H fp,PE (cpX X s H scope fp) elt (dE X.K true ((a5 τ (bCp X.N scope)++[Sl.un]).set j (.d (g i))) (S' i))) (hn:∀ i,i < xs.length->qA (S' i)=some (f i))
   (hc:bOk X.env.scope scope=true:=by kernel_rfl) (hu:(a5 τ (bCp X.N scope)++[Sl.un])[j]?=some .un:=by rfl) (hN:(bNm scope++[("#" : Str)])[j]?=some n:=by rfl) (hv:∀ s H fp,Loc (cpX X s H scope fp).env.scope n:=by intro _ _ _; first | exact .inl rfl | exact .inr rfl)
   (hf:∀ s H fp,(cpX X s H scope fp).fn n=true\/(cpX X s H scope fp).env.scope.names.lookup n=some .local:=by intro _ _ _; first | exact .inr rfl | exact .inl rfl) (hs:∀ x,foldedSetIterable it X.env x=pure x:=by intro _; rfl) :
   rR X elt (.Name n p) it [] scope τ ((List.range xs.length).map f):=by
 refine p6 (T:=λi=>(a5 τ (bCp X.N scope)++[Sl.un]).set j (.d (g i))) B hc hi (λi=>⟨List.length_set,λl x h=>?_⟩) (λi h s H fp=>?_) he hn hl hs
 · rw [List.getElem?_set_ne (λz=>by rw [<- z,hu] at h; cases h)]
   exact h
 · rw [hx i h]
   exact rB j (eo hc).2 hN (hv s H fp) (hf s H fp)
end
section
variable {X:Cx} {C:Bool} {τ τ':List Sl} {x y z:D} {a b e c tg it elt o ix:Expr} {es ifs:List Expr} {pos p q:Pos} {k:Nat} {s:Sl} {N:Po} {rest body:List Stmt} {ds xs ys:List D} {i:Nat} {scope:Scope}
theorem ua (j l:Nat) {n m:Str} {p2 pt:Pos} {md:Nat} {g g' f:Nat->D} (B:Bk X k) (hi:PI X (.Tuple [.Name n p,.Name m p2] md pt) it (dI X.K τ xs)) (hx:∀ i (h:i < xs.length),xs[i]=.tup [g i,g' i]) (hl:xs.length < 1000000)
   (he:∀ i,i < xs.length->∀ s H fp,PE (cpX X s H scope fp) elt (dE X.K true (((a5 τ (bCp X.N scope)++[Sl.un]).set j (.d (g i))).set l (.d (g' i))) (.d (f i))))
   (hc:bOk X.env.scope scope=true:=by kernel_rfl) (hu:(a5 τ (bCp X.N scope)++[Sl.un])[j]?=some .un:=by rfl) (hu':(a5 τ (bCp X.N scope)++[Sl.un])[l]?=some .un:=by rfl) (hN:(bNm scope++[("#" : Str)])[j]?=some n:=by rfl) (hN':(bNm scope++[("#" : Str)])[l]?=some m:=by rfl) (hv:∀ s H fp,Loc (cpX X s H scope fp).env.scope n:=by intro _ _ _; first | exact .inl rfl | exact .inr rfl) (hv':∀ s H fp,Loc (cpX X s H scope fp).env.scope m:=by intro _ _ _; first | exact .inl rfl | exact .inr rfl)
   (hf:∀ s H fp,(cpX X s H scope fp).fn n=true\/(cpX X s H scope fp).env.scope.names.lookup n=some .local:=by intro _ _ _; first | exact .inr rfl | exact .inl rfl) (hf':∀ s H fp,(cpX X s H scope fp).fn m=true\/(cpX X s H scope fp).env.scope.names.lookup m=some .local:=by intro _ _ _; first | exact .inr rfl | exact .inl rfl) (hs:∀ x,foldedSetIterable it X.env x=pure x:=by intro _; rfl) :
   Cmp X elt (.Tuple [.Name n p,.Name m p2] md pt) it [] scope τ ((List.range xs.length).map f):=
 vI (λi=>((a5 τ (bCp X.N scope)++[Sl.un]).set j (.d (g i))).set l (.d (g' i))) B hi hl (λi=>⟨by rw [List.length_set,List.length_set],λr x h=>by
     rw [List.getElem?_set_ne (λz=>by rw [<- z,hu'] at h; cases h),List.getElem?_set_ne (λz=>by rw [<- z,hu] at h; cases h)]
     exact h⟩)
   (λi h s H fp=>by rw [hx i h]; exact qS j l (B.comp s H scope fp).calm (eo hc).2 hN hN' (hv s H fp) (hv' s H fp) (hf s H fp) (hf' s H fp)) he hc hs
theorem uD {ns ms:List Int} (i:Nat) (h:i < (hZ (ns.map D.int) (ms.map D.int)).length):(hZ (ns.map D.int) (ms.map D.int))[i]=.tup [.int (ns.getD i 0),.int (ms.getD i 0)]:=by
 rw [lR]
 rw [c9,List.length_map,List.length_map] at h
 simp [show i < ns.length by omega,show i < ms.length by omega]
end
end Hy
namespace Hy
open PySem PySem.Spec PyProof.Rows L2
open Ev (D Den ax aw aP aE)
section
variable {X:Cx} {C:Bool} {τ:List Sl} {x y z:D} {a b e o ix:Expr} {es:List Expr} {pos p q:Pos} {k:Nat} {s:Sl} {N:Po} {rest:List Stmt} {i j:Nat} {t c:Nd} {pt:List Nat} {xs:List Nd} {m:Nat}
end
noncomputable def par:D->Bool
 | .tup [x,y]=>flat x && flat y
 | _=>false
mutual
noncomputable def jH:Nd->Bool
 | .d x=>par x
 | .l xs=>gx xs
 | .t xs=>gx xs
noncomputable def gx:List Nd->Bool
 | []=>true
 | x :: xs=>jH x && gx xs
end
noncomputable def Odd (H:Hp) (b:Addr):Prop:=(∃ vs,H b=some (.lst vs))\/(∃ vs,H b=some (.tup vs)/\vs.length ≠ 2)\/∃ φ,H b=some (.ext φ)
section
variable {K:PySem.W.Frag} {G H:Hp}
theorem qD {M M':Addr->Prop} {v:V} {x:D} (hM:∀ b,M' b->M b\/Odd H b) (h:Den K (hd H M) v x) (f:par x=true):Den K (hd H M') v x:=by
 cases h with
 | non=>cases f
 | bl=>cases f
 | int=>cases f
 | str=>cases f
 | lst _ _=>cases f
 | box _=>cases f
 | @tup a vs ds h r=>
   cases r with
   | nil=>cases f
   | cons d1 r=>
     cases r with
     | nil=>cases f
     | cons d2 r=>
       cases r with
       | cons _ _=>cases f
       | nil=>
         rw [par,Bool.and_eq_true] at f
         refine .tup ?_ (.cons (cU d1 f.1) (.cons (cU d2 f.2) .nil))
         rcases h with (h | ⟨o,h⟩) | h
         · obtain ⟨h1,h2⟩:=aq.mp h
           refine .inl (.inl (aq.mpr ⟨λz=>?_,h2⟩))
           rcases hM a z with z | ⟨ws,z⟩ | ⟨ws,z,l⟩ | ⟨φ,z⟩
           · exact h1 z
           · rw [h2] at z; cases z
           · rw [h2] at z; cases z; exact l rfl
           · rw [h2] at z; cases z
         · obtain ⟨h1,h2⟩:=aq.mp h
           refine .inl (.inr ⟨o,aq.mpr ⟨λz=>?_,h2⟩⟩)
           rcases hM a z with z | ⟨ws,z⟩ | ⟨ws,z,l⟩ | ⟨φ,z⟩
           · exact h1 z
           · rw [h2] at z; cases z
           · rw [h2] at z; cases z
           · rw [h2] at z; cases z
         · exact .inr h
mutual
theorem bh.par {M M':Addr->Prop} (hM:∀ b,M' b->M b\/Odd H b):∀ {u:V} {bs:List Addr} {t:Nd},bh K (hd H M) H u bs t->jH t=true->bh K (hd H M') H u bs t
 | _,_,_,.d h,f=>by rw [jH] at f; exact .d (qD hM h f)
 | _,_,_,.l h r,f=>by rw [jH] at f; exact .l h (aJ.par hM r f)
 | _,_,_,.t h r,f=>by rw [jH] at f; exact .t h (aJ.par hM r f)
theorem aJ.par {M M':Addr->Prop} (hM:∀ b,M' b->M b\/Odd H b):∀ {vs:List V} {bs:List Addr} {ts:List Nd},aJ K (hd H M) H vs bs ts->gx ts=true->aJ K (hd H M') H vs bs ts
 | _,_,_,.nil,_=>.nil
 | _,_,_,.cons h r,f=>by rw [gx,Bool.and_eq_true] at f; exact .cons (bh.par hM h f.1) (aJ.par hM r f.2)
end
end
section
variable {X:Cx} {τ:List Sl} {e:Expr} {pos:Pos} {N:Po} {rest:List Stmt}
end
end Hy
namespace Hy
open PySem PySem.Spec PyProof.Rows L2
open Ev (D Den ax)
theorem _root_.L2.Fun.sa {K:PySem.W.Frag} {x qual:Str} {st:Stmt} {f T:Addr} {fd:FuncData} {ps:List Str} {c:Value} {d:Option Addr} {items:Array Value} {n:Nat} {sl:Array (Option Value)} (_:L2.Fun K x qual st f fd) (hd:fd.defaults=.ref T) (lT:K.lookup T=some ⟨c,d,.seq items n,sl⟩)
   (h:∀ us:List Value,us.length=ps.length->∃ k,bindArgs fd ⟨us,[]⟩=seqItems? fd.defaults >>= k/\k (some items)=pure (ps.zip us)):L2.Binds K fd ps []:=λs us X hl=>by
 rw [List.append_nil] at hl ⊢
 obtain ⟨k,h1,h2⟩:=h us hl
 exact .of_defaults hd (X _ _ lT) rfl h1 h2
noncomputable def nO (K:PySem.W.Frag) (x:Str) (st:Stmt) (f:Addr) (i:Int):Prop:=PySem.W.nsIn K mainGlobals x=some (some (.ref f))/\(∃ oc od kV dc pm an cd ct sl T td tl tc tt tn,K.lookup f=some ⟨oc,od,.func (PySem.W.fnOf x x (bz st) (bc st) (ai st) (.ref T) kV dc pm an cd ct),sl⟩/\PySem.W.codeIn K cd x=true/\K.lookup T=some ⟨tc,td,.seq #[.int i tt] tn,tl⟩)/\PySem.W.keepIn K (.ref f)=true
section
variable {P:Program} {w:World} {K:PySem.W.Frag} {h:Heap} {mg:Str->Option Value} {base:Heap} {x:Str} {st:Stmt} {f:Addr} {ps:List Str} {k:Nat} {Φ:List D->Sl->Prop} {i:Int}
theorem nO.of {oc tc:Value} {od an td:Option Addr} {kV dc pm cd ct:Value} {sl tl:Array (Option Value)} {T:Addr} {tt:Tok} {tn:Nat} (a:PySem.W.nsIn K mainGlobals x=some (some (.ref f))) (l:K.lookup f=some ⟨oc,od,.func (PySem.W.fnOf x x (bz st) (bc st) (ai st) (.ref T) kV dc pm an cd ct),sl⟩) (c:PySem.W.codeIn K cd x=true) (d:K.lookup T=some ⟨tc,td,.seq #[.int i tt] tn,tl⟩) (k:PySem.W.keepIn K (.ref f)=true):nO K x st f i:=⟨a,⟨_,_,_,_,_,_,_,_,_,_,_,_,_,_,_,l,c,d⟩,k⟩
theorem nO.cal (d:nO K x st f i) (X:K.In h) (G:h.Ns mainGlobals mg) (b:∀ (T:Addr) (tt:Tok) (kV dc pm:Value) (an:Option Addr) (cd ct:Value) (us:List Value),us.length=ps.length->∃ k,bindArgs (PySem.W.fnOf x x (bz st) (bc st) (ai st) (.ref T) kV dc pm an cd ct) ⟨us,[]⟩=seqItems? (.ref T) >>= k/\k (some #[.int i tt])=pure (ps.zip us))
   (o:∀ fd,Fun K x x st f fd->aL P w K mg base CX0 k f fd ps (spD K Φ)):Cal P w K mg base k x Φ:=by
 obtain ⟨a,⟨oc,od,kV,dc,pm,an,cd,ct,sl,T,td,tl,tc,tt,tn,l,c',dt⟩,q⟩:=d
 have F:=kQ l c' q
 exact ⟨f,_,ps,o _ F,PySem.W.mg_of X G a,q,F.sa rfl dt (b T tt kV dc pm an cd ct)⟩
end
mutual
noncomputable def mM:Nd->Bool
 | .d x=>flat x
 | .l xs=>j6 xs
 | .t xs=>j6 xs
noncomputable def j6:List Nd->Bool
 | []=>true
 | x :: xs=>mM x && j6 xs
end
noncomputable def vP:Sl->Bool
 | .un=>true
 | .d x=>flat x
 | .o xs=>xs.all flat
 | .n t=>mM t
 | .x _=>false
section
variable {K:PySem.W.Frag} {G G' H:Hp}
mutual
theorem bh.fl:∀ {u:V} {bs:List Addr} {t:Nd},bh K G H u bs t->mM t=true->bh K G' H u bs t
 | _,_,_,.d h,f=>.d (cU h (by rw [mM] at f; exact f))
 | _,_,_,.l h r,f=>.l h (aJ.fl r (by rw [mM] at f; exact f))
 | _,_,_,.t h r,f=>.t h (aJ.fl r (by rw [mM] at f; exact f))
theorem aJ.fl:∀ {vs:List V} {bs:List Addr} {ts:List Nd},aJ K G H vs bs ts->j6 ts=true->aJ K G' H vs bs ts
 | _,_,_,.nil,_=>.nil
 | _,_,_,.cons h r,f=>by
   rw [j6,Bool.and_eq_true] at f
   exact .cons (bh.fl h f.1) (aJ.fl r f.2)
end
theorem mD:∀ {vs:List V} {xs:List D},ax K G vs xs->xs.all flat=true->ax K G' vs xs
 | _,_,.nil,_=>.nil
 | _,_,.cons h r,f=>by
   rw [List.all_cons,Bool.and_eq_true] at f
   exact .cons (cU h f.1) (mD r f.2)
theorem bp.fl {v:Option V} {bs:List Addr}:∀ {s:Sl},bp K G H v bs s->vP s=true->bp K G' H v bs s
 | .un,h,_=>h
 | .d _,⟨h,u,e1,h2⟩,f=>⟨h,u,e1,cU h2 f⟩
 | .o _,⟨a,vs,h1,h2,h3,h4⟩,f=>⟨a,vs,h1,h2,h3,mD h4 f⟩
 | .n _,⟨h0,u,h1,h2⟩,f=>⟨h0,u,h1,h2.fl f⟩
end
noncomputable def But (d:Addr) (H H':Hp):Prop:=∀ b o,b ≠ d->H b=some o->H' b=some o
theorem But.same {H H':Hp} {d:Addr} (e:aj H H'):But d H H':=λb o _ h=>e b o h
theorem But.hd {H H':Hp} {d:Addr} {M:Addr->Prop} (e:But d H H') (h:M d):aj (Hy.hd H M) (Hy.hd H' M):=λb o z=>by
 obtain ⟨z1,z2⟩:=aq.mp z
 exact aq.mpr ⟨z1,e b o (λy=>z1 (y ▸ h)) z2⟩
noncomputable def Hid (M:Addr->Prop) (H:Hp) (d:Addr):Prop:=M d/\∀ b,M b->∃ o,H b=some o
theorem Hid.but {M:Addr->Prop} {H H':Hp} {d:Addr} (h:Hid M H d) (e:But d H H') (hd:∃ o,H' d=some o):Hid M H' d:=⟨h.1,λb z=>by
 by_cases q:b=d
 · rw [q]; exact hd
 · obtain ⟨o,y⟩:=h.2 b z
   exact ⟨o,e b o q y⟩⟩
theorem Hid.same {M:Addr->Prop} {H H':Hp} {d:Addr} (h:Hid M H d) (e:aj H H'):Hid M H' d:=⟨h.1,λb z=>let ⟨o,y⟩:=h.2 b z; ⟨o,e b o y⟩⟩
noncomputable def sd (P:Program) (w:World) (K:PySem.W.Frag) (mg:Str->Option Value) (base:Heap) (k:Nat) (n:Str) (sp:Sp):Prop:=
 ∃ f fd ps,aL P w K mg base CX0 k f fd ps sp/\mg n=some (.ref f)/\PySem.W.keepIn K (.ref f)=true/\Binds K fd ps []
theorem sd.mono {P:Program} {w:World} {K:PySem.W.Frag} {mg:Str->Option Value} {base:Heap} {j k:Nat} {n:Str} {sp:Sp} (c:sd P w K mg base j n sp) (h:j<=k):sd P w K mg base k n sp:=
 let ⟨f,fd,ps,F,r⟩:=c; ⟨f,fd,ps,F.mono h,r⟩
section
variable {K:PySem.W.Frag} {A:Addr->Prop} {H₀ H H':Hp} {τ:List Sl} {B:Nat->List Addr} {σ:L2.St}
theorem Sta.hid (S:Sta K A H₀ τ B σ H) {i:Nat} {a:Addr} (hB:B i=[a]):Hid (own A B) H a:=⟨.inr ⟨i,by rw [hB]; exact List.mem_singleton.mpr rfl⟩,S.dm⟩
theorem Sta.but (S:Sta K A H₀ τ B σ H) {i:Nat} {a:Addr} {E E':Ex} {o':HO} (hi:τ[i]?=some (.x E)) (hB:B i=[a]) (e:But a H H') (ho:H' a=some o') (d:E'.p K (hd H' (own A B)) o' a):Sta K A H₀ (τ.set i (.x E')) B σ H':=by
 have sm:aj (hd H (own A B)) (hd H' (own A B)):=e.hd (S.hid hB).1
 have f0:H₀ a=none:=S.fr i a (by rw [hB]; exact List.mem_singleton.mpr rfl)
 have hs:aj H₀ H':=λb o z=>e b o (λq=>by rw [q,f0] at z; cases z) (S.same b o z)
 refine ⟨hs,by rw [List.length_set,S.len],λj t hj=>?_,S.fr,S.uq,S.ad,λj b hb=>((S.hid hB).but e ⟨_,ho⟩).2 b (.inr ⟨j,hb⟩)⟩
 by_cases ej:j=i
 · subst ej
   have hl:=(List.getElem?_eq_some_iff.mp hi).1
   rw [List.getElem?_set_self hl] at hj
   cases hj
   obtain ⟨a',o,e1,e2,_,_⟩:=S.sl j _ hi
   rw [hB] at e1
   cases e1
   exact ⟨a,o',hB,e2,ho,d⟩
 · rw [List.getElem?_set_ne (λz=>ej z.symm)] at hj
   have off:∀ b ∈ B j,b ≠ a:=λb hb e=>ej (S.uq j i a (e ▸ hb) (by rw [hB]; exact List.mem_singleton.mpr rfl))
   have ne:∀ b ∈ B j,H' b=H b:=λb hb=>by
     obtain ⟨o,q⟩:=S.bd j b hb
     rw [q]
     exact e b o (off b hb) q
   exact (S.sl j t hj).frame sm ne
end
section
variable {X:Cx} {τ:List Sl} {x y z:D} {a b e c:Expr} {es:List Expr} {pos p q:Pos} {k:Nat} {s:Sl} {ds:List D} {N:Po} {rest body:List Stmt}
end
section
variable {P:Program} {w:World} {K:PySem.W.Frag} {mg:Str->Option Value} {base:Heap}
end
section
variable {X:Cx} {τ:List Sl} {es:List Expr} {pos p q pr:Pos} {k:Nat} {s:Sl} {ds:List D} {N:Po} {rest:List Stmt}
end
end Hy
namespace Hy
open PySem PySem.Spec PyProof.Rows L2
open Ev (D Den ax aN aH aw aP aE)
section
variable {X:Cx} {i:Int}
theorem ud {ns:List Int}:bA X (compareOp .In) (.int i) (.lst (ns.map .int)) (.bl (ns.any λw=>decide (w=i))):=⟨_,eZ,λM x' y' H Q _ d1 d2 q=>by
 cases d1
 cases d2 with
 | @lst ad vs _ h r=>
   cases bR r
   refine ⟨_,_,rfl,.inl (aE aB h),rfl,?_,?_⟩
   · rw [List.all_map,List.all_eq_true]; intro _ _; rfl
   · have e:(ns.any λw=>decide (w=i))=inV (.int i) (ns.map V.int):=by unfold inV; rw [List.any_map]; congr 1
     rw [if_neg Bool.false_ne_true]
     rw [e] at q
     exact q _ H (aj.refl _) .bl⟩
theorem rd {ns:List Int}:bA X (compareOp .In) (.int i) (.tup (ns.map .int)) (.bl (ns.any λw=>decide (w=i))):=⟨_,eZ,λM x' y' H Q _ d1 d2 q=>by
 cases d1
 cases d2 with
 | @tup ad vs _ h r=>
   cases bR r
   refine ⟨_,_,rfl,.inr (aP aB h),rfl,?_,?_⟩
   · rw [List.all_map,List.all_eq_true]; intro _ _; rfl
   · have e:(ns.any λw=>decide (w=i))=inV (.int i) (ns.map V.int):=by unfold inV; rw [List.any_map]; congr 1
     rw [if_neg Bool.false_ne_true]
     rw [e] at q
     exact q _ H (aj.refl _) .bl⟩
theorem rV {ns:List Int}:bA X (compareOp .NotIn) (.int i) (.tup (ns.map .int)) (.bl (!ns.any λw=>decide (w=i))):=⟨_,jd,λM x' y' H Q _ d1 d2 q=>by
 cases d1
 cases d2 with
 | @tup ad vs _ h r=>
   cases bR r
   refine ⟨_,_,rfl,.inr (aP aB h),rfl,?_,?_⟩
   · rw [List.all_map,List.all_eq_true]; intro _ _; rfl
   · have e:(ns.any λw=>decide (w=i))=inV (.int i) (ns.map V.int):=by unfold inV; rw [List.any_map]; congr 1
     rw [if_pos rfl]
     rw [e] at q
     exact q _ H (aj.refl _) .bl⟩
end
end Hy
namespace Su
open PySem PyProof.Rows HT
open PySem.SeqAt
open PySem.AutoSeq1 (wpAny_loadPart')
open PySem.MeetsSeq PySem.MeetsSeq2 PySem.MeetsSeq3
theorem mI (t:Bool) (x y:Value):keyLt' (tuples' t) x y=(do
   let xs <- Builtin.List.listItems x; let ys <- Builtin.List.listItems y
   for ((p,q),i) in (xs.toList.zip ys.toList).zipIdx do
     if !(<- eqBool p q) then return <- oneLt' (t && i == 0) p q
   return xs.size < ys.size):=rfl
section
variable {prog:Program} {w:World} {A:Around} {E:Value->Shared->Prop} {s:Shared}
theorem kN {b:Bool} {a c:Int} {t u:Tok} {Q:Bool->Shared->Prop} (h:Q (decide (a < c)) s):wpAny (model prog w) A (oneLt' b (.int a t) (.int c u)) Q E s:=by
 cases b with
 | true=>exact oneLt_int h
 | false=>
   rw [oneLt'_eq]
   simp only [Bool.false_eq_true,if_false]
   exact wpAny_bind (oe A s a t c u prog w E _ (wpAny_truthy_bool h))
theorem kR {l b:Addr} {items items2:Array Value} {n n2:Nat} {dd dd2:Option Addr} {sl sl2:Array (Option Value)} {ns ms:List Int} {t:Bool} {Q:Bool->Shared->Prop} (hl:s.heap.get? l=some { cls:=.type "tuple",dict:=dd,data:=.seq items n,slots:=sl }) (hb:s.heap.get? b=some { cls:=.type "tuple",dict:=dd2,data:=.seq items2 n2,slots:=sl2 })
   (hi:IntsAre items.toList ns) (hj:IntsAre items2.toList ms) (h:Q (lexLt ns ms) s):wpAny (model prog w) A (keyLt' (tuples' t) (.ref l) (.ref b)) Q E s:=by
 rw [mI]
 have z1:items.size=ns.length:=by rw [<- hi.length]; simp
 have z2:items2.size=ms.length:=by rw [<- hj.length]; simp
 refine wpAny_bind (listItems_at hl rfl ?_)
 refine wpAny_bind (listItems_at hb rfl ?_)
 refine wpAny_bind (wpAny_forIn_list _ (λrest (b:Option Bool × Unit) s'=>b.1=none/\s'=s/\∃ (vs ws:List Value) (ns' ms':List Int) (k:Nat),rest=(vs.zip ws).zipIdx k /\
     IntsAre vs ns'/\IntsAre ws ms'/\ns'.length + items2.size=ms'.length + items.size/\Q (lexLt ns' ms') s) _ ?turn ?fin _ _ ?init)
 case turn=>
   rintro ⟨⟨y,x⟩,i⟩ rest b s' ⟨hb',rfl,vs,ws,ns',ms',k,hz,hvi,hwi,hlen,hR⟩
   cases hvi with
   | nil=>rw [List.zip_nil_left] at hz; cases hz
   | cons a t hvi'=>
     cases hwi with
     | nil=>rw [List.zip_nil_right] at hz; cases hz
     | cons c u hwi'=>
       rw [List.zip_cons_cons,List.zipIdx_cons] at hz
       injection hz with hyx hrest
       injection hyx with hy hx
       injection hy with hy hy2
       subst hy hy2
       rw [gM] at hR
       simp only [List.length_cons] at hlen
       obtain ⟨e,he,hiff⟩:=nU A s' a t c u
       refine wpAny_bind (he prog w _ _ ?_)
       cases e with
       | true=>
         rw [if_pos (hiff.mp rfl)] at hR
         wp_walk
         exact ⟨rfl,rfl,_,_,_,_,_,hrest,hvi',hwi',by omega,hR⟩
       | false=>
         rw [if_neg (λq=>absurd (hiff.mpr q) Bool.false_ne_true)] at hR
         simp only [Bool.not_false,if_true]
         refine wpAny_bind (kN ?_)
         exact wpAny_pure (wpAny_pure hR)
 case fin=>
   rintro ⟨b1,b2⟩ s' ⟨hb',rfl,vs,ws,ns',ms',k,hz,hvi,hwi,hlen,hR⟩
   simp only at hb'
   subst hb'
   have hv:lexLt ns' ms'=decide (items.size < items2.size):=by
     cases hvi with
     | nil=>
       cases hwi with
       | nil=>
         simp only [List.length_nil] at hlen
         rw [dF]
         exact (decide_eq_false (by omega)).symm
       | cons c u hw=>
         simp only [List.length_nil,List.length_cons] at hlen
         rw [gP]
         exact (decide_eq_true (by omega)).symm
     | cons a t hv=>
       cases hwi with
       | nil=>
         simp only [List.length_nil,List.length_cons] at hlen
         rw [gj]
         exact (decide_eq_false (by omega)).symm
       | cons c u hw=>
         rw [List.zip_cons_cons] at hz
         cases hz
   rw [hv] at hR
   exact wpAny_pure hR
 case init=>exact ⟨rfl,rfl,items.toList,items2.toList,ns,ms,0,rfl,hi,hj,by omega,h⟩
theorem ltG {st:SortSt} {i j:Nat} {x y p q:Value} {b:Bool} {Q:Option Bool->SortSt->Prop} (hi:(arrOf st)[i]?=some (x,p)) (hj:(arrOf st)[j]?=some (y,q))
   (hlt:∀ (E:Value->Shared->Prop) (Q:Bool->Shared->Prop),Q b s->wpAny (model prog w) A (keyLt' (kindOf st) x y) Q E s) (h:Q (some b) st):wpS (model prog w) A E s (ltAt' i j) Q st:=by
 rw [ltAt'_eq]
 refine wpS_bind (wpS_get ?_)
 show wpS _ _ _ _ (do let x <- elem' (arrOf st) i; let y <- elem' (arrOf st) j; lt' x y) Q st
 rw [elem'_eq,elem'_eq,hi,hj]
 refine wpS_bind (wpS_pure (wpS_bind (wpS_pure ?_)))
 rw [lt'_eq]
 refine wpS_bind (wpS_get ?_)
 refine wpS_bind (wpS_lift (wpAny_attempt (hlt _ _ ⟨rfl,?_⟩)))
 exact wpS_pure h
theorem vL {n m:Nat} {st:SortSt} {Q:AscSt->SortSt->Prop} (hm:m<=n) (h:Q (none,n) st):wpS (model prog w) A E s (ascLoop n m) Q st:=by
 unfold ascLoop
 exact wpS_forRange (I:=λ_ c st'=>c=(none,n)/\st'=st) (λi _ _ h1 h2 _=>absurd h2 (by omega)) (λc st' ⟨h1,h2⟩=>by subst h1 h2; exact h) ⟨rfl,rfl⟩
theorem tq {st:SortSt} {x y p q:Value} {b:Bool} {Q:Option Nat->SortSt->Prop} (hA:arrOf st=#[(x,p),(y,q)])
   (hlt:∀ (E:Value->Shared->Prop) (Q:Bool->Shared->Prop),Q b s->wpAny (model prog w) A (keyLt' (kindOf st) y x) Q E s) (h:Q (some 2) (if b then setArr st #[(y,q),(x,p)] else st)):wpS (model prog w) A E s (countRun' 0 2) Q st:=by
 rw [countRun0_eq]
 have h1:(arrOf st)[1]?=some (y,q):=by rw [hA]; rfl
 have h0:(arrOf st)[0]?=some (x,p):=by rw [hA]; rfl
 refine wpS_bind (wpS_mono (Q:=λc st'=>st'=st/\c=(none,if b then 1 else 2)) (by
   unfold ascLoop
   refine wpS_forRange (I:=λi c st'=>st'=st/\((i=1/\c=(none,1))\/(i=2/\b=false/\c=(none,2)))) ?_ ?_ ⟨rfl,.inl ⟨rfl,rfl⟩⟩
   · rintro i c st' hi1 hi2 ⟨rfl,⟨rfl,rfl⟩ | ⟨rfl,_⟩⟩
     · refine wpS_bind (ltG (i:=1) (j:=0) h1 h0 hlt ?_)
       cases b with
       | true=>exact wpS_pure ⟨rfl,rfl⟩
       | false=>exact wpS_pure ⟨rfl,.inr ⟨rfl,rfl,rfl⟩⟩
     · omega
   · rintro c st' ⟨rfl,⟨h,_⟩ | ⟨_,rfl,rfl⟩⟩
     · exact absurd h (by decide)
     · exact ⟨rfl,rfl⟩) ?_)
 rintro c st' ⟨rfl,rfl⟩
 cases b with
 | false=>exact wpS_pure h
 | true=>
   show wpS _ _ _ _ (if ((1:Nat) == 2)=true then _ else if 1 > 1 then _ else descPart 1 2) Q st'
   rw [if_neg (by decide),if_neg (by decide)]
   unfold descPart
   refine wpS_bind (wpS_lift (wpAny_rule ⟨rfl,?_⟩))
   refine wpS_bind (wpS_mono (Q:=λc st''=>st''=st'/\c=(none,2,0)) (by
     unfold descLoop
     exact wpS_forRange (I:=λ_ c st''=>st''=st'/\c=(none,2,0)) (λi _ _ h1 h2 _=>absurd h2 (by omega)) (λc st' h=>h) ⟨rfl,rfl⟩) ?_)
   rintro c st'' ⟨rfl,rfl⟩
   show wpS _ _ _ _ (if 0 > 0 then _ else tail3 2 2) Q st''
   rw [if_neg (by decide)]
   unfold tail3
   refine wpS_bind (wpS_reverse ?_)
   refine wpS_bind (vL (Nat.le_refl _) ?_)
   refine wpS_pure ?_
   have e:mirror (arrOf st'') 0 2 ((2 - 0) / 2)=#[(y,q),(x,p)]:=by rw [hA]; rfl
   rw [e]
   exact h
theorem ug {st:SortSt} {x y p q:Value} {b:Bool} {Q:Unit->SortSt->Prop} (hA:arrOf st=#[(x,p),(y,q)]) (hf:failedOf st=none) (hp:pendingOf st=#[])
   (hlt:∀ (E:Value->Shared->Prop) (Q:Bool->Shared->Prop),Q b s->wpAny (model prog w) A (keyLt' (kindOf st) y x) Q E s)
   (h:∀ st',arrOf st'=(if b then #[(y,q),(x,p)] else #[(x,p),(y,q)])->failedOf st'=none->Q () st'):wpS (model prog w) A E s sortRuns' Q st:=by
 rw [sortRuns'_eq]
 refine wpS_bind (wpS_get ?_)
 dsimp only
 have hsz:(arrOf st).size=2:=by rw [hA]; rfl
 have hmr:minRun' 2 2 0=2:=rfl
 simp only [hsz,hmr]
 let P:SortSt->Prop:=λst'=>arrOf st'=(if b then #[(y,q),(x,p)] else #[(x,p),(y,q)])/\failedOf st'=none/\(pendingOf st').size=1
 refine wpS_bind (wpS_mono (wpS_forRange (I:=λi c st'=>(i=0/\c=(none,0)/\st'=st)\/(1<=i/\c=(none,2)/\P st')) (Q:=λc st'=>c=(none,2)/\P st') ?step ?fin (.inl ⟨rfl,rfl,rfl⟩)) ?post)
 case fin=>
   rintro c st' (⟨hx,_,_⟩ | ⟨_,hc,hD⟩)
   · exact absurd hx (by decide)
   · exact ⟨hc,hD⟩
 case step=>
   rintro i c st' _ hx (⟨rfl,rfl,rfl⟩ | ⟨hx1,rfl,hD⟩)
   · dsimp only
     rw [if_neg (by decide)]
     simp only [Nat.sub_zero]
     refine wpS_bind (tq hA hlt ?_)
     dsimp only
     rw [if_neg (by decide)]
     refine wpS_bind (wpS_get ?_)
     have hb:(pendingOf (if b then setArr st' #[(y,q),(x,p)] else st')).back?=none:=by
       cases b with
       | true=>show (pendingOf st').back?=none; rw [hp]; rfl
       | false=>show (pendingOf st').back?=none; rw [hp]; rfl
     rw [hb]
     dsimp only
     refine wpS_bind (wpS_modify (wpS_pure (.inr ⟨by omega,rfl,?_,?_,?_⟩)))
     · cases b with
       | true=>rfl
       | false=>exact hA
     · cases b with
       | true=>exact hf
       | false=>exact hf
     · cases b with
       | true=>show ((pendingOf st').push _).size=1; rw [hp]; rfl
       | false=>show ((pendingOf st').push _).size=1; rw [hp]; rfl
   · dsimp only
     rw [if_pos (Nat.le_refl _)]
     exact wpS_pure ⟨rfl,hD⟩
 case post=>
   rintro c st' ⟨rfl,hD⟩
   dsimp only
   refine wpS_bind (wpS_mono (wpS_forRange (I:=λ_ c st''=>st''=st'/\c=(none,())) (Q:=λc st''=>st''=st'/\c=(none,())) ?_ (λ_ _ hh=>hh) ⟨rfl,rfl⟩) ?_)
   · rintro x c st'' _ _ ⟨rfl,rfl⟩
     refine wpS_bind (wpS_get ?_)
     rw [if_pos (by rw [hD.2.2]; exact Nat.le_refl 1)]
     exact wpS_pure ⟨rfl,rfl⟩
   · rintro c st'' ⟨rfl,rfl⟩
     exact wpS_pure (h _ hD.1 hD.2.1)
noncomputable def cZ (h:Heap) (l:Addr) (ns:List Int):Prop:=∃ items n dd sl,h.get? l=some { cls:=.type "tuple",dict:=dd,data:=.seq items n,slots:=sl }/\IntsAre items.toList ns/\ns ≠ []
theorem iI {l:Addr} {ns:List Int} {Q:Option Value->Shared->Prop} (hl:cZ s.heap l ns) (h:∀ a t,Q (some (.int a t)) s):wpAny (model prog w) A (firstOfTuple' (.ref l)) Q E s:=by
 obtain ⟨items,n,dd,sl,ho,hi,h0⟩:=hl
 have e:firstOfTuple' (.ref l)=(do
   if (<- typeOf (.ref l)) != .type "tuple" then return none
   return (<- Builtin.List.listItems (.ref l))[0]?):=rfl
 rw [e]
 refine wpAny_bind (wpAny_typeOf_ref ho ?_)
 simp only [bne_self_eq_false,Bool.false_eq_true,if_false]
 refine wpAny_bind (listItems_at ho rfl (wpAny_pure ?_))
 obtain ⟨its⟩:=items
 cases hi with
 | nil=>exact absurd rfl h0
 | cons a t _=>exact h a t
theorem t9 {l b:Addr} {ns ms:List Int} {Q:SortKind->Shared->Prop} (hl:cZ s.heap l ns) (hb:cZ s.heap b ms) (h:Q (tuples' true) s):wpAny (model prog w) A (keyKind' #[.ref l,.ref b]) Q E s:=by
 rw [keyKind'_eq]
 refine wpAny_bind ?_
 have e:(#[Value.ref l,Value.ref b]:Array Value).mapM firstOfTuple'=(do let x <- firstOfTuple' (.ref l); let y <- firstOfTuple' (.ref b); pure #[x,y]):=by
   rw [show (#[Value.ref l,Value.ref b]:Array Value)=[Value.ref l,Value.ref b].toArray from rfl,List.mapM_toArray]
   simp
 rw [e]
 refine wpAny_bind (iI hl λa t=>wpAny_bind (iI hb λc u=>wpAny_pure ?_))
 have e2:oneTypeOnly' ((#[some (Value.int a t),some (Value.int c u)]:Array (Option Value)).filterMap id)=pure (some (.type "int")):=by
   rw [show ((#[some (Value.int a t),some (Value.int c u)]:Array (Option Value)).filterMap id)=[Value.int a t,Value.int c u].toArray by simp,oneTypeOnly'_eq,List.mapM_toArray,mapM_typeOf_ints (.cons a t (.cons c u .nil))]
   simp only [map_pure,pure_bind]
   have hall:((List.map (λ_=>Value.type "int") [Value.int a t,Value.int c u]).toArray.all λx=>x == Value.type "int")=true:=by
     simp only [List.all_toArray,List.all_map,List.all_eq_true]
     intro _ _
     rfl
   have h0:(List.map (λ_=>Value.type "int") [Value.int a t,Value.int c u]).toArray[0]?=some (Value.type "int"):=by simp
   rw [h0]
   simp only [hall,if_true]
 rw [if_pos (by simp)]
 refine wpAny_bind (wpAny_rule ?_)
 rw [e2]
 exact wpAny_pure h
theorem cZ.keep {h h':Heap} {l:Addr} {ns:List Int} (k:∀ o,h.get? l=some o->h'.get? l=some o):cZ h l ns->cZ h' l ns:=λ⟨items,n,dd,sl,ho,r⟩=>⟨items,n,dd,sl,k _ ho,r⟩
theorem cZ.lt {l b:Addr} {ns ms:List Int} (hl:cZ s.heap l ns) (hb:cZ s.heap b ms) (E:Value->Shared->Prop) (Q:Bool->Shared->Prop) (h:Q (lexLt ns ms) s):wpAny (model prog w) A (keyLt' (tuples' true) (.ref l) (.ref b)) Q E s:=by
 obtain ⟨items,n,dd,sl,ho,hi,_⟩:=hl
 obtain ⟨items2,n2,dd2,sl2,ho2,hi2,_⟩:=hb
 exact kR ho ho2 hi hi2 h
theorem t6 {a l b:Addr} {ns ms:List Int} {n:Nat} {P:Fin->Shared->Prop} (ho:s.heap.get? a=some (seqObj "list" #[.ref l,.ref b] n)) (hl:cZ s.heap l ns) (hb:cZ s.heap b ms)
   (h:P (.done (.ret .none)) { s with heap:=sortedHeap s.heap a [.ref l,.ref b] (if lexLt ms ns then #[.ref b,.ref l] else #[.ref l,.ref b]) }):wpAny (model prog w) A (Builtin.«list.sort» ⟨[.ref a],[]⟩) P E s:=by
 rw [list_sort_plain]
 have ha:a < s.heap.objs.size:=Heap.lt_size ho
 refine wpAny_bind (listItems_at ho rfl ?_)
 refine wpAny_bind (listUpdate_at ho rfl ?_)
 obtain ⟨e1,ho1⟩:∃ e1,(s.heap.update a (Obj.mapSeq λ_=>#[])).get? a=some (seqObj "list" #[] e1):=⟨_,get?_update_seq ho (λ_=>#[])⟩
 refine wpAny_bind (seqEpoch_at ho1 rfl ?_)
 refine wpAny_bind (wpAny_newTuple ?_)
 refine wpAny_bind (wpAny_newList ?_)
 refine wpAny_holding ?_
 have ho6:(((s.heap.update a (Obj.mapSeq λ_=>#[])).push (seqObj "tuple" #[.ref l,.ref b] 0)).push (seqObj "list" #[] 0)).get? a=some (seqObj "list" #[] e1):=by
   rw [Heap.get?_push_ne _ _ _ (by rw [size_push',Heap.size_update]; exact Nat.ne_of_lt (Nat.lt_succ_of_lt ha)),Heap.get?_push_ne _ _ _ (by rw [Heap.size_update]; exact Nat.ne_of_lt ha)]
   exact ho1
 have kp:∀ {c:Addr} {o:Obj},s.heap.get? c=some o->o.cls=.type "tuple" -> (((s.heap.update a (Obj.mapSeq λ_=>#[])).push (seqObj "tuple" #[.ref l,.ref b] 0)).push (seqObj "list" #[] 0)).get? c=some o:=λ{c o} z1 z2=>by
   have hc:c < s.heap.objs.size:=Heap.lt_size z1
   have ne:c ≠ a:=λe=>by rw [e,ho] at z1; cases z1; exact absurd z2 (by simp [seqObj])
   rw [Heap.get?_push_ne _ _ _ (by rw [size_push',Heap.size_update]; exact Nat.ne_of_lt (Nat.lt_succ_of_lt hc)),Heap.get?_push_ne _ _ _ (by rw [Heap.size_update]; exact Nat.ne_of_lt hc),Heap.get?_update_other _ _ (Ne.symm ne)]
   exact z1
 have kt:∀ {c:Addr} {ks:List Int},cZ s.heap c ks->cZ (((s.heap.update a (Obj.mapSeq λ_=>#[])).push (seqObj "tuple" #[.ref l,.ref b] 0)).push (seqObj "list" #[] 0)) c ks:=λ⟨items,n,dd,sl,ho,r⟩=>⟨items,n,dd,sl,kp ho rfl,r⟩
 show wpAny (model prog w) A _ P E { s with heap:=((s.heap.update a (Obj.mapSeq λ_=>#[])).push (seqObj "tuple" #[.ref l,.ref b] 0)).push (seqObj "list" #[] 0) }
 dsimp only
 have h2:¬ (#[Value.ref l,Value.ref b]:Array Value).size < 2:=by show ¬ 2 < 2; decide
 rw [if_neg h2,if_neg h2]
 refine wpAny_bind (t9 (kt hl) (kt hb) ?_)
 refine wpAny_bind (wpAny_mono (ug (x:=.ref l) (y:=.ref b) (p:=.ref l) (q:=.ref b) (b:=lexLt ms ns) (st:=SortSt.mk' (tuples' true) ((#[Value.ref l,Value.ref b]:Array Value).zip #[Value.ref l,Value.ref b]) #[] 7 none)
     (Q:=λ_ st'=>arrOf st'=(if lexLt ms ns then #[(Value.ref b,Value.ref b),(Value.ref l,Value.ref l)] else #[(Value.ref l,Value.ref l),(Value.ref b,Value.ref b)])/\failedOf st'=none) (by show (#[Value.ref l,Value.ref b]:Array Value).zip #[Value.ref l,Value.ref b]=_; simp) rfl rfl
     (λE Q q=>cZ.lt (s:={ s with heap:=((s.heap.update a (Obj.mapSeq λ_=>#[])).push (seqObj "tuple" #[.ref l,.ref b] 0)).push (seqObj "list" #[] 0) }) (kt hb) (kt hl) E Q q) λst' a1 a2=>⟨a1,a2⟩) ?_ λ_ _ e=>e)
 rintro ⟨⟨⟩,st'⟩ s' ⟨rfl,hA,hf⟩
 dsimp only
 have em:(arrOf st').map (·.2)=if lexLt ms ns then #[Value.ref b,Value.ref l] else #[Value.ref l,Value.ref b]:=by rw [hA]; split <;> simp
 refine wpAny_bind (seqEpoch_at ho6 rfl ?_)
 refine wpAny_bind (listUpdate_at ho6 rfl ?_ (hsz2:=by rw [em]; split <;> (show 2<=sizeLine + 1; decide)))
 rw [hf,em]
 simp only [bne_self_eq_false,Bool.false_eq_true,if_false]
 exact wpAny_pure h
theorem pM {c l b:Addr} {ns ms:List Int} {Q:Value->Shared->Prop} (hc:s.heap.IsList c #[.ref l,.ref b]) (hl:cZ s.heap l ns) (hb:cZ s.heap b ms)
   (h:Q (.ref (s.heap.objs.size + 1)) { s with heap:=sortedAll s.heap [.ref l,.ref b] (if lexLt ms ns then #[.ref b,.ref l] else #[.ref l,.ref b]) }):wpAny (model prog w) A (call (.builtin "sorted") [.ref c]) Q E s:=by
 refine Calls.call_function_entry kind_sorted plain_sorted entry_sorted (args_sorted1 _) ?_
 unfold Builtin.«sorted»
 refine wpAny_bind (m:=checkCount "sorted" 1 1 _) (wpAny_pure ?_)
 refine wpAny_bind (collect_list (vs:=[.ref l,.ref b]) hc ?_)
 refine wpAny_bind (wpAny_newList ?_)
 have hsz:((s.heap.push (seqObj "list" #[] 0)).update s.heap.objs.size (Obj.mapSeq (·++#[.ref l,.ref b]))).objs.size=s.heap.objs.size + 1:=by
   rw [Heap.size_update,size_push']
 have hoL:(((s.heap.push (seqObj "list" #[] 0)).update s.heap.objs.size (Obj.mapSeq (·++#[.ref l,.ref b]))).push (seqObj "list" #[.ref l,.ref b] 0)).get? (s.heap.objs.size + 1)=some (seqObj "list" #[.ref l,.ref b] 0):=by
   rw [<- hsz]; exact Heap.get?_push_size _ rfl
 have kp:∀ {d:Addr} {o:Obj},s.heap.get? d=some o->(((s.heap.push (seqObj "list" #[] 0)).update s.heap.objs.size (Obj.mapSeq (·++#[.ref l,.ref b]))).push (seqObj "list" #[.ref l,.ref b] 0)).get? d=some o:=λ{d o} z=>by
   have hd:d < s.heap.objs.size:=Heap.lt_size z
   rw [Heap.get?_push_ne _ _ _ (by rw [hsz]; exact Nat.ne_of_lt (Nat.lt_succ_of_lt hd)),Heap.get?_update_other _ _ (Nat.ne_of_gt hd),Heap.get?_push_ne _ _ _ (Nat.ne_of_lt hd)]
   exact z
 show wpAny _ _ _ _ _ { s with heap:=((s.heap.push (seqObj "list" #[] 0)).update s.heap.objs.size (Obj.mapSeq (·++#[.ref l,.ref b]))).push (seqObj "list" #[.ref l,.ref b] 0) }
 rw [hsz]
 refine wpAny_bind (wpAny_holding (wpAny_call_entry slot_list_sort ⟨_,hoL,rfl⟩ entry_list_sort (t6 hoL (hl.keep λ_=>kp) (hb.keep λ_=>kp) ⟨_,rfl,?_⟩) (args_list_sort _)))
 exact wpAny_pure ⟨_,rfl,h⟩
end
end Su
namespace Hy
open PySem PySem.Spec PyProof.Rows L2
open Ev (D Den ax aN aH aw aP aE)
section
variable {X:Cx} {C:Bool} {τ:List Sl} {x y z:D} {a b e:Expr} {es:List Expr} {pos p:Pos} {k:Nat} {s:Sl} {ds xs ys:List D} {i j:Int} {N:Po} {rest:List Stmt}
theorem pH:OpR X (binaryOp .Add) (λx y H Q=>∃ a b ys,x=.ref a/\y=.ref b/\SqT X.K H a []/\SqT X.K H b ys/\Q (.ref b) H):=by
 intro pins s σ H x y v u Q I rx ry h
 obtain ⟨a,b,ys,rfl,rfl,ha,hb,q⟩:=h
 cases rx
 cases ry
 obtain ⟨its,r1,p1,_⟩:=I.tuple ha
 obtain ⟨its2,r2,p2,_⟩:=I.tuple hb
 cases r1
 obtain ⟨⟨cls,dd,data,sl⟩,ho,hc,n,hd⟩:=id p1
 obtain ⟨⟨cls2,dd2,data2,sl2⟩,ho2,hc2,n2,hd2⟩:=id p2
 simp only at hc hd hc2 hd2
 subst hc hd hc2 hd2
 exact concat_meets ⟨_,ho,rfl⟩ ⟨_,ho2,rfl⟩ noFill_tuple_add seq_tuple_add PySem.F.slot_tuple_add PySem.F.entry_tuple_add (PySem.F.args_tuple_add_2 _ _) (tuple_addW0 a b _ _ n n2 dd dd2 sl sl2 (by simp)) ⟨ho,ho2,⟨.ref b,H,I,rfl,q⟩⟩
theorem r6 (hl:xs.length + ys.length < 1000000):bA X (binaryOp .Add) (.tup xs) (.tup ys) (.tup (xs++ys)):=by
 have lim:1000000<=sizeLine:=by decide
 cases xs with
 | nil=>exact ⟨_,pH,λM v w H Q _ d1 d2 k=>by
     cases d1 with
     | tup h1 r1=>
       cases r1
       cases d2 with
       | tup h2 r2=>exact ⟨_,_,_,rfl,rfl,aP aB h1,aP aB h2,k _ H (aj.refl _) (.tup h2 r2)⟩⟩
 | cons x0 xs=>exact ⟨_,pz,λM v w H Q hM d1 d2 k=>by
     cases d1 with
     | @tup a1 vs _ h1 r1=>
     cases d2 with
     | @tup a2 ws _ h2 r2=>
     have l1:=r1.length
     have l2:=r2.length
     refine ⟨_,_,_,_,rfl,rfl,aP aB h1,aP aB h2,λz=>by subst z; simp at l1,by omega,λz=>?_,λ_ p hp=>?_⟩
     · subst z
       cases r2
       rw [List.append_nil] at k
       exact k _ H (aj.refl _) (.tup h1 r1)
     · have e:=aw hp (.tup (vs++ws))
       exact k _ _ e (.tup (SqT.of (fX hM hp)) ((r1.append r2).mono (av e λ_ z=>z)))⟩
theorem sN:hJ X (.type "tuple") [.lst xs] (.d (.tup xs)):=⟨_,gZ,λM vs H Q hM d q=>by
 cases d with
 | cons d r=>
   cases r
   cases d with
   | @lst a us _ h r=>
     refine ⟨_,_,rfl,.inl ⟨aE aB h,λp hp=>?_⟩⟩
     have e:=aw hp (.tup us)
     exact q _ _ [] e cP (fM (.tup (SqT.of (fX hM hp)) (r.mono (av e λ_ z=>z))))⟩
theorem jU:∀ {ns:List Int} {us:List Value},Vals (ns.map V.int) us->IntsAre us ns
 | [],_,h=>by cases h; exact .nil
 | n :: ns,_,h=>by
   cases h with
   | cons rv rs=>
     obtain ⟨t,rfl⟩:=(show ∃ t,_=Value.int n t from rv)
     exact .cons n t (jU rs)
theorem tupI {pins:List (Addr × Obj)} {s:Shared} {σ:L2.St} {H:Hp} {l:Addr} {ns:List Int} (I:Inv X pins σ H s) (h:SqT X.K H l (ns.map V.int)) (h0:ns ≠ []):Su.cZ s.heap l ns:=by
 obtain ⟨its,r,pl,_⟩:=I.tuple h
 obtain ⟨⟨cls,dd,data,sl⟩,ho,hc,n,hd⟩:=pl
 simp only at hc hd
 subst hc hd
 exact ⟨its.toArray,n,dd,sl,ho,by simpa using jU r,h0⟩
theorem m6:dg X (.builtin "sorted") (λxs H Q=>∃ p l b ns ms,xs=[.ref p]/\SqL X.K H p [.ref l,.ref b]/\SqT X.K H l (ns.map V.int)/\SqT X.K H b (ms.map V.int)/\ns ≠ []/\ms ≠ []/\∀ q,H q=none->Q (.ref q) (upd H q (.lst (if HT.lexLt ms ns then [.ref b,.ref l] else [.ref l,.ref b])))):=by
 intro pins s σ H xs us Q I r q
 obtain ⟨p,l,b,ns,ms,rfl,hp,hl,hb,n0,m0,q⟩:=q
 obtain ⟨u,rfl,ru⟩:=vals1 r
 cases (show u=Value.ref _ from ru)
 obtain ⟨its,rv,pl,hz⟩:=I.list hp
 obtain rfl:its=[.ref l,.ref b]:=by
   cases rv with
   | cons r1 rv=>cases rv with
     | cons r2 rv=>
       cases rv
       cases (show _=Value.ref _ from r1)
       cases (show _=Value.ref _ from r2)
       rfl
 refine Su.pM pl.isList (tupI I hl n0) (tupI I hb m0) ?_
 obtain ⟨c,hc'⟩:=PyProof.Rows.sortedAll_at s.heap [.ref l,.ref b] (if HT.lexLt ms ns then #[Value.ref b,Value.ref l] else #[Value.ref l,Value.ref b])
 refine ⟨.ref (s.heap.objs.size + 1),upd H (s.heap.objs.size + 1) (.lst (if HT.lexLt ms ns then [.ref b,.ref l] else [.ref l,.ref b])),I.laid (t':=s.toks) (λb o z=>PyProof.Rows.sortedAll_old z) (Nat.le_succ _) (show bu X.prog X.w _ _ _ (.lst _) from ⟨?_,(if HT.lexLt ms ns then [Value.ref b,Value.ref l] else [Value.ref l,Value.ref b]),c,?_,?_⟩),rfl,q _ (I.hok.fresh (Nat.le_succ _))⟩
 · split <;> (show 2<=sizeLine; decide)
 · split <;> exact .cons rfl (.cons rfl .nil)
 · rw [hc']
   split <;> rfl
theorem tK {ns ms:List Int} (n0:ns ≠ []) (m0:ms ≠ []):hJ X (.builtin "sorted") [.lst [.tup (ns.map .int),.tup (ms.map .int)]] (.o (if HT.lexLt ms ns then [.tup (ms.map .int),.tup (ns.map .int)] else [.tup (ns.map .int),.tup (ms.map .int)])):=⟨_,m6,λM vs H Q _ d q=>by
 cases d with
 | cons d r=>
   cases r
   cases d with
   | lst h r=>
     cases r with
     | cons d1 r=>cases r with
       | cons d2 r=>
         cases r
         cases d1 with
         | tup h1 r1=>
         cases d2 with
         | tup h2 r2=>
         have e1:=bR r1
         have e2:=bR r2
         subst e1 e2
         refine ⟨_,_,_,ns,ms,rfl,aE aB h,aP aB h1,aP aB h2,n0,m0,λp hp=>?_⟩
         have d1:=Den.tup h1 r1
         have d2:=Den.tup h2 r2
         split
         · obtain ⟨z1,z2,z3⟩:=gd (K:=X.K) (M:=M) hp (ax.cons d2 (ax.cons d1 ax.nil))
           rename_i hc
           rw [if_pos hc] at q
           exact q _ _ [p] z1 z2 z3
         · obtain ⟨z1,z2,z3⟩:=gd (K:=X.K) (M:=M) hp (ax.cons d1 (ax.cons d2 ax.nil))
           rename_i hc
           rw [if_neg hc] at q
           exact q _ _ [p] z1 z2 z3⟩
end
section
variable {X:Cx} {C:Bool} {τ:List Sl} {x y z:D} {a b e:Expr} {es:List Expr} {pos p:Pos} {k:Nat} {s:Sl} {ds xs ys:List D} {N:Po} {rest:List Stmt}
theorem t5 (i:Nat) {n:Str} {ap cp:Pos} (he:PE X e (dE X.K true τ (.o ys))) (hl:xs.length + ys.length < 1000000) (hr:PSs X rest (dS X.K (τ.set i (.o (xs++ys))) N)) (hi:τ[i]?=some (.o xs):=by rfl) (hN:X.N[i]?=some n:=by rfl)
   (hv:Vis X.env.scope n:=by first | exact Or.inl rfl | exact Or.inr (Or.inl rfl) | exact Or.inr (Or.inr rfl)) (hd:(n == ("__debug__" : Str))=false:=by decide) (hcd:(n == ("__classdict__" : Str))=false:=by decide)
   (hfew:((backTo cp (starEach [e] X.env)).all (λx=>!x.1) && (backToKw cp (keywordEach [] X.env)).all (λx=>x.1.isSome) && decide (([e]:List Expr).length + ([]:List Keyword).length + (if ([]:List Keyword).isEmpty then 0 else 1) < 30))=true:=by rfl)
   (hline:(ap.endLine == cp.line)=true:=by rfl) (hst:starEach [e] X.env=(false,eval e X.env) :: starEach [] X.env:=by rfl) (hpl:(backTo cp (starEach [] X.env)).any (·.1)=false:=by rfl)
   (hs:swapsWith (.Call (.Attribute (.Name n p) "extend" ap) [e] [] cp) none pos.line X.env=pure false:=by rfl) (hbase:attributeBase (.Name n p) "extend" X.env (eval (.Name n p) X.env)=eval (.Name n p) X.env:=by rfl) :
   PSs X (.Expr (.Call (.Attribute (.Name n p) "extend" ap) [e] [] cp) pos :: rest) (dS X.K τ N):=
 bf (M:=(·=τ.set i (.o (xs++ys)))) (psW (fV (qU PySem.F.plainAttrs_list PySem.F.slot_list_extend PySem.F.type_list_extend m4 (cv hN hv hd hcd) (d9 he i0 hst) hbase hfew hline hst hpl) hs) λD σ H ⟨A,H₀,B,S,Me⟩=>by
   obtain ⟨l,vs,hb,e1,e2,d⟩:=S.sl i _ hi
   refine ⟨_,slot_of e1,.inl ⟨rfl,_,SqL.of e2⟩,A,H₀,B,S,λv H1 bs e3 fr ⟨l2,ws,eb,ev,h2,d2⟩=>?_⟩
   cases ev
   have lim:1000000<=sizeLine:=by decide
   refine ⟨l,l2,vs,ws,rfl,rfl,e3 _ _ e2,h2,by rw [d.length,d2.length]; omega,?_⟩
   exact Me.nx _ _ _ _ rfl ((S.mono e3).put hi hb ((d.mono (av e3 λ_ z=>z)).append (d2.mono (av (aj.refl _) λ_ z=>.inl z))))) λ_ e=>e ▸ hr
theorem mw {K:PySem.W.Frag} {H:Hp}:∀ {vs:List V} {ds:List D},ax K H vs ds->ax K H vs.reverse ds.reverse
 | _,_,.nil=>.nil
 | _,_,.cons h r=>by rw [List.reverse_cons,List.reverse_cons]; exact (mw r).append (.cons h .nil)
theorem rA (i:Nat) {n:Str} {ap cp:Pos} (hr:PSs X rest (dS X.K (τ.set i (.o xs.reverse)) N)) (hi:τ[i]?=some (.o xs):=by rfl) (hN:X.N[i]?=some n:=by rfl)
   (hv:Vis X.env.scope n:=by first | exact Or.inl rfl | exact Or.inr (Or.inl rfl) | exact Or.inr (Or.inr rfl)) (hd:(n == ("__debug__" : Str))=false:=by decide) (hcd:(n == ("__classdict__" : Str))=false:=by decide)
   (hline:(ap.endLine == cp.line)=true:=by rfl)
   (hs:swapsWith (.Call (.Attribute (.Name n p) "reverse" ap) [] [] cp) none pos.line X.env=pure false:=by rfl) (hbase:attributeBase (.Name n p) "reverse" X.env (eval (.Name n p) X.env)=eval (.Name n p) X.env:=by rfl) :
   PSs X (.Expr (.Call (.Attribute (.Name n p) "reverse" ap) [] [] cp) pos :: rest) (dS X.K τ N):=
 bf (M:=(·=τ.set i (.o xs.reverse))) (psW (fV (tH PySem.F.plainAttrs_list PySem.F.slot_list_reverse PySem.F.type_list_reverse kP (cv hN hv hd hcd) hbase hline) hs) λD σ H ⟨A,H₀,B,S,Me⟩=>by
   obtain ⟨l,vs,hb,e1,e2,d⟩:=S.sl i _ hi
   exact ⟨_,slot_of e1,.inl ⟨rfl,_,SqL.of e2⟩,l,vs,rfl,rfl,e2,Me.nx _ _ _ _ rfl (S.put hi hb (mw d))⟩) λ_ e=>e ▸ hr
end
end Hy
namespace L2
open PySem PySem.Spec PyProof.Rows
section
variable {κ:Type} [DecidableEq κ]
noncomputable def jr (kvs:List (κ × V)) (k:κ):Option V:=(kvs.find? λkv=>decide (kv.1=k)).map (·.2)
noncomputable def putK (kvs:List (κ × V)) (k:κ) (v:V):List (κ × V):=
 if (kvs.any λkv=>decide (kv.1=k))=true then kvs.map (λkv=>if kv.1=k then (kv.1,v) else kv) else kvs++[(k,v)]
theorem ko {p:κ × V} {r:List (κ × V)} {k:κ} (e:p.1=k):jr (p :: r) k=some p.2:=by simp [jr,List.find?_cons,e]
theorem kr {p:κ × V} {r:List (κ × V)} {k:κ} (e:¬ p.1=k):jr (p :: r) k=jr r k:=by simp [jr,List.find?_cons,e]
theorem KV.val {kvs:List (κ × V)} {vs:List (κ × Value)} (r:KV kvs vs) (k:κ):mU (jr kvs k) (valueAt vs k):=by
 unfold KV at r
 induction r with
 | nil=>exact True.intro
 | @cons p q ps qs h t ih=>
   obtain ⟨h1,h2⟩:=h
   by_cases e:p.1=k
   · have e':q.1=k:=h1.symm.trans e
     have b:valueAt (q :: qs) k=some q.2:=by simp [valueAt,List.find?_cons,e']
     rw [ko e,b]; exact h2
   · have e':¬ q.1=k:=λz=>e (h1.trans z)
     have b:valueAt (q :: qs) k=valueAt qs k:=by simp [valueAt,List.find?_cons,e']
     rw [kr e,b]; exact ih
theorem KV.any {kvs:List (κ × V)} {vs:List (κ × Value)} (r:KV kvs vs) (k:κ):(kvs.any λkv=>decide (kv.1=k))=vs.any λkv=>decide (kv.1=k):=by
 unfold KV at r
 induction r with
 | nil=>rfl
 | cons h t ih=>rw [List.any_cons,List.any_cons,ih,h.1]
end
noncomputable abbrev KT (H:Hp):List (List Key × V)->List (List Key × Addr × Value)->Prop:=Paired λp q=>p.1=q.1/\H q.2.1=some (.tup (p.1.map kV))/\RelV p.2 q.2.2
theorem KT.val {H:Hp} {kvs:List (List Key × V)} {xs:List (List Key × Addr × Value)} (r:KT H kvs xs) (k:List Key):mU (jr kvs k) ((atKey xs k).map (·.2)):=by
 induction r with
 | nil=>exact True.intro
 | @cons p q ps qs h t ih=>
   obtain ⟨h1,_,h2⟩:=h
   by_cases e:p.1=k
   · have e':q.1=k:=h1.symm.trans e
     have b:atKey (q :: qs) k=some q.2:=by simp [atKey,List.find?_cons,e']
     rw [ko e,b]; exact h2
   · have e':¬ q.1=k:=λz=>e (h1.trans z)
     have b:atKey (q :: qs) k=atKey qs k:=by simp [atKey,List.find?_cons,e']
     rw [kr e,b]; exact ih
theorem KT.keeps {H H':Hp} {kvs:List (List Key × V)} {xs:List (List Key × Addr × Value)} (r:KT H kvs xs) (ht:∀ b ys,H b=some (.tup ys)->H' b=some (.tup ys)):KT H' kvs xs:=
 Paired.so r λ_ _ z=>⟨z.1,ht _ _ z.2.1,z.2.2⟩
section
variable {P:Program} {w:World} {H:Hp} {h:Heap} {a:Addr}
end
noncomputable def tY (H:Hp) (a:Addr) (y:V) (r:Option V):Prop:=∃ kvs k,Rd H a (.dK kvs)/\y=kV k/\r=jr kvs k
noncomputable def uY (H:Hp) (a:Addr) (y v:V) (H':Hp):Prop:=∃ kvs k,H a=some (.dK kvs)/\y=kV k/\kvs.length < sizeLine/\H'=upd H a (.dK (putK kvs k v))
theorem tY.k {H:Hp} {a:Addr} {kvs:List (Key × V)} {k:Key} (e:H a=some (.dK kvs)):tY H a (kV k) (jr kvs k):=⟨kvs,k,.inl e,rfl,rfl⟩
theorem uY.k {H:Hp} {a:Addr} {kvs:List (Key × V)} {k:Key} {v:V} (e:H a=some (.dK kvs)) (hl:kvs.length < sizeLine):uY H a (kV k) v (upd H a (.dK (putK kvs k v))):=⟨kvs,k,e,rfl,hl,rfl⟩
section
variable {X:Cx} {pins:List (Addr × Obj)} {σ:St} {H:Hp} {s:Shared} {a:Addr} {y v:V} {u r:Value} {o:Option V} {A:Around} {E:Value->Shared->Prop}
theorem Inv.big (I:Inv X pins σ H s):sysModules < s.heap.objs.size:=by
 have h:mainGlobals < s.heap.objs.size:=(I.mod.glob.keeps I.bk).lt
 exact Nat.lt_trans (by decide) h
theorem lH {h':Heap} {t':Nat} {ob:HO} (I:Inv X pins σ H s) (mu:Mut (H a)) (hs:Heap.SameBut a s.heap h') (he:∃ q,h'.get? a=some q) (new:bu X.prog X.w (upd H a ob) h' a ob) :
   Inv X pins σ (upd H a ob) { s with heap:=h',toks:=t' }:=
 I.write (x:=a) (e:=a) mu (.inl rfl) (λb q hb z=>(hs.2 b hb).trans z) he new
end
section
variable {X:Cx} {pins:List (Addr × Obj)} {σ:St} {H:Hp} {s:Shared} {a:Addr} {kvs:List (Key × V)} {k:Key} {u:Value} {A:Around} {E:Value->Shared->Prop}
end
noncomputable def u7 (i:Expr):Prop:=∀ ov iv,subscripted i false ov iv=operate [ov,iv] (getItem ov iv)
theorem pI {prog:Program} {w:World} {A:Around} {E:Value->Shared->Prop} {s:Shared} {env:Env} {value slice:Expr} {pos:Pos} {T id:String} {Q:Value->Shared->Prop}
   (hl:typeLookup (.type T) "__getitem__" = pure (some (.builtin id))) (hs:u7 slice)
   (h:wpAny (model prog w) A (eval value env) (λo s₁=>wpAny (model prog w) A (eval slice env) (λi s₂=>s₂.TypeIs o T/\wpAny (model prog w) A (getItem o i) Q E s₂) E s₁) E s) :
   wpAny (model prog w) A (eval (.Subscript value slice pos) env) Q E s:=by
 refine Subscript_ (wpAny_mono h (λo s₁ h₁=>wpAny_mono h₁ (λi s₂ h₂=>?_) λ_ _ x=>x) λ_ _ x=>x)
 obtain ⟨hT,h₂⟩:=h₂
 unfold subscriptTail
 refine wpAny_bind ?_
 rw [getitemInPython_of_ne hT.not_modules]
 refine wpAny_bind (wpAny_specialOf hT hl ?_)
 have fin:wpAny (model prog w) A (subscripted slice false o i) (λr s₃=>wpAny (model prog w) A (letTemporaryGo value o r >>= λ_=>pure r) Q E s₃) E s₂:=by
   rw [hs o i]
   exact wpAny_operating (wpAny_mono h₂ (λr s₃ h₃=>wpAny_bind (wpAny_letTemporaryGo (wpAny_pure h₃))) λ_ _ x=>x)
 first
   | exact wpAny_pure (wpAny_bind fin)
   | exact wpAny_bind (wpAny_pure (wpAny_bind fin))
   | exact wpAny_bind fin
section
variable {X:Cx} {o i e value:Expr} {pos pos' tpos:Pos} {td ty tv:TE}
end
section
variable {X:Cx} {pos:Pos}
end
structure M2 (X:Cx) (o:Expr) (m:Str) (apos:Pos) (e f:Expr) (cpos:Pos):Prop where
 base:attributeBase o m X.env (eval o X.env)=eval o X.env
 few:((backTo cpos (starEach [e,f] X.env)).all (λx=>!x.1) && (backToKw cpos (keywordEach [] X.env)).all (λx=>x.1.isSome)
   && decide (([e,f]:List Expr).length + ([]:List Keyword).length + (if ([]:List Keyword).isEmpty then 0 else 1) < 30))=true
 line:(apos.endLine == cpos.line)=true
 trees:backTo cpos (starEach [e,f] X.env)=[(false,eval e X.env),(false,eval f X.env)]
section
variable {X:Cx} {pins:List (Addr × Obj)} {σ:St} {H:Hp} {s:Shared} {a:Addr} {y d:V} {u r:Value} {o:Option V} {A:Around} {E:Value->Shared->Prop}
end
section
variable {X:Cx} {o e f:Expr} {apos cpos:Pos} {td ty tx:TE}
end
end L2
namespace L2
open PySem PySem.Spec PyProof.Rows PySem.SeqAt
section
variable {P:Program} {w:World} {A:Around} {E:Value->Shared->Prop} {s:Shared}
noncomputable def HK (P:Program) (w:World) (A:Around) (h:Heap) (v:Value) (x:Int) (d:Nat):Prop:=
 ∀ (s:Shared) (E:Value->Shared->Prop) (Q:Int->Shared->Prop),s.heap=h->Q x { s with toks:=s.toks + d }->wpAny (model P w) A (pyHash v) Q E s
end
noncomputable abbrev vq:=Int × Int × Bool
noncomputable def isN (h:Heap) (k:vq) (a:Addr):Prop:=∃ t c t',IsTup h a #[.int k.1 t,.ref c]/\IsTup h c #[.int k.2.1 t',.bool k.2.2]
theorem fR {h:Heap} {a:Addr} {x y:Array Value} (p:IsTup h a x) (q:IsTup h a y):x=y:=by
 obtain ⟨o,ho,_,n,hd⟩:=p
 obtain ⟨o',ho',_,n',hd'⟩:=q
 rw [ho] at ho'; cases ho'
 rw [hd] at hd'; cases hd'; rfl
theorem isN.inj {h:Heap} {a:Addr} {x y:vq} (p:isN h x a) (q:isN h y a):x=y:=by
 obtain ⟨t,c,t',h1,h2⟩:=p
 obtain ⟨u,d,u',g1,g2⟩:=q
 have e:=fR h1 g1
 simp only [Array.mk.injEq,List.cons.injEq,Value.int.injEq,Value.ref.injEq,and_true] at e
 obtain ⟨⟨e1,_⟩,rfl⟩:=e
 have e:=fR h2 g2
 simp only [Array.mk.injEq,List.cons.injEq,Value.int.injEq,Value.bool.injEq,and_true] at e
 obtain ⟨⟨e2,_⟩,e3⟩:=e
 obtain ⟨_,_,_⟩:=x
 obtain ⟨_,_,_⟩:=y
 simp_all
theorem qk {h h':Heap} {a d:Addr} {x:Array Value} {o:Obj} {es ep} (p:IsTup h a x) (ho:h.get? d=some o) (hd:o.data=.dict es ep) (hs:Heap.SameBut d h h'):IsTup h' a x:=by
 obtain ⟨o',ho',hc,n,hd'⟩:=p
 have hne:a ≠ d:=by
   rintro rfl
   rw [ho] at ho'; cases ho'
   rw [hd] at hd'; exact nomatch hd'
 exact ⟨o',(hs.2 a hne).trans ho',hc,n,hd'⟩
structure IK (P:Program) (w:World) (K:Type) [DecidableEq K] where
 is:Heap->K->Value->Prop
 hash:K->Int
 draws:K->Nat
 dep:Nat
 inj:∀ {h:Heap} {v:Value} {x y:K},is h x v->is h y v->x=y
 keeps:∀ {h h':Heap} {k:K} {v:Value} {d:Addr} {o:Obj} {es ep},is h k v->h.get? d=some o->o.data=.dict es ep->Heap.SameBut d h h'->is h' k v
 hk:∀ {A:Around} {h:Heap} {k:K} {v:Value},is h k v->A.units + dep < cLine->HK P w A h v (hash k) (draws k)
 eq:∀ {A:Around} {s:Shared} {x y:K} {u v:Value},is s.heap x u->is s.heap y v->A.units + dep < cLine->EqAt A s u v (decide (x=y))
 quiet:∀ {s:Shared} {k:K} {v:Value} {n:Nat},dep < n->is s.heap k v->∀ A E Q,Q true s->wpAny (model P w) A (eqIsQuiet n v) Q E s
section
variable {P:Program} {w:World}
noncomputable def uF:IK P w Int where
 is:=λ_ k v=>∃ t,v=.int k t
 hash:=hashInt
 draws:=λ_=>1
 dep:=0
 inj:=λ⟨_,e⟩ ⟨_,g⟩=>by rw [e] at g; cases g; rfl
 keeps:=λh _ _ _=>h
 hk:=λ⟨_,e⟩ _ s E Q _ hq=>by rw [e]; exact wpAny_pyHash_int hq
 eq:=λ{A s x y u v} ⟨_,e⟩ ⟨_,g⟩ _=>by
   rw [e,g]
   have:decide (x=y)=(x == y):=by by_cases h:x=y <;> simp [h]
   rw [this]
   exact .int_int _ _ _ _
 quiet:=λ{s k v n} hn ⟨_,e⟩ A E Q q=>by
   obtain ⟨m,rfl⟩:∃ m,n=m + 1:=⟨n - 1,by omega⟩
   rw [e]
   exact wpAny_pure q
variable {K K':Type} [DecidableEq K] [DecidableEq K']
noncomputable def kindOf (a:IK P w K) (hd:a.dep<=7):HeapKind P w K where
 is:=λh k p=>a.is h k (.ref p)
 hash:=a.hash
 draws:=a.draws
 room:=λA=>A.units + 8 < cLine
 inj:=a.inj
 keeps:=a.keeps
 pyHash:=λ{A E s k p Q} hu hk h=>a.hk hk (by omega) s E Q rfl h
 eqBool:=λ{A E s x y p p' Q} hu hx hy h=>a.eq hx hy (by omega) _ _ _ _ h
 quiet:=λ{A E s k p Q} hk h=>a.quiet (by omega) hk A E Q h
end
inductive b0 {K:Type} (R:K->Value->Prop):List K->List Value->Prop where
 | nil:b0 R [] []
 | cons {x:K} {v:Value} {xs:List K} {vs:List Value} (h:R x v) (r:b0 R xs vs):b0 R (x :: xs) (v :: vs)
section
variable {K:Type}
theorem b0.mono {R S:K->Value->Prop} (f:∀ x v,R x v->S x v):∀ {xs:List K} {vs:List Value},b0 R xs vs->b0 S xs vs
 | _,_,.nil=>.nil
 | _,_,.cons h r=>.cons (f _ _ h) (r.mono f)
theorem b0.inj {R:K->Value->Prop} (f:∀ x y v,R x v->R y v->x=y):∀ {xs ys:List K} {vs:List Value},b0 R xs vs->b0 R ys vs->xs=ys
 | _,_,_,.nil,.nil=>rfl
 | _,_,_,.cons h r,.cons g q=>by rw [f _ _ _ h g,r.inj f q]
theorem b0.length {R:K->Value->Prop}:∀ {xs:List K} {vs:List Value},b0 R xs vs->xs.length=vs.length
 | _,_,.nil=>rfl
 | _,_,.cons _ r=>congrArg (· + 1) r.length
theorem b0.at {R:K->Value->Prop}:∀ {xs:List K} {vs:List Value},b0 R xs vs->∀ (j:Nat) (h1:j < xs.length) (h2:j < vs.length),R xs[j] vs[j]
 | _,_,.nil,_,h1,_=>absurd h1 (Nat.not_lt_zero _)
 | _,_,.cons h _,0,_,_=>h
 | _,_,.cons _ r,j + 1,h1,h2=>r.at j (Nat.lt_of_succ_lt_succ h1) (Nat.lt_of_succ_lt_succ h2)
theorem b0.mem {R:K->Value->Prop}:∀ {xs:List K} {vs:List Value},b0 R xs vs->∀ v ∈ vs,∃ x,R x v
 | _,_,.nil,_,h=>nomatch h
 | _,_,.cons h r,v,hv=>(List.mem_cons.mp hv).elim (λz=>⟨_,z ▸ h⟩) (r.mem v)
theorem all_eq [DecidableEq K] {xs ys:List K}:((List.range (min xs.length ys.length)).all (λj=>decide (xs[j]?=ys[j]?)) && xs.length == ys.length)=decide (xs=ys):=by
 rw [Bool.eq_iff_iff]
 simp only [Bool.and_eq_true,List.all_eq_true,List.mem_range,decide_eq_true_eq,beq_iff_eq]
 constructor
 · rintro ⟨h1,h2⟩
   refine List.ext_getElem? λj=>?_
   by_cases hj:j < xs.length
   · exact h1 j (by omega)
   · rw [List.getElem?_eq_none (by omega),List.getElem?_eq_none (by omega)]
 · rintro rfl
   exact ⟨λ_ _=>rfl,rfl⟩
end
section
variable {P:Program} {w:World} {K:Type} [DecidableEq K]
theorem mW {a:IK P w K} {A:Around} {E:Value->Shared->Prop} {s:Shared} {p:Addr} {its:List Value} {xs:List K} {Q:Int->Shared->Prop} (hu:A.units + (a.dep + 1) < cLine) (hk:IsTup s.heap p its.toArray) (hs:b0 (a.is s.heap) xs its)
   (h:Q (reduceHash (Builtin.Tuple.tupleHashOf (xs.map a.hash))) { s with toks:=s.toks + ((xs.map a.draws).sum + 1) }):wpAny (model P w) A (pyHash (.ref p)) Q E s:=by
 obtain ⟨o,ho,hc,k,hd⟩:=hk
 have hT:s.TypeIs (.ref p) "tuple":=⟨o,ho,hc⟩
 unfold pyHash
 refine wpAny_bind (wpAny_cRoomFor_or (.inr (by omega)) ?_)
 refine wpAny_bind (wpAny_specialOf hT F.slot_tuple_hash.lookup ?_)
 show wpAny _ _ (if (some (Value.builtin "tuple.__hash__") == some Value.none)=true then _ else _) Q E s
 rw [if_neg (by rw [beq_builtin_none]; exact Bool.false_ne_true)]
 refine wpAny_bind (wpAny_specialOf hT F.slot_tuple_hash.lookup ?_)
 show wpAny _ _ (callSpecialIfBoundUnlessNone? (.ref p) "__hash__" _ >>= _) Q E s
 refine wpAny_bind (wpAny_callSpecialIfBoundUnlessNone?_slot hT F.slot_tuple_hash (wpAny_call_entry F.slot_tuple_hash hT F.entry_tuple_hash ?_ (F.args_tuple_hash_1 _)))
 show wpAny _ _ (Builtin.Tuple.tupleItemsOf (.ref p) >>= _) _ _ s
 refine wpAny_bind (wpAny_tupleItemsOf ho hd ?_)
 refine wpAny_bind ?_
 rw [<- Array.forIn_toList]
 refine wpAny_forIn_list _
   (λrest (b:Array Int) s'=>∃ (ks:List K) (n:Nat),b0 (a.is s.heap) ks rest/\b.toList++ks.map a.hash=xs.map a.hash/\n + (ks.map a.draws).sum=(xs.map a.draws).sum/\s'={ s with toks:=s.toks + n })
   _ ?_ ?_ _ _ ⟨xs,0,hs,rfl,by omega,rfl⟩
 · rintro z rest b s' ⟨ks,n,hr,e1,e2,rfl⟩
   cases hr with
   | @cons x _ ks' _ hx hr=>
     refine wpAny_bind (a.hk hx (show A.units + 1 + a.dep < cLine by omega) _ _ _ rfl ?_)
     refine wpAny_pure ⟨ks',n + a.draws x,hr,?_,?_,by simp [Nat.add_assoc]⟩
     · simpa using e1
     · rw [List.map_cons,List.sum_cons] at e2
       omega
 · rintro b s' ⟨ks,n,hr,e1,e2,rfl⟩
   cases hr
   rw [List.map_nil,List.append_nil] at e1
   rw [List.map_nil,List.sum_nil,Nat.add_zero] at e2
   subst e2
   show wpAny _ _ (retInt (Builtin.Tuple.tupleHashOf b.toList)) _ _ _
   rw [e1]
   refine wpAny_ret_mkInt ?_
   show wpAny _ _ (if (decide (-(2:Int) ^ 63<=Builtin.Tuple.tupleHashOf (xs.map a.hash)) && decide (Builtin.Tuple.tupleHashOf (xs.map a.hash) < 2 ^ 63))=true then _ else _) Q E _
   unfold reduceHash at h
   by_cases hr:(decide (-(2:Int) ^ 63<=Builtin.Tuple.tupleHashOf (xs.map a.hash)) && decide (Builtin.Tuple.tupleHashOf (xs.map a.hash) < 2 ^ 63))=true
   · rw [if_pos hr]
     rw [if_pos hr] at h
     exact wpAny_pure (by simpa [Nat.add_assoc] using h)
   · rw [if_neg hr]
     rw [if_neg hr] at h
     exact wpAny_bind (wpAny_rule (wpAny_pure (by simpa [Nat.add_assoc] using h)))
theorem lg {A:Around} {E:Value->Shared->Prop} {s:Shared} {p:Addr} {its:List Value} {n:Nat} {Q:Bool->Shared->Prop} (hk:IsTup s.heap p its.toArray) (h1:∀ z ∈ its,∀ A E Q,Q true s->wpAny (model P w) A (eqIsQuiet n z) Q E s) (h:Q true s) :
   wpAny (model P w) A (eqIsQuiet (n + 1) (.ref p)) Q E s:=by
 obtain ⟨o,ho,hc,k,hd⟩:=hk
 have hT:s.TypeIs (.ref p) "tuple":=⟨o,ho,hc⟩
 unfold eqIsQuiet
 refine wpAny_bind (wpAny_specialOf hT F.slot_tuple_eq.lookup ?_)
 show wpAny _ _ (isInstance (.ref p) (.type "tuple") >>= _) _ _ s
 refine wpAny_bind (wpAny_isInstance hT isSubtype_tuple_tuple ?_)
 simp only [Bool.not_true,Bool.false_eq_true,if_false]
 refine wpAny_bind (wpAny_seqItems ho hd ?_)
 refine wpAny_bind ?_
 show wpAny _ _ (forIn its.toArray _ _) _ _ s
 rw [<- Array.forIn_toList]
 refine wpAny_forIn_list _ (λrest r s'=>r.1=none/\s'=s/\∀ z ∈ rest,z ∈ its) _ ?_ ?_ _ _ ⟨rfl,rfl,λz hz=>by simpa using hz⟩
 · rintro z rest r s' ⟨hr,rfl,hall⟩
   refine wpAny_bind (h1 z (hall z List.mem_cons_self) _ _ _ ?_)
   simp only [Bool.not_true,Bool.false_eq_true,if_false]
   exact wpAny_pure ⟨rfl,rfl,λx hx=>hall x (List.mem_cons_of_mem _ hx)⟩
 · rintro ⟨r1,r2⟩ s' ⟨hr,rfl,_⟩
   simp only at hr
   subst hr
   exact wpAny_pure h
noncomputable def sH (a:IK P w K):IK P w (List K) where
 is:=λh ks v=>∃ p its,v=.ref p/\IsTup h p its.toArray/\b0 (a.is h) ks its
 hash:=λks=>reduceHash (Builtin.Tuple.tupleHashOf (ks.map a.hash))
 draws:=λks=>(ks.map a.draws).sum + 1
 dep:=a.dep + 1
 inj:=λ{h v x y} ⟨p,its,e,t,r⟩ ⟨p',its',e',t',r'⟩=>by
   rw [e] at e'
   cases e'
   have q:its=its':=congrArg Array.toList (fR t t')
   subst q
   exact b0.inj (R:=a.is h) (λ_ _ _ z1 z2=>a.inj z1 z2) r r'
 keeps:=λ⟨p,its,e,t,r⟩ ho hd hs=>⟨p,its,e,qk t ho hd hs,r.mono λ_ _ z=>a.keeps z ho hd hs⟩
 hk:=λ{A h k v} ⟨p,its,e,t,r⟩ hu s E Q eh hq=>by
   rw [e]
   subst eh
   exact mW hu t r hq
 eq:=λ{A s x y u v} hx hy hu=>by
   obtain ⟨p,its,e,t,r⟩:=id hx
   obtain ⟨p',its',e',t',r'⟩:=id hy
   rw [e,e']
   by_cases z:p=p'
   · subst z
     have q:its=its':=congrArg Array.toList (fR t t')
     subst q
     rw [decide_eq_true (b0.inj (R:=a.is s.heap) (λ_ _ _ z1 z2=>a.inj z1 z2) r r')]
     exact .same _
   · have:=EqAt.of_refs z (RcAt.tuples (e:=λj=>decide (x[j]?=y[j]?)) t t' (show A.units < cLine by omega) λj j1 j2=>by
       have l1:j < x.length:=by rw [r.length]; simpa using j1
       have l2:j < y.length:=by rw [r'.length]; simpa using j2
       rw [List.getElem?_eq_getElem l1,List.getElem?_eq_getElem l2]
       have:=a.eq (A:=A.in1) (r.at j l1 (by simpa using j1)) (r'.at j l2 (by simpa using j2)) (show A.units + 1 + a.dep < cLine by omega)
       simpa using this)
     have el:(its.toArray.size,its'.toArray.size)=(x.length,y.length):=by rw [r.length,r'.length]; simp
     have e1:its.toArray.size=x.length:=congrArg Prod.fst el
     have e2:its'.toArray.size=y.length:=congrArg Prod.snd el
     rw [e1,e2,all_eq] at this
     exact this
 quiet:=λ{s k v n} hn ⟨p,its,e,t,r⟩ A E Q q=>by
   obtain ⟨m,rfl⟩:∃ m,n=m + 1:=⟨n - 1,by omega⟩
   rw [e]
   refine lg t (λz hz=>?_) q
   obtain ⟨x,hx⟩:=r.mem z hz
   exact a.quiet (by omega) hx
end
end L2
namespace Ev
open PySem PySem.Spec PyProof.Rows L2
structure KD (K:Type) [DecidableEq K] where
 ik:∀ (P:Program) (w:World),IK P w K
 dep:Nat
 dep_ok:∀ P w,(ik P w).dep=dep
 toD:K->D
 den:∀ {X:Cx} {pins:List (Addr × Obj)} {σ:L2.St} {H:Hp} {s:Shared} {v:V} {u:Value} {k:K},Inv X pins σ H s->Den X.K H v (toD k)->RelV v u->(ik X.prog X.w).is s.heap k u
noncomputable def cI:KD Int where
 ik:=λ_ _=>uF
 dep:=0
 dep_ok:=λ_ _=>rfl
 toD:=.int
 den:=λ_ d r=>by cases d; exact r
section
variable {K K':Type} [DecidableEq K] [DecidableEq K']
theorem jK (a:KD K) {X:Cx} {pins:List (Addr × Obj)} {σ:L2.St} {H:Hp} {s:Shared} (I:Inv X pins σ H s):∀ {ks:List K} {vs:List V} {us:List Value},ax X.K H vs (ks.map a.toD)->Vals vs us->b0 ((a.ik X.prog X.w).is s.heap) ks us
 | [],_,_,.nil,.nil=>.nil
 | _ :: _,_,_,.cons d r,.cons q t=>.cons (a.den I d q) (jK a I r t)
noncomputable def bD (a:KD K):KD (List K) where
 ik:=λP w=>sH (a.ik P w)
 dep:=a.dep + 1
 dep_ok:=λP w=>by show (a.ik P w).dep + 1=_; rw [a.dep_ok]
 toD:=λks=>.tup (ks.map a.toD)
 den:=λ{X pins σ H s v u k} I d r=>by
   generalize e:D.tup (k.map a.toD)=x at d
   cases d with
   | tup h q=>
     cases e
     cases (show u=Value.ref _ from r)
     obtain ⟨its,rv,t,_⟩:=I.tuple h
     exact ⟨_,its,rfl,t,jK a I q rv⟩
   | _=>cases e
noncomputable abbrev NEs (K:Type):=List (K × Addr × Value)
noncomputable def kd (a:KD K) (hd:a.dep<=7) (P:Program) (w:World):HeapKind P w K:=kindOf (a.ik P w) (by rw [a.dep_ok]; exact hd)
variable {a:KD K} {hd:a.dep<=7}
noncomputable def dNk (a:KD K) (hd:a.dep<=7) (P:Program) (w:World) (p:Addr) (xs:NEs K):HO:=.ext λh=>(p == sysModules)=false/\∃ o es ep,h.get? p=some o/\o.ExactDict/\o.data=.dict es ep/\es.toList=xs.map (entryOfKey (kd a hd P w))/\(xs.map (·.1)).Nodup
structure cH (a:KD K) (hd:a.dep<=7) (P:Program) (w:World) (F:PySem.W.Frag) (H:Hp) (d:Addr) (xs:NEs K):Prop where
 at_:H d=some (dNk a hd P w d xs)
 key:∀ x ∈ xs,Den F H (.ref x.2.1) (a.toD x.1)
variable {X:Cx} {pins:List (Addr × Obj)} {σ:L2.St} {H:Hp} {s:Shared} {d b:Addr} {xs:NEs K} {k:K} {A:Around} {E:Value->Shared->Prop}
theorem key_is (I:Inv X pins σ H s) (q:Den X.K H (.ref b) (a.toD k)):(kd a hd X.prog X.w).is s.heap k b:=a.den I q rfl
theorem gU (I:Inv X pins σ H s) (D:cH a hd X.prog X.w X.K H d xs):(d == sysModules)=false/\s.heap.DictOfH (kd a hd X.prog X.w) d xs:=by
 obtain ⟨⟨h0,o,es,ep,h1,h2,h3,h4,h5⟩,_⟩:=(show bu X.prog X.w H s.heap d (dNk a hd X.prog X.w d xs) from I.hok d _ D.at_)
 exact ⟨h0,o,es,ep,h1,h2,h3,h4,λx hx=>key_is I (D.key x hx),h5⟩
noncomputable def va (a:KD K) (hd:a.dep<=7) (P:Program) (w:World) (F:PySem.W.Frag) (td ty:TE):TE:=λσ H Q=>td σ H λx H1=>ty σ H1 λy H2=>∃ d b k xs p v,x=.ref d/\y=.ref b/\cH a hd P w F H2 d xs/\Den F H2 (.ref b) (a.toD k)/\atKey xs k=some p/\RelV v p.2/\Q v H2
noncomputable def uK (a:KD K) (hd:a.dep<=7) (P:Program) (w:World) (F:PySem.W.Frag) (ty td:TE):TE:=λσ H Q=>ty σ H λy H1=>td σ H1 λx H2=>∃ d b k xs,x=.ref d/\y=.ref b/\cH a hd P w F H2 d xs/\Den F H2 (.ref b) (a.toD k)/\Q (.bl (!(atKey xs k).isSome)) H2
noncomputable def t4 (a:KD K) (hd:a.dep<=7) (P:Program) (w:World) (F:PySem.W.Frag) (td ty tv:TE):TS:=λD σ H=>tv σ H λv H1=>td σ H1 λx H2=>ty σ H2 λy H3=>∃ d b k xs,x=.ref d/\y=.ref b/\cH a hd P w F H3 d xs/\Den F H3 (.ref b) (a.toD k)/\xs.length<=sizeLine/\∀ u,RelV v u->D.nx σ (upd H3 d (dNk a hd P w d (storedH xs k b u)))
noncomputable def uN (a:KD K) (hd:a.dep<=7) (P:Program) (w:World):TE:=λ_ H Q=>∀ p,H p=none->Q (.ref p) (upd H p (dNk a hd P w p []))
variable {o i e value:Expr} {pos pos':Pos} {td ty tv:TE}
theorem iW (hu:X.A.units + 16 < cLine) (ho:PE X o td) (hi:PE X i ty) (hs:u7 i):PE X (.Subscript o i pos) (va a hd X.prog X.w X.K td ty):=by
 intro pins s σ H Q I h
 refine pI PySem.F.slot_dict_getitem.lookup hs (thn (ho pins s σ H _ I h) λu s1 ⟨x,H1,I1,rx,q1⟩=>thn (hi pins s1 σ H1 _ I1 q1) λiv s2 ⟨y,H2,I2,ry,d,b,k,xs,p,v,ex,ey,D,g,hp,rv,q2⟩=>?_)
 subst ex ey
 obtain rfl:u=Value.ref d:=rx
 obtain rfl:iv=Value.ref b:=ry
 obtain ⟨_,dd⟩:=gU I2 D
 exact ⟨dd.typeIs,wpAny_getItem_heap (show X.A.units + 1 + 8 < cLine by omega) (key_is I2 g) dd hp ⟨v,H2,I2.tok _,rv,q2⟩⟩
theorem my (hu:X.A.units + 16 < cLine) (hi:PE X i ty) (ho:PE X o td):PC X .NotIn i o (uK a hd X.prog X.w X.K ty td):=by
 intro pins s σ H Q I h
 refine thn (hi pins s σ H _ I h) λiv s1 ⟨y,H1,I1,ry,q1⟩=>thn (ho pins s1 σ H1 _ I1 q1) λu s2 ⟨x,H2,I2,rx,d,b,k,xs,ex,ey,D,g,q2⟩=>?_
 subst ex ey
 obtain rfl:u=Value.ref d:=rx
 obtain rfl:iv=Value.ref b:=ry
 obtain ⟨hd',dd⟩:=gU I2 D
 exact wpAny_notIn_heap (show X.A.units + 1 + 8 < cLine by omega) (key_is I2 g) hd' dd ⟨.bl _,H2,I2.tok _,rfl,q2⟩
theorem jy (hu:X.A.units + 16 < cLine) (ho:PE X o td) (hi:PE X i ty) (hv:PE X value tv) (hs:swapsWith value (some (.Subscript o i pos')) pos.line X.env=pure false) :
   PS X (.Assign [.Subscript o i pos'] value pos) (t4 a hd X.prog X.w X.K td ty tv):=by
 intro pins s σ H D I h
 refine wpAny_Assign_Subscript (thn (hv pins s σ H _ I h) λr s1 ⟨v,H1,I1,rv,q1⟩=>thn (ho pins s1 σ H1 _ I1 q1) λu s2 ⟨x,H2,I2,rx,q2⟩=>thn (hi pins s2 σ H2 _ I2 q2) λiv s3 ⟨y,H3,I3,ry,d,b,k,xs,ex,ey,D',g,hl,q3⟩=>?_) hs
 subst ex ey
 obtain rfl:u=Value.ref d:=rx
 obtain rfl:iv=Value.ref b:=ry
 obtain ⟨hd',dd⟩:=gU I3 D'
 refine wpAny_setItem_heap (hsz:=hl) (show X.A.units + 1 + 8 < cLine by omega) (key_is I3 g) dd λh' dd' hs=>⟨σ,_,?_,q3 r rv⟩
 obtain ⟨q,es,ep,hq,h2,h3,h4,_,h5⟩:=dd'
 refine lH I3 (by rw [D'.at_]; exact True.intro) hs ⟨q,hq⟩ ⟨⟨hd',q,es,ep,hq,h2,h3,h4,h5⟩,⟨q,hq⟩,λa1 a2 ⟨z0,o,es,ep,z1,z2⟩ hk=>⟨z0,o,es,ep,hk o z1,z2⟩⟩
theorem iZ:PE X (.Dict [] [] pos) (uN a hd X.prog X.w):=λpins s σ H Q I h=>
 wpAny_Dict_empty ⟨.ref s.heap.objs.size,_,I.laid (a:=s.heap.objs.size) (o:=dNk a hd X.prog X.w s.heap.objs.size []) (t':=s.toks) (λ_ _ q=>Heap.get?_push_of_some _ q) (Nat.le_refl _)
   ⟨⟨beq_eq_false_iff_ne.mpr (Ne.symm (Nat.ne_of_lt I.big)),_,#[],0,Heap.get?_push_size _ rfl,⟨rfl,rfl,rfl⟩,rfl,rfl,List.nodup_nil⟩,⟨_,Heap.get?_push_size _ rfl⟩,λa1 a2 ⟨z0,o,es,ep,z1,z2⟩ hk=>⟨z0,o,es,ep,hk o z1,z2⟩⟩,rfl,h _ (I.hok.fresh (Nat.le_refl _))⟩
end
end Ev
namespace Hy
open PySem PySem.Spec PyProof.Rows L2
open Ev (D Den ax KD NEs dNk cH)
section
variable {K:Type} [DecidableEq K]
inductive EnK (a:KD K) (F:PySem.W.Frag) (G:Hp):NEs K->List (K × D)->Prop where
 | nil:EnK a F G [] []
 | cons {k:K} {b:Addr} {u:Value} {v:V} {x:D} {xs:NEs K} {m:List (K × D)} (hk:Den F G (.ref b) (a.toD k)) (hr:RelV v u) (hv:Den F G v x) (r:EnK a F G xs m):EnK a F G ((k,b,u) :: xs) ((k,x) :: m)
variable {a:KD K} {F:PySem.W.Frag} {G G':Hp}
theorem EnK.mono (e:aj G G'):∀ {xs:NEs K} {m:List (K × D)},EnK a F G xs m->EnK a F G' xs m
 | _,_,.nil=>.nil
 | _,_,.cons h1 h2 h3 r=>.cons (h1.mono e) h2 (h3.mono e) (r.mono e)
theorem EnK.length:∀ {xs:NEs K} {m:List (K × D)},EnK a F G xs m->xs.length=m.length
 | _,_,.nil=>rfl
 | _,_,.cons _ _ _ r=>congrArg (· + 1) r.length
theorem EnK.key:∀ {xs:NEs K} {m:List (K × D)},EnK a F G xs m->∀ x ∈ xs,Den F G (.ref x.2.1) (a.toD x.1)
 | _,_,.nil,_,h=>nomatch h
 | _,_,.cons h _ _ r,x,hx=>(List.mem_cons.mp hx).elim (λz=>z ▸ h) (r.key x)
noncomputable def getM (m:List (K × D)) (k:K):Option D:=(m.find? λx=>decide (x.1=k)).map (·.2)
noncomputable def nA (m:List (K × D)) (k:K) (x:D):List (K × D):=if (getM m k).isSome then m.map λy=>if y.1=k then (y.1,x) else y else m++[(k,x)]
theorem EnK.at:∀ {xs:NEs K} {m:List (K × D)},EnK a F G xs m->∀ k,match getM m k with
   | none=>atKey xs k=none
   | some x=>∃ p v,atKey xs k=some p/\RelV v p.2/\Den F G v x
 | _,_,.nil,_=>rfl
 | _,_,.cons (k:=k') (x:=y) (m:=m) (xs:=xs) h1 h2 h3 r,k=>by
   have ih:=r.at k
   unfold getM atKey at *
   by_cases e:k'=k
   · simp only [List.find?_cons,e,decide_true,Option.map_some]
     exact ⟨_,_,rfl,h2,h3⟩
   · simp only [List.find?_cons,e,decide_false]
     exact ih
theorem EnK.isSome {xs:NEs K} {m:List (K × D)} (h:EnK a F G xs m) (k:K):(atKey xs k).isSome=(getM m k).isSome:=by
 have:=h.at k
 cases e:getM m k with
 | none=>rw [e] at this; simp only at this; rw [this]; rfl
 | some x=>rw [e] at this; obtain ⟨p,v,h1,_⟩:=this; rw [h1]; rfl
theorem EnK.snoc {k:K} {b:Addr} {u:Value} {v:V} {x:D} (h1:Den F G (.ref b) (a.toD k)) (h2:RelV v u) (h3:Den F G v x):∀ {xs:NEs K} {m:List (K × D)},EnK a F G xs m->EnK a F G (xs++[(k,b,u)]) (m++[(k,x)])
 | _,_,.nil=>.cons h1 h2 h3 .nil
 | _,_,.cons g1 g2 g3 r=>.cons g1 g2 g3 (r.snoc h1 h2 h3)
theorem EnK.over {k:K} {u:Value} {v:V} {x:D} (h2:RelV v u) (h3:Den F G v x):∀ {xs:NEs K} {m:List (K × D)},EnK a F G xs m->EnK a F G (xs.map (putAt k u)) (m.map λy=>if y.1=k then (y.1,x) else y)
 | _,_,.nil=>.nil
 | _,_,.cons (k:=k') g1 g2 g3 r=>by
   rw [List.map_cons,List.map_cons]
   unfold putAt
   by_cases e:k'=k
   · simp only [e,if_true]
     rw [e] at g1
     exact .cons g1 h2 h3 (r.over h2 h3)
   · simp only [e,if_false]
     exact .cons g1 g2 g3 (r.over h2 h3)
theorem EnK.put {k:K} {b:Addr} {u:Value} {v:V} {x:D} {xs:NEs K} {m:List (K × D)} (h:EnK a F G xs m) (h1:Den F G (.ref b) (a.toD k)) (h2:RelV v u) (h3:Den F G v x):EnK a F G (storedH xs k b u) (nA m k x):=by
 unfold storedH nA
 rw [h.isSome k]
 split
 · exact h.over h2 h3
 · exact h.snoc h1 h2 h3
noncomputable def exK (a:KD K) (hd:a.dep<=7) (P:Program) (w:World) (m:List (K × D)):Ex where
 p:=λF G o p=>∃ xs,o=dNk a hd P w p xs/\EnK a F G xs m
 mono:=λe ⟨xs,h1,h2⟩=>⟨xs,h1,h2.mono e⟩
 ext:=λ⟨xs,h1,_⟩=>⟨_,h1⟩
end
end Hy
namespace Hy
open PySem PySem.Spec PyProof.Rows L2
open Ev (D Den ax KD NEs dNk cH aw iW iZ jy my)
section
variable {K:Type} [DecidableEq K] {a:KD K} {hd:a.dep<=7} {X:Cx} {C:Bool} {τ:List Sl} {x:D} {b e ix:Expr} {pos p q:Pos} {k:Nat} {N:Po} {rest:List Stmt} {m:List (K × D)} {key:K}
theorem su:PE X (.Dict [] [] pos) (dE X.K C τ (.x (exK a hd X.prog X.w []))):=peW iZ λσ H Q ⟨A,H₀,B,S,k⟩=>λp hp=>k (.ref p) _ [p] (aw hp _) (λb hb=>by rw [List.mem_singleton.mp hb]; exact ⟨hp,_,aI⟩) ⟨p,_,rfl,rfl,aI,[],rfl,.nil⟩
theorem Sta.dct {F:PySem.W.Frag} {P:Program} {w:World} {A:Addr->Prop} {H₀ H:Hp} {B:Nat->List Addr} {σ:L2.St} {i:Nat} (S:Sta F A H₀ τ B σ H) (hi:τ[i]?=some (.x (exK a hd P w m))):∃ d xs,(σ[i]?).join=some (.ref d)/\B i=[d]/\H d=some (dNk a hd P w d xs)/\EnK a F (Hy.hd H (own A B)) xs m:=by
 obtain ⟨d,o,h1,h2,h3,xs,rfl,h5⟩:=S.sl i _ hi
 exact ⟨d,xs,h2,h1,h3,h5⟩
end
section
variable {K:PySem.W.Frag} {A:Addr->Prop} {H₀ H H':Hp} {τ:List Sl} {B:Nat->List Addr} {σ:L2.St}
theorem Sta.vS (S:Sta K A H₀ τ B σ H) {i:Nat} {a:Addr} {E E':Ex} {o':HO} (hi:τ[i]?=some (.x E)) (hB:B i=[a]) (d:E'.p K (hd H (own A B)) o' a):Sta K A H₀ (τ.set i (.x E')) B σ (upd H a o'):=by
 have ha:own A B a:=.inr ⟨i,by rw [hB]; exact List.mem_singleton.mpr rfl⟩
 have ne:∀ b,b ≠ a->upd H a o' b=H b:=λb h=>ay h
 have sm:aj (hd H (own A B)) (hd (upd H a o') (own A B)):=λb o z=>by
   obtain ⟨z1,z2⟩:=aq.mp z
   exact aq.mpr ⟨z1,by rw [ne b (λe=>z1 (e ▸ ha))]; exact z2⟩
 have f0:H₀ a=none:=S.fr i a (by rw [hB]; exact List.mem_singleton.mpr rfl)
 have hs:aj H₀ (upd H a o'):=λb o z=>by rw [ne b (λe=>by rw [e,f0] at z; cases z)]; exact S.same b o z
 refine ⟨hs,by rw [List.length_set,S.len],λj t hj=>?_,S.fr,S.uq,S.ad,λj b hb=>?_⟩
 · by_cases ej:j=i
   · subst ej
     have hl:=(List.getElem?_eq_some_iff.mp hi).1
     rw [List.getElem?_set_self hl] at hj
     cases hj
     obtain ⟨a',o,e1,e2,_,_⟩:=S.sl j _ hi
     rw [hB] at e1
     cases e1
     exact ⟨a,o',hB,e2,aI,E'.mono sm d⟩
   · rw [List.getElem?_set_ne (λz=>ej z.symm)] at hj
     have off:∀ b ∈ B j,b ≠ a:=λb hb e=>ej (S.uq j i a (e ▸ hb) (by rw [hB]; exact List.mem_singleton.mpr rfl))
     have q:=S.sl j t hj
     cases t with
     | un=>exact q
     | d x=>obtain ⟨z,u,e,d⟩:=q; exact ⟨z,u,e,d.mono sm⟩
     | o zs=>
       obtain ⟨c,ws,z1,z2,z3,z4⟩:=q
       exact ⟨c,ws,z1,z2,by rw [ne c (off c (by rw [z1]; exact List.mem_singleton.mpr rfl))]; exact z3,z4.mono sm⟩
     | n t=>
       obtain ⟨z0,u,z1,z2⟩:=q
       exact ⟨z0,u,z1,z2.frame sm λb hb=>ne b (off b hb)⟩
     | x E=>
       obtain ⟨c,o,z1,z2,z3,z4⟩:=q
       exact ⟨c,o,z1,z2,by rw [ne c (off c (by rw [z1]; exact List.mem_singleton.mpr rfl))]; exact z3,E.mono sm z4⟩
 · by_cases e:b=a
   · subst e; exact ⟨_,aI⟩
   · rw [ne b e]; exact S.bd j b hb
end
section
variable {K:Type} [DecidableEq K] {a:KD K} {hd:a.dep<=7} {X:Cx} {C:Bool} {τ:List Sl} {x:D} {b e ix:Expr} {pos p q sp:Pos} {k:Nat} {N:Po} {rest:List Stmt} {m:List (K × D)} {key:K}
theorem tf (i:Nat) {n:Str} (hu:X.A.units + 16 < cLine) (hi:τ[i]?=some (.x (exK a hd X.prog X.w m))) (hk:PE X ix (dE X.K true τ (.d (a.toD key)))) (he:PE X e (dE X.K true τ (.d x))) (hl:m.length<=sizeLine) (hr:∀ H v,Den X.K H v (a.toD key)->∃ b,v=.ref b)
   (hn:PSs X rest (dS X.K (τ.set i (.x (exK a hd X.prog X.w (nA m key x)))) N)) (hN:X.N[i]?=some n:=by rfl)
   (hv:Vis X.env.scope n:=by first | exact Or.inl rfl | exact Or.inr (Or.inl rfl) | exact Or.inr (Or.inr rfl)) (hd1:(n == ("__debug__" : Str))=false:=by decide) (hcd:(n == ("__classdict__" : Str))=false:=by decide)
   (hs:swapsWith e (some (.Subscript (.Name n p) ix sp)) pos.line X.env=pure false:=by rfl):PSs X (.Assign [.Subscript (.Name n p) ix sp] e pos :: rest) (dS X.K τ N):=
 bf (M:=(·=τ.set i (.x (exK a hd X.prog X.w (nA m key x))))) (psW (jy (a:=a) (hd:=hd) hu (cv (i:=i) hN hv hd1 hcd) hk he hs) λD σ H ⟨A,H₀,B,S,Me⟩=>aR S λv H1 e1 d1=>by
   have S1:=S.mono e1
   obtain ⟨d,xs,g1,_⟩:=S1.dct hi
   refine ⟨_,slot_of g1,aR S1 λy H2 e2 dy=>?_⟩
   obtain ⟨b,rfl⟩:=hr _ _ dy
   have S2:=S1.mono e2
   obtain ⟨d',xs',h1,h2,h3,h4⟩:=S2.dct hi
   rw [g1] at h1
   cases h1
   have d1':=d1.mono (av e2 λ_ z=>z)
   exact ⟨d,b,key,xs',rfl,rfl,⟨h3,λz hz=>(h4.key z hz).mono aB⟩,dy.mono aB,by rw [h4.length]; exact hl,λu hu=>Me.nx _ _ _ _ rfl (S2.vS hi h2 ⟨_,rfl,h4.put dy hu d1'⟩)⟩) λ_ e=>e ▸ hn
end
end Hy
namespace Ev
open PySem PySem.Spec PyProof.Rows L2
section
variable {K:Type} [DecidableEq K] {a:KD K} {hd:a.dep<=7} {X:Cx} {o i e f:Expr} {pos apos cpos:Pos} {td ty tx tk tv:TE}
noncomputable def sL (a:KD K) (hd:a.dep<=7) (P:Program) (w:World) (F:PySem.W.Frag) (td ty tx:TE):TE:=λσ H Q=>td σ H λx H1=>∃ d φ,x=.ref d/\H1 d=some (.ext φ)/\(∀ h,φ h->∃ o,h.get? d=some o/\o.ExactDict)/\ty σ H1 λy H2=>tx σ H2 λz H3=>∃ b k xs,y=.ref b/\cH a hd P w F H3 d xs/\Den F H3 (.ref b) (a.toD k) /\
 ((∃ p v,atKey xs k=some p/\RelV v p.2/\Q v H3)\/(atKey xs k=none/\Q z H3))
theorem ku (hu:X.A.units + 16 < cLine) (ho:PE X o td) (he:PE X e ty) (hf:PE X f tx) (m:M2 X o "get" apos e f cpos):PE X (.Call (.Attribute o "get" apos) [e,f] [] cpos) (sL a hd X.prog X.w X.K td ty tx):=by
 intro pins s σ H Q I h
 refine wpAny_Call_method m.base m.few m.line PySem.F.plainAttrs_dict PySem.F.slot_dict_get PySem.F.type_dict_get (thn (ho pins s σ H _ I h) λu s1 ⟨x,H1,I1,rx,d,φ,ex,hφ,hx,q1⟩=>?_)
 subst ex
 obtain rfl:u=Value.ref d:=rx
 obtain ⟨ob,g1,g2⟩:=hx _ (show bu X.prog X.w H1 s1.heap d (.ext φ) from I1.hok d _ hφ).1
 refine ⟨⟨ob,g1,g2.1⟩,λc e=>(by cases e; exact ⟨ob,g1,g2.2.1⟩),?_⟩
 rw [m.trees]
 refine Calls.callWith_builtin rfl (Calls.evalArgs_plain (Calls.spliced_cons (thn (he pins s1 σ H1 _ I1 q1) λiv s2 ⟨y,H2,I2,ry,q2⟩=>
   Calls.spliced_cons (thn (hf pins s2 σ H2 _ I2 q2) λfv s3 ⟨z,H3,I3,rz,b,k,xs,ey,D,g,q3⟩=>Calls.spliced_nil ?_))))
 subst ey
 obtain rfl:iv=Value.ref b:=ry
 obtain ⟨hd',dd⟩:=gU I3 D
 refine call_meetsIn PySem.F.slot_dict_get dd.typeIs PySem.F.entry_dict_get (PySem.F.args_dict_get_3 _ _ _) (meetsH_dict_get_default (kd a hd X.prog X.w) d b hd' fv) ⟨show X.A.units + 1 + 8 < cLine by omega,k,xs,key_is I3 g,dd,?_⟩
 rcases q3 with ⟨p,v,ha,rv,q⟩ | ⟨ha,q⟩
 · rw [ha]
   exact ⟨v,H3,I3.tok _,rv,q⟩
 · rw [ha]
   exact ⟨z,H3,I3.tok _,rz,q⟩
theorem oZ (hu:X.A.units + 16 < cLine):OpR X (compareOp .In) (λy x H Q=>∃ d b k xs,x=.ref d/\y=.ref b/\cH a hd X.prog X.w X.K H d xs/\Den X.K H (.ref b) (a.toD k)/\Q (.bl (atKey xs k).isSome) H):=by
 intro pins s σ H x y v u Q I rx ry h
 obtain ⟨d,b,k,xs,rfl,rfl,D,g,q⟩:=h
 cases rx
 cases ry
 obtain ⟨hd',dd⟩:=gU I D
 exact wpAny_in_heap (show X.A.units + 1 + 8 < cLine by omega) (key_is I g) hd' dd ⟨.bl _,H,I.tok _,rfl,q⟩
theorem pC (hu:X.A.units + 16 < cLine):OpR X (compareOp .NotIn) (λy x H Q=>∃ d b k xs,x=.ref d/\y=.ref b/\cH a hd X.prog X.w X.K H d xs/\Den X.K H (.ref b) (a.toD k)/\Q (.bl (!(atKey xs k).isSome)) H):=by
 intro pins s σ H x y v u Q I rx ry h
 obtain ⟨d,b,k,xs,rfl,rfl,D,g,q⟩:=h
 cases rx
 cases ry
 obtain ⟨hd',dd⟩:=gU I D
 exact wpAny_notIn_heap (show X.A.units + 1 + 8 < cLine by omega) (key_is I g) hd' dd ⟨.bl _,H,I.tok _,rfl,q⟩
noncomputable def vg (a:KD K) (hd:a.dep<=7) (P:Program) (w:World) (F:PySem.W.Frag) (tk tv:TE):TE:=λσ H Q=>∀ p,H p=none->tk σ (upd H p (dNk a hd P w p [])) λy H1=>tv σ H1 λv H2=>∃ b k,y=.ref b/\H2 p=some (dNk a hd P w p [])/\Den F H2 (.ref b) (a.toD k)/\∀ u,RelV v u->Q (.ref p) (upd H2 p (dNk a hd P w p (storedH [] k b u)))
theorem lW (hu:X.A.units + 16 < cLine) (hk:PE X e tk) (hv:PE X f tv):PE X (.Dict [some e] [f] pos) (vg a hd X.prog X.w X.K tk tv):=λpins s σ H Q I h=>by
 refine wpAny_Dict_any rfl rfl (by simp) (show 1<=15 by decide) (pairTrees_cons_walk ?_)
 have I0:=I.laid (a:=s.heap.objs.size) (o:=dNk a hd X.prog X.w s.heap.objs.size []) (t':=s.toks) (h':=s.heap.push { cls:=.type "dict",data:=.dict #[] }) (λ_ _ q=>Heap.get?_push_of_some _ q) (Nat.le_refl _)
   ⟨⟨beq_eq_false_iff_ne.mpr (Ne.symm (Nat.ne_of_lt I.big)),_,#[],0,Heap.get?_push_size _ rfl,⟨rfl,rfl,rfl⟩,rfl,rfl,List.nodup_nil⟩,⟨_,Heap.get?_push_size _ rfl⟩,λa1 a2 ⟨z0,o,es,ep,z1,z2⟩ hk=>⟨z0,o,es,ep,hk o z1,z2⟩⟩
 refine thn (hk _ _ σ _ _ I0 (h _ (I.hok.fresh (Nat.le_refl _)))) λkv s1 ⟨y,H1,I1,ry,q1⟩=>thn (hv _ s1 σ H1 _ I1 q1) λvv s2 ⟨v,H2,I2,rv,b,k,ey,hp,g,q2⟩=>pairTrees_nil_walk ?_
 subst ey
 obtain rfl:kv=Value.ref b:=ry
 have D:cH a hd X.prog X.w X.K H2 s.heap.objs.size []:=⟨hp,λ_ z=>nomatch z⟩
 obtain ⟨hd',dd⟩:=gU I2 D
 unfold storeAll
 rw [List.forIn_cons]
 refine wpAny_bind (wpAny_bind (wpAny_dictSet_heap (hsz:=Nat.zero_le _) (show X.A.units + 8 < cLine by omega) (key_is I2 g) dd λh' dd' hs=>wpAny_pure ?_))
 dsimp only
 rw [List.forIn_nil]
 refine wpAny_pure ?_
 obtain ⟨q,es,ep,hq,h2,h3,h4,_,h5⟩:=dd'
 refine ⟨.ref s.heap.objs.size,_,lH (ob:=dNk a hd X.prog X.w s.heap.objs.size (storedH [] k b vv)) I2 (by rw [hp]; exact True.intro) hs ⟨q,hq⟩ ⟨⟨hd',q,es,ep,hq,h2,h3,h4,h5⟩,⟨q,hq⟩,λa1 a2 ⟨z0,o,es,ep,z1,z2⟩ hk=>⟨z0,o,es,ep,hk o z1,z2⟩⟩,rfl,q2 vv rv⟩
end
end Ev
namespace Hy
open PySem PySem.Spec PyProof.Rows L2
open Ev (D Den ax KD NEs dNk cH Bx aw iW ku lW oZ pC)
section
variable {K:Type} [DecidableEq K] {a:KD K} {hd:a.dep<=7} {X:Cx} {C:Bool} {τ:List Sl} {x y:D} {b e f o ix:Expr} {pos p q apos cpos:Pos} {k:Nat} {N:Po} {rest:List Stmt} {m:List (K × D)} {key:K}
noncomputable def bxK (a:KD K) (hd:a.dep<=7) (P:Program) (w:World) (m:List (K × D)):Bx where
 p:=λF H d=>∃ xs,H d=some (dNk a hd P w d xs)/\EnK a F H xs m
 mono:=λe ⟨xs,h1,h2⟩=>⟨xs,e _ _ h1,h2.mono e⟩
 isd:=λ{_ _ d} ⟨xs,h1,_⟩=>⟨_,h1,λh ⟨_,o,_,_,z1,z2,_⟩=>⟨o,z1,z2.1⟩⟩
noncomputable abbrev bxD (a:KD K) (hd:a.dep<=7) (P:Program) (w:World) (m:List (K × D)):D:=.box (bxK a hd P w m)
theorem Sta.fzX {F:PySem.W.Frag} {P:Program} {w:World} {A:Addr->Prop} {H₀ H:Hp} {B:Nat->List Addr} {σ:L2.St} {i:Nat} (S:Sta F A H₀ τ B σ H) (hi:τ[i]?=some (.x (exK a hd P w m))):Sta F A H₀ (τ.set i (.d (bxD a hd P w m))) (upB B i []) σ H:=
 S.less (λ_ z=>nomatch z) λG g hv=>by
   obtain ⟨d,xs,h1,h2,h3,h4⟩:=S.dct hi
   exact ⟨rfl,_,h1,.box ⟨xs,hv d _ (by rw [h2]; exact List.mem_singleton.mpr rfl) (λz=>nomatch z) h3,h4.mono g⟩⟩
theorem uI (i:Nat) (h:PSs X rest (dS X.K (τ.set i (.d (bxD a hd X.prog X.w m))) N)) (hi:τ[i]?=some (.x (exK a hd X.prog X.w m)):=by rfl):PSs X rest (dS X.K τ N):=mH h λD σ H ⟨A,H₀,B,S,Me⟩=>⟨A,H₀,_,S.fzX hi,Me⟩
theorem u4 (h:PE X e (dE X.K C τ (.x (exK a hd X.prog X.w m)))):PE X e (dE X.K C τ (.d (bxD a hd X.prog X.w m))):=peW h λσ H Q q=>by
 obtain ⟨A,H₀,B,S,k⟩:=dn q
 refine ⟨A,H₀,B,S,λv H' bs e hf ⟨d,o,h1,h2,h3,xs,h4,h5⟩=>?_⟩
 cases h2
 subst h1 h4
 have vd:=S.vd (C:=C)
 have un:¬ vw C A B d:=λz=>by
   obtain ⟨_,q⟩:=vd d z
   rw [(hf d (List.mem_singleton.mpr rfl)).1] at q
   cases q
 exact k _ H' e (.box ⟨xs,aq.mpr ⟨un,h3⟩,h5.mono (av (aj.refl _) λ_ z=>.inl z)⟩)
theorem lL (hu:X.A.units + 16 < cLine) (ho:PE X o (dE X.K C τ (.d (bxD a hd X.prog X.w m)))) (hk:PE X e (dE X.K C τ (.d (a.toD key)))) (hx:PE X f (dE X.K C τ (.d x))) (hr:∀ H v,Den X.K H v (a.toD key)->∃ b,v=.ref b)
   (m2:M2 X o "get" apos e f cpos:=by exact ⟨rfl,rfl,rfl,rfl⟩):PE X (.Call (.Attribute o "get" apos) [e,f] [] cpos) (dE X.K C τ (.d ((getM m key).getD x))):=
 peW (ku (a:=a) (hd:=hd) hu ho hk hx m2) λσ H Q q=>by
   obtain ⟨A,H₀,B,S,kk⟩:=dn q
   refine aR S λv H1 e1 d1=>?_
   cases d1 with
   | @box d _ h=>
   obtain ⟨xs1,g1,g2⟩:=h
   refine ⟨d,_,rfl,aB _ _ g1,(λh ⟨_,o,_,_,z1,z2,_⟩=>⟨o,z1,z2⟩),aR (S.mono e1) λy H2 e2 dy=>aR ((S.mono e1).mono e2) λz H3 e3 dz=>?_⟩
   obtain ⟨b',rfl⟩:=hr _ _ dy
   have m3:=av (M:=vw C A B) (e2.trans e3) λ_ z=>z
   have g4:=g2.mono m3
   have dy3:=dy.mono (av e3 λ_ z=>z)
   refine ⟨b',key,xs1,rfl,⟨aB _ _ (m3 _ _ g1),λz hz=>(g4.key z hz).mono aB⟩,dy3.mono aB,?_⟩
   have:=g4.at key
   cases hg:getM m key with
   | none=>
     rw [hg] at this kk
     exact .inr ⟨this,kk z H3 (e1.trans (e2.trans e3)) dz⟩
   | some x'=>
     rw [hg] at this kk
     obtain ⟨pp,v,h1,h2,h3⟩:=this
     exact .inl ⟨pp,v,h1,h2,kk v H3 (e1.trans (e2.trans e3)) h3⟩
theorem ub (hu:X.A.units + 16 < cLine) (hr:∀ H v,Den X.K H v (a.toD key)->∃ b,v=.ref b):bA X (compareOp .In) (a.toD key) (bxD a hd X.prog X.w m) (.bl (getM m key).isSome):=⟨_,oZ (a:=a) (hd:=hd) hu,λM v w H Q _ d1 d2 k=>by
 obtain ⟨b',rfl⟩:=hr _ _ d1
 cases d2 with
 | box h=>
   obtain ⟨xs,g3,g4⟩:=h
   exact ⟨_,b',key,xs,rfl,rfl,⟨aB _ _ g3,λz hz=>(g4.key z hz).mono aB⟩,d1.mono aB,by rw [g4.isSome]; exact k _ H (aj.refl _) .bl⟩⟩
theorem sS (hu:X.A.units + 16 < cLine) (hk:PE X e (dE X.K C τ (.d (a.toD key)))) (hv:PE X f (dE X.K C τ (.d x))) (hr:∀ H v,Den X.K H v (a.toD key)->∃ b,v=.ref b):PE X (.Dict [some e] [f] pos) (dE X.K C τ (.x (exK a hd X.prog X.w [(key,x)]))):=
 peW (lW (a:=a) (hd:=hd) hu hk hv) λσ H Q ⟨A,H₀,B,S,kk⟩=>λp hp=>by
   have e0:=aw hp (dNk a hd X.prog X.w p [])
   have f0:Fr H (upd H p (dNk a hd X.prog X.w p [])) [p]:=λb hb=>by rw [List.mem_singleton.mp hb]; exact ⟨hp,_,aI⟩
   have S1:=S.hide e0 f0
   refine aR S1 λy H2 e2 dy=>aR (S1.mono e2) λv H3 e3 dv=>?_
   obtain ⟨b',rfl⟩:=hr _ _ dy
   have e03:=e2.trans e3
   have hp3:=e03 _ _ (aI (H:=H) (a:=p) (o:=dNk a hd X.prog X.w p []))
   have dy3:=dy.mono (av e3 λ_ z=>z)
   refine ⟨b',key,rfl,hp3,dy3.mono aB,λu hu=>?_⟩
   have sm:aj (Hy.hd H3 (vw C (λb=>A b\/b ∈ [p]) B)) (Hy.hd (upd H3 p (dNk a hd X.prog X.w p (storedH [] key b' u))) λb=>vw C A B b\/b ∈ [p]):=λb o z=>by
     obtain ⟨z1,z2⟩:=aq.mp z
     have nh:¬ (vw C A B b\/b ∈ [p]):=λy=>z1 (pS y)
     exact aq.mpr ⟨nh,by rw [ay (λq=>nh (.inr (List.mem_singleton.mpr q)))]; exact z2⟩
   have hs:aj H (upd H3 p (dNk a hd X.prog X.w p (storedH [] key b' u))):=λb o z=>by
     have ne:b ≠ p:=λq=>by rw [q,hp] at z; cases z
     rw [ay ne]
     exact e03 _ _ (e0 _ _ z)
   exact kk (.ref p) _ [p] hs (λb hb=>by rw [List.mem_singleton.mp hb]; exact ⟨hp,_,aI⟩) ⟨p,_,rfl,rfl,aI,_,rfl,(EnK.nil.put dy3 hu dv).mono sm⟩
end
end Hy
namespace K22
open PySem PySem.Spec PyProof.Rows L2 Hy
noncomputable def top (i:Nat):Stmt:=PySem.Challenge.pw_signsmooth_k22_whole_sum_of_ways.main.body.getD i (.Pass ⟨0,0,0,0⟩)
theorem eF:au ["_law_cell_here","_law_bases","_law_row","_law_base","_law_k","_law_mixed"] ["_law_cell_here","_law_bases"] (ai (top 46)):=⟨rfl,rfl,rfl,by decide +kernel,rfl,by decide +kernel,by decide +kernel⟩
theorem gR:au ["_law_cell_here","_law_most","_law_parts","_law_tracks"] ["_law_cell_here","_law_most"] (ai (top 54)):=⟨rfl,rfl,rfl,by decide +kernel,rfl,by decide +kernel,by decide +kernel⟩
theorem d8:au ["_law_one","_law_other","_law_rest"] ["_law_one","_law_other"] (ai (top 47)):=⟨rfl,rfl,rfl,by decide +kernel,rfl,by decide +kernel,by decide +kernel⟩
theorem iP:au ["_law_top","_law_bottom","_law_common"] ["_law_top","_law_bottom"] (ai (top 48)):=⟨rfl,rfl,rfl,by decide +kernel,rfl,by decide +kernel,by decide +kernel⟩
theorem kl:au ["_law_many","_law_number","_law_k"] ["_law_many"] (ai (top 44)):=⟨rfl,rfl,rfl,by decide +kernel,rfl,by decide +kernel,by decide +kernel⟩
theorem fu:au ["_law_part","_law_figures","_law_ten_here"] ["_law_part","_law_figures"] (ai (top 51)):=⟨rfl,rfl,rfl,by decide +kernel,rfl,by decide +kernel,by decide +kernel⟩
theorem fF:au ["_law_cell_here","_law_tracks","_law_rows","_law_columns","_law_many","_law_figures","_law_parts","_law_steps","_law_k","_law_word","_law_at"] ["_law_cell_here","_law_tracks","_law_rows","_law_columns","_law_many","_law_figures"] (ai (top 52)):=⟨rfl,rfl,rfl,by decide +kernel,rfl,by decide +kernel,by decide +kernel⟩
theorem gA:au ["_law_one","_law_other","_law_most","_law_figures","_law_sizes_here"] ["_law_one","_law_other","_law_most","_law_figures"] (ai (top 55)):=⟨rfl,rfl,rfl,by decide +kernel,rfl,by decide +kernel,by decide +kernel⟩
theorem jG:au ["thing"] ["thing"] (ai (top 8)):=⟨rfl,rfl,rfl,by decide +kernel,rfl,by decide +kernel,by decide +kernel⟩
theorem ia:au ["thing","least","most"] ["thing","least","most"] (ai (top 9)):=⟨rfl,rfl,rfl,by decide +kernel,rfl,by decide +kernel,by decide +kernel⟩
theorem bW:au ["one","other","greater","lesser","rest"] ["one","other"] (ai (top 11)):=⟨rfl,rfl,rfl,by decide +kernel,rfl,by decide +kernel,by decide +kernel⟩
theorem gO:au ["thing"] ["thing"] (ai (top 10)):=⟨rfl,rfl,rfl,by decide +kernel,rfl,by decide +kernel,by decide +kernel⟩
theorem i8:au ["thing"] ["thing"] (ai (top 24)):=⟨rfl,rfl,rfl,by decide +kernel,rfl,by decide +kernel,by decide +kernel⟩
theorem kT:au ["thing","tracks"] ["thing","tracks"] (ai (top 25)):=⟨rfl,rfl,rfl,by decide +kernel,rfl,by decide +kernel,by decide +kernel⟩
theorem jw:au ["thing"] ["thing"] (ai (top 26)):=⟨rfl,rfl,rfl,by decide +kernel,rfl,by decide +kernel,by decide +kernel⟩
theorem gW:au ["thing"] ["thing"] (ai (top 27)):=⟨rfl,rfl,rfl,by decide +kernel,rfl,by decide +kernel,by decide +kernel⟩
theorem iX:au ["table","j"] ["table","j"] (ai (top 20)):=⟨rfl,rfl,rfl,by decide +kernel,rfl,by decide +kernel,by decide +kernel⟩
theorem ic:au ["table"] ["table"] (ai (top 19)):=⟨rfl,rfl,rfl,by decide +kernel,rfl,by decide +kernel,by decide +kernel⟩
theorem ib:au ["track","rows"] ["track","rows"] (ai (top 31)):=⟨rfl,rfl,rfl,by decide +kernel,rfl,by decide +kernel,by decide +kernel⟩
theorem bU:au ["number","others","found","other"] ["number","others"] (ai (top 12)):=⟨rfl,rfl,rfl,by decide +kernel,rfl,by decide +kernel,by decide +kernel⟩
theorem cG:au ["sums","weight","above","below","factor"] ["sums","weight"] (ai (top 33)):=⟨rfl,rfl,rfl,by decide +kernel,rfl,by decide +kernel,by decide +kernel⟩
theorem dD:au ["one","other","shared","one_factor","other_factor","tops","divisor"] ["one","other"] (ai (top 34)):=⟨rfl,rfl,rfl,by decide +kernel,rfl,by decide +kernel,by decide +kernel⟩
theorem bK:au ["top","bottom","divisor"] ["top","bottom"] (ai (top 13)):=⟨rfl,rfl,rfl,by decide +kernel,rfl,by decide +kernel,by decide +kernel⟩
theorem jI:au ["top","bottom"] ["top","bottom"] (ai (top 14)):=⟨rfl,rfl,rfl,by decide +kernel,rfl,by decide +kernel,by decide +kernel⟩
theorem jl:au ["sums"] ["sums"] (ai (top 32)):=⟨rfl,rfl,rfl,by decide +kernel,rfl,by decide +kernel,by decide +kernel⟩
theorem j7:au ["step"] ["step"] (ai (top 29)):=⟨rfl,rfl,rfl,by decide +kernel,rfl,by decide +kernel,by decide +kernel⟩
theorem iq:au ["step"] ["step"] (ai (top 28)):=⟨rfl,rfl,rfl,by decide +kernel,rfl,by decide +kernel,by decide +kernel⟩
theorem fw:au ["ladder","tracks","step","carried"] ["ladder"] (ai (top 30)):=⟨rfl,rfl,rfl,by decide +kernel,rfl,by decide +kernel,by decide +kernel⟩
theorem mJ:au ["_law_script","_law_k"] ["_law_script","_law_k"] (ai (top 45)):=⟨rfl,rfl,rfl,by decide +kernel,rfl,by decide +kernel,by decide +kernel⟩
theorem m7:au ["trail","k"] ["trail","k"] (ai (top 39)):=⟨rfl,rfl,rfl,by decide +kernel,rfl,by decide +kernel,by decide +kernel⟩
theorem dC:au ["many","size","found","turn","longer","choice","least"] ["many","size"] (ai (top 18)):=⟨rfl,rfl,rfl,by decide +kernel,rfl,by decide +kernel,by decide +kernel⟩
theorem cS:au ["step","places","stopped","start","end"] ["step","places"] (ai (top 35)):=⟨rfl,rfl,rfl,by decide +kernel,rfl,by decide +kernel,by decide +kernel⟩
theorem cJ:au ["ladder","ends","counts","all_places","step","behind","ahead","places","many"] ["ladder","ends"] (ai (top 36)):=⟨rfl,rfl,rfl,by decide +kernel,rfl,by decide +kernel,by decide +kernel⟩
theorem ck:au ["found","step","counts","longer","trail","places"] ["found","step","counts"] (ai (top 38)):=⟨rfl,rfl,rfl,by decide +kernel,rfl,by decide +kernel,by decide +kernel⟩
theorem iD:au ["ladder","starts","ends","counts","many","found","k","step"] ["ladder","starts","ends"] (ai (top 37)):=⟨rfl,rfl,rfl,by decide +kernel,rfl,by decide +kernel,by decide +kernel⟩
theorem qC:au ["ladder","i","j"] ["ladder","i","j"] (ai (top 40)):=⟨rfl,rfl,rfl,by decide +kernel,rfl,by decide +kernel,by decide +kernel⟩
theorem eN:au ["step","ahead","behind"] ["step","ahead","behind"] (ai (top 42)):=⟨rfl,rfl,rfl,by decide +kernel,rfl,by decide +kernel,by decide +kernel⟩
theorem dJ:au ["one","other","first","second"] ["one","other"] (ai (top 15)):=⟨rfl,rfl,rfl,by decide +kernel,rfl,by decide +kernel,by decide +kernel⟩
theorem eK:au ["ladder","way","weight","k","step"] ["ladder","way"] (ai (top 41)):=⟨rfl,rfl,rfl,by decide +kernel,rfl,by decide +kernel,by decide +kernel⟩
theorem nr:au ["_law_one","_law_other"] ["_law_one","_law_other"] (ai (top 53)):=⟨rfl,rfl,rfl,by decide +kernel,rfl,by decide +kernel,by decide +kernel⟩
theorem iC:au ["_law_step","_law_track","_law_word","_law_k","_law_weight_here"] ["_law_step","_law_track"] (ai (top 56)):=⟨rfl,rfl,rfl,by decide +kernel,rfl,by decide +kernel,by decide +kernel⟩
theorem kM:au ["_law_thing"] ["_law_thing"] (ai (top 49)):=⟨rfl,rfl,rfl,by decide +kernel,rfl,by decide +kernel,by decide +kernel⟩
theorem fq:au ["_law_ladder_here","_law_way","_law_i","_law_j"] ["_law_ladder_here","_law_way","_law_i","_law_j"] (ai (top 57)):=⟨rfl,rfl,rfl,by decide +kernel,rfl,by decide +kernel,by decide +kernel⟩
theorem gy:au ["_law_found","_law_top","_law_bottom"] ["_law_found","_law_top","_law_bottom"] (ai (top 50)):=⟨rfl,rfl,rfl,by decide +kernel,rfl,by decide +kernel,by decide +kernel⟩
theorem jP:au ["_law_ladder_here","_law_i","_law_j","_law_total","_law_found","_law_way","_law_weight_here"] ["_law_ladder_here","_law_i","_law_j"] (ai (top 58)):=⟨rfl,rfl,rfl,by decide +kernel,rfl,by decide +kernel,by decide +kernel⟩
theorem oY:au ["_law_script","_law_k","_law_cell_here","_law_ladder_here","_law_table","_law_i","_law_j","_law_total"] ["_law_script"] (ai (top 59)):=⟨rfl,rfl,rfl,by decide +kernel,rfl,by decide +kernel,by decide +kernel⟩
end K22
namespace K22
open PySem PySem.Spec PyProof.Rows L2 Hy
open Ev (D Den ax aN aH)
noncomputable def fZ:Int->List Int->List Int
 | _,[]=>[]
 | c,b :: r=>c.fmod b :: fZ (c.fdiv b) r
noncomputable def px (c:Int) (bs:List Int):Int:=bs.foldl (λc b=>c.fdiv b) c
noncomputable def rG (c:Int) (k:Nat) (b:Int):Int:=(((((c * 48271 + (k:Int) * k * 69621 + (k:Int) * 16807 + 11).fmod 2147483647) * 40692 + c + 31 * (k:Int)).fmod 2147483399).fdiv 7).fmod b
noncomputable def qv (c:Int) (bs:List Int):List Int:=(List.range bs.length).map λk=>rG c k (bs.getD k 0)
noncomputable def nums (c:Int) (bs:List Int):List Int:=if (10:Int) ^ (18:Int).toNat<=qF c then fZ c bs else qv c bs
theorem iy:∀ (bs:List Int) (c b:Int),fZ c (bs++[b])=fZ c bs++[(px c bs).fmod b]
 | [],_,_=>rfl
 | a :: bs,c,b=>by rw [List.cons_append,fZ,fZ,iy bs]; rfl
theorem gH:∀ (bs:List Int) (c:Int),(fZ c bs).length=bs.length
 | [],_=>rfl
 | _ :: bs,c=>congrArg (· + 1) (gH bs _)
theorem kc (c:Int) (bs:List Int):(nums c bs).length=bs.length:=by
 unfold nums
 split
 · exact gH bs c
 · simp [qv]
theorem lx:∀ (bs:List Int) (c:Int),(∀ b ∈ bs,0 < b)->∀ (i:Nat),i < bs.length->0<=(fZ c bs).getD i 0/\(fZ c bs).getD i 0 < bs.getD i 0
 | b :: bs,c,h,0,_=>by
   have:=h b (List.mem_cons_self ..)
   exact ⟨Int.fmod_nonneg_of_pos c this,Int.fmod_lt_of_pos c this⟩
 | b :: bs,c,h,i + 1,hi=>by
   have:=lx bs (c.fdiv b) (λx hx=>h x (List.mem_cons_of_mem _ hx)) i (by simpa using hi)
   simpa [fZ] using this
theorem fP {c:Int} {bs:List Int} (h:∀ b ∈ bs,0 < b) {i:Nat} (hi:i < bs.length):0<=(nums c bs).getD i 0/\(nums c bs).getD i 0 < bs.getD i 0:=by
 unfold nums
 split
 · exact lx bs c h i hi
 · have hp:0 < bs.getD i 0:=h _ (by simp [hi])
   have e:(qv c bs).getD i 0=rG c i (bs.getD i 0):=by simp [qv,hi]
   rw [e]
   exact ⟨Int.fmod_nonneg_of_pos _ hp,Int.fmod_lt_of_pos _ hp⟩
theorem take_snoc {α:Type} {xs:List α} {i:Nat} (d:α) (h:i < xs.length):xs.take (i + 1)=xs.take i++[xs.getD i d]:=by
 rw [List.take_add_one,List.getElem?_eq_getElem h]
 simp [h]
theorem rZ {b:Int} (h0:0 < b) (h:b < 2 ^ 60):0 < b/\aH b:=⟨h0,mkD (by omega) (by omega)⟩
noncomputable def bZ (ds:List D) (r:Sl):Prop:=∃ (c:Int) (bs:List Int),ds=[.int c,.lst (bs.map .int)]/\bs.length<=10000/\(∀ b ∈ bs,0 < b/\aH b)/\r=.o ((nums c bs).map .int)
noncomputable def tpD (c:List Int):D:=.tup (c.map .int)
noncomputable def k6 (cs:List (List Int)):D:=.lst (cs.map tpD)
noncomputable def bj (c:List Int):Int:=c.getD (c.length - 1) 0
noncomputable def lea (t:Nat) (c:List Int):Int:=if 0 < t then bj c + 1 else 0
noncomputable def onC (n t:Nat) (c:List Int):List (List Int):=(List.range ((n:Int) - lea t c).toNat).map λk=>c++[lea t c + (k:Nat)]
noncomputable def chs (n:Nat):Nat->List (List Int)
 | 0=>[[]]
 | t + 1=>(chs n t).flatMap (onC n t)
structure Chs (n t:Nat) (c:List Int):Prop where
 len:c.length=t
 at_:∀ i,i < t->0<=c.getD i 0/\c.getD i 0 < n
theorem eS (c:List Int) (x:Int):bj (c++[x])=x:=by simp [bj]
theorem bQ {c:List Int} {x:Int} {i:Nat}:(c++[x]).getD i 0=if i < c.length then c.getD i 0 else if i=c.length then x else 0:=by
 by_cases h:i < c.length
 · rw [if_pos h]; simp [List.getD,List.getElem?_append_left h]
 · rw [if_neg h]
   by_cases e:i=c.length
   · subst e; simp
   · rw [if_neg e]
     simp [List.getD]
     rw [List.getElem?_eq_none (by simp; omega)]
     rfl
theorem kI {n t:Nat} {c:List Int} (h:Chs n t c):0<=lea t c/\lea t c<=n:=by
 unfold lea
 by_cases ht:0 < t
 · have:=h.at_ (t - 1) (by omega)
   rw [if_pos ht,bj,h.len]
   omega
 · rw [if_neg ht]; omega
theorem fo (n:Nat):∀ t,∀ c ∈ chs n t,Chs n t c
 | 0,c,h=>by
   rw [chs,List.mem_singleton] at h
   subst h
   exact ⟨rfl,λi hi=>absurd hi (by omega)⟩
 | t + 1,c,h=>by
   rw [chs,List.mem_flatMap] at h
   obtain ⟨d,hd,hc⟩:=h
   have ih:=fo n t d hd
   have hl:=kI ih
   unfold onC at hc
   obtain ⟨k,hk,rfl⟩:=List.mem_map.mp hc
   rw [List.mem_range] at hk
   refine ⟨by rw [List.length_append,ih.len]; rfl,λi hi=>?_⟩
   rw [bQ,ih.len]
   by_cases e:i < t
   · rw [if_pos e]; exact ih.at_ i e
   · rw [if_neg e,if_pos (by omega)]; omega
theorem ji {n t:Nat} {c:List Int} (h:Chs n t c):(onC n t c).length<=n:=by
 have:=kI h
 simp [onC]
 omega
theorem cM {α β:Type} (f:α->List β) (m:Nat):∀ xs:List α,(∀ x ∈ xs,(f x).length<=m)->(xs.flatMap f).length<=xs.length * m
 | [],_=>by simp
 | x :: xs,h=>by
   rw [List.flatMap_cons,List.length_append,List.length_cons,Nat.succ_mul]
   have:=h x (List.mem_cons_self ..)
   have:=cM f m xs λy hy=>h y (List.mem_cons_of_mem _ hy)
   omega
theorem i6 {n:Nat} (hn:n<=7):∀ t,(chs n t).length<=7 ^ t
 | 0=>by simp [chs]
 | t + 1=>by
   rw [chs]
   have:=cM (onC n t) 7 (chs n t) λc hc=>Nat.le_trans (ji (fo n t c hc)) hn
   have:=i6 hn t
   rw [Nat.pow_succ]
   omega
noncomputable def cC (ds:List D) (r:Sl):Prop:=∃ n t:Nat,ds=[.int n,.int t]/\n<=7/\t<=7/\r=.d (k6 (chs n t))
theorem n4 {cs:List (List Int)} (i:Nat) (h:i < (cs.map tpD).length):(cs.map tpD)[i]=tpD (cs.getD i []):=by
 have:i < cs.length:=by simpa using h
 simp [this]
theorem dP {α:Type} {xs:List α} {i:Nat} {d:α} (h:i < xs.length):xs.getD i d ∈ xs:=by simp [h]
theorem lV {c:List Int} (h:c ≠ []):atI (c.map D.int) (-1)=some (.int (bj c)):=by
 have hl:0 < c.length:=List.length_pos_iff.mpr h
 unfold atI ixN bj
 rw [if_neg (by decide),if_pos (by rw [List.length_map]; omega),List.length_map]
 simp only [Option.bind_some]
 have e:(-1 + (c.length:Int)).toNat=c.length - 1:=by omega
 rw [e]
 simp [(by omega:c.length - 1 < c.length)]
section
variable {P:Program} {w:World} {K:PySem.W.Frag} {mg:Str->Option Value} {base:Heap} {k:Nat} {f:Addr} {fd:FuncData} {qual:Str}
theorem je (F:Fun K "_law_numbers" qual (top 46) f fd) (hb:∀ x ∈ ak,mg x=none):aL P w K mg base CX0 (k + 1) f fd ["_law_cell_here","_law_bases"] (spD K bZ):=by
 refine fnD F eF hb (by rintro _ _ ⟨_,_,rfl,_⟩; rfl) ?_
 rintro _ _ ⟨c,bs,rfl,hl,hbs,rfl⟩ cdv A outer s H E b
 have nd:=eF.nd
 have hp:∀ i,i < bs.length->0 < bs.getD i 0/\aH (bs.getD i 0):=λi hi=>hbs _ (by simp [hi])
 refine az 2 nd (a6 ah) ?_
 refine cn (aG (b9 b (ae (aa 0) ah) ka) (aA af af (uG ⟨by decide,by decide,by decide⟩)) rO) (λh=>?_) λh=>?_
 · refine bX 3 (λi τ=>∃ s3,τ=[.d (.int (px c (bs.take i))),.d (.lst (bs.map .int)),.o ((fZ c (bs.take i)).map .int),s3,.un,.un]) b nd (a0 (aa 1)) gN ⟨_,rfl⟩ (λi hi τ h=>?_) λτ h=>?_
   · obtain ⟨s3,rfl⟩:=h
     have hi:i < bs.length:=by simpa using hi
     obtain ⟨p1,p2⟩:=hp i hi
     refine kn 2 (aA (aa 0) (aa 3) (bO (by omega))) ?_ ?_
     · rw [List.length_map,gH,List.length_take]; omega
     refine az 0 nd (aA (aa 0) (aa 3) (aW p2)) (aQ ?_)
     apply ex1
     show [Sl.d (.int ((px c (bs.take i)).fdiv (bs.getD i 0))),_,Sl.o _,_,_,_]=_
     rw [take_snoc 0 hi,iy,List.map_append]
     unfold px
     rw [List.foldl_append]
     rfl
   · obtain ⟨s3,rfl⟩:=h
     refine i7 2 ?_
     rw [List.length_map,List.take_of_length_le (Nat.le_refl _)]
     unfold nums
     rw [if_pos (of_decide_eq_true h)]
 · refine jg 4 3 (λi τ=>∃ s3 s4 s5,τ=[.d (.int c),.d (.lst (bs.map .int)),.o (((List.range i).map λk=>rG c k (bs.getD k 0)).map .int),s3,s4,s5]) b nd (jV b (aa 1)) rf ⟨_,_,_,rfl⟩ (λi hi τ h=>?_) λτ h=>?_
   · obtain ⟨s3,s4,s5,rfl⟩:=h
     have hi:i < bs.length:=by rw [aU,List.length_map] at hi; exact hi
     obtain ⟨p1,p2⟩:=hp i hi
     refine az 5 nd (aA (aA (aA (aA (aA (aa 0) af (aY (mkR (by decide)))) (aA (aA (aa 4) (aa 4) (aY (mkL (by omega)))) af (aY (mkR (by decide)))) aT) (aA (aa 4) af (aY (mkR (by decide)))) aT) af aT) af (bO (by decide))) ?_
     refine kn 2 (aA (aA (aA (aA (aA (aA (aa 5) af (aY (mkR (by decide)))) (aa 0) aT) (aA af (aa 4) (aY (mkL (by decide)))) aT) af (bO (by decide))) af (aW (mkD (by decide) (by decide)))) (aa 3) (bO (by omega))) ?_ (aQ ?_)
     · rw [List.length_map,List.length_map,List.length_range]; omega
     apply ex3
     rw [List.range_succ,List.map_append,List.map_append]
     rfl
   · obtain ⟨s3,s4,s5,rfl⟩:=h
     refine i7 2 ?_
     rw [aU,List.length_map]
     unfold nums
     rw [if_neg (of_decide_eq_false h)]
     rfl
theorem iw (F:Fun K "choices_of" qual (top 18) f fd) (hb:∀ x ∈ ak,mg x=none):aL P w K mg base CX0 (k + 1) f fd ["many","size"] (spD K cC):=by
 refine fnD F dC hb (by rintro _ _ ⟨_,_,rfl,_⟩; rfl) ?_
 rintro _ _ ⟨n,t,rfl,hn,ht,rfl⟩ cdv A outer s H E b
 have nd:=dC.nd
 refine az 2 nd (a9 (a6 (ae (bN ah) ah))) ?_
 refine bX 3 (λi τ=>∃ s3 s4 s5 s6,τ=[.d (.int n),.d (.int t),.d (k6 (chs n i)),s3,s4,s5,s6]) b nd (fD b (aa 1) (by omega) (by omega)) fI ⟨.un,.un,.un,.un,rfl⟩ (λi hi τ h=>?_) λτ h=>?_
 · obtain ⟨s3,s4,s5,s6,rfl⟩:=h
   have hi:i < t:=by rw [aO] at hi; omega
   have l1:=i6 hn i
   have l2:7 ^ i<=7 ^ 6:=Nat.pow_le_pow_right (by decide) (by omega)
   refine az 4 nd (a6 ah) ?_
   refine bX 5 (g:=λl=>tpD ((chs n i).getD l [])) (λl τ=>∃ s5 s6,τ=[.d (.int n),.d (.int t),.d (k6 (chs n i)),.d (.int (i:Nat)),.o ((((chs n i).take l).flatMap (onC n i)).map tpD),s5,s6]) b nd (a0 (aa 2)) n4 ⟨s5,s6,rfl⟩ (λl hl τ h=>?_) λτ h=>?_
   · obtain ⟨s5,s6,rfl⟩:=h
     have hl:l < (chs n i).length:=by simpa using hl
     have ok:=fo n i _ (dP (d:=[]) hl)
     have hle:=kI ok
     have len1:=cM (onC n i) 7 ((chs n i).take l) λc hc=>Nat.le_trans (ji (fo n i c (List.mem_of_mem_take hc))) hn
     rw [List.length_take] at len1
     have len2:=ji ok
     refine az 6 nd (fG (s:=.d (.int (lea i ((chs n i).getD l [])))) (aG (aa 3) af jn) (λh=>?_) λh=>?_) ?_
     · have h:=of_decide_eq_true h
       have h0:0 < i:=by omega
       rw [show lea i ((chs n i).getD l [])=bj ((chs n i).getD l []) + 1 from if_pos h0]
       exact aA (ar (aa 5) (mC af) (ao (lV λz=>by have:=ok.len; rw [z] at this; simp at this; omega))) af aT
     · have h:=of_decide_eq_false h
       rw [show lea i ((chs n i).getD l [])=0 from if_neg (by omega)]
       exact af
     refine t5 4 (eU (cmp 0 (f:=λk=>tpD (((chs n i).getD l [])++[lea i ((chs n i).getD l []) + (k:Nat)])) b (tE b (aa 6) (aa 0) ⟨by omega,by omega,by omega,by omega⟩) (λk hk=>jm _ _ k hk) (by rw [aO]; omega) λk hk s0 H0 fp=>?_)) ?_ (aQ ⟨.d (tpD ((chs n i).getD l [])),.d (.int (lea i ((chs n i).getD l []))),?_⟩)
     · have e:tpD (((chs n i).getD l [])++[lea i ((chs n i).getD l []) + (k:Nat)])=.tup ((((chs n i).getD l []).map D.int)++[.int (lea i ((chs n i).getD l []) + (k:Nat))]):=by unfold tpD; rw [List.map_append]; rfl
       rw [e]
       exact aA (aa 1) (bN (ae (aa 0) ah)) (r6 (by rw [List.length_map,ok.len]; show _ + 1 < _; omega))
     · rw [List.length_map,List.length_map,List.length_range,aO]; omega
     · rw [take_snoc [] hl,List.flatMap_append,List.map_append,aO]
       show [_,_,_,_,Sl.o (_++(List.range ((n:Int) - lea i ((chs n i).getD l [])).toNat).map _),_,_]=_
       simp [onC]
   · obtain ⟨s5,s6,rfl⟩:=h
     refine pW 4 (az 2 nd (aa 4) (aQ ⟨.d (.int (i:Nat)),.d (k6 (chs n (i + 1))),s5,s6,?_⟩))
     rw [List.length_map,List.take_of_length_le (Nat.le_refl _)]
     rfl
 · obtain ⟨s3,s4,s5,s6,rfl⟩:=h
   refine aD (aa 2) ?_
   rw [aO,Int.toNat_natCast]
end
noncomputable def frD (q:Rat):D:=.tup [.int q.num,.int (q.den:Nat)]
theorem dj (x:Rat):x * (((x.den:Nat):Int):Rat)=(x.num:Rat):=by
 have h:mkRat x.num x.den=x:=by rw [<- Rat.normalize_eq_mkRat x.den_nz]; exact Rat.normalize_self x
 rw [Rat.mkRat_eq_div] at h
 have hd:((x.den:Nat):Rat) ≠ 0:=λz=>x.den_nz (Rat.natCast_eq_zero_iff.mp z)
 rw [Rat.intCast_natCast]
 conv=>lhs; lhs; rw [<- h]
 exact Rat.div_mul_cancel hd
theorem b5 {t b:Int} {x:Rat} (hb:0 < b) (h:(t:Rat)=x * (b:Rat)):x.num=t / (Int.gcd t b:Int)/\((x.den:Nat):Int)=b / (Int.gcd t b:Int):=by
 have hb0:((b.toNat:Nat):Rat) ≠ 0:=λz=>by have:=Rat.natCast_eq_zero_iff.mp z; omega
 have hbb:((b:Int):Rat)=((b.toNat:Nat):Rat):=by rw [<- Rat.intCast_natCast,Int.toNat_of_nonneg (by omega)]
 have e:x=mkRat t b.toNat:=by
   rw [Rat.mkRat_eq_div,h,hbb,Rat.mul_div_cancel hb0]
 have g:b.toNat.gcd t.natAbs=Int.gcd t b:=by
   rw [Int.gcd,Nat.gcd_comm,show b.natAbs=b.toNat by omega]
 have nz:¬ b.toNat=0:=by omega
 constructor
 · rw [e,Rat.num_mkRat,if_neg nz,g]
 · rw [e,Rat.den_mkRat,if_neg nz,g,Int.natCast_ediv,Int.toNat_of_nonneg (by omega)]
theorem den_pos (q:Rat):0 < ((q.den:Nat):Int):=by have:=q.den_pos; omega
theorem fj {b:Int} (hb:0 < b):(b:Rat) ≠ 0:=λz=>by have:=Rat.intCast_eq_zero_iff.mp z; omega
noncomputable def Bd (n:Nat) (i:Int):Prop:=i.natAbs < 2 ^ n
theorem Bd.mono {m n:Nat} {i:Int} (h:Bd m i) (hm:m<=n):Bd n i:=Nat.lt_of_lt_of_le h (Nat.pow_le_pow_right (by decide) hm)
theorem Bd.log {n:Nat} {i:Int} (h:Bd n i) (hn:0 < n):i.natAbs.log2 < n:=by
 rcases Nat.eq_zero_or_pos i.natAbs with z | z
 · rw [z]; exact hn
 · exact (Nat.log2_lt (by omega)).mpr h
theorem Bd.mul {m n:Nat} {i j:Int} (h:Bd m i) (g:Bd n j):Bd (m + n) (i * j):=by
 unfold Bd at *
 rw [Int.natAbs_mul,Nat.pow_add]
 rcases Nat.eq_zero_or_pos j.natAbs with z | z
 · rw [z,Nat.mul_zero]; exact Nat.mul_pos (Nat.two_pow_pos m) (Nat.two_pow_pos n)
 · exact Nat.lt_of_lt_of_le (Nat.mul_lt_mul_of_pos_right h z) (Nat.mul_le_mul_left _ (Nat.le_of_lt g))
theorem Bd.add {n:Nat} {i j:Int} (h:Bd n i) (g:Bd n j):Bd (n + 1) (i + j):=by
 unfold Bd at *
 rw [Nat.pow_succ]
 omega
theorem Bd.neg {n:Nat} {i:Int} (h:Bd n i):Bd n (-i):=by unfold Bd at *; rwa [Int.natAbs_neg]
theorem Bd.sub {n:Nat} {i j:Int} (h:Bd n i) (g:Bd n j):Bd (n + 1) (i - j):=by rw [Int.sub_eq_add_neg]; exact h.add g.neg
theorem Bd.aN {m n:Nat} {i j:Int} (h:Bd m i) (g:Bd n j) (hm:m<=1000000) (hn:n<=1000000):aN i j:=
 .inr (.inr ⟨(h.mono (Nat.le_succ_of_le hm)).log (by omega) |> λz=>by
   rcases Nat.eq_zero_or_pos i.natAbs with q | q
   · rw [q]; decide
   · exact Nat.lt_of_lt_of_le ((Nat.log2_lt (by omega)).mpr h) hm,by
   rcases Nat.eq_zero_or_pos j.natAbs with q | q
   · rw [q]; decide
   · exact Nat.lt_of_lt_of_le ((Nat.log2_lt (by omega)).mpr g) hn⟩)
theorem Bd.aH {n:Nat} {j:Int} (h:Bd n j) (h0:j ≠ 0) (hn:n<=9000):aH j:=⟨h0,Nat.lt_of_lt_of_le ((Nat.log2_lt (by omega)).mpr h) hn⟩
theorem Bd.of_dvd {n:Nat} {i j:Int} (h:Bd n j) (hd:i ∣ j) (h0:j ≠ 0):Bd n i:=Nat.lt_of_le_of_lt (Nat.le_of_dvd (by omega) (Int.natAbs_dvd_natAbs.mpr hd)) h
theorem Bd.ediv {n:Nat} {i:Int} (h:Bd n i) (j:Int):Bd n (i / j):=Nat.lt_of_le_of_lt (Int.natAbs_ediv_le_natAbs i j) h
theorem Bd.gcd {n:Nat} {i j:Int} (h:Bd n j) (h0:j ≠ 0):Bd n (Int.gcd i j:Int):=h.of_dvd (Int.gcd_dvd_right ..) h0
theorem gQ {i j:Int} (h0:j ≠ 0):(Int.gcd i j:Int) ≠ 0:=λz=>h0 (by have:=Int.gcd_eq_zero_iff.mp (Int.ofNat_eq_zero.mp z); exact this.2)
theorem aZ {i j:Int} (t:Int):t.fdiv (Int.gcd i j:Int)=t / (Int.gcd i j:Int):=Int.fdiv_eq_ediv_of_nonneg _ (Int.natCast_nonneg _)
structure Sq (n:Nat) (q:Rat):Prop where
 num:Bd n q.num
 den:Bd n (q.den:Nat)
theorem Sq.mono {m n:Nat} {q:Rat} (h:Sq m q) (hm:m<=n):Sq n q:=⟨h.num.mono hm,h.den.mono hm⟩
theorem Sq.b5 {n:Nat} {t b:Int} {x:Rat} (hb:0 < b) (h:(t:Rat)=x * (b:Rat)) (h1:Bd n t) (h2:Bd n b):Sq n x:=by
 obtain ⟨e1,e2⟩:=K22.b5 hb h
 exact ⟨by rw [e1]; exact h1.ediv _,by rw [e2]; exact h2.ediv _⟩
noncomputable def whl (x:D):Bool:=hX .int x && !hX .bool x
noncomputable def bL (ds:List D) (r:Sl):Prop:=∃ x,ds=[x]/\r=.d (.bl (whl x))
noncomputable def bo (ds:List D) (r:Sl):Prop:=∃ i l m:Int,ds=[.int i,.int l,.int m]/\r=.d (.bl (decide (l<=i) && decide (i<=m)))
noncomputable def aM (ds:List D) (r:Sl):Prop:=∃ a b:Int,ds=[.int a,.int b]/\r=.d (.int (Int.gcd a b:Int))
theorem ei (i:Int):qF i=(i.natAbs:Int):=by unfold qF; omega
noncomputable def ni:D->Bool
 | .tup [.int a,.int b]=>decide (1<=b) && decide ((Int.gcd a b:Int)=1)
 | _=>false
theorem pR (q:Rat):ni (frD q)=true:=by
 have h1:=den_pos q
 have h2:Int.gcd q.num (q.den:Nat)=1:=q.reduced
 show (decide ((1:Int)<=(q.den:Nat)) && decide ((Int.gcd q.num (q.den:Nat):Int)=1))=true
 rw [h2,decide_eq_true (show (1:Int)<=(q.den:Nat) by omega)]
 rfl
theorem oa {xs:List D} (h:xs.length ≠ 2):ni (.tup xs)=false:=by
 unfold ni
 split
 · rename_i e; cases e; exact absurd rfl h
 · rfl
noncomputable def b8 (ds:List D) (r:Sl):Prop:=∃ x,ds=[x]/\r=.d (.bl (ni x))
noncomputable def dh (ds:List D) (r:Sl):Prop:=∃ q:Rat,ds=[frD q]/\0<=q.num/\r=.d (.bl true)
noncomputable abbrev Stp:=Str × Nat × Rat
noncomputable def stD (s:Stp):D:=.tup [.str s.1,.int (s.2.1:Nat),frD s.2.2]
noncomputable def okS (T:Nat) (s:Stp):Prop:=0<=s.2.2.num/\((s.1 = "weigh" /\ s.2.1 < T)\/((s.1 = "down" \/ s.1 = "up")/\s.2.1 + 1 < T))
noncomputable def eP (ds:List D) (r:Sl):Prop:=∃ (T:Nat) (s:Stp),ds=[stD s,.int T]/\okS T s/\r=.d (.bl true)
noncomputable def bT (T R C:Nat) (ss:List Stp):D:=.tup [.int T,.int R,.int C,.lst (ss.map stD)]
structure okL (T R C:Nat) (ss:List Stp):Prop where
 t1:1<=T
 t7:T<=7
 r1:1<=R
 rT:R<=T
 c1:1<=C
 cT:C<=T
 len:ss.length<=400
 st:∀ i,i < ss.length->okS T (ss.getD i ("weigh",0,0))
theorem uf {ss:List Stp} (i:Nat) (h:i < (ss.map stD).length):(ss.map stD)[i]=stD (ss.getD i ("weigh",0,0)):=by
 have:i < ss.length:=by simpa using h
 simp [this]
noncomputable def de (ds:List D) (r:Sl):Prop:=∃ (T R C:Nat) (ss:List Stp),ds=[bT T R C ss]/\okL T R C ss/\r=.d (.bl true)
noncomputable def bb (ds:List D) (r:Sl):Prop:=∃ (T R C:Nat) (ss:List Stp),ds=[bT T R C ss]/\okL T R C ss/\r=.d .non
noncomputable def rgS (s:Stp):Nat:=if s.1 = "down" then s.2.1 else s.2.1 + 1
noncomputable def bH (ds:List D) (r:Sl):Prop:=∃ s:Stp,ds=[stD s]/\r=.d (.int (rgS s:Nat))
noncomputable def rgE (s:Stp):Nat:=if s.1 = "down" then s.2.1 + 1 else s.2.1
noncomputable def cA (ds:List D) (r:Sl):Prop:=∃ s:Stp,ds=[stD s]/\r=.d (.int (rgE s:Nat))
noncomputable def mvd (a b:Nat) (c:List Int):List Int:=c.map λt=>if t=(a:Int) then (b:Int) else t
noncomputable def has (c:List Int) (x:Int):Bool:=c.any λw=>decide (w=x)
noncomputable def nxp (s:Stp) (c:List Int):List (List Int):=
 if s.1 = "weigh" then (if s.2.2.num=0/\has c s.2.1=true then [] else [c])
 else if s.2.2.num=0\/has c (rgS s)=false\/has c (rgE s)=true then [c]
 else if HT.lexLt (mvd (rgS s) (rgE s) c) c then [mvd (rgS s) (rgE s) c,c] else [c,mvd (rgS s) (rgE s) c]
noncomputable def bw (ds:List D) (r:Sl):Prop:=∃ (s:Stp) (c:List Int),ds=[stD s,tpD c]/\c ≠ []/\c.length<=1000/\r=.o ((nxp s c).map tpD)
theorem qL (a b:Nat) (c:List Int):(List.range (c.map D.int).length).map (λi=>D.int (if c.getD i 0=(a:Int) then (b:Int) else c.getD i 0))=(mvd a b c).map D.int:=by
 refine List.ext_getElem (by simp [mvd]) λi h1 h2=>?_
 have:i < c.length:=by simpa [mvd] using h2
 simp [mvd,this]
section
variable {P:Program} {w:World} {K:PySem.W.Frag} {mg:Str->Option Value} {base:Heap} {k:Nat} {f:Addr} {fd:FuncData} {qual:Str}
theorem ki (F:Fun K "is_whole" qual (top 8) f fd) (hb:∀ x ∈ ak,mg x=none):aL P w K mg base CX0 (k + 1) f fd ["thing"] (spD K bL):=by
 refine fnD F jG hb (by rintro _ _ ⟨_,rfl,_⟩; rfl) ?_
 rintro _ _ ⟨x,rfl,rfl⟩ cdv A outer s H E b
 exact aD (iL (cV .int b (aa 0)) λh=>(iB (qV (cV .bool b (aa 0))))) rfl
theorem g9 (F:Fun K "is_between" qual (top 9) f fd) (hb:∀ x ∈ ak,mg x=none) (c_is_whole:Cal P w K mg base k "is_whole" bL):aL P w K mg base CX0 (k + 1) f fd ["thing","least","most"] (spD K bo):=by
 refine fnD F ia hb (by rintro _ _ ⟨_,_,_,rfl,_⟩; rfl) ?_
 rintro _ _ ⟨i,l,m,rfl,rfl⟩ cdv A outer s H E b
 exact aD (iL (x_call b c_is_whole (ae (aa 0) ah) ⟨_,rfl,rfl⟩) λh=>(iB (qi (aa 1) (aa 0) (aa 2) u6 u6).1)) rfl
theorem eG (F:Fun K "common_divisor" qual (top 11) f fd) (hb:∀ x ∈ ak,mg x=none):aL P w K mg base CX0 (k + 1) f fd ["one","other"] (spD K aM):=by
 refine fnD F bW hb (by rintro _ _ ⟨_,_,rfl,_⟩; rfl) ?_
 rintro _ _ ⟨x,y,rfl,rfl⟩ cdv A outer s H E b
 have nd:=bW.nd
 refine az 2 nd (b9 b (ae (aa 0) ah) ka) (az 3 nd (b9 b (ae (aa 1) ah) ka) ?_)
 rw [ei,ei]
 refine lX (λn t τ=>∃ (g:Nat) (s4:Sl),Nat.gcd g n=Int.gcd x y/\t=(!decide ((n:Int)=0))/\τ=[.d (.int x),.d (.int y),.d (.int g),.d (.int n),s4]) b ⟨_,_,_,_,rfl,rfl,rfl⟩ (λn t τ h=>?_) (λn τ h=>?_) λn τ h=>?_
 · obtain ⟨g,s4,_,rfl,rfl⟩:=h
   exact aG (aa 3) af ie
 · obtain ⟨g,s4,hg,ht,rfl⟩:=h
   have hl:n ≠ 0:=λz=>by simp [z] at ht
   have e:(g:Int).fmod n=((g % n:Nat):Int):=by rw [Int.fmod_eq_emod_of_nonneg _ (by omega)]; rfl
   refine az 4 nd (aA (aa 2) (aa 3) (bO (by omega))) ?_
   rw [e]
   refine az 2 nd (aa 3) (az 3 nd (aa 4) (aQ ⟨g % n,_,Nat.mod_lt g (Nat.pos_of_ne_zero hl),n,_,?_,rfl,rfl⟩))
   rw [<- hg,Nat.gcd_comm n,<- Nat.gcd_rec,Nat.gcd_comm]
 · obtain ⟨g,s4,hg,ht,rfl⟩:=h
   have hl:n=0:=by simpa using ht
   refine aD (aa 2) ?_
   rw [<- hg,hl,Nat.gcd_zero_right]
theorem gq (F:Fun K "is_fraction" qual (top 10) f fd) (hb:∀ x ∈ ak,mg x=none) (c_is_whole:Cal P w K mg base k "is_whole" bL) (c_common_divisor:Cal P w K mg base k "common_divisor" aM):aL P w K mg base CX0 (k + 1) f fd ["thing"] (spD K b8):=by
 refine fnD F gO hb (by rintro _ _ ⟨_,rfl,_⟩; rfl) ?_
 rintro _ _ ⟨x,rfl,rfl⟩ cdv A outer s H E b
 by_cases ht:hX .tuple x=true
 · obtain ⟨xs,rfl⟩:∃ xs,x=.tup xs:=by cases x <;> first | exact ⟨_,rfl⟩ | cases ht
   refine cn (PW.pt (cc (a4 (aV (cV .tuple b (aa 0)))) λh=>(bY (aG (b9 b (ae (aa 0) ah) gE) af ie)))) (λh=>?_) λh=>?_
   · refine aD pG ?_
     have h:(!decide ((xs.length:Int)=2))=true:=h
     have:xs.length ≠ 2:=λz=>by rw [z] at h; cases h
     rw [oa this]
   · have h:(!decide ((xs.length:Int)=2))=false:=h
     have h2:xs.length=2:=by simp at h; omega
     obtain ⟨u,v,rfl⟩:∃ u v,xs=[u,v]:=by
       match xs,h2 with
       | [u,v],_=>exact ⟨u,v,rfl⟩
     refine cn (PW.pt (cc (a4 (aV (x_call b c_is_whole (ae (ar (aa 0) af (ao (ag (i:=0) rfl))) ah) ⟨_,rfl,rfl⟩))) λh=>(bY (a4 (aV (x_call b c_is_whole (ae (ar (aa 0) af (ao (ag (i:=1) rfl))) ah) ⟨_,rfl,rfl⟩)))))) (λh=>?_) λh=>?_
     · refine aD pG ?_
       have:ni (.tup [u,v])=false:=by cases u <;> cases v <;> first | rfl | cases h
       rw [this]
     · obtain ⟨i,j,rfl,rfl⟩:∃ i j,u=.int i/\v=.int j:=by cases u <;> cases v <;> first | exact ⟨_,_,rfl,rfl⟩ | cases h
       exact aD (iL (eJ (ar (aa 0) af (ao (ag (i:=1) rfl))) af rO) λh=>(iB (eJ (x_call b c_common_divisor (ae (ar (aa 0) af (ao (ag (i:=0) rfl))) (ae (ar (aa 0) af (ao (ag (i:=1) rfl))) ah)) ⟨_,_,rfl,rfl⟩) af eX))) rfl
 · have e:hX .tuple x=false:=by simpa using ht
   have ef:ni x=false:=by cases x <;> first | rfl | cases e
   refine cn (PW.pt (cc (q:=true) (a4 (aV (cV .tuple b (aa 0)))) λh=>(by rw [e] at h; cases h))) (λh=>?_) λh=>?_
   · refine aD pG ?_
     rw [ef]
   · rw [Bool.or_true] at h; cases h
theorem ja (F:Fun K "is_weight" qual (top 24) f fd) (hb:∀ x ∈ ak,mg x=none) (c_is_fraction:Cal P w K mg base k "is_fraction" b8):aL P w K mg base CX0 (k + 1) f fd ["thing"] (spD K dh):=by
 refine fnD F i8 hb (by rintro _ _ ⟨_,rfl,_⟩; rfl) ?_
 rintro _ _ ⟨q,rfl,h0,rfl⟩ cdv A outer s H E b
 refine aD (iL (x_call b c_is_fraction (ae (aa 0) ah) ⟨_,rfl,rfl⟩) λh=>(iB (eJ (ar (aa 0) af (ao (ag (i:=0) rfl))) af rO))) ?_
 rw [pR,decide_eq_true h0]
 rfl
theorem kC (F:Fun K "is_step" qual (top 25) f fd) (hb:∀ x ∈ ak,mg x=none) (c_is_between:Cal P w K mg base k "is_between" bo) (c_is_weight:Cal P w K mg base k "is_weight" dh):aL P w K mg base CX0 (k + 1) f fd ["thing","tracks"] (spD K eP):=by
 refine fnD F kT hb (by rintro _ _ ⟨_,_,rfl,_⟩; rfl) ?_
 rintro _ _ ⟨T,⟨u,n,q⟩,rfl,⟨h0,h1⟩,rfl⟩ cdv A outer s H E b
 refine bt (PW.pt (cc (a4 (aV (cV .tuple b (aa 0)))) λh=>(cc (aG (b9 b (ae (aa 0) ah) gE) af ie) λh=>(bY (a4 (aV (x_call b c_is_weight (ae (ar (aa 0) af (ao (ag (i:=2) rfl))) ah) ⟨q,rfl,h0,rfl⟩))))))) rfl ?_
 refine cn (aG (ar (aa 0) af (ao (ag (i:=0) rfl))) bB ek) (λh=>?_) λh=>?_
 · refine aD (x_call b c_is_between (ae (ar (aa 0) af (ao (ag (i:=1) rfl))) (ae af (ae (aA (aa 1) af iE) ah))) ⟨_,_,_,rfl,rfl⟩) ?_
   have e:=of_decide_eq_true h
   have hn:n < T:=by
     rcases h1 with h1 | h1
     · exact h1.2
     · have:=h1.2; simp only at this; omega
   rw [decide_eq_true (show (0:Int)<=n by omega),decide_eq_true (show (n:Int)<=(T:Int) - 1 by omega)]
   rfl
 · have e:=of_decide_eq_false h
   obtain ⟨e1,e2⟩:(u = "down" \/ u = "up")/\n + 1 < T:=by
     rcases h1 with h1 | h1
     · exact absurd h1.1 e
     · exact h1
   refine aD (iL (eJ (ar (aa 0) af (ao (ag (i:=0) rfl))) (bN (ae bB (ae bB ah))) (tR (us:=["down","up"]))) λh=>(iB (x_call b c_is_between (ae (ar (aa 0) af (ao (ag (i:=1) rfl))) (ae af (ae (aA (aa 1) af iE) ah))) ⟨_,_,_,rfl,rfl⟩))) ?_
   rw [decide_eq_true (show (0:Int)<=n by omega),decide_eq_true (show (n:Int)<=(T:Int) - 2 by omega)]
   have:(([("down" : Str),"up"]:List Str).any λw=>decide (w=u))=true:=by
     clear h e h1 h0
     rcases e1 with rfl | rfl <;> decide +kernel
   show Sl.d (.bl ((([("down" : Str),"up"]:List Str).any λw=>decide (w=u)) && _))=_
   rw [this]
   rfl
theorem jt (F:Fun K "is_ladder" qual (top 26) f fd) (hb:∀ x ∈ ak,mg x=none) (y_MOST:∃ t,mg "MOST" = some (.int 7 t)) (y_MOST_STEPS:∃ t,mg "MOST_STEPS" = some (.int 400 t)) (c_is_between:Cal P w K mg base k "is_between" bo) (c_is_step:Cal P w K mg base k "is_step" eP):aL P w K mg base CX0 (k + 1) f fd ["thing"] (spD K de):=by
 refine fnD F jw hb (by rintro _ _ ⟨_,_,_,_,rfl,_⟩; rfl) ?_
 rintro _ _ ⟨T,R,C,ss,rfl,h,rfl⟩ cdv A outer s H E b
 have ht:decide ((1:Int)<=T)=true/\decide ((T:Int)<=7)=true:=⟨decide_eq_true (by have:=h.t1; omega),decide_eq_true (by have:=h.t7; omega)⟩
 have hr:decide ((1:Int)<=R)=true/\decide ((R:Int)<=T)=true:=⟨decide_eq_true (by have:=h.r1; omega),decide_eq_true (by have:=h.rT; omega)⟩
 have hc:decide ((1:Int)<=C)=true/\decide ((C:Int)<=T)=true:=⟨decide_eq_true (by have:=h.c1; omega),decide_eq_true (by have:=h.cT; omega)⟩
 have hl:(ss.map stD).length=ss.length:=List.length_map ..
 have hlen:=h.len
 refine bt (PW.pt (cc (a4 (aV (cV .tuple b (aa 0)))) λh=>(cc (aG (b9 b (ae (aa 0) ah) gE) af ie) λh=>(bY (a4 (aV (x_call b c_is_between (ae (ar (aa 0) af (ao (ag (i:=0) rfl))) (ae af (ae (lb y_MOST) ah))) ⟨_,_,_,rfl,rfl⟩))))))) ?_ ?_
 · rw [ht.1,ht.2]; rfl
 refine bt (PW.pt (cc (a4 (aV (x_call b c_is_between (ae (ar (aa 0) af (ao (ag (i:=1) rfl))) (ae af (ae (ar (aa 0) af (ao (ag (i:=0) rfl))) ah))) ⟨_,_,_,rfl,rfl⟩))) λh=>(bY (a4 (aV (x_call b c_is_between (ae (ar (aa 0) af (ao (ag (i:=2) rfl))) (ae af (ae (ar (aa 0) af (ao (ag (i:=0) rfl))) ah))) ⟨_,_,_,rfl,rfl⟩)))))) ?_ ?_
 · rw [hr.1,hr.2,hc.1,hc.2]; rfl
 refine bt (PW.pt (cc (a4 (aV (cV .list b (ar (aa 0) af (ao (ag (i:=3) rfl)))))) λh=>(bY (aG (b9 b (ae (ar (aa 0) af (ao (ag (i:=3) rfl))) ah) jS) (lb y_MOST_STEPS) jn)))) ?_ ?_
 · rw [hl,decide_eq_false (show ¬ (400:Int) < ss.length by omega)]; rfl
 refine aD (b9 b (ae (a9 (eU (cmp 0 (f:=λ_=>.bl true) b (a0 (ar (aa 0) af (ao (ag (i:=3) rfl)))) uf ?_ λi hi s0 H0 fp=>(x_call (b.comp s0 H0 _ fp) c_is_step (ae (aa 0) (ae (ar (aa 1) af (ao (ag (i:=0) rfl))) ah)) ⟨T,_,rfl,h.st i (by omega),rfl⟩)))) ah) (oS b.calm ((List.range (ss.map stD).length).map λ_=>true) (by rw [List.map_map]; rfl))) ?_
 · omega
 · have:((List.range (ss.map stD).length).map λ_=>true).all id=true:=by rw [List.all_map,List.all_eq_true]; intro _ _; rfl
   rw [this]
theorem gg (F:Fun K "look_ladder" qual (top 27) f fd) (hb:∀ x ∈ ak,mg x=none) (c_is_ladder:Cal P w K mg base k "is_ladder" de):aL P w K mg base CX0 (k + 1) f fd ["thing"] (spD K bb):=by
 refine fnD F gW hb (by rintro _ _ ⟨_,_,_,_,rfl,_⟩; rfl) ?_
 rintro _ _ ⟨T,R,C,ss,rfl,h,rfl⟩ cdv A outer s H E b
 exact bt (a4 (aV (x_call b c_is_ladder (ae (aa 0) ah) ⟨T,R,C,ss,rfl,h,rfl⟩))) rfl (aQ rfl)
theorem gY (F:Fun K "rung_start" qual (top 28) f fd) (hb:∀ x ∈ ak,mg x=none):aL P w K mg base CX0 (k + 1) f fd ["step"] (spD K bH):=by
 refine fnD F iq hb (by rintro _ _ ⟨_,rfl,_⟩; rfl) ?_
 rintro _ _ ⟨⟨u,n,q⟩,rfl,rfl⟩ cdv A outer s H E b
 refine aD (s:=.d (.int (rgS (u,n,q):Nat))) (fG (aG (ar (aa 0) af (ao (ag (i:=0) rfl))) bB ek) (λh=>?_) λh=>?_) rfl
 · rw [show rgS (u,n,q)=n from if_pos (of_decide_eq_true h)]
   exact ar (aa 0) af (ao (ag (i:=1) rfl))
 · rw [show rgS (u,n,q)=n + 1 from if_neg (of_decide_eq_false h)]
   exact aA (ar (aa 0) af (ao (ag (i:=1) rfl))) af aT
theorem jF (F:Fun K "rung_end" qual (top 29) f fd) (hb:∀ x ∈ ak,mg x=none):aL P w K mg base CX0 (k + 1) f fd ["step"] (spD K cA):=by
 refine fnD F j7 hb (by rintro _ _ ⟨_,rfl,_⟩; rfl) ?_
 rintro _ _ ⟨⟨u,n,q⟩,rfl,rfl⟩ cdv A outer s H E b
 refine aD (s:=.d (.int (rgE (u,n,q):Nat))) (fG (aG (ar (aa 0) af (ao (ag (i:=0) rfl))) bB ek) (λh=>?_) λh=>?_) rfl
 · rw [show rgE (u,n,q)=n + 1 from if_pos (of_decide_eq_true h)]
   exact aA (ar (aa 0) af (ao (ag (i:=1) rfl))) af aT
 · rw [show rgE (u,n,q)=n from if_neg (of_decide_eq_false h)]
   exact ar (aa 0) af (ao (ag (i:=1) rfl))
theorem gh (F:Fun K "next_places" qual (top 35) f fd) (hb:∀ x ∈ ak,mg x=none) (c_rung_start:Cal P w K mg base k "rung_start" bH) (c_rung_end:Cal P w K mg base k "rung_end" cA):aL P w K mg base CX0 (k + 1) f fd ["step","places"] (spD K bw):=by
 refine fnD F cS hb (by rintro _ _ ⟨_,_,rfl,_⟩; rfl) ?_
 rintro _ _ ⟨⟨u,n,q⟩,c,rfl,h0,hl,rfl⟩ cdv A outer s H E b
 have nd:=cS.nd
 have st0:∀ {C:Bool} {τ:List Sl} {p1 p2:Pos} {i j},τ[0]?=some (.d (stD (u,n,q)))->PE (Xc P w K mg base ["step","places","stopped","start","end"] qual (top 35) f cdv A outer s H E) (.Subscript (.Name "step" p1) (.Constant (.int 0) i j) p2) (dE K C τ (.d (.str u))):=λh=>ar (aa 0 h) af (ao (ag (i:=0) rfl))
 have st1:∀ {C:Bool} {τ:List Sl} {p1 p2:Pos} {i j},τ[0]?=some (.d (stD (u,n,q)))->PE (Xc P w K mg base ["step","places","stopped","start","end"] qual (top 35) f cdv A outer s H E) (.Subscript (.Name "step" p1) (.Constant (.int 1) i j) p2) (dE K C τ (.d (.int (n:Nat)))):=λh=>ar (aa 0 h) af (ao (ag (i:=1) rfl))
 refine az 2 nd (eJ (ar (ar (aa 0) af (ao (ag (i:=2) rfl))) af (ao (ag (i:=0) rfl))) af eX) ?_
 refine cn (aG (st0 rfl) bB ek) (λhw=>?_) λhw=>?_
 · have hw:u = "weigh":=of_decide_eq_true hw
   refine aD (s:=.o ((nxp (u,n,q) c).map tpD)) (fG (PW.pt (ft (aV (aa 2)) λh=>(gS (aG (st1 rfl) (aa 1) rd)))) (λh=>?_) λh=>?_) rfl
   · rw [Bool.and_eq_true] at h
     have:nxp (u,n,q) c=[]:=by
       unfold nxp
       rw [if_pos hw,if_pos ⟨of_decide_eq_true h.1,h.2⟩]
     rw [this]
     exact a6 ah
   · have:nxp (u,n,q) c=[c]:=by
       unfold nxp
       rw [if_pos hw,if_neg]
       rintro ⟨z1,z2⟩
       rw [decide_eq_true z1] at h
       rw [show (c.any λw=>decide (w=((n:Nat):Int)))=true from z2] at h
       cases h
     rw [this]
     exact a6 (ae (aa 1) ah)
 · have hw:¬ u = "weigh":=of_decide_eq_false hw
   refine az 3 nd (x_call b c_rung_start (ae (aa 0) ah) ⟨_,rfl,rfl⟩) ?_
   refine az 4 nd (x_call b c_rung_end (ae (aa 0) ah) ⟨_,rfl,rfl⟩) ?_
   refine cn (PW.pt (cc (aV (aa 2)) λh=>(cc (aG (aa 3) (aa 1) rV) λh=>(bY (aG (aa 4) (aa 1) rd))))) (λh=>?_) λh=>?_
   · have:nxp (u,n,q) c=[c]:=by
       unfold nxp
       rw [if_neg hw,if_pos]
       rw [Bool.or_eq_true,Bool.or_eq_true] at h
       rcases h with h | h | h
       · exact .inl (of_decide_eq_true h)
       · exact .inr (.inl (by simpa [has] using h))
       · exact .inr (.inr h)
     exact aD (a6 (ae (aa 1) ah)) (by rw [this]; rfl)
   · have e:nxp (u,n,q) c=if HT.lexLt (mvd (rgS (u,n,q)) (rgE (u,n,q)) c) c then [mvd (rgS (u,n,q)) (rgE (u,n,q)) c,c] else [c,mvd (rgS (u,n,q)) (rgE (u,n,q)) c]:=by
       rw [Bool.or_eq_false_iff,Bool.or_eq_false_iff] at h
       obtain ⟨h1,h2,h3⟩:=h
       unfold nxp
       rw [if_neg hw,if_neg]
       rintro (z | z | z)
       · exact of_decide_eq_false h1 z
       · rw [show (c.any λw=>decide (w=((rgS (u,n,q):Nat):Int)))=false from z] at h2
         cases h2
       · rw [show (c.any λw=>decide (w=((rgE (u,n,q):Nat):Int)))=true from z] at h3
         cases h3
     refine aD (b9 b (ae (a9 (a6 (ae (aa 1) (ae (vZ b (ae (a9 (eU (cmp 0 (f:=λi=>.int (if c.getD i 0=((rgS (u,n,q):Nat):Int) then ((rgE (u,n,q):Nat):Int) else c.getD i 0)) b (vm (aa 1)) gN (by rw [List.length_map]; omega) λi hi s0 H0 fp=>(fG (aG (aa 0) (aa 2) eX) (λh=>?_) λh=>?_)))) ah) sN) ah)))) ah) (by rw [qL]; exact tK h0 (λz=>h0 (List.map_eq_nil_iff.mp z)))) ?_
     · rw [if_pos (of_decide_eq_true h)]; exact aa 1
     · rw [if_neg (of_decide_eq_false h)]; exact aa 0
     · rw [e]
       split <;> rfl
end
noncomputable def b6 (zs:List (List Int × Int)) (k:List Int):Option Int:=(zs.find? λx=>decide (x.1=k)).map (·.2)
noncomputable def i3 (zs:List (List Int × Int)) (k:List Int) (v:Int):List (List Int × Int):=if (b6 zs k).isSome then zs.map λy=>if y.1=k then (y.1,v) else y else zs++[(k,v)]
noncomputable def nZ (zs:List (List Int × Int)) (k:List Int):Int:=(b6 zs k).getD 0
noncomputable def zE (zs:List (List Int × Int)):List (List Int × D):=zs.map λx=>(x.1,.int x.2)
theorem fS (zs:List (List Int × Int)) (k:List Int):getM (zE zs) k=(b6 zs k).map .int:=by
 unfold getM b6 zE
 induction zs with
 | nil=>rfl
 | cons x zs ih=>
   rw [List.map_cons,List.find?_cons,List.find?_cons]
   by_cases h:x.1=k
   · simp [h]
   · simpa [h] using ih
theorem qj (zs:List (List Int × Int)) (k:List Int) (v:Int):nA (zE zs) k (.int v)=zE (i3 zs k v):=by
 unfold nA i3
 rw [fS,Option.isSome_map]
 split
 · unfold zE
   rw [List.map_map,List.map_map]
   refine List.map_congr_left λx _=>?_
   simp only [Function.comp]
   split <;> rfl
 · unfold zE
   rw [List.map_append]
   rfl
theorem mh (zs:List (List Int × Int)) (k:List Int):(getM (zE zs) k).getD (.int 0)=.int (nZ zs k):=by
 rw [fS]
 unfold nZ
 cases b6 zs k <;> rfl
theorem hdI:(Ev.bD Ev.cI).dep<=7:=by show 1<=7; decide
noncomputable def cX (P:Program) (w:World) (zs:List (List Int × Int)):D:=bxD (Ev.bD Ev.cI) hdI P w (zE zs)
theorem gG {K:PySem.W.Frag} (c:List Int):∀ (H:Hp) (v:V),Den K H v ((Ev.bD Ev.cI).toD c)->∃ b,v=.ref b:=λH v d=>by
 have d:Den K H v (.tup (c.map D.int)):=d
 cases d with
 | tup h r=>exact ⟨_,rfl⟩
noncomputable def cN (s:Stp) (prev:List (List Int × Int)) (p:List Int):Int:=((nxp s p).map (nZ prev)).sum
noncomputable def cq (s:Stp) (prev:List (List Int × Int)) (ps:List (List Int)):List (List Int × Int):=ps.foldl (λm p=>if 0 < cN s prev p then i3 m p (cN s prev p) else m) []
noncomputable def cm (T:Nat) (e:List Int):List Stp->List (List Int × Int)
 | []=>[(e,1)]
 | s :: ss=>cq s (cm T e ss) (chs T e.length)
theorem ou (zs:List (List Int × Int)) (k q:List Int) (v:Int):b6 (i3 zs k v) q=if q=k then some v else b6 zs q:=by
 unfold i3
 split
 · rename_i h
   unfold b6 at h ⊢
   induction zs with
   | nil=>simp at h
   | cons x zs ih=>
     rw [List.map_cons,List.find?_cons,List.find?_cons]
     rw [List.find?_cons] at h
     by_cases hx:x.1=k
     · by_cases hq:q=k
       · subst hq; simp [hx]
       · have:¬ k=q:=λz=>hq z.symm
         simp only [hx,if_true,this,decide_false,hq,if_false]
         by_cases hk:(zs.find? λx=>decide (x.1=k)).isSome
         · have:=ih (by simpa using hk)
           simp only [hq,if_false] at this
           exact this
         · have hn:∀ y ∈ zs,¬ y.1=k:=λy hy e=>hk (by rw [List.find?_isSome]; exact ⟨y,hy,by simp [e]⟩)
           have:zs.map (λy=>if y.1=k then (y.1,v) else y)=zs:=by
             conv=>rhs; rw [<- List.map_id zs]
             exact List.map_congr_left λy hy=>by rw [if_neg (hn y hy)]; rfl
           rw [this]
     · simp only [hx,decide_false] at h
       simp only [hx,if_false]
       by_cases hq:x.1=q
       · have:¬ q=k:=λz=>hx (hq.trans z)
         simp [hq,this]
       · simp only [hq,decide_false]
         exact ih h
 · rename_i h
   have hn:b6 zs k=none:=by simpa using h
   unfold b6 at hn ⊢
   rw [List.find?_append]
   by_cases hq:q=k
   · subst hq
     rw [Option.map_eq_none_iff] at hn
     simp [hn]
   · have:¬ k=q:=λz=>hq z.symm
     simp [this,hq]
theorem dX (s:Stp) (prev:List (List Int × Int)) (ps:List (List Int)) (p:List Int):cq s prev (ps++[p])=if 0 < cN s prev p then i3 (cq s prev ps) p (cN s prev p) else cq s prev ps:=by
 unfold cq
 rw [List.foldl_append]
 rfl
theorem oQ (zs:List (List Int × Int)) (k:List Int) (v:Int):(i3 zs k v).length<=zs.length + 1:=by
 unfold i3
 split <;> simp
theorem mK (s:Stp) (prev:List (List Int × Int)) (ps:List (List Int)) (p:List Int) (m:Nat) (h:(cq s prev ps).length<=m):(cq s prev (ps++[p])).length<=m + 1:=by
 rw [dX]
 split
 · exact Nat.le_trans (oQ _ _ _) (by omega)
 · omega
theorem dY (s:Stp) (prev:List (List Int × Int)) (ps:List (List Int)):∀ l,(cq s prev (ps.take l)).length<=l
 | 0=>by simp [cq]
 | l + 1=>by
   by_cases h:l < ps.length
   · rw [take_snoc [] h]
     exact mK s prev _ _ l (dY s prev ps l)
   · rw [List.take_of_length_le (by omega),<- List.take_of_length_le (i:=l) (l:=ps) (by omega)]
     have:=dY s prev ps l
     omega
noncomputable def eR (P:Program) (w:World) (T:Nat) (e:List Int) (ss:List Stp) (i:Nat):List D:=(List.range (i + 1)).map λj=>cX P w (cm T e (ss.drop (ss.length - j)))
noncomputable def bM (P:Program) (w:World) (ds:List D) (r:Sl):Prop:=∃ (T R C:Nat) (ss:List Stp) (e:List Int),ds=[bT T R C ss,tpD e]/\okL T R C ss/\e ≠ []/\e.length<=7/\r=.o ((List.range (ss.length + 1)).map λk=>cX P w (cm T e (ss.drop k)))
theorem oK (P:Program) (w:World) (T:Nat) (e:List Int) (ss:List Stp) (i:Nat):atI (eR P w T e ss i) (-1)=some (cX P w (cm T e (ss.drop (ss.length - i)))):=by
 unfold atI ixN eR
 rw [if_neg (by decide),if_pos (by rw [List.length_map,List.length_range]; omega),List.length_map,List.length_range]
 simp only [Option.bind_some]
 rw [show (-1 + ((i + 1:Nat):Int)).toNat=i by omega]
 simp
theorem qx (P:Program) (w:World) (T:Nat) (e:List Int) (ss:List Stp):(eR P w T e ss ss.length).reverse=(List.range (ss.length + 1)).map λk=>cX P w (cm T e (ss.drop k)):=by
 unfold eR
 refine List.ext_getElem (by simp) λi h1 h2=>?_
 rw [List.getElem_reverse]
 have hi:i < ss.length + 1:=by simpa using h2
 simp only [List.getElem_map,List.getElem_range,List.length_map,List.length_range]
 rw [show ss.length - (ss.length + 1 - 1 - i)=i by omega]
theorem pA {ss:List Stp} (i:Nat) (h:i < (ss.map stD).reverse.length):(ss.map stD).reverse[i]=stD (ss.getD (ss.length - 1 - i) ("weigh",0,0)):=by
 have:i < ss.length:=by simpa using h
 rw [List.getElem_reverse]
 simp only [List.getElem_map,List.length_map]
 simp [(by omega:ss.length - 1 - i < ss.length)]
theorem jA (s:Stp) (c:List Int):(nxp s c).length<=2:=by
 unfold nxp
 split
 · split <;> simp
 · split
   · simp
   · split <;> simp
section
variable {P:Program} {w:World} {K:PySem.W.Frag} {mg:Str->Option Value} {base:Heap} {k:Nat} {f:Addr} {fd:FuncData} {qual:Str}
theorem fN (F:Fun K "counts_ahead" qual (top 36) f fd) (hb:∀ x ∈ ak,mg x=none) (c_choices_of:Cal P w K mg base k "choices_of" cC) (c_next_places:Cal P w K mg base k "next_places" bw):aL P w K mg base CX0 (k + 1) f fd ["ladder","ends"] (spD K (bM P w)):=by
 refine fnD F cJ hb (by rintro _ _ ⟨_,_,_,_,_,rfl,_⟩; rfl) ?_
 rintro _ _ ⟨T,R,C,ss,e,rfl,ok,e0,e7,rfl⟩ cdv A outer s H E b
 have nd:=cJ.nd
 have t7:=ok.t7
 have h400:=ok.len
 have hu:(Xc P w K mg base ["ladder","ends","counts","all_places","step","behind","ahead","places","many"] qual (top 36) f cdv A outer s H E).A.units + 16 < cLine:=Nat.lt_of_le_of_lt (Nat.add_le_add_left (by decide:16<=64) _) b.room.units
 have el:1<=e.length:=List.length_pos_iff.mpr e0
 have lp:=i6 t7 e.length
 have lp7:7 ^ e.length<=7 ^ 7:=Nat.pow_le_pow_right (by decide) e7
 refine az 2 nd (a6 (ae (u4 (a:=Ev.bD Ev.cI) (hd:=hdI) (m:=zE [(e,1)]) (sS (key:=e) hu (aa 1) af (gG e))) ah)) ?_
 refine az 3 nd (x_call b c_choices_of (ae (ar (aa 0) af (ao (ag (i:=0) rfl))) (ae (b9 b (ae (aa 1) ah) gE) ah)) ⟨T,e.length,by rw [List.length_map],t7,e7,rfl⟩) ?_
 refine bX 4 (g:=λi=>stD (ss.getD (ss.length - 1 - i) ("weigh",0,0))) (λi τ=>∃ s4 s5 s6 s7 s8,τ=[.d (bT T R C ss),.d (tpD e),.o (eR P w T e ss i),.d (k6 (chs T e.length)),s4,s5,s6,s7,s8]) b nd (vj b (ar (aa 0) af (ao (ag (i:=3) rfl)))) pA ⟨.un,.un,.un,.un,.un,?_⟩ (λi hi τ h=>?_) λτ h=>?_
 · have:eR P w T e ss 0=[cX P w [(e,1)]]:=by
     unfold eR
     rw [List.range_one,List.map_singleton,Nat.sub_zero,List.drop_length]
     rfl
   rw [this]
   rfl
 · obtain ⟨s4,s5,s6,s7,s8,rfl⟩:=h
   have hi:i < ss.length:=by simpa using hi
   have ed:ss.drop (ss.length - (i + 1))=ss.getD (ss.length - 1 - i) ("weigh",0,0) :: ss.drop (ss.length - i):=by
     rw [List.drop_eq_getElem_cons (by omega)]
     congr 1
     · simp [(by omega:ss.length - 1 - i < ss.length),show ss.length - (i + 1)=ss.length - 1 - i by omega]
     · congr 1; omega
   generalize hsg:ss.getD (ss.length - 1 - i) ("weigh",0,0)=sg at ed
   generalize hpv:cm T e (ss.drop (ss.length - i))=prev
   refine az 5 nd (lI 2 (mC af) (oK P w T e ss i)) ?_
   rw [hpv]
   refine az 6 nd (su (a:=Ev.bD Ev.cI) (hd:=hdI)) ?_
   refine bX 7 (g:=λl=>tpD ((chs T e.length).getD l [])) (λl τ=>∃ s7 s8,τ=[.d (bT T R C ss),.d (tpD e),.o (eR P w T e ss i),.d (k6 (chs T e.length)),.d (stD sg),.d (cX P w prev),.x (exK (Ev.bD Ev.cI) hdI P w (zE (cq sg prev ((chs T e.length).take l)))),s7,s8]) b nd (a0 (aa 3)) n4 ⟨s7,s8,rfl⟩ (λl hl τ h=>?_) λτ h=>?_
   · obtain ⟨s7,s8,rfl⟩:=h
     have hl:l < (chs T e.length).length:=by simpa using hl
     have okc:=fo T e.length _ (dP (d:=[]) hl)
     have cne:(chs T e.length).getD l [] ≠ []:=λz=>by have:=okc.len; rw [z] at this; simp at this; omega
     generalize hp:(chs T e.length).getD l []=p at okc cne ⊢
     refine az 8 nd (b9 b (ae (a9 (eU (cmp 0 (g:=λj=>tpD ((nxp sg p).getD j [])) (f:=λj=>.int (nZ prev ((nxp sg p).getD j []))) b (a0 (a9 (x_call b c_next_places (ae (aa 4) (ae (aa 7) ah)) ⟨sg,p,rfl,cne,by rw [okc.len]; omega,rfl⟩))) n4 ?_ λj hj s0 H0 fp=>?_))) ah) (t8 b.calm ((nxp sg p).map (nZ prev)) ?_)) ?_
     · rw [List.length_map]; have:=jA sg p; omega
     · rw [<- mh]
       exact lL (a:=Ev.bD Ev.cI) (hd:=hdI) (m:=zE prev) (key:=(nxp sg p).getD j []) (Nat.lt_of_le_of_lt (Nat.add_le_add_left (by decide:16<=64) _) (b.comp s0 H0 _ fp).room.units) (aa 1) (aa 0) af (gG _)
     · rw [List.length_map]
       refine List.ext_getElem (by simp) λj h1 h2=>?_
       have:j < (nxp sg p).length:=by simpa using h1
       simp [this]
     rw [show ((nxp sg p).map (nZ prev)).sum=cN sg prev p from rfl]
     have tk:(chs T e.length).take (l + 1)=(chs T e.length).take l++[p]:=by rw [take_snoc [] hl,hp]
     refine jb (M:=λτ=>τ=[.d (bT T R C ss),.d (tpD e),.o (eR P w T e ss i),.d (k6 (chs T e.length)),.d (stD sg),.d (cX P w prev),.x (exK (Ev.bD Ev.cI) hdI P w (zE (cq sg prev ((chs T e.length).take (l + 1))))),.d (tpD p),.d (.int (cN sg prev p))]) (aG (aa 8) af jn) (λh=>?_) (λh=>?_) λτ h=>aQ ⟨_,_,h⟩
     · have h:0 < cN sg prev p:=of_decide_eq_true h
       refine tf 6 (a:=Ev.bD Ev.cI) (hd:=hdI) (key:=p) (x:=.int (cN sg prev p)) hu rfl (aa 7) (aa 8) ?_ (gG p) (aQ ?_)
       · unfold zE
         rw [List.length_map]
         have:=dY sg prev (chs T e.length) l
         have lim:1000000<=sizeLine:=by decide
         omega
       · rw [qj,tk,dX,if_pos h]
         rfl
     · have h:¬ 0 < cN sg prev p:=of_decide_eq_false h
       refine aQ ?_
       rw [tk,dX,if_neg h]
       rfl
   · obtain ⟨s7,s8,rfl⟩:=h
     refine uI 6 (a:=Ev.bD Ev.cI) (hd:=hdI) ?_
     refine kn 2 (aa 6) ?_ (aQ ⟨.d (stD sg),.d (cX P w prev),.d (cX P w (cm T e (ss.drop (ss.length - (i + 1))))),s7,s8,?_⟩)
     · unfold eR; rw [List.length_map,List.length_range]; omega
     · have e1:cm T e (ss.drop (ss.length - (i + 1)))=cq sg prev (chs T e.length):=by rw [ed,cm,hpv]
       have e2:eR P w T e ss (i + 1)=eR P w T e ss i++[cX P w (cm T e (ss.drop (ss.length - (i + 1))))]:=by
         unfold eR
         rw [List.range_succ,List.map_append]
         rfl
       rw [e2,e1,List.length_map,List.take_of_length_le (Nat.le_refl _)]
       rfl
 · obtain ⟨s4,s5,s6,s7,s8,rfl⟩:=h
   refine rA 2 (i7 2 ?_)
   rw [List.length_reverse,List.length_map,qx]
end
noncomputable def trD (t:List (List Int)):D:=.lst (t.map tpD)
noncomputable def br (t:List (List Int)):List Int:=t.getD (t.length - 1) []
noncomputable def alv (zs:List (List Int × Int)) (q:List Int):Bool:=(b6 zs q).isSome
noncomputable def onT (s:Stp) (zs:List (List Int × Int)) (t:List (List Int)):List (List (List Int)):=((nxp s (br t)).filter (alv zs)).map λq=>t++[q]
noncomputable def lgT (s:Stp) (zs:List (List Int × Int)) (fs:List (List (List Int))):List (List (List Int)):=fs.flatMap (onT s zs)
theorem pT (s:Stp) (zs:List (List Int × Int)) (t:List (List Int)):(onT s zs t).length<=2:=by
 unfold onT
 rw [List.length_map]
 exact Nat.le_trans (List.length_filter_le _ _) (jA s (br t))
theorem pg {t:List (List Int)} (h:t ≠ []):atI (t.map tpD) (-1)=some (tpD (br t)):=by
 have hl:0 < t.length:=List.length_pos_iff.mpr h
 unfold atI ixN br
 rw [if_neg (by decide),if_pos (by rw [List.length_map]; omega),List.length_map]
 simp only [Option.bind_some]
 have e:(-1 + (t.length:Int)).toNat=t.length - 1:=by omega
 rw [e]
 simp [(by omega:t.length - 1 < t.length)]
structure TrO (m:Nat) (t:List (List Int)):Prop where
 ne:t ≠ []
 ln:br t ≠ []
 l7:(br t).length<=1000
 len:t.length<=m
noncomputable def bC (P:Program) (w:World) (ds:List D) (r:Sl):Prop:=∃ (fs:List (List (List Int))) (s:Stp) (zs:List (List Int × Int)),ds=[.lst (fs.map trD),stD s,cX P w zs]/\fs.length<=3000/\(∀ t ∈ fs,TrO 1000 t)/\r=.o ((lgT s zs fs).map trD)
theorem uT {fs:List (List (List Int))} (i:Nat) (h:i < (fs.map trD).length):(fs.map trD)[i]=trD (fs.getD i []):=by
 have:i < fs.length:=by simpa using h
 simp [this]
theorem jR (s:Stp) (prev:List (List Int × Int)) (q:List Int):∀ (ps:List (List Int)) (m:List (List Int × Int)),b6 (ps.foldl (λm p=>if 0 < cN s prev p then i3 m p (cN s prev p) else m) m) q=if q ∈ ps/\0 < cN s prev q then some (cN s prev q) else b6 m q
 | [],m=>by simp
 | p :: ps,m=>by
   rw [List.foldl_cons,jR s prev q ps]
   by_cases h1:q ∈ ps/\0 < cN s prev q
   · rw [if_pos h1,if_pos ⟨List.mem_cons_of_mem _ h1.1,h1.2⟩]
   · rw [if_neg h1]
     by_cases hp:0 < cN s prev p
     · rw [if_pos hp,ou]
       by_cases e:q=p
       · subst e
         rw [if_pos rfl,if_pos ⟨List.mem_cons_self ..,hp⟩]
       · rw [if_neg e,if_neg]
         rintro ⟨z1,z2⟩
         exact h1 ⟨(List.mem_cons.mp z1).resolve_left e,z2⟩
     · rw [if_neg hp,if_neg]
       rintro ⟨z1,z2⟩
       rcases List.mem_cons.mp z1 with rfl | z1
       · exact hp z2
       · exact h1 ⟨z1,z2⟩
theorem step_get (s:Stp) (prev:List (List Int × Int)) (ps:List (List Int)) (q:List Int):b6 (cq s prev ps) q=if q ∈ ps/\0 < cN s prev q then some (cN s prev q) else none:=jR s prev q ps []
theorem rM (T:Nat) (e:List Int):∀ (ss:List Stp) (q:List Int) (v:Int),b6 (cm T e ss) q=some v->1<=v
 | [],q,v,h=>by
   rw [cm,b6,List.find?_cons] at h
   split at h
   · cases h; exact Int.le_refl _
   · simp at h
 | s :: ss,q,v,h=>by
   rw [cm,step_get] at h
   split at h
   · cases h; rename_i z; omega
   · cases h
theorem bJ {T:Nat} {e:List Int} {ss:List Stp} {q:List Int}:(alv (cm T e ss) q=true->1<=nZ (cm T e ss) q)/\(alv (cm T e ss) q=false->nZ (cm T e ss) q=0):=by
 unfold alv nZ
 cases h:b6 (cm T e ss) q with
 | none=>exact ⟨λz=>(by cases z),λ_=>rfl⟩
 | some v=>exact ⟨λ_=>rM T e ss q v h,λz=>by cases z⟩
noncomputable def trK (T:Nat) (e st:List Int) (ss:List Stp):Nat->List (List (List Int))
 | 0=>if 0 < nZ (cm T e ss) st then [[st]] else []
 | k + 1=>lgT (ss.getD k ("weigh",0,0)) (cm T e (ss.drop (k + 1))) (trK T e st ss k)
theorem lst_snoc (t:List (List Int)) (q:List Int):br (t++[q])=q:=by simp [br]
theorem sum_filter (zs:List (List Int × Int)) (f:List Int->Int) (h:∀ q,alv zs q=false->f q=0):∀ qs:List (List Int),((qs.filter (alv zs)).map f).sum=(qs.map f).sum
 | []=>rfl
 | q :: qs=>by
   cases hq:alv zs q with
   | true=>rw [List.filter_cons_of_pos hq,List.map_cons,List.map_cons,List.sum_cons,List.sum_cons,sum_filter zs f h qs]
   | false=>rw [List.filter_cons_of_neg (by rw [hq]; decide),List.map_cons,List.sum_cons,sum_filter zs f h qs,h q hq,Int.zero_add]
theorem jM {α β:Type} (f:α->List β) (g:β->Int):∀ xs:List α,((xs.flatMap f).map g).sum=(xs.map λx=>((f x).map g).sum).sum
 | []=>rfl
 | x :: xs=>by rw [List.flatMap_cons,List.map_append,List.sum_append,jM f g xs,List.map_cons,List.sum_cons]
theorem iU {ss:List Stp} {k:Nat} (h:k < ss.length):ss.drop k=ss.getD k ("weigh",0,0) :: ss.drop (k + 1):=by
 rw [List.drop_eq_getElem_cons h]
 simp [h]
theorem oO {α:Type} {f g:α->Int}:∀ {xs:List α},(∀ x ∈ xs,f x=g x)->(xs.map f).sum=(xs.map g).sum
 | [],_=>rfl
 | x :: xs,h=>by rw [List.map_cons,List.map_cons,List.sum_cons,List.sum_cons,h x (List.mem_cons_self ..),oO λy hy=>h y (List.mem_cons_of_mem _ hy)]
theorem gK (T:Nat) (e st:List Int) (ss:List Stp):∀ k,k<=ss.length->(∀ t ∈ trK T e st ss k,t.length=k + 1/\alv (cm T e (ss.drop k)) (br t)=true)/\((trK T e st ss k).map λt=>nZ (cm T e (ss.drop k)) (br t)).sum=nZ (cm T e ss) st
 | 0,_=>by
   rw [trK]
   split
   · rename_i h
     refine ⟨λt ht=>?_,by simp [br]⟩
     rw [List.mem_singleton] at ht
     subst ht
     refine ⟨rfl,?_⟩
     show alv (cm T e ss) st=true
     cases hq:alv (cm T e ss) st with
     | true=>rfl
     | false=>rw [bJ.2 hq] at h; omega
   · rename_i h
     refine ⟨λt ht=>(by cases ht),?_⟩
     show (0:Int)=_
     cases hq:alv (cm T e ss) st with
     | true=>have:=bJ.1 hq; omega
     | false=>rw [bJ.2 hq]
 | k + 1,hk=>by
   obtain ⟨i1,i2⟩:=gK T e st ss k (by omega)
   have ed:=iU (ss:=ss) (k:=k) (by omega)
   rw [trK]
   generalize ss.getD k ("weigh",0,0)=s at ed ⊢
   refine ⟨λt ht=>?_,?_⟩
   · unfold lgT onT at ht
     rw [List.mem_flatMap] at ht
     obtain ⟨t0,h0,h1⟩:=ht
     obtain ⟨q,hq,rfl⟩:=List.mem_map.mp h1
     refine ⟨by rw [List.length_append,(i1 t0 h0).1]; rfl,?_⟩
     rw [lst_snoc]
     exact (List.mem_filter.mp hq).2
   · rw [<- i2]
     unfold lgT
     rw [jM]
     refine oO λt ht=>?_
     unfold onT
     rw [List.map_map]
     have e1:((λt=>nZ (cm T e (ss.drop (k + 1))) (br t)) ∘ λq=>t++[q])=nZ (cm T e (ss.drop (k + 1))):=funext λq=>by simp only [Function.comp,lst_snoc]
     rw [e1,sum_filter _ _ λq hq=>bJ.2 hq]
     have h2:=(i1 t ht).2
     rw [ed] at h2 ⊢
     unfold alv at h2
     unfold nZ
     rw [cm,step_get] at h2 ⊢
     by_cases z:br t ∈ chs T e.length/\0 < cN s (cm T e (ss.drop (k + 1))) (br t)
     · rw [if_pos z]
       rfl
     · rw [if_neg z] at h2; cases h2
theorem mz {α:Type} {f:α->Int}:∀ {xs:List α},(∀ x ∈ xs,1<=f x)->(xs.length:Int)<=(xs.map f).sum
 | [],_=>by simp
 | x :: xs,h=>by
   rw [List.map_cons,List.sum_cons,List.length_cons]
   have:=h x (List.mem_cons_self ..)
   have:=mz λy hy=>h y (List.mem_cons_of_mem x hy)
   omega
theorem mq (T:Nat) (e st:List Int) (ss:List Stp) {k:Nat} (hk:k<=ss.length):((trK T e st ss k).length:Int)<=nZ (cm T e ss) st:=by
 obtain ⟨i1,i2⟩:=gK T e st ss k hk
 rw [<- i2]
 exact mz λt ht=>bJ.1 (i1 t ht).2
theorem pV {T:Nat} {e:List Int} {ss:List Stp} {q:List Int} (h:alv (cm T e ss) q=true) (he:ss=[]->q.length=e.length):q.length=e.length:=by
 cases ss with
 | nil=>exact he rfl
 | cons s ss=>
   unfold alv at h
   rw [cm,step_get] at h
   split at h
   · rename_i z; exact (fo T e.length q z.1).len
   · cases h
theorem qw {T:Nat} {e q:List Int} (h:alv (cm T e []) q=true):q=e:=by
 unfold alv at h
 rw [cm,b6,List.find?_cons] at h
 split at h
 · rename_i z; exact (of_decide_eq_true z).symm
 · simp at h
theorem lz {T:Nat} {e:List Int} {ss:List Stp} {q:List Int} (h:alv (cm T e ss) q=true):q.length=e.length:=pV h λz=>by subst z; rw [qw h]
noncomputable def gp (ds:List D) (r:Sl):Prop:=∃ (T R C:Nat) (ss:List Stp) (st e:List Int),ds=[bT T R C ss,tpD st,tpD e]/\okL T R C ss/\e ≠ []/\e.length<=7/\nZ (cm T e ss) st<=3000/\r=.d (.lst ((trK T e st ss ss.length).map trD))
theorem kK {ss:List Stp} (i:Nat) (h:i < (eH (ss.map stD)).length):(eH (ss.map stD))[i]=.tup [.int (i:Nat),stD (ss.getD i ("weigh",0,0))]:=by
 rw [aU,List.length_map] at h
 rw [jx]
 simp [h]
section
variable {P:Program} {w:World} {K:PySem.W.Frag} {mg:Str->Option Value} {base:Heap} {k:Nat} {f:Addr} {fd:FuncData} {qual:Str}
theorem eO (F:Fun K "longer_trails" qual (top 38) f fd) (hb:∀ x ∈ ak,mg x=none) (c_next_places:Cal P w K mg base k "next_places" bw):aL P w K mg base CX0 (k + 1) f fd ["found","step","counts"] (spD K (bC P w)):=by
 refine fnD F ck hb (by rintro _ _ ⟨_,_,_,rfl,_⟩; rfl) ?_
 rintro _ _ ⟨fs,sg,zs,rfl,hl,hf,rfl⟩ cdv A outer s H E b
 have nd:=ck.nd
 have hu:(Xc P w K mg base ["found","step","counts","longer","trail","places"] qual (top 38) f cdv A outer s H E).A.units + 16 < cLine:=Nat.lt_of_le_of_lt (Nat.add_le_add_left (by decide:16<=64) _) b.room.units
 refine az 3 nd (a6 ah) ?_
 refine bX 4 (g:=λi=>trD (fs.getD i [])) (λi τ=>∃ s4 s5,τ=[.d (.lst (fs.map trD)),.d (stD sg),.d (cX P w zs),.o ((lgT sg zs (fs.take i)).map trD),s4,s5]) b nd (a0 (aa 0)) uT ⟨.un,.un,rfl⟩ (λi hi τ h=>?_) λτ h=>?_
 · obtain ⟨s4,s5,rfl⟩:=h
   have hi:i < fs.length:=by simpa using hi
   have ht:=hf _ (dP (d:=[]) hi)
   have lt:=cM (onT sg zs) 2 (fs.take i) λt _=>pT sg zs t
   rw [List.length_take] at lt
   have hlg:lgT sg zs (fs.take (i + 1))=lgT sg zs (fs.take i)++onT sg zs (fs.getD i []):=by
     unfold lgT
     rw [take_snoc [] hi,List.flatMap_append]
     simp
   generalize fs.getD i []=t at ht hlg ⊢
   refine bX 5 (g:=λl=>tpD ((nxp sg (br t)).getD l [])) (λl τ=>∃ s5,τ=[.d (.lst (fs.map trD)),.d (stD sg),.d (cX P w zs),.o ((lgT sg zs (fs.take i)++(((nxp sg (br t)).take l).filter (alv zs)).map λq=>t++[q]).map trD),.d (trD t),s5]) b nd (a0 (a9 (x_call b c_next_places (ae (aa 1) (ae (ar (aa 4) (mC af) (aX (pg ht.ne))) ah)) ⟨sg,br t,rfl,ht.ln,ht.l7,rfl⟩))) n4 ⟨s5,by simp⟩ (λl hl τ h=>?_) λτ h=>?_
   · obtain ⟨s5,rfl⟩:=h
     have hl:l < (nxp sg (br t)).length:=by simpa using hl
     have n2:=jA sg (br t)
     have tk:(nxp sg (br t)).take (l + 1)=(nxp sg (br t)).take l++[(nxp sg (br t)).getD l []]:=take_snoc [] hl
     generalize (nxp sg (br t)).getD l []=q at tk ⊢
     have lf:((((nxp sg (br t)).take l).filter (alv zs)).map λq=>t++[q]).length<=2:=by
       rw [List.length_map]
       exact Nat.le_trans (List.length_filter_le _ _) (by rw [List.length_take]; omega)
     refine jb (M:=λτ=>τ=[.d (.lst (fs.map trD)),.d (stD sg),.d (cX P w zs),.o ((lgT sg zs (fs.take i)++(((nxp sg (br t)).take (l + 1)).filter (alv zs)).map λq=>t++[q]).map trD),.d (trD t),.d (tpD q)]) (aG (aa 5) (aa 2) (ub (a:=Ev.bD Ev.cI) (hd:=hdI) (m:=zE zs) (key:=q) hu (gG q))) (λh=>?_) (λh=>?_) λτ h=>aQ ⟨_,h⟩
     · have h:alv zs q=true:=by rw [fS,Option.isSome_map] at h; exact h
       refine kn 3 (a9 (qN (aa 4) (a9 (a6 (ae (aa 5) ah))) ?_)) ?_ (aQ ?_)
       · rw [List.length_map]; have:=ht.len; show _ + 1 < _; omega
       · rw [List.length_map,List.length_append]
         show (lgT sg zs (fs.take i)).length + _ < _
         unfold lgT
         omega
       · have er:(lgT sg zs (fs.take i)++(((nxp sg (br t)).take (l + 1)).filter (alv zs)).map λq=>t++[q]).map trD=(lgT sg zs (fs.take i)++(((nxp sg (br t)).take l).filter (alv zs)).map λq=>t++[q]).map trD++[.lst (t.map tpD++[tpD q])]:=by
           rw [tk,List.filter_append,List.filter_cons_of_pos h,List.filter_nil]
           simp [trD]
         rw [er]
         rfl
     · have h:alv zs q=false:=by rw [fS,Option.isSome_map] at h; exact h
       refine aQ ?_
       rw [tk,List.filter_append,List.filter_cons_of_neg (by rw [h]; decide),List.filter_nil,List.append_nil]
       rfl
   · obtain ⟨s5,rfl⟩:=h
     refine aQ ⟨.d (trD t),s5,?_⟩
     rw [hlg,List.length_map,List.take_of_length_le (Nat.le_refl _)]
     rfl
 · obtain ⟨s4,s5,rfl⟩:=h
   refine i7 3 ?_
   rw [List.length_map,List.take_of_length_le (Nat.le_refl _)]
theorem nc (F:Fun K "trails" qual (top 37) f fd) (hb:∀ x ∈ ak,mg x=none) (y_MOST_LISTED:∃ t,mg "MOST_LISTED" = some (.int 3000 t)) (c_counts_ahead:Cal P w K mg base k "counts_ahead" (bM P w)) (c_longer_trails:Cal P w K mg base k "longer_trails" (bC P w)):aL P w K mg base CX0 (k + 1) f fd ["ladder","starts","ends"] (spD K gp):=by
 refine fnD F iD hb (by rintro _ _ ⟨_,_,_,_,_,_,rfl,_⟩; rfl) ?_
 rintro _ _ ⟨T,R,C,ss,st,e,rfl,ok,e0,e7,h3,rfl⟩ cdv A outer s H E b
 have nd:=iD.nd
 have h400:=ok.len
 have el:1<=e.length:=List.length_pos_iff.mpr e0
 have hu:(Xc P w K mg base ["ladder","starts","ends","counts","many","found","k","step"] qual (top 37) f cdv A outer s H E).A.units + 16 < cLine:=Nat.lt_of_le_of_lt (Nat.add_le_add_left (by decide:16<=64) _) b.room.units
 have at_:∀ k:Nat,k<=ss.length->atI ((List.range (ss.length + 1)).map λk=>cX P w (cm T e (ss.drop k))) (k:Int)=some (cX P w (cm T e (ss.drop k))):=λk hk=>ag (by simp [(by omega:k < ss.length + 1)])
 refine az 3 nd (a9 (x_call b c_counts_ahead (ae (aa 0) (ae (aa 2) ah)) ⟨T,R,C,ss,e,rfl,ok,e0,e7,rfl⟩)) ?_
 refine az 4 nd (lL (a:=Ev.bD Ev.cI) (hd:=hdI) (m:=zE (cm T e ss)) (key:=st) hu (ar (aa 3) af (aX (at_ 0 (Nat.zero_le _)))) (aa 1) af (gG st)) ?_
 rw [mh]
 refine bt (aG (aa 4) (lb y_MOST_LISTED) jn) (decide_eq_false (by omega)) ?_
 refine az 5 nd (fG (s:=.d (.lst ((trK T e st ss 0).map trD))) (aG (aa 4) af jn) (λh=>?_) λh=>?_) ?_
 · rw [show trK T e st ss 0=[[st]] from if_pos (of_decide_eq_true h)]
   exact a9 (a6 (ae (a9 (a6 (ae (aa 1) ah))) ah))
 · rw [show trK T e st ss 0=[] from if_neg (of_decide_eq_false h)]
   exact a9 (a6 ah)
 refine jg 6 7 (λi τ=>∃ s6 s7,τ=[.d (bT T R C ss),.d (tpD st),.d (tpD e),.d (.lst ((List.range (ss.length + 1)).map λk=>cX P w (cm T e (ss.drop k)))),.d (.int (nZ (cm T e ss) st)),.d (.lst ((trK T e st ss i).map trD)),s6,s7]) b nd (jV b (ar (aa 0) af (ao (ag (i:=3) rfl)))) kK ⟨.un,.un,rfl⟩ (λi hi τ h=>?_) λτ h=>?_
 · obtain ⟨s6,s7,rfl⟩:=h
   have hi:i < ss.length:=by rw [aU,List.length_map] at hi; exact hi
   obtain ⟨i1,_⟩:=gK T e st ss i (by omega)
   have il:=mq T e st ss (k:=i) (by omega)
   refine az 5 nd (a9 (x_call b c_longer_trails (ae (aa 5) (ae (aa 7) (ae (ar (aa 3) (aA (aa 6) af aT) (aX (at_ (i + 1) (by omega)))) ah))) ⟨trK T e st ss i,_,cm T e (ss.drop (i + 1)),rfl,by omega,λt ht=>?_,rfl⟩)) (aQ ⟨_,_,rfl⟩)
   obtain ⟨z1,z2⟩:=i1 t ht
   have zl:=lz z2
   exact ⟨λz=>by rw [z] at z1; simp at z1,λz=>by rw [z] at zl; simp at zl; omega,by omega,by omega⟩
 · obtain ⟨s6,s7,rfl⟩:=h
   refine aD (aa 5) ?_
   rw [aU,List.length_map]
end
noncomputable def bV (ds:List D) (r:Sl):Prop:=∃ a b:Int,ds=[.int a,.int b]/\r=.d (.int (Int.gcd a b:Int))
noncomputable def eA (ds:List D) (r:Sl):Prop:=∃ (t b:Int) (q:Rat),ds=[.int t,.int b]/\0 < b/\Bd 8999 b/\(t:Rat)=q * (b:Rat)/\r=.d (frD q)
theorem kb (p q:Rat):((p.num * q.num:Int):Rat)=p * q * (((p.den:Nat):Int) * ((q.den:Nat):Int):Int):=by
 rw [Rat.intCast_mul,Rat.intCast_mul,<- dj p,<- dj q]
 grind
theorem lC {a b:Int} (h:0 < a) (g:0 < b):0 < a * b:=Int.mul_pos h g
theorem Sq.mul {m n:Nat} {p q:Rat} (h:Sq m p) (g:Sq n q):Sq (m + n) (p * q):=Sq.b5 (lC (den_pos p) (den_pos q)) (kb p q) (h.num.mul g.num) (h.den.mul g.den)
noncomputable def rwD (r:List Int):D:=.lst (r.map .int)
noncomputable def tbD (m:List (List Int)):D:=.lst (m.map rwD)
noncomputable def rwN (r:List Int):Nd:=.l (r.map λx=>.d (.int x))
noncomputable def jE (t:List (List Int)) (k:Nat):List Int:=t.map λc=>c.getD k 0
noncomputable def gr (ds:List D) (r:Sl):Prop:=∃ (t:List (List Int)) (k:Nat),ds=[trD t,.int k]/\t.length<=1000/\(∀ c ∈ t,k < c.length)/\r=.o ((jE t k).map .int)
noncomputable def ql (T:Nat) (ss:List Stp) (i j:Nat):List (List Int):=(trK T [(j:Int)] [(i:Int)] ss ss.length).map λt=>jE t 0
noncomputable def tbN (m:List (List Int)):Nd:=.l (m.map rwN)
noncomputable def k4 (ds:List D) (r:Sl):Prop:=∃ (T R C:Nat) (ss:List Stp) (i j:Nat),ds=[bT T R C ss,.int i,.int j]/\okL T R C ss/\i < R/\j < C/\nZ (cm T [(j:Int)] ss) [(i:Int)]<=3000/\r=.n (tbN (ql T ss i j))
theorem pf (T:Nat) (e st:List Int) (ss:List Stp) (hs:st.length=e.length):∀ k,k<=ss.length->∀ t ∈ trK T e st ss k,∀ c ∈ t,c.length=e.length
 | 0,_,t,ht,c,hc=>by
   rw [trK] at ht
   split at ht
   · rw [List.mem_singleton] at ht
     subst ht
     rw [List.mem_singleton] at hc
     rw [hc]; exact hs
   · cases ht
 | k + 1,hk,t,ht,c,hc=>by
   have al:=((gK T e st ss (k + 1) hk).1 t ht).2
   rw [trK] at ht
   unfold lgT onT at ht
   rw [List.mem_flatMap] at ht
   obtain ⟨t0,h0,h1⟩:=ht
   obtain ⟨q,hq,rfl⟩:=List.mem_map.mp h1
   rcases List.mem_append.mp hc with z | z
   · exact pf T e st ss hs k (by omega) t0 h0 c z
   · rw [List.mem_singleton] at z
     subst z
     rw [lst_snoc] at al
     exact lz al
noncomputable def gv (s:Stp) (a b:Int):Bool:=if s.1 = "weigh" then decide (a=(s.2.1:Nat)) else !decide (a=b)
noncomputable def bF (ds:List D) (r:Sl):Prop:=∃ (s:Stp) (a b:Int),ds=[stD s,.int a,.int b]/\r=.d (.bl (gv s a b))
theorem vh (p q:Rat):(p * q).num=p.num / (Int.gcd p.num (q.den:Nat):Int) * (q.num / (Int.gcd q.num (p.den:Nat):Int))/\(((p * q).den:Nat):Int)=((p.den:Nat):Int) / (Int.gcd q.num (p.den:Nat):Int) * (((q.den:Nat):Int) / (Int.gcd p.num (q.den:Nat):Int)):=by
 have hp:=p.reduced
 have hq:=q.reduced
 have pp:=p.den_pos
 have qp:=q.den_pos
 have g1p:0 < Int.gcd p.num (q.den:Nat):=Nat.pos_of_ne_zero λz=>by have:=Int.gcd_eq_zero_iff.mp z; omega
 have g2p:0 < Int.gcd q.num (p.den:Nat):=Nat.pos_of_ne_zero λz=>by have:=Int.gcd_eq_zero_iff.mp z; omega
 obtain ⟨a,ha⟩:(Int.gcd p.num (q.den:Nat):Int) ∣ p.num:=Int.gcd_dvd_left ..
 obtain ⟨d,hd⟩:(Int.gcd p.num (q.den:Nat):Int) ∣ ((q.den:Nat):Int):=Int.gcd_dvd_right ..
 obtain ⟨c,hc⟩:(Int.gcd q.num (p.den:Nat):Int) ∣ q.num:=Int.gcd_dvd_left ..
 obtain ⟨b,hb⟩:(Int.gcd q.num (p.den:Nat):Int) ∣ ((p.den:Nat):Int):=Int.gcd_dvd_right ..
 have coad:Int.gcd a d=1:=by
   have h:Int.gcd p.num (q.den:Nat)=Int.gcd ((Int.gcd p.num (q.den:Nat):Int) * a) ((Int.gcd p.num (q.den:Nat):Int) * d):=by rw [<- ha,<- hd]
   rw [Int.gcd_mul_left,Int.natAbs_natCast] at h
   exact Nat.eq_of_mul_eq_mul_left g1p (by omega)
 have cocb:Int.gcd c b=1:=by
   have h:Int.gcd q.num (p.den:Nat)=Int.gcd ((Int.gcd q.num (p.den:Nat):Int) * c) ((Int.gcd q.num (p.den:Nat):Int) * b):=by rw [<- hc,<- hb]
   rw [Int.gcd_mul_left,Int.natAbs_natCast] at h
   exact Nat.eq_of_mul_eq_mul_left g2p (by omega)
 generalize (Int.gcd p.num (q.den:Nat))=g1 at *
 generalize (Int.gcd q.num (p.den:Nat))=g2 at *
 have coab:Int.gcd a b=1:=by
   have h:Nat.Coprime p.num.natAbs p.den:=hp
   have ea:p.num.natAbs=g1 * a.natAbs:=by rw [ha,Int.natAbs_mul,Int.natAbs_natCast]
   have eb:p.den=g2 * b.natAbs:=by have:=congrArg Int.natAbs hb; rwa [Int.natAbs_mul,Int.natAbs_natCast,Int.natAbs_natCast] at this
   rw [ea,eb] at h
   exact (h.coprime_dvd_left (Nat.dvd_mul_left _ _)).coprime_dvd_right (Nat.dvd_mul_left _ _)
 have cocd:Int.gcd c d=1:=by
   have h:Nat.Coprime q.num.natAbs q.den:=hq
   have ea:q.num.natAbs=g2 * c.natAbs:=by rw [hc,Int.natAbs_mul,Int.natAbs_natCast]
   have eb:q.den=g1 * d.natAbs:=by have:=congrArg Int.natAbs hd; rwa [Int.natAbs_mul,Int.natAbs_natCast,Int.natAbs_natCast] at this
   rw [ea,eb] at h
   exact (h.coprime_dvd_left (Nat.dvd_mul_left _ _)).coprime_dvd_right (Nat.dvd_mul_left _ _)
 have bpos:0 < b:=by
   have:0 < (g2:Int) * b:=by rw [<- hb]; omega
   exact Int.pos_of_mul_pos_right this (by omega)
 have dpos:0 < d:=by
   have:0 < (g1:Int) * d:=by rw [<- hd]; omega
   exact Int.pos_of_mul_pos_right this (by omega)
 have q1:p.num / (g1:Int)=a:=by rw [ha,Int.mul_ediv_cancel_left _ (by omega)]
 have q2:q.num / (g2:Int)=c:=by rw [hc,Int.mul_ediv_cancel_left _ (by omega)]
 have q3:((p.den:Nat):Int) / (g2:Int)=b:=by rw [hb,Int.mul_ediv_cancel_left _ (by omega)]
 have q4:((q.den:Nat):Int) / (g1:Int)=d:=by rw [hd,Int.mul_ediv_cancel_left _ (by omega)]
 rw [q1,q2,q3,q4]
 have co:Int.gcd (a * c) (b * d)=1:=by
   show Nat.gcd (a * c).natAbs (b * d).natAbs=1
   rw [Int.natAbs_mul,Int.natAbs_mul]
   have c1:Nat.Coprime a.natAbs b.natAbs:=coab
   have c2:Nat.Coprime a.natAbs d.natAbs:=coad
   have c3:Nat.Coprime c.natAbs b.natAbs:=cocb
   have c4:Nat.Coprime c.natAbs d.natAbs:=cocd
   exact Nat.Coprime.mul_left (c1.mul_right c2) (c3.mul_right c4)
 have val:((a * c:Int):Rat)=p * q * ((b * d:Int):Rat):=by
   have m:=kb p q
   rw [ha,hc,hb,hd] at m
   have g1n:((g1:Int):Rat) ≠ 0:=fj (by omega)
   have g2n:((g2:Int):Rat) ≠ 0:=fj (by omega)
   have e1:(((g1:Int) * a * ((g2:Int) * c):Int):Rat)=((g1:Int):Rat) * ((g2:Int):Rat) * ((a * c:Int):Rat):=by
     simp only [Rat.intCast_mul]; grind
   have e2:(((g2:Int) * b * ((g1:Int) * d):Int):Rat)=((g1:Int):Rat) * ((g2:Int):Rat) * ((b * d:Int):Rat):=by
     simp only [Rat.intCast_mul]; grind
   rw [e1,e2] at m
   have nz:((g1:Int):Rat) * ((g2:Int):Rat) ≠ 0:=λz=>(Rat.mul_eq_zero.mp z).elim g1n g2n
   have m':(((g1:Int):Rat) * ((g2:Int):Rat)) * ((a * c:Int):Rat)=(((g1:Int):Rat) * ((g2:Int):Rat)) * (p * q * ((b * d:Int):Rat)):=by rw [m]; grind
   have m2:((a * c:Int):Rat) * (((g1:Int):Rat) * ((g2:Int):Rat))=(p * q * ((b * d:Int):Rat)) * (((g1:Int):Rat) * ((g2:Int):Rat)):=by rw [Rat.mul_comm,m',Rat.mul_comm]
   rw [<- Rat.mul_div_cancel (a:=((a * c:Int):Rat)) nz,m2,Rat.mul_div_cancel nz]
 obtain ⟨r1,r2⟩:=b5 (Int.mul_pos bpos dpos) val
 rw [co] at r1 r2
 exact ⟨by rw [r1]; simp,by rw [r2]; simp⟩
noncomputable def cB (ds:List D) (r:Sl):Prop:=∃ (m n:Nat) (p q:Rat),ds=[frD p,frD q]/\Sq m p/\Sq n q/\m + n<=8999/\r=.d (frD (p * q))
noncomputable def stp (ss:List Stp) (k:Nat):Stp:=ss.getD k ("weigh",0,0)
noncomputable def wgK (ss:List Stp) (w:List Int):Nat->Rat
 | 0=>1
 | k + 1=>if gv (stp ss k) (w.getD k 0) (w.getD (k + 1) 0) then wgK ss w k * (stp ss k).2.2 else wgK ss w k
theorem sJ:Sq 1 1:=⟨by show (1:Int).natAbs < 2; decide,by show ((1:Nat):Int).natAbs < 2; decide⟩
theorem lh {ss:List Stp} {B:Nat} (h:∀ k,k < ss.length->Sq B (stp ss k).2.2) (w:List Int):∀ k,k<=ss.length->Sq (1 + k * B) (wgK ss w k)
 | 0,_=>sJ.mono (by omega)
 | k + 1,hk=>by
   have ih:=lh h w k (by omega)
   rw [wgK]
   split
   · exact (ih.mul (h k (by omega))).mono (by rw [Nat.succ_mul]; omega)
   · exact ih.mono (by rw [Nat.succ_mul]; omega)
noncomputable def cR (ds:List D) (r:Sl):Prop:=∃ (T R C B:Nat) (ss:List Stp) (w:List Int),ds=[bT T R C ss,.lst (w.map .int)]/\okL T R C ss/\w.length=ss.length + 1/\(∀ k,k < ss.length->Sq B (stp ss k).2.2)/\1 + ss.length * B<=8000/\r=.d (frD (wgK ss w ss.length))
noncomputable def Mk1 (K:PySem.W.Frag) (mg:Str->Option Value) (n:Str) (i j:Int):Prop:=∃ a,mg n=some (.ref a)/\∀ H,SqT K H a [.int i,.int j]
theorem uw {X:Cx} {C:Bool} {τ:List Sl} {pos:Pos} {n:Str} {i j:Int} (h:Mk1 X.K X.mg n i j) (hg:Gl X n:=by rfl) (hd:(n == ("__debug__" : Str))=false:=by decide):PE X (.Name n pos) (dE X.K C τ (.d (.tup [.int i,.int j]))):=by
 obtain ⟨a,hm,hb⟩:=h
 exact iR (lO (v:=.ref a) hg hm rfl hd) λH=>.tup (hb H) (.cons .int (.cons .int .nil))
theorem pw_B {k n B:Nat} (h:k < n):1 + k * B + B<=1 + n * B:=by
 have:(k + 1) * B<=n * B:=Nat.mul_le_mul_right B h
 rw [Nat.succ_mul] at this
 omega
section
variable {P:Program} {w:World} {K:PySem.W.Frag} {mg:Str->Option Value} {base:Heap} {k:Nat} {f:Addr} {fd:FuncData} {qual:Str}
theorem i9 (F:Fun K "_law_divisor" qual (top 47) f fd) (hb:∀ x ∈ ak,mg x=none):aL P w K mg base CX0 (k + 1) f fd ["_law_one","_law_other"] (spD K bV):=by
 refine fnD F d8 hb (by rintro _ _ ⟨_,_,rfl,_⟩; rfl) ?_
 rintro _ _ ⟨x,y,rfl,rfl⟩ cdv A outer s H E b
 have nd:=d8.nd
 refine az 0 nd (b9 b (ae (aa 0) ah) ka) (az 1 nd (b9 b (ae (aa 1) ah) ka) ?_)
 rw [ei,ei]
 refine lX (λn t τ=>∃ (g:Nat) (s2:Sl),Nat.gcd g n=Int.gcd x y/\t=(decide ((0:Int) < n))/\τ=[.d (.int g),.d (.int n),s2]) b ⟨_,_,_,_,rfl,rfl,rfl⟩ (λn t τ h=>?_) (λn τ h=>?_) λn τ h=>?_
 · obtain ⟨g,s2,_,rfl,rfl⟩:=h
   exact aG (aa 1) af jn
 · obtain ⟨g,s2,hg,ht,rfl⟩:=h
   have hl:n ≠ 0:=λz=>by simp [z] at ht
   have e:(g:Int).fmod n=((g % n:Nat):Int):=by rw [Int.fmod_eq_emod_of_nonneg _ (by omega)]; rfl
   refine az 2 nd (aA (aa 0) (aa 1) (bO (by omega))) ?_
   rw [e]
   refine az 0 nd (aa 1) (az 1 nd (aa 2) (aQ ⟨g % n,_,Nat.mod_lt g (Nat.pos_of_ne_zero hl),n,_,?_,rfl,rfl⟩))
   rw [<- hg,Nat.gcd_comm n,<- Nat.gcd_rec,Nat.gcd_comm]
 · obtain ⟨g,s2,hg,ht,rfl⟩:=h
   have hl:n=0:=by have:=of_decide_eq_false ht.symm; omega
   refine aD (aa 0) ?_
   rw [<- hg,hl,Nat.gcd_zero_right]
theorem nB (F:Fun K "_law_made" qual (top 48) f fd) (hb:∀ x ∈ ak,mg x=none) (c_l_divisor:Cal P w K mg base k "_law_divisor" bV):aL P w K mg base CX0 (k + 1) f fd ["_law_top","_law_bottom"] (spD K eA):=by
 refine fnD F iP hb (by rintro _ _ ⟨_,_,_,rfl,_⟩; rfl) ?_
 rintro _ _ ⟨t,c,q,rfl,h0,h1,hq,rfl⟩ cdv A outer s H E b
 have nd:=iP.nd
 have dv:aH (Int.gcd t c:Int):=(h1.gcd (by omega)).aH (gQ (by omega)) (by decide)
 obtain ⟨e1,e2⟩:=b5 h0 hq
 refine az 2 nd (x_call b c_l_divisor (ae (aa 0) (ae (aa 1) ah)) ⟨_,_,rfl,rfl⟩) (aD (bN (ae (aA (aa 0) (aa 2) (aW dv)) (ae (aA (aa 1) (aa 2) (aW dv)) ah))) ?_)
 rw [aZ,aZ,<- e1,<- e2]
 rfl
theorem mY (F:Fun K "way_on" qual (top 39) f fd) (hb:∀ x ∈ ak,mg x=none):aL P w K mg base CX0 (k + 1) f fd ["trail","k"] (spD K gr):=by
 refine fnD F m7 hb (by rintro _ _ ⟨_,_,rfl,_⟩; rfl) ?_
 rintro _ _ ⟨t,j,rfl,hl,hk,rfl⟩ cdv A outer s H E b
 refine aD (eU (cmp 0 (f:=λi=>.int ((t.getD i []).getD j 0)) b (a0 (aa 0)) n4 (by rw [List.length_map]; omega) λi hi s0 H0 fp=>(ar (aa 0) (aa 1) (ao (ba (ns:=t.getD i []) (i:=(j:Int)) (by omega) (hk _ (dP (by simpa using hi)))))))) ?_
 rw [List.length_map]
 congr 1
 unfold jE
 refine List.ext_getElem (by simp) λi h1 h2=>?_
 have:i < t.length:=by simpa using h1
 simp [this]
theorem pL (F:Fun K "ways" qual (top 40) f fd) (hb:∀ x ∈ ak,mg x=none) (c_look_ladder:Cal P w K mg base k "look_ladder" bb) (c_is_between:Cal P w K mg base k "is_between" bo) (c_way_on:Cal P w K mg base k "way_on" gr) (c_trails:Cal P w K mg base k "trails" gp):aL P w K mg base CX0 (k + 1) f fd ["ladder","i","j"] (spD K k4):=by
 refine fnD F qC hb (by rintro _ _ ⟨_,_,_,_,_,_,rfl,_⟩; rfl) ?_
 rintro _ _ ⟨T,R,C,ss,i,j,rfl,ok,hi,hj,h3,rfl⟩ cdv A outer s H E b
 have h400:=ok.len
 refine kW (x_call b c_look_ladder (ae (aa 0) ah) ⟨T,R,C,ss,rfl,ok,rfl⟩) ?_
 refine bt (a4 (aV (x_call b c_is_between (ae (aa 1) (ae af (ae (aA (ar (aa 0) af (ao (ag (i:=1) rfl))) af iE) ah))) ⟨_,_,_,rfl,rfl⟩))) ?_ ?_
 · rw [decide_eq_true (by omega),decide_eq_true (by omega)]; rfl
 refine bt (a4 (aV (x_call b c_is_between (ae (aa 2) (ae af (ae (aA (ar (aa 0) af (ao (ag (i:=2) rfl))) af iE) ah))) ⟨_,_,_,rfl,rfl⟩))) ?_ ?_
 · rw [decide_eq_true (by omega),decide_eq_true (by omega)]; rfl
 have tl:=mq T [(j:Int)] [(i:Int)] ss (k:=ss.length) (Nat.le_refl _)
 refine aD (qT (uO 0 (f:=λl=>rwN (jE ((trK T [(j:Int)] [(i:Int)] ss ss.length).getD l []) 0)) (S':=λl=>.o ((jE ((trK T [(j:Int)] [(i:Int)] ss ss.length).getD l []) 0).map .int)) b (a0 (x_call b c_trails (ae (aa 0) (ae (bN (ae (aa 1) ah)) (ae (bN (ae (aa 2) ah)) ah))) ⟨T,R,C,ss,[(i:Int)],[(j:Int)],rfl,ok,by simp,by simp,h3,rfl⟩)) uT (by rw [List.length_map]; omega) (λl hl s0 H0 fp=>(x_call (b.comp s0 H0 _ fp) c_way_on (ae (aa 0) (ae af ah)) ⟨_,0,rfl,?_,?_,rfl⟩)) λl hl=>?_)) ?_
 · have hm:=dP (d:=[]) (show l < (trK T [(j:Int)] [(i:Int)] ss ss.length).length by simpa using hl)
   have:=((gK T [(j:Int)] [(i:Int)] ss ss.length (Nat.le_refl _)).1 _ hm).1
   omega
 · intro c hc
   have hm:=dP (d:=[]) (show l < (trK T [(j:Int)] [(i:Int)] ss ss.length).length by simpa using hl)
   rw [pf T [(j:Int)] [(i:Int)] ss rfl ss.length (Nat.le_refl _) _ hm c hc]
   exact Nat.zero_lt_one
 · show some (Nd.l _)=some (Nd.l _)
   rw [List.map_map]
   rfl
 · unfold tbN ql
   congr 2
   rw [List.length_map,List.map_map]
   refine List.ext_getElem (by simp) λl h1 h2=>?_
   have:l < (trK T [(j:Int)] [(i:Int)] ss ss.length).length:=by simpa using h1
   simp [this]
theorem eY (F:Fun K "is_multiplied" qual (top 42) f fd) (hb:∀ x ∈ ak,mg x=none):aL P w K mg base CX0 (k + 1) f fd ["step","ahead","behind"] (spD K bF):=by
 refine fnD F eN hb (by rintro _ _ ⟨_,_,_,rfl,_⟩; rfl) ?_
 rintro _ _ ⟨⟨u,n,q⟩,a,c,rfl,rfl⟩ cdv A outer s H E b
 refine aD (s:=.d (.bl (gv (u,n,q) a c))) (fG (aG (ar (aa 0) af (ao (ag (i:=0) rfl))) bB ek) (λh=>?_) λh=>?_) rfl
 · rw [show gv (u,n,q) a c=decide (a=(n:Nat)) from if_pos (of_decide_eq_true h)]
   exact eJ (aa 1) (ar (aa 0) af (ao (ag (i:=1) rfl))) eX
 · rw [show gv (u,n,q) a c=!decide (a=c) from if_neg (of_decide_eq_false h)]
   exact eJ (aa 1) (aa 2) ie
theorem ig (F:Fun K "product_of" qual (top 15) f fd) (hb:∀ x ∈ ak,mg x=none) (c_common_divisor:Cal P w K mg base k "common_divisor" aM):aL P w K mg base CX0 (k + 1) f fd ["one","other"] (spD K cB):=by
 refine fnD F dJ hb (by rintro _ _ ⟨_,_,_,_,rfl,_⟩; rfl) ?_
 rintro _ _ ⟨m,n,p,q,rfl,h1,h2,hl,rfl⟩ cdv A outer s H E b
 have nd:=dJ.nd
 have p0:=den_pos p
 have q0:=den_pos q
 have d1:aH (Int.gcd p.num (q.den:Nat):Int):=(h2.den.gcd (by omega)).aH (gQ (by omega)) (by omega)
 have d2:aH (Int.gcd q.num (p.den:Nat):Int):=(h1.den.gcd (by omega)).aH (gQ (by omega)) (by omega)
 refine az 2 nd (x_call b c_common_divisor (ae (ar (aa 0) af (ao (ag (i:=0) rfl))) (ae (ar (aa 1) af (ao (ag (i:=1) rfl))) ah)) ⟨_,_,rfl,rfl⟩) ?_
 refine az 3 nd (x_call b c_common_divisor (ae (ar (aa 1) af (ao (ag (i:=0) rfl))) (ae (ar (aa 0) af (ao (ag (i:=1) rfl))) ah)) ⟨_,_,rfl,rfl⟩) ?_
 refine aD (bN (ae (aA (aA (ar (aa 0) af (ao (ag (i:=0) rfl))) (aa 2) (aW d1)) (aA (ar (aa 1) af (ao (ag (i:=0) rfl))) (aa 3) (aW d2)) (aY ?_)) (ae (aA (aA (ar (aa 0) af (ao (ag (i:=1) rfl))) (aa 3) (aW d2)) (aA (ar (aa 1) af (ao (ag (i:=1) rfl))) (aa 2) (aW d1)) (aY ?_)) ah))) ?_
 · rw [aZ,aZ]; exact (h1.num.ediv _).aN (h2.num.ediv _) (by omega) (by omega)
 · rw [aZ,aZ]; exact (h1.den.ediv _).aN (h2.den.ediv _) (by omega) (by omega)
 · obtain ⟨e1,e2⟩:=vh p q
   unfold frD
   rw [e1,e2,aZ,aZ,aZ,aZ]
theorem i4 (F:Fun K "weight_of" qual (top 41) f fd) (hb:∀ x ∈ ak,mg x=none) (y_ONE:Mk1 K mg "ONE" 1 1) (c_look_ladder:Cal P w K mg base k "look_ladder" bb) (c_is_multiplied:Cal P w K mg base k "is_multiplied" bF) (c_product_of:Cal P w K mg base k "product_of" cB):aL P w K mg base CX0 (k + 1) f fd ["ladder","way"] (spD K cR):=by
 refine fnD F eK hb (by rintro _ _ ⟨_,_,_,_,_,_,rfl,_⟩; rfl) ?_
 rintro _ _ ⟨T,R,C,B,ss,wy,rfl,ok,hw,hB,hL,rfl⟩ cdv A outer s H E b
 have nd:=eK.nd
 refine kW (x_call b c_look_ladder (ae (aa 0) ah) ⟨T,R,C,ss,rfl,ok,rfl⟩) ?_
 refine az 2 nd (uw y_ONE) ?_
 refine jg 3 4 (g:=λi=>.int (i:Nat)) (g':=λi=>stD (stp ss i)) (λi τ=>∃ s3 s4,τ=[.d (bT T R C ss),.d (.lst (wy.map .int)),.d (frD (wgK ss wy i)),s3,s4]) b nd (jV b (ar (aa 0) af (ao (ag (i:=3) rfl)))) kK ⟨.un,.un,rfl⟩ (λi hi τ h=>?_) λτ h=>?_
 · obtain ⟨s3,s4,rfl⟩:=h
   have hi:i < ss.length:=by rw [aU,List.length_map] at hi; exact hi
   have sq:=lh hB wy i (by omega)
   have hp:=pw_B (B:=B) hi
   have e1:((i:Int) + 1).toNat=i + 1:=by omega
   refine jb (M:=λτ=>∃ s3 s4,τ=[.d (bT T R C ss),.d (.lst (wy.map .int)),.d (frD (wgK ss wy (i + 1))),s3,s4]) (aV (x_call b c_is_multiplied (ae (aa 4) (ae (ar (aa 1) (aa 3) (aX (ba (i:=(i:Int)) (by omega) (by rw [Int.toNat_natCast]; omega)))) (ae (ar (aa 1) (aA (aa 3) af aT) (aX (ba (by omega) (by omega)))) ah))) ⟨_,_,_,rfl,rfl⟩)) (λh=>?_) (λh=>?_) λτ h=>aQ h
   · rw [Int.toNat_natCast,e1] at h
     refine az 2 nd (x_call b c_product_of (ae (aa 2) (ae (ar (aa 4) af (ao (ag (i:=2) rfl))) ah)) ⟨_,_,_,_,rfl,sq,hB i hi,by omega,rfl⟩) (aQ ⟨.d (.int (i:Nat)),.d (stD (stp ss i)),?_⟩)
     rw [wgK,if_pos h]
     rfl
   · rw [Int.toNat_natCast,e1] at h
     refine aQ ⟨.d (.int (i:Nat)),.d (stD (stp ss i)),?_⟩
     rw [wgK,if_neg (by rw [h]; decide)]
     rfl
 · obtain ⟨s3,s4,rfl⟩:=h
   refine aD (aa 2) ?_
   rw [aU,List.length_map]
end
noncomputable def fQ (ds:List D) (r:Sl):Prop:=∃ n:Nat,ds=[.int n]/\n<=1000/\r=.d (.int (10 ^ n))
noncomputable def wgT (p:Int) (g:Nat):Int:=if 0 < g then p.fmod (10 ^ g) else p.fmod 7
noncomputable def wgB (p:Int) (g:Nat):Int:=if 0 < g then 1 + (p.fdiv (10 ^ g)).fmod (10 ^ g - 1) else 1 + (p.fdiv 7).fmod 4
noncomputable def wgt (p:Int) (g:Nat):Rat:=(wgT p g:Rat) / (wgB p g:Rat)
noncomputable def dM (ds:List D) (r:Sl):Prop:=∃ (p:Int) (g:Nat),ds=[.int p,.int g]/\g<=40/\r=.d (frD (wgt p g))
theorem fm {a b:Int} (h:0 < b):0<=a.fmod b/\a.fmod b < b:=⟨Int.fmod_nonneg_of_pos a h,Int.fmod_lt_of_pos a h⟩
theorem oB {g:Nat} (h:g<=40):(10:Int) ^ g < 2 ^ 140:=by
 have h1:(10:Nat) ^ g<=10 ^ 40:=Nat.pow_le_pow_right (by decide) h
 have h2:(10:Nat) ^ 40 < 2 ^ 140:=by decide
 have:((10 ^ g:Nat):Int) < ((2 ^ 140:Nat):Int):=Int.ofNat_lt.mpr (Nat.lt_of_le_of_lt h1 h2)
 simpa using this
theorem mr {g:Nat} (h:0 < g):(10:Int)<=10 ^ g:=by
 have h1:(10:Nat) ^ 1<=10 ^ g:=Nat.pow_le_pow_right (by decide) h
 have:((10 ^ 1:Nat):Int)<=((10 ^ g:Nat):Int):=Int.ofNat_le.mpr h1
 simpa using this
theorem kq {x:Int} (h0:0<=x) (h:x < 2 ^ 140):Bd 140 x:=by
 unfold Bd
 have:(x.natAbs:Int) < ((2 ^ 140:Nat):Int):=by rw [Int.natAbs_of_nonneg h0]; simpa using h
 exact Int.ofNat_lt.mp this
theorem mv (p:Int) {g:Nat} (h:g<=40):0<=wgT p g/\Bd 140 (wgT p g)/\0 < wgB p g/\Bd 140 (wgB p g):=by
 unfold wgT wgB
 by_cases h0:0 < g
 · have h1:=oB h
   have h2:=mr h0
   have f1:=fm (a:=p) (b:=10 ^ g) (by omega)
   have f2:=fm (a:=p.fdiv (10 ^ g)) (b:=10 ^ g - 1) (by omega)
   rw [if_pos h0,if_pos h0]
   exact ⟨f1.1,kq f1.1 (by omega),by omega,kq (by omega) (by omega)⟩
 · have f1:=fm (a:=p) (b:=7) (by decide)
   have f2:=fm (a:=p.fdiv 7) (b:=4) (by decide)
   rw [if_neg h0,if_neg h0]
   exact ⟨f1.1,kq f1.1 (by omega),by omega,kq (by omega) (by omega)⟩
theorem fO (p:Int) {g:Nat} (h:g<=40):(wgT p g:Rat)=wgt p g * (wgB p g:Rat):=(Rat.div_mul_cancel (fj (mv p h).2.2.1)).symm
theorem oN (p:Int) {g:Nat} (h:g<=40):0<=(wgt p g).num/\Sq 140 (wgt p g):=by
 obtain ⟨h1,h2,h3,h4⟩:=mv p h
 refine ⟨?_,Sq.b5 h3 (fO p h) h2 h4⟩
 rw [(b5 h3 (fO p h)).1]
 exact Int.ediv_nonneg h1 (Int.natCast_nonneg _)
noncomputable def szP (m:Nat) (c:Int):List Int:=nums c [8,4,7,7,7,(m:Int) + 1]
noncomputable def szT (m:Nat) (c:Int):Int:=if (szP m c).getD 0 0=1 then 1 + (szP m c).getD 2 0 else 1 + (szP m c).getD 1 0
noncomputable def szR (m:Nat) (c:Int):Int:=1 + ((szP m c).getD 3 0).fmod (szT m c)
noncomputable def szC (m:Nat) (c:Int):Int:=1 + ((szP m c).getD 4 0).fmod (szT m c)
theorem pd (m:Nat) (c:Int):1<=szT m c/\szT m c<=7/\1<=szR m c/\szR m c<=szT m c/\1<=szC m c/\szC m c<=szT m c/\0<=(szP m c).getD 5 0/\(szP m c).getD 5 0<=m:=by
 have hp:∀ b ∈ ([8,4,7,7,7,(m:Int) + 1]:List Int),0 < b:=by intro b hb; simp at hb; omega
 have h1:=fP (c:=c) hp (i:=1) (by simp)
 have h2:=fP (c:=c) hp (i:=2) (by simp)
 have h5:=fP (c:=c) hp (i:=5) (by simp)
 have e1:([8,4,7,7,7,(m:Int) + 1]:List Int).getD 1 0=4:=rfl
 have e2:([8,4,7,7,7,(m:Int) + 1]:List Int).getD 2 0=7:=rfl
 have e5:([8,4,7,7,7,(m:Int) + 1]:List Int).getD 5 0=(m:Int) + 1:=rfl
 rw [e1] at h1
 rw [e2] at h2
 rw [e5] at h5
 have hT:1<=szT m c/\szT m c<=7:=by
   unfold szT szP
   split <;> omega
 have hR:=fm (a:=(szP m c).getD 3 0) (b:=szT m c) (by omega)
 have hC:=fm (a:=(szP m c).getD 4 0) (b:=szT m c) (by omega)
 have h5':0<=(szP m c).getD 5 0/\(szP m c).getD 5 0 < (m:Int) + 1:=h5
 unfold szR szC
 omega
noncomputable def ff (ds:List D) (r:Sl):Prop:=∃ (m:Nat) (c:Int),ds=[.int c,.int m]/\m<=100/\r=.d (.tup [.int (szT m c),.int (szR m c),.int (szC m c),.int ((szP m c).getD 5 0)])
noncomputable def wrd (i:Int):Str:=if i=0 then "down" else if i=1 then "up" else "weigh"
theorem sy {i:Int} (h0:0<=i) (h:i < 3):atI [D.str "down",D.str "up",D.str "weigh"] i=some (.str (wrd i)):=by
 obtain ⟨n,rfl⟩:=Int.eq_ofNat_of_zero_le h0
 rcases (by omega:n=0\/n=1\/n=2) with rfl | rfl | rfl <;> rfl
theorem fT {α:Type} (a b c:α):∀ n,(List.replicate n [a,b,c]).flatten.length=3 * n
 | 0=>rfl
 | n + 1=>by rw [List.replicate_succ,List.flatten_cons,List.length_append,fT a b c n]; simp; omega
theorem lB {a b c:Int} {n:Nat} {x:Int} (h:x ∈ (List.replicate n [a,b,c]).flatten):x=a\/x=b\/x=c:=by
 obtain ⟨l,h1,h2⟩:=List.mem_flatten.mp h
 rw [(List.mem_replicate.mp h1).2] at h2
 simpa using h2
theorem nX {a b c:Int}:∀ (n k:Nat),k < n->(List.replicate n [a,b,c]).flatten.getD (3 * k) 0=a/\(List.replicate n [a,b,c]).flatten.getD (3 * k + 1) 0=b/\(List.replicate n [a,b,c]).flatten.getD (3 * k + 2) 0=c
 | n + 1,0,_=>by rw [List.replicate_succ,List.flatten_cons]; exact ⟨rfl,rfl,rfl⟩
 | n + 1,k + 1,h=>by
   have:=nX (a:=a) (b:=b) (c:=c) n k (by omega)
   rw [List.replicate_succ,List.flatten_cons]
   exact this
theorem qt (a b c:Int) (n:Nat):(List.replicate n [D.int a,D.int b,D.int c]).flatten=((List.replicate n [a,b,c]).flatten).map .int:=by
 rw [List.map_flatten,List.map_replicate]; rfl
noncomputable def adB (g:Nat):Int:=10 ^ (2 * (if (g:Int) > 1 then (g:Int) else 1).toNat) * 28
noncomputable def adP (c:Int) (n g:Nat):List Int:=nums c (List.replicate n [3,7,adB g]).flatten
noncomputable def adW (ps:List Int) (T k:Nat):Str:=if wrd (ps.getD (3 * k) 0) ≠ "weigh" /\ T=1 then "weigh" else wrd (ps.getD (3 * k) 0)
noncomputable def adA (ps:List Int) (T k:Nat):Int:=if adW ps T k = "weigh" then (ps.getD (3 * k + 1) 0).fmod T else (ps.getD (3 * k + 1) 0).fmod ((T:Int) - 1)
noncomputable def adS (ps:List Int) (T g k:Nat):Stp:=(adW ps T k,(adA ps T k).toNat,wgt (ps.getD (3 * k + 2) 0) g)
theorem rh {g:Nat} (h:g<=40):0 < adB g/\aH (adB g):=by
 unfold adB
 have hk:(2 * (if (g:Int) > 1 then (g:Int) else 1).toNat)<=80:=by split <;> omega
 generalize (2 * (if (g:Int) > 1 then (g:Int) else 1).toNat)=k at hk
 have h1:(10:Nat) ^ k<=10 ^ 80:=Nat.pow_le_pow_right (by decide) hk
 have h2:0 < (10:Nat) ^ k:=Nat.pow_pos (by decide)
 have e:(10:Int) ^ k * 28=((10 ^ k * 28:Nat):Int):=by simp
 rw [e]
 have h3:Bd 300 ((10 ^ k * 28:Nat):Int):=by
   unfold Bd
   rw [Int.natAbs_natCast]
   exact Nat.lt_of_le_of_lt (Nat.mul_le_mul_right 28 h1) (by decide)
 exact ⟨by omega,h3.aH (by omega) (by decide)⟩
theorem tZ {c:Int} {n g k:Nat} (h:g<=40) (hk:k < n):0<=(adP c n g).getD (3 * k) 0/\(adP c n g).getD (3 * k) 0 < 3:=by
 have hp:∀ b ∈ (List.replicate n [3,7,adB g]).flatten,0 < b:=λb hb=>by
   have:=rh h
   rcases lB hb with rfl | rfl | rfl <;> omega
 have:=fP (c:=c) hp (i:=3 * k) (by rw [fT]; omega)
 rw [(nX n k hk).1] at this
 exact this
theorem om {ps:List Int} {T k:Nat} (hT:1<=T):0<=adA ps T k/\(adW ps T k = "weigh" -> adA ps T k < T)/\(adW ps T k ≠ "weigh" -> 2<=T/\adA ps T k + 1 < T):=by
 unfold adA
 split
 · rename_i h
   have:=fm (a:=ps.getD (3 * k + 1) 0) (b:=T) (by omega)
   exact ⟨this.1,λ_=>this.2,λz=>absurd h z⟩
 · rename_i h
   have hT1:T ≠ 1:=λz=>h (by
     unfold adW
     split
     · rfl
     · rename_i y
       exact Decidable.byContradiction λx=>y ⟨x,z⟩)
   have:=fm (a:=ps.getD (3 * k + 1) 0) (b:=(T:Int) - 1) (by omega)
   exact ⟨this.1,λz=>absurd z h,λ_=>by omega⟩
theorem sQ (i:Int):wrd i = "weigh" \/ wrd i = "down" \/ wrd i = "up":=by
 unfold wrd
 split
 · exact .inr (.inl rfl)
 · split
   · exact .inr (.inr rfl)
   · exact .inl rfl
theorem oo {ps:List Int} {T g k:Nat} (hT:1<=T) (hg:g<=40):okS T (adS ps T g k)/\Sq 140 (adS ps T g k).2.2:=by
 obtain ⟨h1,h2,h3⟩:=om (ps:=ps) (k:=k) hT
 have hw:=oN (ps.getD (3 * k + 2) 0) hg
 refine ⟨⟨hw.1,?_⟩,hw.2⟩
 by_cases e:adW ps T k = "weigh"
 · exact .inl ⟨e,by have:=h2 e; show (adA ps T k).toNat < T; omega⟩
 · refine .inr ⟨?_,by have:=h3 e; show (adA ps T k).toNat + 1 < T; omega⟩
   show adW ps T k = "down" \/ adW ps T k = "up"
   unfold adW at e ⊢
   split at e
   · exact absurd rfl e
   · rename_i y
     rw [if_neg y]
     exact (sQ _).resolve_left e
noncomputable def dN (ds:List D) (r:Sl):Prop:=∃ (c:Int) (T R C n g:Nat),ds=[.int c,.int T,.int R,.int C,.int n,.int g]/\1<=T/\n<=30/\g<=40/\r=.d (bT T R C ((List.range n).map (adS (adP c n g) T g)))
theorem j8 {α:Type} (f:Nat->α) {n i:Nat} (h:i < n) (d:α):((List.range n).map f).getD i d=f i:=by simp [h]
noncomputable def drT (m:Nat) (c:Int):Nat:=(szT m c).toNat
noncomputable def drR (m:Nat) (c:Int):Nat:=(szR m c).toNat
noncomputable def drC (m:Nat) (c:Int):Nat:=(szC m c).toNat
noncomputable def drS (m:Nat) (c o:Int) (g:Nat):List Stp:=(List.range ((szP m c).getD 5 0).toNat).map (adS (adP o ((szP m c).getD 5 0).toNat g) (drT m c) g)
noncomputable def e8 (ds:List D) (r:Sl):Prop:=∃ (m:Nat) (c o:Int) (g:Nat),ds=[.int c,.int o,.int m,.int g]/\g<=40/\m<=30/\r=.d (bT (drT m c) (drR m c) (drC m c) (drS m c o g))
theorem vc {m:Nat} (c o:Int) {g:Nat} (hg:g<=40) (hm:m<=30):okL (drT m c) (drR m c) (drC m c) (drS m c o g)/\(∀ i,i < (drS m c o g).length->Sq 140 ((drS m c o g).getD i ("weigh",0,0)).2.2)/\(drS m c o g).length<=m:=by
 obtain ⟨h1,h2,h3,h4,h5,h6,h7,h8⟩:=pd m c
 have hl:(drS m c o g).length=((szP m c).getD 5 0).toNat:=by simp [drS]
 have ha:∀ i,i < (drS m c o g).length->(drS m c o g).getD i ("weigh",0,0)=adS (adP o ((szP m c).getD 5 0).toNat g) (drT m c) g i:=λi hi=>by
   rw [hl] at hi
   exact j8 _ hi _
 have hT:1<=drT m c:=by unfold drT; omega
 refine ⟨⟨hT,?_,?_,?_,?_,?_,?_,λi hi=>?_⟩,λi hi=>?_,by omega⟩
 · unfold drT; omega
 · unfold drR; omega
 · unfold drT drR; omega
 · unfold drC; omega
 · unfold drT drC; omega
 · omega
 · rw [ha i hi]; exact (oo hT hg).1
 · rw [ha i hi]; exact (oo hT hg).2
section
variable {P:Program} {w:World} {K:PySem.W.Frag} {mg:Str->Option Value} {base:Heap} {k:Nat} {f:Addr} {fd:FuncData} {qual:Str}
theorem oA (F:Fun K "_law_ten" qual (top 44) f fd) (hb:∀ x ∈ ak,mg x=none):aL P w K mg base CX0 (k + 1) f fd ["_law_many"] (spD K fQ):=by
 refine fnD F kl hb (by rintro _ _ ⟨_,rfl,_⟩; rfl) ?_
 rintro _ _ ⟨n,rfl,hn,rfl⟩ cdv A outer s H E b
 have nd:=kl.nd
 refine az 1 nd af ?_
 refine bX 2 (λi τ=>∃ s2,τ=[.d (.int n),.d (.int (10 ^ i)),s2]) b nd (fD b (aa 0) (by omega) (by omega)) fI ⟨_,rfl⟩ (λi hi τ h=>?_) λτ h=>?_
 · obtain ⟨s2,rfl⟩:=h
   refine az 1 nd (aA af (aa 1) (aY (mkL (by decide)))) (aQ ⟨.d (.int (i:Nat)),?_⟩)
   rw [Int.pow_succ,Int.mul_comm]
   rfl
 · obtain ⟨s2,rfl⟩:=h
   refine aD (aa 1) ?_
   rw [aO,Int.toNat_natCast]
theorem j4 (F:Fun K "_law_weight" qual (top 51) f fd) (hb:∀ x ∈ ak,mg x=none) (c_l_made:Cal P w K mg base k "_law_made" eA) (c_l_ten:Cal P w K mg base k "_law_ten" fQ):aL P w K mg base CX0 (k + 1) f fd ["_law_part","_law_figures"] (spD K dM):=by
 refine fnD F fu hb (by rintro _ _ ⟨_,_,rfl,_⟩; rfl) ?_
 rintro _ _ ⟨p,g,rfl,hg,rfl⟩ cdv A outer s H E b
 have nd:=fu.nd
 obtain ⟨h1,h2,h3,h4⟩:=mv p hg
 have hm:=fO p hg
 refine cn (aG (aa 1) af jn) (λh=>?_) λh=>?_
 · have h0:0 < g:=by have:=of_decide_eq_true h; omega
   have t2:=mr h0
   have eT:wgT p g=p.fmod (10 ^ g):=if_pos h0
   have eB:wgB p g=1 + (p.fdiv (10 ^ g)).fmod (10 ^ g - 1):=if_pos h0
   have dv:aH ((10:Int) ^ g):=(kq (by omega) (oB hg)).aH (by omega) (by decide)
   refine az 2 nd (x_call b c_l_ten (ae (aa 1) ah) ⟨g,rfl,by omega,rfl⟩) ?_
   exact aD (x_call b c_l_made (ae (aA (aa 0) (aa 2) (bO (by omega))) (ae (aA af (aA (aA (aa 0) (aa 2) (aW dv)) (aA (aa 2) af iE) (bO (by omega))) aT) ah)) ⟨wgT p g,wgB p g,wgt p g,by rw [eT,eB],h3,h4.mono (by decide),hm,rfl⟩) rfl
 · have h0:g=0:=by have:=of_decide_eq_false h; omega
   subst h0
   exact aD (x_call b c_l_made (ae (aA (aa 0) af (bO (by decide))) (ae (aA af (aA (aA (aa 0) af (aW (mkD (by decide) (by decide)))) af (bO (by decide))) aT) ah)) ⟨wgT p 0,wgB p 0,wgt p 0,rfl,h3,h4.mono (by decide),hm,rfl⟩) rfl
theorem lj (F:Fun K "_law_sizes" qual (top 54) f fd) (hb:∀ x ∈ ak,mg x=none) (c_l_numbers:Cal P w K mg base k "_law_numbers" bZ):aL P w K mg base CX0 (k + 1) f fd ["_law_cell_here","_law_most"] (spD K ff):=by
 refine fnD F gR hb (by rintro _ _ ⟨_,_,rfl,_⟩; rfl) ?_
 rintro _ _ ⟨m,c,rfl,hm,rfl⟩ cdv A outer s H E b
 have nd:=gR.nd
 have hok:=pd m c
 have hl:(szP m c).length=6:=kc ..
 refine az 2 nd (x_call b c_l_numbers (ae (aa 0) (ae (a9 (a6 (ae af (ae af (ae af (ae af (ae af (ae (aA (aa 1) af aT) ah)))))))) ah)) ⟨c,[8,4,7,7,7,(m:Int) + 1],rfl,by simp,λb hb=>rZ (by simp at hb; omega) (by simp at hb; omega),rfl⟩) (pW 2 ?_)
 refine az 3 nd (aA af (ar (aa 2) af (aX (ba (ns:=szP m c) (i:=1) (by decide) (by rw [hl]; decide)))) aT) ?_
 refine jb (M:=λτ=>τ=[.d (.int c),.d (.int m),.d (.lst ((szP m c).map .int)),.d (.int (szT m c))]) (aG (ar (aa 2) af (aX (ba (ns:=szP m c) (i:=0) (by decide) (by rw [hl]; decide)))) af eX) (λh=>?_) (λh=>?_) ?_
 · refine az 3 nd (aA af (ar (aa 2) af (aX (ba (ns:=szP m c) (i:=2) (by decide) (by rw [hl]; decide)))) aT) (aQ ?_)
   unfold szT
   rw [if_pos (show (szP m c).getD 0 0=1 from of_decide_eq_true h)]
   rfl
 · refine aQ ?_
   unfold szT
   rw [if_neg (show ¬ (szP m c).getD 0 0=1 from of_decide_eq_false h)]
   rfl
 · rintro _ rfl
   exact aD (bN (ae (aa 3) (ae (aA af (aA (ar (aa 2) af (aX (ba (ns:=szP m c) (i:=3) (by decide) (by rw [hl]; decide)))) (aa 3) (bO (by omega))) aT) (ae (aA af (aA (ar (aa 2) af (aX (ba (ns:=szP m c) (i:=4) (by decide) (by rw [hl]; decide)))) (aa 3) (bO (by omega))) aT) (ae (ar (aa 2) af (aX (ba (ns:=szP m c) (i:=5) (by decide) (by rw [hl]; decide)))) ah))))) rfl
theorem jZ (F:Fun K "_law_ladder" qual (top 52) f fd) (hb:∀ x ∈ ak,mg x=none) (c_l_numbers:Cal P w K mg base k "_law_numbers" bZ) (c_l_weight:Cal P w K mg base k "_law_weight" dM) (c_l_ten:Cal P w K mg base k "_law_ten" fQ):aL P w K mg base CX0 (k + 1) f fd ["_law_cell_here","_law_tracks","_law_rows","_law_columns","_law_many","_law_figures"] (spD K dN):=by
 refine fnD F fF hb (by rintro _ _ ⟨_,_,_,_,_,_,rfl,_⟩; rfl) ?_
 rintro _ _ ⟨c,T,R,C,n,g,rfl,hT,hn,hg,rfl⟩ cdv A outer s H E b
 have nd:=fF.nd
 have hmx:0<=(if (g:Int) > 1 then (g:Int) else 1)/\(if (g:Int) > 1 then (g:Int) else 1)<=40:=by split <;> omega
 have hB:=rh hg
 have hlen:(adP c n g).length=3 * n:=by unfold adP; rw [kc,fT]
 refine az 6 nd (x_call b c_l_numbers (ae (aa 0) (ae (a9 (tW (a9 (a6 (ae af (ae af (ae (aA (x_call b c_l_ten (ae (aA af (b9 b (ae af (ae (aa 5) ah)) (uh b.calm)) (aY (mkL (by decide)))) ah) ⟨2 * (if (g:Int) > 1 then (g:Int) else 1).toNat,?_,by omega,rfl⟩) af (aY (mkR (by decide)))) ah))))) (aa 4) (by omega) (by omega) ?_)) ah)) ⟨c,(List.replicate n [3,7,adB g]).flatten,?_,?_,?_,rfl⟩) ?_
 · congr 2; omega
 · simp; omega
 · rw [Int.toNat_natCast,<- qt]; rfl
 · rw [fT]; omega
 · intro x hx
   rcases lB hx with rfl | rfl | rfl
   · exact rZ (by decide) (by decide)
   · exact rZ (by decide) (by decide)
   · exact hB
 refine pW 6 ?_
 refine az 7 nd (a6 ah) ?_
 refine bX 8 (λi τ=>∃ s8 s9 s10,τ=[.d (.int c),.d (.int T),.d (.int R),.d (.int C),.d (.int n),.d (.int g),.d (.lst ((adP c n g).map .int)),.o (((List.range i).map (adS (adP c n g) T g)).map stD),s8,s9,s10]) b nd (fD b (aa 4) (by omega) (by omega)) fI ⟨_,_,_,rfl⟩ (λi hi τ h=>?_) λτ h=>?_
 · obtain ⟨s8,s9,s10,rfl⟩:=h
   have hi:i < n:=by rw [aO] at hi; omega
   have lt3:=tZ (c:=c) hg hi
   have e0:(3 * (i:Int)).toNat=3 * i:=by omega
   have e1:(3 * (i:Int) + 1).toNat=3 * i + 1:=by omega
   have e2:(3 * (i:Int) + 2).toNat=3 * i + 2:=by omega
   have k0:atI ((adP c n g).map D.int) (3 * (i:Int))=some (.int ((adP c n g).getD (3 * i) 0)):=by rw [<- e0]; exact ba (by omega) (by omega)
   have k1:atI ((adP c n g).map D.int) (3 * (i:Int) + 1)=some (.int ((adP c n g).getD (3 * i + 1) 0)):=by rw [<- e1]; exact ba (by omega) (by omega)
   have k2:atI ((adP c n g).map D.int) (3 * (i:Int) + 2)=some (.int ((adP c n g).getD (3 * i + 2) 0)):=by rw [<- e2]; exact ba (by omega) (by omega)
   obtain ⟨a1,a2,a3⟩:=om (ps:=adP c n g) (k:=i) hT
   refine az 9 nd (ar (a9 (a6 (ae bB (ae bB (ae bB ah))))) (ar (aa 6) (aA af (aa 8) (aY (mkL (by decide)))) (aX k0)) (aX (sy lt3.1 lt3.2))) ?_
   refine az 10 nd (aA (ar (aa 6) (aA (aA af (aa 8) (aY (mkL (by decide)))) af aT) (aX k1)) (aa 1) (bO (by omega))) ?_
   refine jb (M:=λτ=>τ=[.d (.int c),.d (.int T),.d (.int R),.d (.int C),.d (.int n),.d (.int g),.d (.lst ((adP c n g).map .int)),.o (((List.range i).map (adS (adP c n g) T g)).map stD),.d (.int i),.d (.str (adW (adP c n g) T i)),.d (.int (((adP c n g).getD (3 * i + 1) 0).fmod T))]) (PW.pt (ft (aG (aa 9) bB qW) λh=>(gS (aG (aa 1) af eX)))) (λh=>?_) (λh=>?_) ?_
   · refine az 9 nd bB (aQ ?_)
     have:wrd ((adP c n g).getD (3 * i) 0) ≠ "weigh" /\ T=1:=by
       simp only [Bool.and_eq_true,Bool.not_eq_true',decide_eq_true_eq,decide_eq_false_iff_not] at h
       exact ⟨h.1,by omega⟩
     unfold adW
     rw [if_pos this]
     rfl
   · refine aQ ?_
     have:¬ (wrd ((adP c n g).getD (3 * i) 0) ≠ "weigh" /\ T=1):=λ⟨z1,z2⟩=>by
       rw [decide_eq_false z1,decide_eq_true (show (T:Int)=1 by omega)] at h
       cases h
     unfold adW
     rw [if_neg this]
     rfl
   · rintro _ rfl
     refine jb (M:=λτ=>τ=[.d (.int c),.d (.int T),.d (.int R),.d (.int C),.d (.int n),.d (.int g),.d (.lst ((adP c n g).map .int)),.o (((List.range i).map (adS (adP c n g) T g)).map stD),.d (.int i),.d (.str (adW (adP c n g) T i)),.d (.int (adA (adP c n g) T i))]) (aG (aa 9) bB qW) (λh=>?_) (λh=>?_) ?_
     · have h:adW (adP c n g) T i ≠ "weigh":=by simpa using h
       have:=a3 h
       refine az 10 nd (aA (ar (aa 6) (aA (aA af (aa 8) (aY (mkL (by decide)))) af aT) (aX k1)) (aA (aa 1) af iE) (bO (by omega))) (aQ ?_)
       unfold adA
       rw [if_neg h]
       rfl
     · have h:adW (adP c n g) T i = "weigh":=by simpa using h
       refine aQ ?_
       unfold adA
       rw [if_pos h]
     · rintro _ rfl
       refine kn 7 (bN (ae (aa 9) (ae (aa 10) (ae (x_call b c_l_weight (ae (ar (aa 6) (aA (aA af (aa 8) (aY (mkL (by decide)))) af aT) (aX k2)) (ae (aa 5) ah)) ⟨_,g,rfl,hg,rfl⟩) ah)))) ?_ (aQ ⟨.d (.int i),.d (.str (adW (adP c n g) T i)),.d (.int (adA (adP c n g) T i)),?_⟩)
       · rw [List.length_map,List.length_map,List.length_range]; omega
       · rw [List.range_succ,List.map_append,List.map_append]
         have:((adA (adP c n g) T i).toNat:Int)=adA (adP c n g) T i:=Int.toNat_of_nonneg a1
         show _=[_,_,_,_,_,_,_,Sl.o (_++[D.tup [.str _,.int ((adA (adP c n g) T i).toNat:Int),frD _]]),_,_,_]
         rw [this]
         rfl
 · obtain ⟨s8,s9,s10,rfl⟩:=h
   rw [aO,Int.toNat_natCast]
   exact aD (bN (ae (aa 1) (ae (aa 2) (ae (aa 3) (ae (rF 7) ah))))) rfl
theorem kL (F:Fun K "_law_drawn" qual (top 55) f fd) (hb:∀ x ∈ ak,mg x=none) (c_l_sizes:Cal P w K mg base k "_law_sizes" ff) (c_l_ladder:Cal P w K mg base k "_law_ladder" dN):aL P w K mg base CX0 (k + 1) f fd ["_law_one","_law_other","_law_most","_law_figures"] (spD K e8):=by
 refine fnD F gA hb (by rintro _ _ ⟨_,_,_,_,rfl,_⟩; rfl) ?_
 rintro _ _ ⟨m,c,o,g,rfl,hg,hm,rfl⟩ cdv A outer s H E b
 have nd:=gA.nd
 obtain ⟨h1,h2,h3,h4,h5,h6,h7,h8⟩:=pd m c
 refine az 4 nd (x_call b c_l_sizes (ae (aa 0) (ae (aa 2) ah)) ⟨m,c,rfl,by omega,rfl⟩) ?_
 refine aD (x_call b c_l_ladder (ae (aa 1) (ae (ar (aa 4) af (ao (ag (i:=0) rfl))) (ae (ar (aa 4) af (ao (ag (i:=1) rfl))) (ae (ar (aa 4) af (ao (ag (i:=2) rfl))) (ae (ar (aa 4) af (ao (ag (i:=3) rfl))) (ae (aa 3) ah)))))) ⟨o,drT m c,drR m c,drC m c,((szP m c).getD 5 0).toNat,g,?_,?_,?_,hg,rfl⟩) rfl
 · unfold drT drR drC
   rw [Int.toNat_of_nonneg (by omega),Int.toNat_of_nonneg (by omega),Int.toNat_of_nonneg (by omega),Int.toNat_of_nonneg (by omega)]
 · unfold drT; omega
 · omega
end
noncomputable def bq (ds:List D) (r:Sl):Prop:=∃ (t b:Int) (q:Rat),ds=[.int t,.int b]/\0 < b/\Bd 8999 b/\(t:Rat)=q * (b:Rat)/\r=.d (frD q)
noncomputable def dU (ds:List D) (r:Sl):Prop:=∃ (t b:Int) (q:Rat),ds=[.int t,.int b]/\0 < b/\Bd 8999 b/\(t:Rat)=q * (b:Rat)/\r=.d (frD q)
noncomputable def kA (t:List (List Rat)):D:=.lst (t.map λr=>.lst (r.map frD))
theorem u0 {t:List (List Rat)} (i:Nat) (h:i < (t.map λr=>D.lst (r.map frD)).length):(t.map λr=>D.lst (r.map frD))[i]=.lst ((t.getD i []).map frD):=by
 have:i < t.length:=by simpa using h
 simp [this]
theorem ux {r:List Rat} {i:Int} (h0:0<=i) (h:i.toNat < r.length):atI (r.map frD) i=some (frD (r.getD i.toNat 0)):=by
 obtain ⟨n,rfl⟩:=Int.eq_ofNat_of_zero_le h0
 exact ag (by
   have h:n < r.length:=h
   simp [h])
theorem uM {t:List (List Rat)} {i:Int} (h0:0<=i) (h:i.toNat < t.length):atI (t.map λr=>D.lst (r.map frD)) i=some (.lst ((t.getD i.toNat []).map frD)):=by
 obtain ⟨n,rfl⟩:=Int.eq_ofNat_of_zero_le h0
 exact ag (by
   have h:n < t.length:=h
   simp [h])
noncomputable def pk (t:List (List Rat)) (j:Nat):List Rat:=(List.range t.length).map λi=>(t.getD i []).getD j 0
noncomputable def cY (ds:List D) (r:Sl):Prop:=∃ (t:List (List Rat)) (j:Nat),ds=[kA t,.int j]/\t.length<=1000/\(∀ i,i < t.length->j < (t.getD i []).length)/\r=.o ((pk t j).map frD)
noncomputable def mE (t:List (List Rat)) (n:Nat):List (List Rat):=(List.range n).map (pk t)
noncomputable def pe (t:List (List Rat)):Nd:=.l (t.map λr=>.l ((r.map frD).map .d))
noncomputable def cu (ds:List D) (r:Sl):Prop:=∃ (t:List (List Rat)) (n:Nat),ds=[kA t]/\1<=t.length/\t.length<=1000/\n<=1000/\(∀ i,i < t.length->(t.getD i []).length=n)/\r=.n (pe (mE t n))
noncomputable def smD (s:List Int × Int):D:=.tup [.lst (s.1.map .int),.int s.2]
noncomputable def fW (k R:Nat):List Int × Int:=((List.range R).map λi=>if i=k then 1 else 0,1)
noncomputable def cw (ds:List D) (r:Sl):Prop:=∃ k R:Nat,ds=[.int k,.int R]/\R<=7/\r=.d (smD (fW k R))
noncomputable def cb (n:Int) (ns:List Int):Int:=ns.foldl (λf o=>(Int.gcd o f:Int)) n
noncomputable def a8 (ds:List D) (r:Sl):Prop:=∃ (n:Int) (ns:List Int),ds=[.int n,.lst (ns.map .int)]/\r=.d (.int (cb n ns))
structure uQ (s:List Int × Int) (v:List Rat):Prop where
 len:s.1.length=v.length
 pos:0 < s.2
 val:∀ i,i < v.length->((s.1.getD i 0:Int):Rat)=v.getD i 0 * (s.2:Rat)
noncomputable def di (ds:List D) (r:Sl):Prop:=∃ (s:List Int × Int) (v:List Rat),ds=[smD s]/\uQ s v/\v.length<=1000/\Bd 8999 s.2/\r=.o (v.map frD)
theorem df:∀ (ns:List Int) (n:Int),cb n ns ∣ n/\∀ x ∈ ns,cb n ns ∣ x
 | [],n=>⟨Int.dvd_refl n,λ_ z=>nomatch z⟩
 | y :: ns,n=>by
   obtain ⟨h1,h2⟩:=df ns (Int.gcd y n:Int)
   refine ⟨Int.dvd_trans h1 (Int.gcd_dvd_right ..),λx hx=>?_⟩
   rcases List.mem_cons.mp hx with rfl | hx
   · exact Int.dvd_trans h1 (Int.gcd_dvd_left ..)
   · exact h2 x hx
theorem kh {i j:Int} (h:0 < j):0 < (Int.gcd i j:Int):=by
 have:=gQ (i:=i) (j:=j) (by omega)
 omega
theorem c8:∀ (ns:List Int) (n:Int),0 < n->0 < cb n ns
 | [],_,h=>h
 | y :: ns,n,h=>c8 ns (Int.gcd y n:Int) (kh h)
structure Sm (R:Nat) (P:Int) (s:List Int × Int) (v:Nat->Rat):Prop where
 len:s.1.length=R
 pos:0 < s.2
 dvd:s.2 ∣ P
 val:∀ i,i < R->((s.1.getD i 0:Int):Rat)=v i * (s.2:Rat)
theorem Sm.up {R:Nat} {P:Int} {s:List Int × Int} {v:Nat->Rat} (h:Sm R P s v) (c:Int):Sm R (P * c) s v:=⟨h.len,h.pos,Int.dvd_mul_of_dvd_left h.dvd,h.val⟩
noncomputable def wsm (s:List Int × Int) (q:Rat):List Int × Int:=(s.1.map λx=>x / cb (q.den:Nat) s.1 * (q.num / (Int.gcd q.num s.2:Int)),s.2 / (Int.gcd q.num s.2:Int) * (((q.den:Nat):Int) / cb (q.den:Nat) s.1))
theorem getD_map {f:Int->Int} {xs:List Int} {i:Nat} (h:i < xs.length):(xs.map f).getD i 0=f (xs.getD i 0):=by simp [h]
theorem getD_mem {xs:List Int} {i:Nat} (h:i < xs.length):xs.getD i 0 ∈ xs:=by simp [h]
theorem uR {a b c:Rat} (hc:c ≠ 0) (h:a * c=b * c):a=b:=by
 have:(a - b) * c=0:=by grind
 rcases Rat.mul_eq_zero.mp this with z | z
 · grind
 · exact absurd z hc
theorem oT {a b:Int} (h:0 < a * b) (ha:0 < a):0 < b:=by
 rcases Int.lt_or_le 0 b with z | z
 · exact z
 · have:=Int.mul_le_mul_of_nonneg_left z (Int.le_of_lt ha)
   rw [Int.mul_zero] at this
   omega
theorem quo {a b:Int} (h0:0 < a) (h:a ∣ b):∃ c,b=a * c/\b / a=c:=by
 obtain ⟨c,rfl⟩:=h
 exact ⟨c,rfl,Int.mul_ediv_cancel_left _ (by omega)⟩
theorem gC {R:Nat} {P:Int} {s:List Int × Int} {v:Nat->Rat} {q:Rat} (h:Sm R P s v):Sm R (P * ((q.den:Nat):Int)) (wsm s q) λi=>q * v i:=by
 obtain ⟨ns,d⟩:=s
 have hd:0 < d:=h.pos
 have hB:=c8 ns (q.den:Nat) (den_pos q)
 obtain ⟨b1,b2⟩:=df ns (q.den:Nat)
 have hG:0 < (Int.gcd q.num d:Int):=kh hd
 obtain ⟨f,ef,qf⟩:=quo hG (Int.gcd_dvd_left q.num d)
 obtain ⟨a,ea,qa⟩:=quo hG (Int.gcd_dvd_right q.num d)
 obtain ⟨e,ee,qe⟩:=quo hB b1
 unfold wsm
 simp only
 rw [qf,qa,qe]
 generalize cb ((q.den:Nat):Int) ns=B at *
 generalize (Int.gcd q.num d:Int)=G at *
 have ap:0 < a:=oT (by rw [<- ea]; exact hd) (by assumption)
 have ep:0 < e:=oT (by rw [<- ee]; exact den_pos q) (by assumption)
 refine ⟨by rw [List.length_map]; exact h.len,Int.mul_pos ap ep,Int.mul_dvd_mul (Int.dvd_trans ⟨G,by rw [ea,Int.mul_comm]⟩ h.dvd) ⟨B,by rw [ee,Int.mul_comm]⟩,λi hi=>?_⟩
 have hi':i < ns.length:=by rw [show ns.length=R from h.len]; exact hi
 simp only
 rw [getD_map hi']
 obtain ⟨y,ey,qy⟩:=quo hB (b2 _ (getD_mem hi'))
 rw [qy]
 have hv:=h.val i hi
 simp only at hv
 rw [ey,ea] at hv
 have hq:=dj q
 rw [ef,ee] at hq
 refine uR (c:=(B:Rat) * (G:Rat)) (λz=>(Rat.mul_eq_zero.mp z).elim (fj hB) (fj hG)) ?_
 simp only [Rat.intCast_mul] at *
 grind
noncomputable def asm (s u:List Int × Int):List Int × Int:=
 let sh:Int:=(Int.gcd s.2 u.2:Int)
 let tops:=(List.range s.1.length).map λi=>s.1.getD i 0 * (u.2 / sh) + u.1.getD i 0 * (s.2 / sh)
 (tops.map λx=>x / cb sh tops,s.2 / sh * (u.2 / cb sh tops))
theorem si {R:Nat} {P:Int} {s u:List Int × Int} {v w:Nat->Rat} (h:Sm R P s v) (g:Sm R P u w):Sm R P (asm s u) λi=>v i + w i:=by
 obtain ⟨ns,d⟩:=s
 obtain ⟨ms,e⟩:=u
 have hd:0 < d:=h.pos
 have he:0 < e:=g.pos
 have hS:0 < (Int.gcd d e:Int):=kh he
 obtain ⟨a,ea,qa⟩:=quo hS (Int.gcd_dvd_left d e)
 obtain ⟨b,eb,qb⟩:=quo hS (Int.gcd_dvd_right d e)
 have cop:Int.gcd a b=1:=by
   have h1:=Int.gcd_ediv (Int.gcd_dvd_left d e) (Int.gcd_dvd_right d e)
   rw [qa,qb,Int.natAbs_natCast,Nat.div_self (by omega)] at h1
   exact h1
 unfold asm
 simp only
 rw [qa,qb]
 generalize hT:((List.range ns.length).map λi=>ns.getD i 0 * b + ms.getD i 0 * a)=tops
 have tl:tops.length=R:=by rw [<- hT,List.length_map,List.length_range]; exact h.len
 obtain ⟨b1,b2⟩:=df tops (Int.gcd d e:Int)
 have hV:=c8 tops _ hS
 have hVe:cb (Int.gcd d e:Int) tops ∣ e:=Int.dvd_trans b1 (Int.gcd_dvd_right d e)
 obtain ⟨c,ec,qc⟩:=quo hV hVe
 rw [qc]
 generalize cb (Int.gcd d e:Int) tops=V at *
 generalize (Int.gcd d e:Int)=S at *
 have ap:0 < a:=oT (by rw [<- ea]; exact hd) (by assumption)
 have cp:0 < c:=oT (by rw [<- ec]; exact he) (by assumption)
 refine ⟨by rw [List.length_map]; exact tl,Int.mul_pos ap cp,?_,λi hi=>?_⟩
 · obtain ⟨p1,e1⟩:=h.dvd
   obtain ⟨p2,e2⟩:=g.dvd
   simp only at e1 e2
   have e3:a * p1=b * p2:=by
     have:S * (a * p1)=S * (b * p2):=by rw [<- Int.mul_assoc,<- Int.mul_assoc,<- ea,<- eb,<- e1,<- e2]
     exact Int.eq_of_mul_eq_mul_left (by omega) this
   have e4:a ∣ p2:=by
     have:=Int.dvd_gcd_mul_iff_dvd_mul.mpr (show a ∣ b * p2 from ⟨p1,e3.symm⟩)
     rwa [cop,Int.natCast_one,Int.one_mul] at this
   obtain ⟨p3,e5⟩:=e4
   exact ⟨V * p3,by simp only; rw [e2,e5,ec]; grind⟩
 · simp only
   rw [getD_map (by omega)]
   obtain ⟨z,ez,qz⟩:=quo hV (b2 _ (getD_mem (i:=i) (by omega)))
   rw [qz]
   have et:tops.getD i 0=ns.getD i 0 * b + ms.getD i 0 * a:=by
     rw [<- hT]
     have:i < ns.length:=by rw [show ns.length=R from h.len]; exact hi
     simp [this]
   have hv:=h.val i hi
   have hw:=g.val i hi
   simp only at hv hw
   have t1:((tops.getD i 0:Int):Rat)=((ns.getD i 0:Int):Rat) * (b:Rat) + ((ms.getD i 0:Int):Rat) * (a:Rat):=by rw [et,Rat.intCast_add,Rat.intCast_mul,Rat.intCast_mul]
   rw [ez,hv,hw] at t1
   have cd:(d:Rat)=(S:Rat) * (a:Rat):=by rw [ea,Rat.intCast_mul]
   have ce:(e:Rat)=(S:Rat) * (b:Rat):=by rw [eb,Rat.intCast_mul]
   have cf:(e:Rat)=(V:Rat) * (c:Rat):=by rw [ec,Rat.intCast_mul]
   refine uR (c:=(V:Rat)) (fj hV) ?_
   rw [Rat.intCast_mul] at t1 ⊢
   grind
noncomputable def Zq (P:Int) (n:Nat) (v:Rat):Prop:=∃ z:Int,0<=z/\z<=2 ^ n/\(z:Rat)=v * (P:Rat)
structure Wq (e:Nat) (q:Rat):Prop where
 n0:0<=q.num
 sq:Sq e q
theorem p2 (m n:Nat):(2:Int) ^ (m + n)=2 ^ m * 2 ^ n:=Int.pow_add ..
theorem p0 (n:Nat):(0:Int)<=2 ^ n:=by
 have e:((2 ^ n:Nat):Int)=(2:Int) ^ n:=Int.natCast_pow ..
 rw [<- e]
 exact Int.natCast_nonneg _
theorem bd2 {n:Nat} {i:Int} (h:Bd n i):i<=2 ^ n:=by
 have h:i.natAbs < 2 ^ n:=h
 have e:((2 ^ n:Nat):Int)=(2:Int) ^ n:=Int.natCast_pow ..
 omega
theorem Zq.mul {P:Int} {n e:Nat} {v q:Rat} (h:Zq P n v) (g:Wq e q):Zq (P * ((q.den:Nat):Int)) (n + e) (q * v):=by
 obtain ⟨z,h0,h1,h2⟩:=h
 refine ⟨z * q.num,Int.mul_nonneg h0 g.n0,?_,?_⟩
 · rw [p2]; exact Int.mul_le_mul h1 (bd2 g.sq.num) g.n0 (p0 n)
 · have:=dj q
   rw [Rat.intCast_mul,Rat.intCast_mul]; grind
theorem Zq.up {P:Int} {n e:Nat} {v q:Rat} (h:Zq P n v) (g:Wq e q):Zq (P * ((q.den:Nat):Int)) (n + e) v:=by
 obtain ⟨z,h0,h1,h2⟩:=h
 have:=den_pos q
 refine ⟨z * ((q.den:Nat):Int),Int.mul_nonneg h0 (by omega),?_,?_⟩
 · rw [p2]; exact Int.mul_le_mul h1 (bd2 g.sq.den) (by omega) (p0 n)
 · rw [Rat.intCast_mul,Rat.intCast_mul]; grind
theorem Zq.add {P:Int} {n:Nat} {v w:Rat} (h:Zq P n v) (g:Zq P n w):Zq P (n + 1) (v + w):=by
 obtain ⟨z,h0,h1,h2⟩:=h
 obtain ⟨y,g0,g1,g2⟩:=g
 refine ⟨z + y,by omega,by rw [p2]; omega,?_⟩
 rw [Rat.intCast_add]; grind
theorem Zq.mono {P:Int} {m n:Nat} {v:Rat} (h:Zq P m v) (g:m<=n):Zq P n v:=by
 obtain ⟨z,h0,h1,h2⟩:=h
 refine ⟨z,h0,Int.le_trans h1 ?_,h2⟩
 exact_mod_cast Nat.pow_le_pow_right (n:=2) (by decide) g
theorem lq {n:Nat} {i:Int} (h0:0<=i) (h:i<=2 ^ n):Bd (n + 1) i:=by
 unfold Bd
 have e:((2 ^ n:Nat):Int)=(2:Int) ^ n:=Int.natCast_pow ..
 have:=Nat.pow_succ (n:=2) (m:=n)
 have:=Nat.two_pow_pos n
 omega
theorem Zq.sq {P:Int} {m n:Nat} {v:Rat} (h:Zq P n v) (hP:0 < P) (g:P<=2 ^ m) (hm:m<=n):Sq (n + 1) v:=by
 obtain ⟨z,h0,h1,h2⟩:=h
 exact Sq.b5 hP h2 (lq h0 h1) ((lq (by omega) g).mono (by omega))
theorem Sm.bd {R:Nat} {P:Int} {s:List Int × Int} {v:Nat->Rat} {m n:Nat} (h:Sm R P s v) (hP:0 < P) (g:P<=2 ^ m) (hz:∀ i,i < R->Zq P n (v i)):Bd (m + 1) s.2/\∀ x ∈ s.1,Bd (n + 1) x:=by
 refine ⟨(lq (by omega) g).of_dvd h.dvd (by omega),λx hx=>?_⟩
 obtain ⟨i,hi,rfl⟩:=List.getElem_of_mem hx
 have hR:i < R:=by rw [<- h.len]; exact hi
 obtain ⟨z,h0,h1,h2⟩:=hz i hR
 obtain ⟨c,ec⟩:=h.dvd
 have hv:=h.val i hR
 have eg:s.1.getD i 0=s.1[i]:=by simp [hi]
 rw [eg] at hv
 have ez:z=s.1[i] * c:=by
   apply Rat.intCast_inj.mp
   rw [h2,ec,Rat.intCast_mul,Rat.intCast_mul,hv]; grind
 rcases Int.lt_or_eq_of_le h0 with z0 | z0
 · exact (lq h0 h1).of_dvd ⟨c,ez⟩ (by omega)
 · have cp:0 < c:=oT (by rw [<- ec]; exact hP) h.pos
   have:s.1[i]=0:=by
     rcases Int.mul_eq_zero.mp (ez.symm.trans z0.symm) with q | q
     · exact q
     · omega
   rw [this]
   exact Nat.two_pow_pos _
section
variable {P:Program} {w:World} {K:PySem.W.Frag} {mg:Str->Option Value} {base:Heap} {k:Nat} {f:Addr} {fd:FuncData} {qual:Str}
theorem dZ (F:Fun K "in_lowest_terms" qual (top 13) f fd) (hb:∀ x ∈ ak,mg x=none) (c_common_divisor:Cal P w K mg base k "common_divisor" aM):aL P w K mg base CX0 (k + 1) f fd ["top","bottom"] (spD K bq):=by
 refine fnD F bK hb (by rintro _ _ ⟨_,_,_,rfl,_⟩; rfl) ?_
 rintro _ _ ⟨t,c,q,rfl,h0,h1,hq,rfl⟩ cdv A outer s H E b
 have nd:=bK.nd
 refine az 2 nd (x_call b c_common_divisor (ae (aa 0) (ae (aa 1) ah)) ⟨_,_,rfl,rfl⟩) ?_
 have dv:aH (Int.gcd t c:Int):=(h1.gcd (by omega)).aH (gQ (by omega)) (by decide)
 obtain ⟨e1,e2⟩:=b5 h0 hq
 refine bt (aG (aa 1) af pB) (decide_eq_false (by omega)) (aD (bN (ae (aA (aa 0) (aa 2) (aW dv)) (ae (aA (aa 1) (aa 2) (aW dv)) ah))) ?_)
 rw [aZ,aZ,<- e1,<- e2]
 rfl
theorem jW (F:Fun K "fraction" qual (top 14) f fd) (hb:∀ x ∈ ak,mg x=none) (c_in_lowest_terms:Cal P w K mg base k "in_lowest_terms" bq) (c_is_whole:Cal P w K mg base k "is_whole" bL):aL P w K mg base CX0 (k + 1) f fd ["top","bottom"] (spD K dU):=by
 refine fnD F jI hb (by rintro _ _ ⟨_,_,_,rfl,_⟩; rfl) ?_
 rintro _ _ ⟨t,c,q,rfl,h0,h1,hq,rfl⟩ cdv A outer s H E b
 refine bt (PW.pt (cc (a4 (aV (x_call b c_is_whole (ae (aa 0) ah) ⟨_,rfl,rfl⟩))) λh=>(bY (a4 (aV (x_call b c_is_whole (ae (aa 1) ah) ⟨_,rfl,rfl⟩)))))) rfl ?_
 refine bt (aG (aa 1) af eX) (decide_eq_false (by omega)) ?_
 exact aD (x_call b c_in_lowest_terms (ae (aa 0) (ae (aa 1) ah)) ⟨t,c,q,rfl,h0,h1,hq,rfl⟩) rfl
theorem jf (F:Fun K "column_of" qual (top 20) f fd) (hb:∀ x ∈ ak,mg x=none):aL P w K mg base CX0 (k + 1) f fd ["table","j"] (spD K cY):=by
 refine fnD F iX hb (by rintro _ _ ⟨_,_,rfl,_⟩; rfl) ?_
 rintro _ _ ⟨t,j,rfl,hl,hj,rfl⟩ cdv A outer s H E b
 refine aD (eU (cmp 0 (f:=λi=>frD ((t.getD i []).getD j 0)) b (a0 (aa 0)) u0 (by rw [List.length_map]; omega) λi hi s0 H0 fp=>(ar (aa 0) (aa 1) (aX (ux (r:=t.getD i []) (i:=(j:Int)) (by omega) (hj i (by rw [List.length_map] at hi; exact hi))))))) ?_
 rw [List.length_map]
 unfold pk
 rw [List.map_map]
 rfl
theorem ij (F:Fun K "columns_of" qual (top 19) f fd) (hb:∀ x ∈ ak,mg x=none) (c_column_of:Cal P w K mg base k "column_of" cY):aL P w K mg base CX0 (k + 1) f fd ["table"] (spD K cu):=by
 refine fnD F ic hb (by rintro _ _ ⟨_,_,rfl,_⟩; rfl) ?_
 rintro _ _ ⟨t,n,rfl,h1,hl,hn,hj,rfl⟩ cdv A outer s H E b
 have e0:((t.getD 0 []).map frD).length=n:=by rw [List.length_map]; exact hj 0 h1
 refine aD (qT (uO 0 (f:=λj=>.l (((pk t j).map frD).map .d)) b (fD b (b9 b (ae (ar (aa 0) af (aX (uM (i:=0) (by omega) (by omega)))) ah) jS) ?_ ?_) fI ?_ (λj hjn s0 H0 fp=>(x_call (b.comp s0 H0 _ fp) c_column_of (ae (aa 1) (ae (aa 0) ah)) ⟨t,j,rfl,hl,λi hi=>?_,rfl⟩)) λj _=>rfl)) ?_
 · omega
 · simp only [Int.toNat_zero,e0]; omega
 · rw [aO]; simp only [Int.toNat_zero,e0,Int.toNat_natCast]; omega
 · rw [aO] at hjn; simp only [Int.toNat_zero,e0,Int.toNat_natCast] at hjn; rw [hj i hi]; exact hjn
 · rw [aO]
   simp only [Int.toNat_zero,e0,Int.toNat_natCast]
   unfold pe mE
   rw [List.map_map]
   rfl
theorem hU (F:Fun K "first_sums" qual (top 31) f fd) (hb:∀ x ∈ ak,mg x=none):aL P w K mg base CX0 (k + 1) f fd ["track","rows"] (spD K cw):=by
 refine fnD F ib hb (by rintro _ _ ⟨_,_,rfl,_⟩; rfl) ?_
 rintro _ _ ⟨n,R,rfl,hR,rfl⟩ cdv A outer s H E b
 refine aD (bN (ae (a9 (eU (cmp 0 (f:=λi=>.int (if i=n then 1 else 0)) b (fD b (aa 1) (by omega) (by omega)) fI (by rw [aO]; omega) λi hi s0 H0 fp=>(fG (aG (aa 0) (aa 1) eX) (λh=>?_) λh=>?_)))) (ae af ah))) ?_
 · have h:=of_decide_eq_true h
   rw [if_pos (by omega)]
   exact af
 · have h:=of_decide_eq_false h
   rw [if_neg (by omega)]
   exact af
 · rw [aO,Int.toNat_natCast]
   unfold smD fW
   rw [List.map_map]
   rfl
theorem eD (F:Fun K "shared_divisor" qual (top 12) f fd) (hb:∀ x ∈ ak,mg x=none) (c_common_divisor:Cal P w K mg base k "common_divisor" aM):aL P w K mg base CX0 (k + 1) f fd ["number","others"] (spD K a8):=by
 refine fnD F bU hb (by rintro _ _ ⟨_,_,rfl,_⟩; rfl) ?_
 rintro _ _ ⟨n,ns,rfl,rfl⟩ cdv A outer s H E b
 have nd:=bU.nd
 refine az 2 nd (aa 0) ?_
 refine bX 3 (λi τ=>∃ s3,τ=[.d (.int n),.d (.lst (ns.map .int)),.d (.int (cb n (ns.take i))),s3]) b nd (a0 (aa 1)) gN ⟨_,rfl⟩ (λi hi τ h=>?_) λτ h=>?_
 · obtain ⟨s3,rfl⟩:=h
   rw [List.length_map] at hi
   refine az 2 nd (x_call b c_common_divisor (ae (aa 3) (ae (aa 2) ah)) ⟨_,_,rfl,rfl⟩) (aQ ?_)
   apply ex1
   rw [take_snoc 0 hi]
   unfold cb
   rw [List.foldl_append]
   rfl
 · obtain ⟨s3,rfl⟩:=h
   refine aD (aa 2) ?_
   rw [List.length_map,List.take_of_length_le (Nat.le_refl _)]
theorem jk (F:Fun K "told_sums" qual (top 32) f fd) (hb:∀ x ∈ ak,mg x=none) (c_fraction:Cal P w K mg base k "fraction" dU):aL P w K mg base CX0 (k + 1) f fd ["sums"] (spD K di):=by
 refine fnD F jl hb (by rintro _ _ ⟨_,_,rfl,_⟩; rfl) ?_
 rintro _ _ ⟨⟨ns,d⟩,v,rfl,h,hl,hd,rfl⟩ cdv A outer s H E b
 have hlen:ns.length=v.length:=h.len
 refine aD (eU (cmp 0 (f:=λi=>frD (v.getD i 0)) b (a0 (ar (aa 0) af (ao (ag (i:=0) rfl)))) gN (by simp only [List.length_map]; omega) λi hi s0 H0 fp=>(x_call (b.comp s0 H0 _ fp) c_fraction (ae (aa 0) (ae (ar (aa 1) af (ao (ag (i:=1) rfl))) ah)) ⟨_,d,v.getD i 0,rfl,h.pos,hd,h.val i (by simp only [List.length_map] at hi; omega),rfl⟩))) ?_
 rw [List.length_map,hlen]
 congr 1
 refine List.ext_getElem (by simp) λi h1 h2=>?_
 have:i < v.length:=by simpa using h2
 simp [this]
end
noncomputable def bP (ds:List D) (r:Sl):Prop:=∃ (s:List Int × Int) (q:Rat),ds=[smD s,frD q]/\0 < s.2/\Bd 8000 s.2/\(∀ x ∈ s.1,Bd 8000 x)/\Sq 100 q/\s.1.length<=1000/\r=.d (smD (wsm s q))
theorem bE {a b:Int} (h:0 < b):a.fdiv b=a / b:=Int.fdiv_eq_ediv_of_nonneg _ (by omega)
theorem mB (ns:List Int) (g:Int->D):(List.range (ns.map D.int).length).map (λi=>g (ns.getD i 0))=ns.map g:=by
 refine List.ext_getElem (by simp) λi h1 h2=>?_
 have:i < ns.length:=by simpa using h2
 simp [this]
noncomputable def cD (ds:List D) (r:Sl):Prop:=∃ s u:List Int × Int,ds=[smD s,smD u]/\0 < s.2/\Bd 8000 s.2/\0 < u.2/\Bd 8000 u.2/\(∀ x ∈ s.1,Bd 8000 x)/\(∀ x ∈ u.1,Bd 8000 x)/\s.1.length=u.1.length/\s.1.length<=1000/\r=.d (smD (asm s u))
noncomputable def cL (V:Nat->Nat->Rat) (n:Nat) (r:Nat->Rat):Nat->Nat->Rat:=λk=>if k=n then r else V k
noncomputable def stV (V:Nat->Nat->Rat) (st:Stp):Nat->Nat->Rat:=if st.1 = "weigh" then cL V st.2.1 λi=>st.2.2 * V st.2.1 i else cL V (rgE st) λi=>V (rgE st) i + st.2.2 * V (rgS st) i
noncomputable def V0 (k i:Nat):Rat:=if i=k then 1 else 0
noncomputable def fwd (ss:List Stp):Nat->Nat->Rat:=ss.foldl stV V0
theorem o8 {n m:Nat} (h:m < n):ixN n (m:Int)=some m:=by
 unfold ixN
 rw [if_pos (by omega),if_pos (by omega)]
 simp
structure TrI (e T R t:Nat) (P:Int) (tr:List (List Int × Int)) (V:Nat->Nat->Rat):Prop where
 len:tr.length=T
 pos:0 < P
 le:P<=2 ^ (e * t)
 sm:∀ k,k < T->Sm R P (tr.getD k ([],1)) (V k)
 zq:∀ k,k < T->∀ i,i < R->Zq P ((e + 1) * t) (V k i)
theorem nM {α:Type} {xs:List α} {k j:Nat} {x d:α} (h:k < xs.length):(xs.set k x).getD j d=if j=k then x else xs.getD j d:=by
 by_cases e:j=k
 · subst e; simp [h]
 · simp [List.getD,e,List.getElem?_set_ne (Ne.symm e)]
theorem Zq.upn {P:Int} {e t:Nat} {v q:Rat} (h:Zq P ((e + 1) * t) v) (g:Wq e q):Zq (P * ((q.den:Nat):Int)) ((e + 1) * (t + 1)) v:=(h.up g).mono (by rw [Nat.mul_succ]; omega)
theorem TrI.put {e T R t k:Nat} {P:Int} {tr:List (List Int × Int)} {V:Nat->Nat->Rat} {q:Rat} (h:TrI e T R t P tr V) (g:Wq e q) (hk:k < T) {s':List Int × Int} {v':Nat->Rat} (hs:Sm R (P * ((q.den:Nat):Int)) s' v')
   (hz:∀ i,i < R->Zq (P * ((q.den:Nat):Int)) ((e + 1) * (t + 1)) (v' i)):TrI e T R (t + 1) (P * ((q.den:Nat):Int)) (tr.set k s') (cL V k v'):=by
 refine ⟨by rw [List.length_set]; exact h.len,Int.mul_pos h.pos (den_pos q),?_,λj hj=>?_,λj hj i hi=>?_⟩
 · rw [Nat.mul_succ,p2]
   exact Int.mul_le_mul h.le (bd2 g.sq.den) (by have:=den_pos q; omega) (p0 _)
 · rw [nM (by rw [h.len]; exact hk)]
   unfold cL
   split
   · exact hs
   · exact (h.sm j hj).up _
 · unfold cL
   split
   · exact hz i hi
   · exact (h.zq j hj i hi).upn g
theorem TrI.start {e T R:Nat}:TrI e T R 0 1 ((List.range T).map λk=>fW k R) V0:=by
 refine ⟨by simp,by decide,by simp,λk hk=>?_,λk hk i hi=>?_⟩
 · rw [show ((List.range T).map λk=>fW k R).getD k ([],1)=fW k R by simp [hk]]
   refine ⟨by simp [fW],by show (0:Int) < 1; decide,Int.dvd_refl _,λi hi=>?_⟩
   rw [show (fW k R).1.getD i 0=if i=k then 1 else 0 by simp [fW,hi]]
   unfold V0 fW
   split
   · exact (Rat.one_mul _).symm
   · exact (Rat.zero_mul _).symm
 · unfold V0
   split
   · exact ⟨1,by decide,by simp,(Rat.one_mul _).symm⟩
   · exact ⟨0,by decide,by simp,(Rat.zero_mul _).symm⟩
theorem TrI.bd {e T R t:Nat} {P:Int} {tr:List (List Int × Int)} {V:Nat->Nat->Rat} (h:TrI e T R t P tr V) (hn:(e + 1) * t<=1500) {k:Nat} (hk:k < T):0 < (tr.getD k ([],1)).2/\Bd 8000 (tr.getD k ([],1)).2/\(∀ x ∈ (tr.getD k ([],1)).1,Bd 8000 x)/\(tr.getD k ([],1)).1.length=R:=by
 obtain ⟨h1,h2⟩:=(h.sm k hk).bd h.pos h.le (h.zq k hk)
 have:e * t<=(e + 1) * t:=Nat.mul_le_mul_right _ (by omega)
 exact ⟨(h.sm k hk).pos,h1.mono (by omega),λx hx=>(h2 x hx).mono (by omega),(h.sm k hk).len⟩
theorem o3 {tr:List (List Int × Int)} {i:Nat} (h:i < tr.length):atI (tr.map smD) (i:Int)=some (smD (tr.getD i ([],1))):=ag (by simp [h])
theorem js {tr:List (List Int × Int)} {C:Nat} (h:C<=tr.length):(cutD (tr.map smD) none (some (C:Int))).length=C:=by rw [kH,List.length_take,List.length_map]; omega
theorem uy {tr:List (List Int × Int)} {C:Nat} (i:Nat) (h:i < (cutD (tr.map smD) none (some (C:Int))).length):(cutD (tr.map smD) none (some (C:Int)))[i]=smD (tr.getD i ([],1)):=by
 rw [List.getElem_of_eq (kH C)]
 rw [kH,List.length_take,List.length_map] at h
 simp [show i < tr.length by omega]
theorem Sm.sums {R:Nat} {P:Int} {s:List Int × Int} {v:Nat->Rat} (h:Sm R P s v):uQ s ((List.range R).map v):=by
 refine ⟨by rw [h.len]; simp,h.pos,λi hi=>?_⟩
 have hi:i < R:=by simpa using hi
 rw [h.val i hi]
 simp [hi]
theorem ow {e T R t:Nat} {P:Int} {tr:List (List Int × Int)} {V:Nat->Nat->Rat} {n:Nat} {q:Rat} (h:TrI e T R t P tr V) (g:Wq e q) (hn:n < T):TrI e T R (t + 1) (P * ((q.den:Nat):Int)) (tr.set n (wsm (tr.getD n ([],1)) q)) (stV V ("weigh",n,q)):=by
 unfold stV
 rw [if_pos rfl]
 exact h.put g hn (gC (h.sm n hn)) λi hi=>((h.zq n hn i hi).mul g).mono (by rw [Nat.mul_succ]; omega)
theorem tI {e T R t:Nat} {P:Int} {tr:List (List Int × Int)} {V:Nat->Nat->Rat} {st:Stp} (h:TrI e T R t P tr V) (g:Wq e st.2.2) (h0:st.1 ≠ "weigh") (h1:rgS st < T) (h2:rgE st < T):TrI e T R (t + 1) (P * ((st.2.2.den:Nat):Int)) (tr.set (rgE st) (asm (tr.getD (rgE st) ([],1)) (wsm (tr.getD (rgS st) ([],1)) st.2.2))) (stV V st):=by
 unfold stV
 rw [if_neg h0]
 exact h.put g h2 (si ((h.sm _ h2).up _) (gC (h.sm _ h1))) λi hi=>(((h.zq _ h2 i hi).up g).add ((h.zq _ h1 i hi).mul g)).mono (by rw [Nat.mul_succ]; omega)
theorem ue {T:Nat} {st:Stp} (h:okS T st) (h0:st.1 ≠ "weigh"):rgS st < T/\rgE st < T/\rgS st ≠ rgE st:=by
 obtain ⟨_,h | h⟩:=h
 · exact absurd h.1 h0
 · have:=h.2
   unfold rgS rgE
   split <;> omega
noncomputable def gk (C R:Nat) (V:Nat->Nat->Rat):List (List Rat):=(List.range R).map λi=>(List.range C).map λj=>V j i
noncomputable def dQ (ds:List D) (r:Sl):Prop:=∃ (e T R C:Nat) (ss:List Stp),ds=[bT T R C ss]/\okL T R C ss/\(∀ i,i < ss.length->Wq e (ss.getD i ("weigh",0,0)).2.2)/\(e + 1) * ss.length<=1500/\e<=100/\r=.n (pe (gk C R (fwd ss)))
theorem mG (C R:Nat) (V:Nat->Nat->Rat):mE ((List.range C).map λj=>(List.range R).map λi=>V j i) R=gk C R V:=by
 unfold mE gk
 refine List.map_congr_left λi hi=>?_
 have hi:i < R:=List.mem_range.mp hi
 unfold pk
 rw [List.length_map,List.length_range]
 refine List.map_congr_left λj hj=>?_
 have hj:j < C:=List.mem_range.mp hj
 simp [hi,hj]
section
variable {P:Program} {w:World} {K:PySem.W.Frag} {mg:Str->Option Value} {base:Heap} {k:Nat} {f:Addr} {fd:FuncData} {qual:Str}
theorem fL (F:Fun K "weighed_sums" qual (top 33) f fd) (hb:∀ x ∈ ak,mg x=none) (c_common_divisor:Cal P w K mg base k "common_divisor" aM) (c_shared_divisor:Cal P w K mg base k "shared_divisor" a8):aL P w K mg base CX0 (k + 1) f fd ["sums","weight"] (spD K bP):=by
 refine fnD F cG hb (by rintro _ _ ⟨_,_,rfl,_⟩; rfl) ?_
 rintro _ _ ⟨⟨ns,d⟩,q,rfl,hd,hd2,hns,hq,hl,rfl⟩ cdv A outer s H E b
 have nd:=cG.nd
 have hd:0 < d:=hd
 have hG:0 < (Int.gcd q.num d:Int):=kh hd
 have hB:=c8 ns (q.den:Nat) (den_pos q)
 have dG:aH (Int.gcd q.num d:Int):=(Bd.gcd hd2 (by show d ≠ 0; omega)).aH (Int.ne_of_gt hG) (by decide)
 have dB:aH (cb (q.den:Nat) ns):=(hq.den.of_dvd (df ns _).1 (Int.ne_of_gt (den_pos q))).aH (Int.ne_of_gt hB) (by decide)
 have qn:Bd 8000 (q.num / (Int.gcd q.num d:Int)):=(hq.num.ediv _).mono (by decide)
 refine az 2 nd (x_call b c_common_divisor (ae (ar (aa 1) af (ao (ag (i:=0) rfl))) (ae (ar (aa 0) af (ao (ag (i:=1) rfl))) ah)) ⟨_,_,rfl,rfl⟩) ?_
 refine az 3 nd (x_call b c_shared_divisor (ae (ar (aa 1) af (ao (ag (i:=1) rfl))) (ae (ar (aa 0) af (ao (ag (i:=0) rfl))) ah)) ⟨_,_,rfl,rfl⟩) ?_
 refine az 4 nd (aA (ar (aa 1) af (ao (ag (i:=0) rfl))) (aa 2) (aW dG)) ?_
 rw [bE hG]
 refine aD (bN (ae (a9 (eU (cmp 0 (f:=λi=>.int (ns.getD i 0 / cb (q.den:Nat) ns * (q.num / (Int.gcd q.num d:Int)))) b (a0 (ar (aa 0) af (ao (ag (i:=0) rfl)))) gN (by rw [List.length_map]; have:ns.length<=1000:=hl; omega) λi hi s0 H0 fp=>?_))) (ae (aA (aA (ar (aa 0) af (ao (ag (i:=1) rfl))) (aa 2) (aW dG)) (aA (ar (aa 1) af (ao (ag (i:=1) rfl))) (aa 3) (aW dB)) (aY ?_)) ah))) ?_
 · have hi:i < ns.length:=by rw [List.length_map] at hi; exact hi
   rw [<- bE hB]
   exact aA (aA (aa 0) (aa 1) (aW dB)) (aa 2) (aY (by rw [bE hB]; exact ((hns _ (getD_mem hi)).ediv _).aN qn (by decide) (by decide)))
 · rw [bE hG,bE hB]
   exact (hd2.ediv _).aN (hq.den.ediv _) (by decide) (by decide)
 · rw [bE hG,bE hB,mB ns λx=>.int (x / cb (q.den:Nat) ns * (q.num / (Int.gcd q.num d:Int)))]
   unfold smD wsm
   rw [List.map_map]
   rfl
theorem ir (F:Fun K "added_sums" qual (top 34) f fd) (hb:∀ x ∈ ak,mg x=none) (c_common_divisor:Cal P w K mg base k "common_divisor" aM) (c_shared_divisor:Cal P w K mg base k "shared_divisor" a8):aL P w K mg base CX0 (k + 1) f fd ["one","other"] (spD K cD):=by
 refine fnD F dD hb (by rintro _ _ ⟨_,_,rfl,_⟩; rfl) ?_
 rintro _ _ ⟨⟨ns,d⟩,⟨ms,e⟩,rfl,hd,hd2,he,he2,hns,hms,hll,hl,rfl⟩ cdv A outer s H E b
 have nd:=dD.nd
 have hd:0 < d:=hd
 have he:0 < e:=he
 have hll:ns.length=ms.length:=hll
 have hl:ns.length<=1000:=hl
 have hS:0 < (Int.gcd d e:Int):=kh he
 have bS:Bd 8000 (Int.gcd d e:Int):=Bd.gcd he2 (by show e ≠ 0; omega)
 have dS:aH (Int.gcd d e:Int):=bS.aH (by omega) (by decide)
 refine az 2 nd (x_call b c_common_divisor (ae (ar (aa 0) af (ao (ag (i:=1) rfl))) (ae (ar (aa 1) af (ao (ag (i:=1) rfl))) ah)) ⟨_,_,rfl,rfl⟩) ?_
 refine az 3 nd (aA (ar (aa 1) af (ao (ag (i:=1) rfl))) (aa 2) (aW dS)) ?_
 refine az 4 nd (aA (ar (aa 0) af (ao (ag (i:=1) rfl))) (aa 2) (aW dS)) ?_
 rw [bE hS,bE hS]
 have be:Bd 8000 (e / (Int.gcd d e:Int)):=Bd.ediv he2 _
 have bd:Bd 8000 (d / (Int.gcd d e:Int)):=Bd.ediv hd2 _
 have zl:(hZ (ns.map D.int) (ms.map D.int)).length=ns.length:=by rw [c9,List.length_map,List.length_map]; omega
 refine ox 5 nd (ua 0 1 (f:=λi=>.int (ns.getD i 0 * (e / (Int.gcd d e:Int)) + ms.getD i 0 * (d / (Int.gcd d e:Int)))) b (u3 b (ar (aa 0) af (ao (ag (i:=0) rfl))) (ar (aa 1) af (ao (ag (i:=0) rfl)))) uD (by rw [zl]; omega) λi hi s0 H0 fp=>?_) (.inr rfl) ?_
 · have hi:i < ns.length:=by rw [zl] at hi; exact hi
   exact aA (aA (aa 0) (aa 2) (aY ((hns _ (getD_mem hi)).aN be (by decide) (by decide)))) (aA (aa 1) (aa 3) (aY ((hms _ (getD_mem (xs:=ms) (by omega))).aN bd (by decide) (by decide)))) aT
 rw [zl]
 have ec:((List.range ns.length).map λi=>D.int (ns.getD i 0 * (e / (Int.gcd d e:Int)) + ms.getD i 0 * (d / (Int.gcd d e:Int))))=((List.range ns.length).map λi=>ns.getD i 0 * (e / (Int.gcd d e:Int)) + ms.getD i 0 * (d / (Int.gcd d e:Int))).map .int:=by rw [List.map_map]; rfl
 rw [ec]
 have er:asm (ns,d) (ms,e)=((((List.range ns.length).map λi=>ns.getD i 0 * (e / (Int.gcd d e:Int)) + ms.getD i 0 * (d / (Int.gcd d e:Int)))).map λx=>x / cb (Int.gcd d e:Int) ((List.range ns.length).map λi=>ns.getD i 0 * (e / (Int.gcd d e:Int)) + ms.getD i 0 * (d / (Int.gcd d e:Int))),d / (Int.gcd d e:Int) * (e / cb (Int.gcd d e:Int) ((List.range ns.length).map λi=>ns.getD i 0 * (e / (Int.gcd d e:Int)) + ms.getD i 0 * (d / (Int.gcd d e:Int))))):=rfl
 rw [er]
 have tl:((List.range ns.length).map λi=>ns.getD i 0 * (e / (Int.gcd d e:Int)) + ms.getD i 0 * (d / (Int.gcd d e:Int))).length<=1000:=by rw [List.length_map,List.length_range]; exact hl
 generalize ((List.range ns.length).map λi=>ns.getD i 0 * (e / (Int.gcd d e:Int)) + ms.getD i 0 * (d / (Int.gcd d e:Int)))=tops at tl
 have hV:=c8 tops _ hS
 have dV:aH (cb (Int.gcd d e:Int) tops):=(bS.of_dvd (df tops _).1 (by omega)).aH (by omega) (by decide)
 refine az 6 nd (x_call b c_shared_divisor (ae (aa 2) (ae (aa 5) ah)) ⟨_,_,rfl,rfl⟩) ?_
 refine aD (bN (ae (a9 (eU (cmp 0 (f:=λi=>.int (tops.getD i 0 / cb (Int.gcd d e:Int) tops)) b (a0 (aa 5)) gN (by rw [List.length_map]; omega) λi hi s0 H0 fp=>?_))) (ae (aA (aa 4) (aA (ar (aa 1) af (ao (ag (i:=1) rfl))) (aa 6) (aW dV)) (aY ?_)) ah))) ?_
 · rw [<- bE hV]
   exact aA (aa 0) (aa 1) (aW dV)
 · rw [bE hV]
   exact bd.aN (Bd.ediv he2 _) (by decide) (by decide)
 · rw [bE hV,mB tops λx=>.int (x / cb (Int.gcd d e:Int) tops)]
   unfold smD
   rw [List.map_map]
   rfl
theorem kx (F:Fun K "table_of" qual (top 30) f fd) (hb:∀ x ∈ ak,mg x=none) (c_look_ladder:Cal P w K mg base k "look_ladder" bb) (c_columns_of:Cal P w K mg base k "columns_of" cu) (c_first_sums:Cal P w K mg base k "first_sums" cw) (c_weighed_sums:Cal P w K mg base k "weighed_sums" bP) (c_added_sums:Cal P w K mg base k "added_sums" cD) (c_told_sums:Cal P w K mg base k "told_sums" di) (c_rung_end:Cal P w K mg base k "rung_end" cA) (c_rung_start:Cal P w K mg base k "rung_start" bH):aL P w K mg base CX0 (k + 1) f fd ["ladder"] (spD K dQ):=by
 refine fnD F fw hb (by rintro _ _ ⟨_,_,_,_,_,rfl,_⟩; rfl) ?_
 rintro _ _ ⟨e,T,R,C,ss,rfl,h,hw,hn,he,rfl⟩ cdv A outer s H E b
 have nd:=fw.nd
 have hT:=h.t7
 have h00:=h
 have hRT:=h.rT
 have hCT:=h.cT
 refine kW (x_call b c_look_ladder (ae (aa 0) ah) ⟨T,R,C,ss,rfl,h,rfl⟩) ?_
 refine ox 1 nd (cmp 0 (f:=λk=>smD (fW k R)) b (fD b (ar (aa 0) af (ao (ag (i:=0) rfl))) (by omega) (by omega)) fI (by rw [aO]; omega) λi hi s0 H0 fp=>(x_call (b.comp s0 H0 _ fp) c_first_sums (ae (aa 0) (ae (ar (aa 1) af (ao (ag (i:=1) rfl))) ah)) ⟨_,R,rfl,by omega,rfl⟩)) (.inl rfl) ?_
 rw [aO,Int.toNat_natCast]
 refine bX 2 (λi τ=>∃ P tr s2 s3,TrI e T R i P tr ((ss.take i).foldl stV V0)/\τ=[.d (bT T R C ss),.o (tr.map smD),s2,s3]) b nd (a0 (ar (aa 0) af (ao (ag (i:=3) rfl)))) uf ⟨1,(List.range T).map λk=>fW k R,.un,.un,TrI.start,?_⟩ (λi hi τ h=>?_) λτ h=>?_
 · rw [List.map_map]; rfl
 · obtain ⟨P,tr,s2,s3,I,rfl⟩:=h
   have hi:i < ss.length:=by rw [List.length_map] at hi; exact hi
   have hn':(e + 1) * i<=1500:=Nat.le_trans (Nat.mul_le_mul_left _ (by omega)) hn
   have hn2:(e + 1) * (i + 1)<=1500:=Nat.le_trans (Nat.mul_le_mul_left _ (by omega)) hn
   have g:=hw i hi
   have ok:=h00.st i hi
   have nx:∀ V,(ss.take (i + 1)).foldl stV V=stV ((ss.take i).foldl stV V) (ss.getD i ("weigh",0,0)):=λV=>by rw [take_snoc (("weigh",0,0):Stp) hi,List.foldl_append]; rfl
   rw [nx]
   generalize ss.getD i ("weigh",0,0)=st at *
   obtain ⟨u,n,q⟩:=st
   have sq:Sq 100 q:=g.sq.mono he
   refine jb (M:=λτ=>∃ P tr s2 s3,TrI e T R (i + 1) P tr (stV ((ss.take i).foldl stV V0) (u,n,q))/\τ=[.d (bT T R C ss),.o (tr.map smD),s2,s3]) (aG (ar (aa 2) af (ao (ag (i:=0) rfl))) bB ek) (λh=>?_) (λh=>?_) λτ h=>aQ h
   · obtain rfl:=of_decide_eq_true h
     have hnT:n < T:=by
       rcases ok.2 with z | z
       · exact z.2
       · have:=z.2; simp only at this; omega
     obtain ⟨z1,z2,z3,z4⟩:=I.bd hn' hnT
     have hnl:n < tr.length:=by rw [I.len]; exact hnT
     refine qX 1 (xs:=tr.map smD) (j:=n) (ar (aa 2) af (ao (ag (i:=1) rfl))) (x_call b c_weighed_sums (ae (lI 1 (ar (aa 2) af (ao (ag (i:=1) rfl))) (o3 hnl)) (ae (ar (aa 2) af (ao (ag (i:=2) rfl))) ah)) ⟨_,q,rfl,z1,z2,z3,sq,by omega,rfl⟩) (by rw [List.length_map]; exact o8 hnl) (aQ ⟨_,_,.d (stD ("weigh",n,q)),s3,ow I g hnT,?_⟩)
     rw [List.map_set]
     rfl
   · have h0:u ≠ "weigh":=of_decide_eq_false h
     obtain ⟨hS,hE,_⟩:=ue ok h0
     obtain ⟨z1,z2,z3,z4⟩:=I.bd hn' hS
     obtain ⟨y1,y2,y3,y4⟩:=I.bd hn' hE
     have lS:rgS (u,n,q) < tr.length:=by rw [I.len]; exact hS
     have lE:rgE (u,n,q) < tr.length:=by rw [I.len]; exact hE
     obtain ⟨w1,w2⟩:=(gC (q:=q) (I.sm _ hS)).bd (m:=e * (i + 1)) (n:=(e + 1) * (i + 1)) (Int.mul_pos I.pos (den_pos q)) (by rw [Nat.mul_succ,p2]; exact Int.mul_le_mul I.le (bd2 g.sq.den) (by have:=den_pos q; omega) (p0 _)) λr hr=>((I.zq _ hS r hr).mul g).mono (by rw [Nat.mul_succ]; omega)
     have w0:=(gC (q:=q) (I.sm _ hS)).pos
     have w3:=(gC (q:=q) (I.sm _ hS)).len
     have:e * (i + 1)<=(e + 1) * (i + 1):=Nat.mul_le_mul_right _ (by omega)
     refine az 3 nd (x_call b c_weighed_sums (ae (lI 1 (x_call b c_rung_start (ae (aa 2) ah) ⟨(u,n,q),rfl,rfl⟩) (o3 lS)) (ae (ar (aa 2) af (ao (ag (i:=2) rfl))) ah)) ⟨_,q,rfl,z1,z2,z3,sq,by omega,rfl⟩) ?_
     refine qX 1 (xs:=tr.map smD) (j:=rgE (u,n,q)) (x_call b c_rung_end (ae (aa 2) ah) ⟨(u,n,q),rfl,rfl⟩) (x_call b c_added_sums (ae (lI 1 (x_call b c_rung_end (ae (aa 2) ah) ⟨(u,n,q),rfl,rfl⟩) (o3 lE)) (ae (aa 3) ah)) ⟨_,_,rfl,y1,y2,w0,w1.mono (by omega),y3,λx hx=>(w2 x hx).mono (by omega),by rw [y4,w3],by omega,rfl⟩) (by rw [List.length_map]; exact o8 lE) (aQ ⟨_,_,.d (stD (u,n,q)),.d (smD (wsm (tr.getD (rgS (u,n,q)) ([],1)) q)),tI I g h0 hS hE,?_⟩)
     rw [List.map_set]
     rfl
 · obtain ⟨P,tr,s2,s3,I,rfl⟩:=h
   rw [List.length_map,List.take_of_length_le (Nat.le_refl _)] at I
   have bds:∀ j,j < T->_:=λj hj=>I.bd hn hj
   have hCl:C<=tr.length:=by rw [I.len]; exact hCT
   refine pW 1 (aD (x_call b c_columns_of (ae (a9 (eU (cmp 0 (f:=λj=>.lst (((List.range R).map (fwd ss j)).map frD)) b (a0 (a9 (uH (aa 1) sr (k9 (ar (aa 0) af (ao (ag (i:=2) rfl))))))) uy (by rw [js hCl]; omega) λj hj s0 H0 fp=>?_))) ah) ⟨(List.range C).map λj=>(List.range R).map (fwd ss j),R,?_,?_,?_,?_,?_,rfl⟩) ?_)
   · rw [js hCl] at hj
     have hjT:j < T:=by omega
     exact a9 (x_call (b.comp s0 H0 _ fp) c_told_sums (ae (aa 0) ah) ⟨tr.getD j ([],1),(List.range R).map (fwd ss j),rfl,(I.sm j hjT).sums,by rw [List.length_map,List.length_range]; omega,(bds j hjT).2.1.mono (by decide),rfl⟩)
   · rw [js hCl]
     unfold kA
     rw [List.map_map]
     rfl
   · rw [List.length_map,List.length_range]; exact h00.c1
   · rw [List.length_map,List.length_range]; omega
   · omega
   · intro j hj
     rw [List.length_map,List.length_range] at hj
     simp [hj]
   · rw [mG]
end
noncomputable def gL (ds:List D) (r:Sl):Prop:=∃ (ns:List Int) (k:Nat),ds=[.lst (ns.map .int),.int k]/\r=.d (.int (ns.getD k 0))
noncomputable def whw (x:D):Bool:=hX .int x && !hX .bool x
noncomputable def dk (ds:List D) (r:Sl):Prop:=∃ x,ds=[x]/\r=.d (.bl (whw x))
noncomputable def bx (ds:List D) (r:Sl):Prop:=∃ q:Rat,ds=[frD q,.int q.num,.int (q.den:Nat)]/\Sq 8000 q/\r=.d (.bl true)
theorem sV (q:Rat):(Int.gcd q.num (q.den:Nat):Int)=1:=by
 have:Nat.gcd q.num.natAbs q.den=1:=q.reduced
 rw [Int.gcd,Int.natAbs_natCast,this]
 rfl
noncomputable def fY (ds:List D) (r:Sl):Prop:=∃ (m n:Nat) (p q:Rat),ds=[frD p,frD q]/\Sq m p/\Sq n q/\m + n<=8999/\r=.d (frD (p + q))
theorem nC (p q:Rat):((p.num * ((q.den:Nat):Int) + q.num * ((p.den:Nat):Int):Int):Rat)=(p + q) * (((p.den:Nat):Int) * ((q.den:Nat):Int):Int):=by
 rw [Rat.intCast_add,Rat.intCast_mul,Rat.intCast_mul,Rat.intCast_mul,<- dj p,<- dj q]
 grind
noncomputable def gos (s:Stp) (t:Int):List Int:=
 if s.1 = "weigh" /\ t=(s.2.1:Nat)/\s.2.2.num=0 then []
 else if s.1 = "down" /\ t=(s.2.1:Nat)/\0 < s.2.2.num then [(s.2.1:Nat),(s.2.1:Nat) + 1]
 else if s.1 = "up" /\ t=(s.2.1:Nat) + 1/\0 < s.2.2.num then [(s.2.1:Nat),(s.2.1:Nat) + 1]
 else [t]
noncomputable def gz (ds:List D) (r:Sl):Prop:=∃ (s:Stp) (t:Int),ds=[stD s,.int t]/\r=.o ((gos s t).map .int)
noncomputable def onW (s:Stp) (w:List Int):List (List Int):=(gos s (bj w)).map λx=>w++[x]
noncomputable def lwK (ss:List Stp) (i:Int):Nat->List (List Int)
 | 0=>[[i]]
 | k + 1=>(lwK ss i k).flatMap (onW (stp ss k))
noncomputable def act (s:Stp):Nat:=if s.1 ≠ "weigh" /\ s.2.2.num ≠ 0 then 1 else 0
noncomputable def b7:List Stp->Nat
 | []=>0
 | s :: ss=>act s + b7 ss
theorem qI (s:Stp) (t:Int):(gos s t).length<=2 ^ act s:=by
 unfold gos act
 split
 · simp
 · split
   · rename_i h
     rw [if_pos ⟨by rw [h.1]; decide +kernel,by omega⟩]
     simp
   · split
     · rename_i h
       rw [if_pos ⟨by rw [h.1]; decide +kernel,by omega⟩]
       simp
     · simp only [List.length_singleton]
       exact Nat.one_le_two_pow
theorem ng (ss:List Stp) (s:Stp):b7 (ss++[s])=b7 ss + act s:=by
 induction ss with
 | nil=>simp [b7]
 | cons x ss ih=>rw [List.cons_append,b7,b7,ih]; omega
theorem jq (ss:List Stp) (i:Int):∀ k,k<=ss.length->(lwK ss i k).length<=2 ^ b7 (ss.take k)
 | 0,_=>by simp [lwK,b7]
 | k + 1,hk=>by
   have ih:=jq ss i k (by omega)
   have e:ss.take (k + 1)=ss.take k++[stp ss k]:=take_snoc (("weigh",0,0):Stp) (show k < ss.length by omega)
   rw [lwK,e,ng,Nat.pow_add]
   have:=cM (onW (stp ss k)) (2 ^ act (stp ss k)) (lwK ss i k) λw _=>by unfold onW; rw [List.length_map]; exact qI _ _
   exact Nat.le_trans this (Nat.mul_le_mul_right _ ih)
theorem kX (ss:List Stp) (i:Int):∀ k,∀ w ∈ lwK ss i k,w.length=k + 1
 | 0,w,h=>by rw [lwK,List.mem_singleton] at h; rw [h]; rfl
 | k + 1,w,h=>by
   rw [lwK,List.mem_flatMap] at h
   obtain ⟨w0,h0,h1⟩:=h
   unfold onW at h1
   obtain ⟨x,_,rfl⟩:=List.mem_map.mp h1
   rw [List.length_append,kX ss i k w0 h0]
   rfl
noncomputable def lws (ss:List Stp) (i j:Int):List (List Int):=(lwK ss i ss.length).filter λw=>decide (bj w=j)
theorem v3 {m:List (List Int)} (i:Nat) (h:i < (m.map rwD).length):(m.map rwD)[i]=rwD (m.getD i []):=by
 have:i < m.length:=by simpa using h
 simp [this]
theorem fg:("down" : Str) ≠ "weigh":=by decide +kernel
theorem eM:("up" : Str) ≠ "weigh":=by decide +kernel
theorem fJ:("up" : Str) ≠ "down":=by decide +kernel
theorem uS (a b:Int):HT.lexLt [a] [b]=decide (a < b):=by
 rw [HT.gM,HT.dF]
 by_cases h:a=b
 · rw [if_pos h,decide_eq_false (by omega)]
 · rw [if_neg h]
theorem pE {T:Nat} {s:Stp} (h:okS T s) (t:Int):nxp s [t]=(gos s t).map λx=>[x]:=by
 obtain ⟨u,n,q⟩:=s
 obtain ⟨h0,h⟩:=h
 have h0:0<=q.num:=h0
 have hh:∀ x:Int,has [t] x=decide (t=x):=λx=>by simp [has]
 have hm:∀ a b:Nat,mvd a b [t]=[if t=(a:Int) then (b:Int) else t]:=λa b=>rfl
 rcases h with ⟨z,_⟩ | ⟨z | z,_⟩
 · have z:u = "weigh":=z
   subst z
   by_cases e:t=(n:Int)/\q.num=0
   · rw [show gos (("weigh" : Str),n,q) t=[] from if_pos ⟨rfl,e⟩]
     unfold nxp
     rw [if_pos rfl,if_pos ⟨e.2,by rw [hh]; exact decide_eq_true e.1⟩]
     rfl
   · rw [show gos (("weigh" : Str),n,q) t=[t] from (if_neg λy=>e y.2).trans ((if_neg λy=>fg y.1.symm).trans (if_neg λy=>eM y.1.symm))]
     unfold nxp
     rw [if_pos rfl,if_neg]
     · rfl
     · rintro ⟨y1,y2⟩
       rw [hh] at y2
       exact e ⟨of_decide_eq_true y2,y1⟩
 · have z:u = "down":=z
   subst z
   have rs:rgS (("down" : Str),n,q)=n:=if_pos rfl
   have re:rgE (("down" : Str),n,q)=n + 1:=if_pos rfl
   by_cases e:t=(n:Int)/\0 < q.num
   · rw [show gos (("down" : Str),n,q) t=[(n:Int),(n:Int) + 1] from (if_neg λy=>fg y.1).trans (if_pos ⟨rfl,e⟩)]
     unfold nxp
     rw [if_neg fg,rs,re,hh,hh,hm,if_neg,uS,if_pos e.1,if_neg (by rw [decide_eq_true_eq]; omega),e.1]
     · rfl
     · rintro (y | y | y)
       · have:q.num=0:=y; omega
       · exact of_decide_eq_false y e.1
       · have:=of_decide_eq_true y; omega
   · rw [show gos (("down" : Str),n,q) t=[t] from (if_neg λy=>fg y.1).trans ((if_neg λy=>e y.2).trans (if_neg λy=>fJ y.1.symm))]
     unfold nxp
     rw [if_neg fg,rs,re,hh,hh,if_pos]
     · rfl
     · by_cases y:q.num=0
       · exact .inl y
       · by_cases z:t=(n:Int)
         · exact absurd ⟨z,by omega⟩ e
         · exact .inr (.inl (decide_eq_false z))
 · have z:u = "up":=z
   subst z
   have rs:rgS (("up" : Str),n,q)=n + 1:=if_neg fJ
   have re:rgE (("up" : Str),n,q)=n:=if_neg fJ
   by_cases e:t=(n:Int) + 1/\0 < q.num
   · rw [show gos (("up" : Str),n,q) t=[(n:Int),(n:Int) + 1] from (if_neg λy=>eM y.1).trans ((if_neg λy=>fJ y.1).trans (if_pos ⟨rfl,e⟩))]
     unfold nxp
     have et:t=((n + 1:Nat):Int):=by rw [e.1]; rfl
     rw [if_neg eM,rs,re,hh,hh,hm,if_pos et,uS,if_neg,if_pos (decide_eq_true (by omega)),e.1]
     · rfl
     · rintro (y | y | y)
       · have:q.num=0:=y; omega
       · exact of_decide_eq_false y (by rw [e.1]; rfl)
       · have:=of_decide_eq_true y; omega
   · rw [show gos (("up" : Str),n,q) t=[t] from (if_neg λy=>eM y.1).trans ((if_neg λy=>fJ y.1).trans (if_neg λy=>e y.2))]
     unfold nxp
     rw [if_neg eM,rs,re,hh,hh,if_pos]
     · rfl
     · by_cases y:q.num=0
       · exact .inl y
       · by_cases z:t=(n:Int) + 1
         · exact absurd ⟨z,by omega⟩ e
         · exact .inr (.inl (decide_eq_false λy=>z (by rw [y]; rfl)))
theorem sE {T:Nat} {s:Stp} (h:okS T s) {t x:Int} (ht:0<=t/\t < T) (hx:x ∈ gos s t):0<=x/\x < T:=by
 obtain ⟨u,n,q⟩:=s
 obtain ⟨_,h⟩:=h
 unfold gos at hx
 simp only at hx h
 split at hx
 · simp at hx
 · split at hx
   · rename_i z
     have:n + 1 < T:=by
       rcases h with ⟨y,_⟩ | ⟨_,y⟩
       · exact absurd (z.1.symm.trans y) fg
       · exact y
     simp at hx
     omega
   · split at hx
     · rename_i z
       have:n + 1 < T:=by
         rcases h with ⟨y,_⟩ | ⟨_,y⟩
         · exact absurd (z.1.symm.trans y) eM
         · exact y
       simp at hx
       omega
     · simp at hx
       subst hx
       exact ht
theorem tu {T:Nat} {t:Int} (h:0<=t/\t < T):[t] ∈ chs T 1:=by
 rw [chs,chs]
 simp only [List.flatMap_cons,List.flatMap_nil,List.append_nil]
 unfold onC
 rw [List.mem_map]
 refine ⟨t.toNat,?_,?_⟩
 · rw [List.mem_range]; show t.toNat < ((T:Int) - 0).toNat; omega
 · show [(0:Int) + (t.toNat:Nat)]=[t]
   congr 1
   omega
noncomputable def sng (w:List Int):List (List Int):=w.map λx=>[x]
theorem kg {w:List Int} (h:w ≠ []):br (sng w)=[bj w]:=by
 have:0 < w.length:=List.length_pos_iff.mpr h
 unfold br sng bj
 simp [(by omega:w.length - 1 < w.length)]
theorem nG (w:List Int) (x:Int):sng w++[[x]]=sng (w++[x]):=by simp [sng]
structure LwO (ss:List Stp) (T k:Nat) (w:List Int):Prop where
 len:w.length=k + 1
 at_:0<=bj w/\bj w < T
 go:∀ i,i < k->w.getD (i + 1) 0 ∈ gos (stp ss i) (w.getD i 0)
theorem gi {T:Nat} {ss:List Stp} (hs:∀ k,k < ss.length->okS T (stp ss k)) {i:Int} (hi:0<=i/\i < T):∀ k,k<=ss.length->∀ w ∈ lwK ss i k,LwO ss T k w
 | 0,_,w,h=>by
   rw [lwK,List.mem_singleton] at h
   subst h
   exact ⟨rfl,hi,λ_ z=>absurd z (by omega)⟩
 | k + 1,hk,w,h=>by
   rw [lwK,List.mem_flatMap] at h
   obtain ⟨w0,h0,h1⟩:=h
   have ih:=gi hs hi k (by omega) w0 h0
   unfold onW at h1
   obtain ⟨x,hx,rfl⟩:=List.mem_map.mp h1
   refine ⟨by rw [List.length_append,ih.len]; rfl,by rw [eS]; exact sE (hs k (by omega)) ih.at_ hx,λj hj=>?_⟩
   have old:∀ l,l < k + 1->(w0++[x]).getD l 0=w0.getD l 0:=λl hl=>by rw [bQ,ih.len,if_pos hl]
   by_cases e:j < k
   · rw [old j (by omega),old (j + 1) (by omega)]
     exact ih.go j e
   · obtain rfl:j=k:=by omega
     have e1:(w0++[x]).getD (j + 1) 0=x:=by rw [bQ,ih.len,if_neg (by omega),if_pos rfl]
     have:bj w0=w0.getD j 0:=by unfold bj; rw [ih.len]; rfl
     rw [e1,old j (by omega),<- this]
     exact hx
theorem fB {α β:Type} (f:α->List β) (p:α->Bool):∀ xs:List α,(∀ x ∈ xs,p x=false->f x=[])->(xs.filter p).flatMap f=xs.flatMap f
 | [],_=>rfl
 | x :: xs,h=>by
   have ih:=fB f p xs λy hy=>h y (List.mem_cons_of_mem _ hy)
   cases hp:p x with
   | true=>rw [List.filter_cons_of_pos hp,List.flatMap_cons,List.flatMap_cons,ih]
   | false=>rw [List.filter_cons_of_neg (by rw [hp]; decide),List.flatMap_cons,h x (List.mem_cons_self ..) hp,List.nil_append,ih]
theorem fA {α β:Type} (f:α->List β) (p:β->Bool):∀ xs:List α,(xs.flatMap f).filter p=xs.flatMap λx=>(f x).filter p
 | []=>rfl
 | x :: xs=>by rw [List.flatMap_cons,List.flatMap_cons,List.filter_append,fA f p xs]
theorem ke {α β γ:Type} (g:α->β) (f:β->List γ):∀ xs:List α,(xs.map g).flatMap f=xs.flatMap λx=>f (g x)
 | []=>rfl
 | x :: xs=>by rw [List.map_cons,List.flatMap_cons,List.flatMap_cons,ke g f xs]
theorem jT {α β γ:Type} (f:α->List β) (g:β->γ):∀ xs:List α,(xs.flatMap f).map g=xs.flatMap λx=>(f x).map g
 | []=>rfl
 | x :: xs=>by rw [List.flatMap_cons,List.flatMap_cons,List.map_append,jT f g xs]
theorem iK {α β:Type} {f g:α->List β}:∀ {xs:List α},(∀ x ∈ xs,f x=g x)->xs.flatMap f=xs.flatMap g
 | [],_=>rfl
 | x :: xs,h=>by rw [List.flatMap_cons,List.flatMap_cons,h x (List.mem_cons_self ..),iK λy hy=>h y (List.mem_cons_of_mem _ hy)]
theorem oD {f:List Int->Int}:∀ {qs:List (List Int)},(∀ q,0<=f q)->(qs.map f).sum<=0->∀ q ∈ qs,f q=0
 | q :: qs,h0,h,x,hx=>by
   rw [List.map_cons,List.sum_cons] at h
   have h1:=h0 q
   have h2:0<=(qs.map f).sum:=by
     clear h hx
     induction qs with
     | nil=>simp
     | cons y ys ih=>rw [List.map_cons,List.sum_cons]; have:=h0 y; omega
   rcases List.mem_cons.mp hx with rfl | hx
   · omega
   · exact oD h0 (by omega) x hx
theorem rg (T:Nat) (e:List Int) (ss:List Stp) (q:List Int):0<=nZ (cm T e ss) q:=by
 cases h:alv (cm T e ss) q with
 | true=>have:=bJ.1 h; omega
 | false=>rw [bJ.2 h]; exact Int.le_refl _
theorem qR {T:Nat} {ss:List Stp} (hs:∀ k,k < ss.length->okS T (stp ss k)) {i j:Int} (hi:0<=i/\i < T):∀ k,k<=ss.length->trK T [j] [i] ss k=((lwK ss i k).filter λw=>alv (cm T [j] (ss.drop k)) [bj w]).map sng
 | 0,_=>by
   rw [trK,lwK,List.drop_zero]
   have e:bj [i]=i:=rfl
   cases h:alv (cm T [j] ss) [i] with
   | true=>
     have:=bJ.1 h
     rw [if_pos (by omega),List.filter_cons_of_pos (by rw [e]; exact h)]
     rfl
   | false=>
     rw [bJ.2 h,if_neg (by omega),List.filter_cons_of_neg (by rw [e,h]; decide)]
     rfl
 | k + 1,hk=>by
   have ih:=qR hs hi (j:=j) k (by omega)
   have ok:=gi hs hi k (by omega)
   have ed:=iU (ss:=ss) (k:=k) (by omega)
   have hsk:=hs k (by omega)
   rw [trK,ih,lwK]
   rw [ed]
   rw [show ss.getD k ("weigh",0,0)=stp ss k from rfl]
   generalize stp ss k=s at hsk ⊢
   generalize hz:cm T [j] (ss.drop (k + 1))=zs
   have hzs:∀ q,alv zs q=false->nZ zs q=0:=λq h=>by rw [<- hz] at h ⊢; exact bJ.2 h
   have hnn:∀ q,0<=nZ zs q:=λq=>by rw [<- hz]; exact rg ..
   have hpos:∀ q,alv zs q=true->1<=nZ zs q:=λq h=>by rw [<- hz] at h ⊢; exact bJ.1 h
   unfold lgT
   rw [ke,fA,jT]
   rw [fB]
   · refine iK λw hw=>?_
     have o:=ok w hw
     have wn:w ≠ []:=λz=>by have:=o.len; rw [z] at this; simp at this
     unfold onT onW
     rw [kg wn,pE hsk,List.filter_map,List.map_map,List.filter_map,List.map_map]
     have e1:(alv zs ∘ λx=>[x])=((λw=>alv zs [bj w]) ∘ λx=>w++[x]):=funext λx=>by simp only [Function.comp,eS]
     rw [e1]
     refine List.map_congr_left λx _=>?_
     simp only [Function.comp]
     exact nG w x
   · intro w hw hf
     have o:=ok w hw
     have wn:w ≠ []:=λz=>by have:=o.len; rw [z] at this; simp at this
     unfold onT
     rw [kg wn]
     have hd:cN s zs [bj w]<=0:=by
       unfold alv at hf
       rw [cm,hz,step_get] at hf
       by_cases z:0 < cN s zs [bj w]
       · rw [if_pos ⟨tu o.at_,z⟩] at hf; cases hf
       · omega
     have z0:=oD hnn hd
     rw [List.filter_eq_nil_iff.mpr]
     · rfl
     · intro q hq h
       have:=hpos q h
       rw [z0 q hq] at this
       omega
theorem rS (w:List Int):jE (sng w) 0=w:=by
 unfold jE sng
 rw [List.map_map]
 conv=>rhs; rw [<- List.map_id w]
 exact List.map_congr_left λx _=>rfl
theorem pD {T:Nat} {ss:List Stp} (hs:∀ k,k < ss.length->okS T (stp ss k)) {i j:Nat} (hi:i < T):ql T ss i j=lws ss i j:=by
 unfold ql lws
 rw [qR hs (i:=(i:Int)) (j:=(j:Int)) ⟨by omega,by omega⟩ ss.length (Nat.le_refl _),List.map_map]
 have e:((λt=>jE t 0) ∘ sng)=id:=funext rS
 rw [e,List.map_id]
 refine List.filter_congr λw hw=>?_
 rw [List.drop_length]
 unfold alv
 rw [cm]
 by_cases h:bj w=(j:Int)
 · rw [decide_eq_true h,h]; simp [b6]
 · have h':¬ (j:Int)=bj w:=λz=>h z.symm
   rw [decide_eq_false h]
   simp [b6,h']
theorem pK (s:Stp) (c:List Int):(nxp s c).length<=2 ^ act s:=by
 have one:1<=2 ^ act s:=Nat.one_le_two_pow
 unfold nxp
 split
 · split
   · simp
   · exact one
 · rename_i hw
   split
   · exact one
   · rename_i h
     have:s.2.2.num ≠ 0:=λz=>h (.inl z)
     rw [show act s=1 from if_pos ⟨hw,this⟩]
     split <;> exact Nat.le_refl 2
theorem oR {f:List Int->Int} {m:Int}:∀ qs:List (List Int),(∀ q ∈ qs,f q<=m)->(qs.map f).sum<=qs.length * m
 | [],_=>by simp
 | q :: qs,h=>by
   rw [List.map_cons,List.sum_cons,List.length_cons]
   have h1:=h q (List.mem_cons_self ..)
   have h2:=oR qs λx hx=>h x (List.mem_cons_of_mem _ hx)
   have e:((qs.length + 1:Nat):Int) * m=qs.length * m + m:=by rw [Int.natCast_add,Int.add_mul]; simp
   rw [e]
   omega
theorem qZ (T:Nat) (e:List Int):∀ (ss:List Stp) (q:List Int),nZ (cm T e ss) q<=2 ^ b7 ss
 | [],q=>by
   unfold nZ
   rw [cm,b6,List.find?_cons]
   split
   · exact Int.le_refl _
   · show (0:Int)<=1; decide
 | s :: ss,q=>by
   have ih:=qZ T e ss
   have p0:(0:Int)<=2 ^ b7 ss:=by have:=rg T e ss q; have:=ih q; omega
   unfold nZ
   rw [cm,step_get]
   split
   · show cN s (cm T e ss) q<=_
     unfold cN
     rw [b7,Int.pow_add]
     refine Int.le_trans (oR _ λx _=>ih x) (Int.mul_le_mul_of_nonneg_right ?_ p0)
     have:=pK s q
     have h2:(((nxp s q).length:Nat):Int)<=((2 ^ act s:Nat):Int):=Int.ofNat_le.mpr this
     simpa using h2
   · have:(0:Int)<=2 ^ b7 (s :: ss):=by
       have:(0:Int)<=((2 ^ b7 (s :: ss):Nat):Int):=Int.natCast_nonneg _
       simpa using this
     exact this
section
variable {P:Program} {w:World} {K:PySem.W.Frag} {mg:Str->Option Value} {base:Heap} {k:Nat} {f:Addr} {fd:FuncData} {qual:Str}
theorem nq (F:Fun K "_law_cell" qual (top 45) f fd) (hb:∀ x ∈ ak,mg x=none):aL P w K mg base CX0 (k + 1) f fd ["_law_script","_law_k"] (spD K gL):=by
 refine fnD F mJ hb (by rintro _ _ ⟨_,_,rfl,_⟩; rfl) ?_
 rintro _ _ ⟨ns,n,rfl,rfl⟩ cdv A outer s H E b
 refine cn (aG (aa 1) (b9 b (ae (aa 0) ah) jS) pB) (λh=>?_) λh=>?_
 · have h:=of_decide_eq_true h
   rw [List.length_map] at h
   exact aD (ar (aa 0) (aa 1) (aX (ba (by omega) (by omega)))) rfl
 · have h:=of_decide_eq_false h
   rw [List.length_map] at h
   refine aD af ?_
   show Sl.d (.int 0)=_
   rw [getD_none (by omega)]
theorem kD (F:Fun K "_law_whole" qual (top 49) f fd) (hb:∀ x ∈ ak,mg x=none):aL P w K mg base CX0 (k + 1) f fd ["_law_thing"] (spD K dk):=by
 refine fnD F kM hb (by rintro _ _ ⟨_,rfl,_⟩; rfl) ?_
 rintro _ _ ⟨x,rfl,rfl⟩ cdv A outer s H E b
 exact aD (iL (cV .int b (aa 0)) λh=>(iB (qV (cV .bool b (aa 0))))) rfl
theorem gJ (F:Fun K "_law_is_number" qual (top 50) f fd) (hb:∀ x ∈ ak,mg x=none) (c_l_whole:Cal P w K mg base k "_law_whole" dk) (c_l_divisor:Cal P w K mg base k "_law_divisor" bV):aL P w K mg base CX0 (k + 1) f fd ["_law_found","_law_top","_law_bottom"] (spD K bx):=by
 refine fnD F gy hb (by rintro _ _ ⟨_,rfl,_⟩; rfl) ?_
 rintro _ _ ⟨q,rfl,hq,rfl⟩ cdv A outer s H E b
 refine bt (PW.pt (cc (a4 (aV (cV .tuple b (aa 0)))) λh=>(cc (aG (b9 b (ae (aa 0) ah) gE) af ie) λh=>(cc (a4 (aV (x_call b c_l_whole (ae (ar (aa 0) af (ao (ag (i:=0) rfl))) ah) ⟨_,rfl,rfl⟩))) λh=>(bY (a4 (aV (x_call b c_l_whole (ae (ar (aa 0) af (ao (ag (i:=1) rfl))) ah) ⟨_,rfl,rfl⟩)))))))) rfl ?_
 refine bt (PW.pt (cc (aG (ar (aa 0) af (ao (ag (i:=1) rfl))) af pB) λh=>(bY (aG (x_call b c_l_divisor (ae (ar (aa 0) af (ao (ag (i:=0) rfl))) (ae (ar (aa 0) af (ao (ag (i:=1) rfl))) ah)) ⟨_,_,rfl,rfl⟩) af ie)))) ?_ ?_
 · rw [sV,decide_eq_false (show ¬ ((q.den:Nat):Int) < 1 by have:=den_pos q; omega)]
   rfl
 refine aD (eJ (aA (ar (aa 0) af (ao (ag (i:=0) rfl))) (aa 2) (aY (hq.num.aN hq.den (by decide) (by decide)))) (aA (aa 1) (ar (aa 0) af (ao (ag (i:=1) rfl))) (aY (hq.num.aN hq.den (by decide) (by decide)))) eX) ?_
 rw [decide_eq_true rfl]
theorem mQ (F:Fun K "_law_plus" qual (top 53) f fd) (hb:∀ x ∈ ak,mg x=none) (c_l_made:Cal P w K mg base k "_law_made" eA):aL P w K mg base CX0 (k + 1) f fd ["_law_one","_law_other"] (spD K fY):=by
 refine fnD F nr hb (by rintro _ _ ⟨_,_,_,_,rfl,_⟩; rfl) ?_
 rintro _ _ ⟨m,n,p,q,rfl,h1,h2,hl,rfl⟩ cdv A outer s H E b
 exact aD (x_call b c_l_made (ae (aA (aA (ar (aa 0) af (ao (ag (i:=0) rfl))) (ar (aa 1) af (ao (ag (i:=1) rfl))) (aY (h1.num.aN h2.den (by omega) (by omega)))) (aA (ar (aa 1) af (ao (ag (i:=0) rfl))) (ar (aa 0) af (ao (ag (i:=1) rfl))) (aY (h2.num.aN h1.den (by omega) (by omega)))) aT) (ae (aA (ar (aa 0) af (ao (ag (i:=1) rfl))) (ar (aa 1) af (ao (ag (i:=1) rfl))) (aY (h1.den.aN h2.den (by omega) (by omega)))) ah)) ⟨_,_,_,rfl,lC (den_pos p) (den_pos q),(h1.den.mul h2.den).mono hl,nC p q,rfl⟩) rfl
theorem mR (F:Fun K "_law_goes" qual (top 56) f fd) (hb:∀ x ∈ ak,mg x=none):aL P w K mg base CX0 (k + 1) f fd ["_law_step","_law_track"] (spD K gz):=by
 refine fnD F iC hb (by rintro _ _ ⟨_,_,rfl,_⟩; rfl) ?_
 rintro _ _ ⟨⟨u,n,q⟩,t,rfl,rfl⟩ cdv A outer s H E b
 have nd:=iC.nd
 have d3:∀ {p1 p2 p3:Prop} [Decidable p1] [Decidable p2] [Decidable p3],((decide p1 && (decide p2 && decide p3))=true ↔ (p1/\p2/\p3)):=by intros; simp
 have d3':∀ {p1 p2 p3:Prop} [Decidable p1] [Decidable p2] [Decidable p3],((decide p1 && (decide p2 && decide p3))=false->¬ (p1/\p2/\p3)):=λ{p1 p2 p3} _ _ _ h z=>by rw [d3.mpr z] at h; cases h
 refine tD (aa 0) (tT b.calm (iT 2 nd (iT 3 nd (iT 4 nd sx)))) ?_
 refine cn (PW.pt (ft (aG (aa 2) bB ek) λh=>(ft (aG (aa 1) (aa 3) eX) λh=>(gS (aG (ar (aa 4) af (ao (ag (i:=0) rfl))) af eX))))) (λh=>?_) λh=>?_
 · refine aD (a6 ah) ?_
   show Sl.o []=_
   rw [show gos (u,n,q) t=[] from if_pos (d3.mp h)]
   rfl
 have h1:=d3' h
 refine cn (PW.pt (ft (aG (aa 2) bB ek) λh=>(ft (aG (aa 1) (aa 3) eX) λh=>(gS (aG (ar (aa 4) af (ao (ag (i:=0) rfl))) af jn))))) (λh=>?_) λh=>?_
 · refine aD (a6 (ae (aa 3) (ae (aA (aa 3) af aT) ah))) ?_
   rw [show gos (u,n,q) t=[(n:Int),(n:Int) + 1] from (if_neg h1).trans (if_pos (d3.mp h))]
   rfl
 have h2:=d3' h
 refine cn (PW.pt (ft (aG (aa 2) bB ek) λh=>(ft (aG (aa 1) (aA (aa 3) af aT) eX) λh=>(gS (aG (ar (aa 4) af (ao (ag (i:=0) rfl))) af jn))))) (λh=>?_) λh=>?_
 · refine aD (a6 (ae (aa 3) (ae (aA (aa 3) af aT) ah))) ?_
   rw [show gos (u,n,q) t=[(n:Int),(n:Int) + 1] from (if_neg h1).trans ((if_neg h2).trans (if_pos (d3.mp h)))]
   rfl
 have h3:=d3' h
 refine aD (a6 (ae (aa 1) ah)) ?_
 rw [show gos (u,n,q) t=[t] from (if_neg h1).trans ((if_neg h2).trans (if_neg h3))]
 rfl
end
noncomputable def bkV (L:Nat->Nat->Rat) (st:Stp):Nat->Nat->Rat:=if st.1 = "weigh" then cL L st.2.1 λi=>st.2.2 * L st.2.1 i else cL L (rgS st) λi=>L (rgS st) i + st.2.2 * L (rgE st) i
noncomputable def bwd (ss:List Stp):Nat->Nat->Rat:=ss.reverse.foldl bkV V0
noncomputable def dot:Nat->(Nat->Rat)->(Nat->Rat)->Rat
 | 0,_,_=>0
 | T + 1,f,g=>dot T f g + f T * g T
theorem ky {f f' g g':Nat->Rat}:∀ T,(∀ k,k < T->f k=f' k)->(∀ k,k < T->g k=g' k)->dot T f g=dot T f' g'
 | 0,_,_=>rfl
 | T + 1,h,e=>by rw [dot,dot,ky T (λk hk=>h k (by omega)) (λk hk=>e k (by omega)),h T (by omega),e T (by omega)]
theorem cj {f g:Nat->Rat}:∀ T,dot T f g=dot T g f
 | 0=>rfl
 | T + 1=>by rw [dot,dot,cj T,Rat.mul_comm]
theorem eI {f g:Nat->Rat} {n:Nat} {x:Rat}:∀ T,n < T->dot T (λk=>if k=n then x else f k) g=dot T f g + (x - f n) * g n
 | T + 1,h=>by
   rw [dot,dot]
   by_cases e:T=n
   · subst e
     rw [if_pos rfl,ky (f':=f) (g':=g) T (λk hk=>if_neg (by omega)) λ_ _=>rfl]
     grind
   · rw [if_neg e,eI T (by omega)]
     grind
theorem jh {g:Nat->Rat} {n:Nat}:∀ T,n < T->dot T (λk=>if n=k then 1 else 0) g=g n
 | T + 1,h=>by
   rw [dot]
   by_cases e:n=T
   · subst e
     have z:∀ m,m<=n->dot m (λk=>if n=k then 1 else 0) g=0:=by
       intro m
       induction m with
       | zero=>intro _; rfl
       | succ m ih=>intro hm; rw [dot,ih (by omega),if_neg (by omega)]; grind
     rw [z n (Nat.le_refl _),if_pos rfl]
     grind
   · rw [if_neg e,jh T (by omega)]
     grind
theorem fU (V:Nat->Nat->Rat) (n:Nat) (r:Nat->Rat) (i:Nat):(λk=>cL V n r k i)=λk=>if k=n then r i else V k i:=by
 funext k
 unfold cL
 split <;> rfl
theorem oG {T:Nat} {V L:Nat->Nat->Rat} {st:Stp} (h:okS T st) (i j:Nat):dot T (λk=>stV V st k i) (λk=>L k j)=dot T (λk=>V k i) λk=>bkV L st k j:=by
 unfold stV bkV
 by_cases e:st.1 = "weigh"
 · rw [if_pos e,if_pos e,fU,fU]
   have hn:st.2.1 < T:=by
     rcases h.2 with z | z
     · exact z.2
     · have:=z.2; omega
   rw [eI T hn,cj T (g:=λk=>if k=st.2.1 then _ else _),eI T hn,cj T]
   grind
 · obtain ⟨h1,h2,h3⟩:=ue h e
   rw [if_neg e,if_neg e,fU,fU,eI T h2,cj T (g:=λk=>if k=rgS st then _ else _),eI T h1,cj T]
   grind
theorem lG {T:Nat} (i j:Nat):∀ (ss:List Stp) (V L:Nat->Nat->Rat),(∀ st ∈ ss,okS T st)->dot T (λk=>ss.foldl stV V k i) (λk=>L k j)=dot T (λk=>V k i) λk=>ss.foldr (λst L=>bkV L st) L k j
 | [],_,_,_=>rfl
 | st :: ss,V,L,h=>by
   rw [List.foldl_cons,List.foldr_cons,lG i j ss (stV V st) L λs hs=>h s (List.mem_cons_of_mem _ hs)]
   exact oG (h st (List.mem_cons_self ..)) i j
theorem qJ {T:Nat} {ss:List Stp} {i j:Nat} (h:∀ st ∈ ss,okS T st) (hi:i < T) (hj:j < T):fwd ss j i=bwd ss i j:=by
 have:=lG i j ss V0 V0 h
 unfold fwd bwd
 rw [List.foldl_reverse]
 have e1:(λk=>V0 k j)=λk=>if j=k then (1:Rat) else 0:=rfl
 have e2:(λk=>V0 k i)=λk=>if i=k then (1:Rat) else 0:=rfl
 rw [e1,cj,jh T hj,e2,jh T hi] at this
 exact this
noncomputable def sR:List Rat->Rat
 | []=>0
 | x :: xs=>x + sR xs
theorem k3:∀ xs ys:List Rat,sR (xs++ys)=sR xs + sR ys
 | [],ys=>by rw [List.nil_append,sR,Rat.zero_add]
 | x :: xs,ys=>by rw [List.cons_append,sR,sR,k3 xs ys,Rat.add_assoc]
theorem lU {α β:Type} (f:α->List β) (g:β->Rat):∀ xs:List α,sR ((xs.flatMap f).map g)=sR (xs.map λx=>sR ((f x).map g))
 | []=>rfl
 | x :: xs=>by rw [List.flatMap_cons,List.map_append,k3,lU f g xs,List.map_cons,sR]
theorem eC {α:Type} {f g:α->Rat}:∀ {xs:List α},(∀ x ∈ xs,f x=g x)->sR (xs.map f)=sR (xs.map g)
 | [],_=>rfl
 | x :: xs,h=>by rw [List.map_cons,List.map_cons,sR,sR,h x (List.mem_cons_self ..),eC λy hy=>h y (List.mem_cons_of_mem _ hy)]
theorem oW {α:Type} (c:Rat) (f:α->Rat):∀ xs:List α,sR (xs.map λx=>c * f x)=c * sR (xs.map f)
 | []=>by rw [List.map_nil,List.map_nil,sR,Rat.mul_zero]
 | x :: xs=>by rw [List.map_cons,List.map_cons,sR,sR,oW c f xs,Rat.mul_add]
theorem fh {α:Type} (p:α->Bool) (f:α->Rat):∀ xs:List α,sR ((xs.filter p).map f)=sR (xs.map λx=>f x * if p x then 1 else 0)
 | []=>rfl
 | x :: xs=>by
   rw [List.map_cons,sR]
   cases h:p x with
   | true=>rw [List.filter_cons_of_pos h,List.map_cons,sR,fh p f xs,if_pos rfl,Rat.mul_one]
   | false=>rw [List.filter_cons_of_neg (by rw [h]; decide),fh p f xs,if_neg Bool.false_ne_true,Rat.mul_zero,Rat.zero_add]
theorem mn (ss:List Stp) (w:List Int) (x:Int):∀ k,k + 1<=w.length->wgK ss (w++[x]) k=wgK ss w k
 | 0,_=>rfl
 | k + 1,h=>by
   have old:∀ l,l < w.length->(w++[x]).getD l 0=w.getD l 0:=λl hl=>by rw [bQ,if_pos hl]
   rw [wgK,wgK,mn ss w x k (by omega),old k (by omega),old (k + 1) (by omega)]
noncomputable def cof (s:Stp) (t x:Int):Rat:=if gv s t x then s.2.2 else 1
noncomputable def PW1 (s:Stp) (φ:Int->Rat) (t:Int):Rat:=sR ((gos s t).map λx=>cof s t x * φ x)
noncomputable def GW (ss:List Stp) (i:Int) (k:Nat) (φ:Int->Rat):Rat:=sR ((lwK ss i k).map λw=>wgK ss w k * φ (bj w))
theorem qo (ss:List Stp) (i:Int) (k:Nat) (φ:Int->Rat):GW ss i (k + 1) φ=GW ss i k (PW1 (stp ss k) φ):=by
 unfold GW
 rw [lwK,lU]
 refine eC λw hw=>?_
 have hl:=kX ss i k w hw
 have el:bj w=w.getD k 0:=by unfold bj; rw [hl]; rfl
 unfold onW PW1
 rw [List.map_map,<- oW]
 refine eC λx _=>?_
 simp only [Function.comp,eS]
 have e1:(w++[x]).getD (k + 1) 0=x:=by rw [bQ,hl,if_neg (by omega),if_pos rfl]
 have e2:(w++[x]).getD k 0=bj w:=by rw [bQ,hl,if_pos (by omega),el]
 rw [wgK,mn ss w x k (by omega),e1,e2]
 unfold cof
 split <;> grind
theorem r9 {T:Nat} {s:Stp} (h:okS T s) (L:Nat->Nat->Rat) (j:Nat) {t:Int} (ht:0<=t):PW1 s (λx=>L x.toNat j) t=bkV L s t.toNat j:=by
 obtain ⟨u,n,q⟩:=s
 obtain ⟨h0,h⟩:=h
 have h0:0<=q.num:=h0
 have qz:q.num=0->q=0:=λz=>Rat.num_eq_zero.mp z
 unfold PW1 bkV
 have one:∀ x:Rat,sR [x]=x:=λx=>by rw [sR,sR,Rat.add_zero]
 have two:∀ x y:Rat,sR [x,y]=x + y:=λx y=>by rw [sR,sR,sR,Rat.add_zero]
 rcases h with ⟨z,_⟩ | ⟨z | z,_⟩
 · have z:u = "weigh":=z
   subst z
   rw [if_pos rfl]
   have eu:cL L n (λi=>q * L n i) t.toNat j=if t.toNat=n then q * L n j else L t.toNat j:=by unfold cL; split <;> rfl
   show _=cL L n (λi=>q * L n i) t.toNat j
   rw [eu]
   have cf:∀ x,cof (("weigh" : Str),n,q) t x=if t=(n:Int) then q else 1:=λx=>by
     unfold cof gv
     rw [if_pos rfl]
     by_cases e:t=(n:Int)
     · rw [decide_eq_true e,if_pos e]; rfl
     · rw [decide_eq_false e,if_neg e]; rfl
   by_cases e:t=(n:Int)
   · have et:t.toNat=n:=by omega
     rw [if_pos et]
     by_cases y:q.num=0
     · rw [show gos (("weigh" : Str),n,q) t=[] from if_pos ⟨rfl,e,y⟩,qz y,Rat.zero_mul]
       rfl
     · rw [show gos (("weigh" : Str),n,q) t=[t] from (if_neg λz=>y z.2.2).trans ((if_neg λy=>fg y.1.symm).trans (if_neg λy=>eM y.1.symm)),List.map_cons,List.map_nil,one,cf,if_pos e]
       show q * L t.toNat j=_
       rw [et]
   · rw [if_neg (show ¬ t.toNat=n by omega),show gos (("weigh" : Str),n,q) t=[t] from (if_neg λz=>e z.2.1).trans ((if_neg λy=>fg y.1.symm).trans (if_neg λy=>eM y.1.symm)),List.map_cons,List.map_nil,one,cf,if_neg e,Rat.one_mul]
 · have z:u = "down":=z
   subst z
   rw [if_neg fg]
   have rs:rgS (("down" : Str),n,q)=n:=if_pos rfl
   have re:rgE (("down" : Str),n,q)=n + 1:=if_pos rfl
   rw [rs,re]
   have eu:cL L n (λi=>L n i + q * L (n + 1) i) t.toNat j=if t.toNat=n then L n j + q * L (n + 1) j else L t.toNat j:=by unfold cL; split <;> rfl
   show _=cL L n (λi=>L n i + q * L (n + 1) i) t.toNat j
   rw [eu]
   have cf:∀ x,cof (("down" : Str),n,q) t x=if t=x then 1 else q:=λx=>by
     unfold cof gv
     rw [if_neg fg]
     by_cases e:t=x
     · rw [decide_eq_true e,if_pos e]; rfl
     · rw [decide_eq_false e,if_neg e]; rfl
   by_cases e:t=(n:Int)
   · have et:t.toNat=n:=by omega
     rw [if_pos et]
     by_cases y:q.num=0
     · rw [show gos (("down" : Str),n,q) t=[t] from (if_neg λy=>fg y.1).trans ((if_neg λz=>by have:(0:Int) < q.num:=z.2.2; omega).trans (if_neg λy=>fJ y.1.symm)),List.map_cons,List.map_nil,one,cf,if_pos rfl,qz y,Rat.zero_mul,Rat.add_zero,Rat.one_mul]
       show L t.toNat j=_
       rw [et]
     · rw [show gos (("down" : Str),n,q) t=[(n:Int),(n:Int) + 1] from (if_neg λy=>fg y.1).trans (if_pos ⟨rfl,e,show 0 < q.num by omega⟩),List.map_cons,List.map_cons,List.map_nil,two,cf,cf,if_pos e,if_neg (by omega),Rat.one_mul]
       rfl
   · rw [if_neg (show ¬ t.toNat=n by omega),show gos (("down" : Str),n,q) t=[t] from (if_neg λy=>fg y.1).trans ((if_neg λz=>e z.2.1).trans (if_neg λy=>fJ y.1.symm)),List.map_cons,List.map_nil,one,cf,if_pos rfl,Rat.one_mul]
 · have z:u = "up":=z
   subst z
   rw [if_neg eM]
   have rs:rgS (("up" : Str),n,q)=n + 1:=if_neg fJ
   have re:rgE (("up" : Str),n,q)=n:=if_neg fJ
   rw [rs,re]
   have eu:cL L (n + 1) (λi=>L (n + 1) i + q * L n i) t.toNat j=if t.toNat=n + 1 then L (n + 1) j + q * L n j else L t.toNat j:=by unfold cL; split <;> rfl
   show _=cL L (n + 1) (λi=>L (n + 1) i + q * L n i) t.toNat j
   rw [eu]
   have cf:∀ x,cof (("up" : Str),n,q) t x=if t=x then 1 else q:=λx=>by
     unfold cof gv
     rw [if_neg eM]
     by_cases e:t=x
     · rw [decide_eq_true e,if_pos e]; rfl
     · rw [decide_eq_false e,if_neg e]; rfl
   by_cases e:t=(n:Int) + 1
   · have et:t.toNat=n + 1:=by omega
     rw [if_pos et]
     by_cases y:q.num=0
     · rw [show gos (("up" : Str),n,q) t=[t] from (if_neg λy=>eM y.1).trans ((if_neg λy=>fJ y.1).trans (if_neg λz=>by have:(0:Int) < q.num:=z.2.2; omega)),List.map_cons,List.map_nil,one,cf,if_pos rfl,qz y,Rat.zero_mul,Rat.add_zero,Rat.one_mul]
       show L t.toNat j=_
       rw [et]
     · rw [show gos (("up" : Str),n,q) t=[(n:Int),(n:Int) + 1] from (if_neg λy=>eM y.1).trans ((if_neg λy=>fJ y.1).trans (if_pos ⟨rfl,e,show 0 < q.num by omega⟩)),List.map_cons,List.map_cons,List.map_nil,two,cf,cf,if_neg (by omega),if_pos e,Rat.one_mul,Rat.add_comm]
       rfl
   · rw [if_neg (show ¬ t.toNat=n + 1 by omega),show gos (("up" : Str),n,q) t=[t] from (if_neg λy=>eM y.1).trans ((if_neg λy=>fJ y.1).trans (if_neg λz=>e z.2.1)),List.map_cons,List.map_nil,one,cf,if_pos rfl,Rat.one_mul]
theorem oz (s:Stp) (ss:List Stp):bwd (s :: ss)=bkV (bwd ss) s:=by
 unfold bwd
 rw [List.foldl_reverse,List.foldl_reverse]
 rfl
theorem nQ {T:Nat} {ss:List Stp} (hs:∀ k,k < ss.length->okS T (stp ss k)) {i j:Nat} (hi:i < T):∀ k,k<=ss.length->GW ss i k (λx=>bwd (ss.drop k) x.toNat j)=bwd ss i j
 | 0,_=>by
   unfold GW
   rw [lwK,List.map_cons,List.map_nil,sR,sR,Rat.add_zero,wgK,Rat.one_mul]
   rfl
 | k + 1,hk=>by
   rw [<- nQ hs (j:=j) hi k (by omega),qo]
   unfold GW
   refine eC λw hw=>?_
   have o:=gi hs (i:=(i:Int)) ⟨by omega,by omega⟩ k (by omega) w hw
   rw [r9 (hs k (by omega)) (bwd (ss.drop (k + 1))) j o.at_.1,iU (ss:=ss) (k:=k) (by omega),oz]
   rfl
theorem kf {T:Nat} {ss:List Stp} (hs:∀ k,k < ss.length->okS T (stp ss k)) {i j:Nat} (hi:i < T):sR ((lws ss i j).map λw=>wgK ss w ss.length)=bwd ss i j:=by
 rw [<- nQ hs (j:=j) hi ss.length (Nat.le_refl _)]
 unfold lws GW
 rw [fh]
 refine eC λw hw=>?_
 have o:=gi hs (i:=(i:Int)) ⟨by omega,by omega⟩ ss.length (Nat.le_refl _) w hw
 rw [List.drop_length]
 congr 1
 show _=V0 (bj w).toNat j
 unfold V0
 have:=o.at_.1
 by_cases e:bj w=(j:Int)
 · rw [decide_eq_true e,if_pos rfl,if_pos (by omega)]
 · rw [decide_eq_false e,if_neg Bool.false_ne_true,if_neg (by omega)]
noncomputable def dnP (ss:List Stp):Nat->Int
 | 0=>1
 | k + 1=>dnP ss k * (((stp ss k).2.2.den:Nat):Int)
theorem la {ss:List Stp} {e:Nat} (h:∀ k,k < ss.length->Wq e (stp ss k).2.2):∀ k,k<=ss.length->0 < dnP ss k/\dnP ss k<=2 ^ (e * k)
 | 0,_=>by rw [dnP]; exact ⟨by decide,by simp⟩
 | k + 1,hk=>by
   obtain ⟨h1,h2⟩:=la h k (by omega)
   have hd:=den_pos (stp ss k).2.2
   have hb:=bd2 (h k (by omega)).sq.den
   rw [dnP]
   refine ⟨Int.mul_pos h1 hd,?_⟩
   rw [Nat.mul_succ,p2]
   exact Int.mul_le_mul h2 hb (Int.le_of_lt hd) (p0 _)
theorem kz {ss:List Stp} {e:Nat} (h:∀ k,k < ss.length->Wq e (stp ss k).2.2) (w:List Int):∀ k,k<=ss.length->Zq (dnP ss k) (e * k) (wgK ss w k)
 | 0,_=>⟨1,by decide,by simp,by rw [dnP,wgK]; exact (Rat.one_mul _).symm⟩
 | k + 1,hk=>by
   have ih:=kz h w k (by omega)
   rw [wgK,dnP,Nat.mul_succ]
   split
   · rw [Rat.mul_comm]; exact ih.mul (h k (by omega))
   · exact ih.up (h k (by omega))
theorem qm (xs:List Rat) (x:Rat):sR (xs++[x])=sR xs + x:=by rw [k3,sR,sR,Rat.add_zero]
theorem kU {P:Int} {n:Nat}:∀ (l:Nat) (xs:List Rat),xs.length=l->(∀ x ∈ xs,Zq P n x)->Zq P (n + l) (sR xs)
 | 0,[],_,_=>⟨0,Int.le_refl _,p0 _,by rw [sR,Rat.zero_mul]; rfl⟩
 | l + 1,x :: xs,hl,h=>by
   have ih:=kU l xs (by simpa using hl) λy hy=>h y (List.mem_cons_of_mem _ hy)
   rw [sR]
   exact ((h x (List.mem_cons_self ..)).mono (Nat.le_add_right n l)).add ih
theorem qO {q:Rat}:0 < q.num ↔ 0 < q:=by
 rw [Rat.lt_iff]
 show _ ↔ 0 * (q.den:Int) < q.num * 1
 omega
theorem go_pos {T:Nat} {s:Stp} (h:okS T s) {a b:Int} (hb:b ∈ gos s a) (hm:gv s a b=true):0 < s.2.2.num:=by
 have h0:=h.1
 unfold gv at hm
 by_cases hw:s.1 = "weigh"
 · rw [if_pos hw] at hm
   have e:=of_decide_eq_true hm
   rcases Int.lt_or_eq_of_le h0 with z | z
   · exact z
   · rw [show gos s a=[] from if_pos ⟨hw,e,z.symm⟩] at hb
     cases hb
 · rw [if_neg hw] at hm
   have ne:¬ a=b:=by intro z; rw [decide_eq_true z] at hm; cases hm
   unfold gos at hb
   rw [if_neg (λz=>hw z.1)] at hb
   split at hb
   · rename_i z; exact z.2.2
   · split at hb
     · rename_i z; exact z.2.2
     · simp at hb
       exact absurd hb.symm ne
theorem l3 {T:Nat} {ss:List Stp} (hs:∀ k,k < ss.length->okS T (stp ss k)) {w:List Int} (o:LwO ss T ss.length w):∀ k,k<=ss.length->0 < wgK ss w k
 | 0,_=>by rw [wgK]; decide
 | k + 1,hk=>by
   have ih:=l3 hs o k (by omega)
   rw [wgK]
   split
   · rename_i h
     have:=go_pos (hs k (by omega)) (o.go k (by omega)) h
     exact Rat.mul_pos ih (qO.mp this)
   · exact ih
section
variable {P:Program} {w:World} {K:PySem.W.Frag} {mg:Str->Option Value} {base:Heap} {k:Nat} {f:Addr} {fd:FuncData} {qual:Str}
end
theorem qP (ss:List Stp) (i:Int):∀ k,∀ w ∈ lwK ss i k,w.getD 0 0=i
 | 0,w,h=>by rw [lwK,List.mem_singleton] at h; rw [h]; rfl
 | k + 1,w,h=>by
   rw [lwK,List.mem_flatMap] at h
   obtain ⟨w0,h0,h1⟩:=h
   unfold onW at h1
   obtain ⟨x,_,rfl⟩:=List.mem_map.mp h1
   rw [bQ,if_pos (by rw [kX ss i k w0 h0]; omega)]
   exact qP ss i k w0 h0
noncomputable def dR (ds:List D) (r:Sl):Prop:=∃ (T R C:Nat) (ss:List Stp) (w:List Int) (i j:Int),ds=[bT T R C ss,.lst (w.map .int),.int i,.int j]/\ss.length<=400/\LwO ss T ss.length w/\w.getD 0 0=i/\bj w=j/\r=.d (.bl true)
theorem l5 (n:Nat) (f:Nat->Bool) (h:∀ i,i < n->f i=true):((List.range n).map f).all id=true:=by
 rw [List.all_map,List.all_eq_true]
 intro i hi
 exact h i (List.mem_range.mp hi)
theorem o9:∀ r:List Int,eQ (r.map λx=>.d (.int x))=r.map D.int
 | []=>rfl
 | x :: r=>by rw [List.map_cons,eQ,ndD,o9 r]; rfl
theorem me:∀ m:List (List Int),eQ (m.map rwN)=m.map rwD
 | []=>rfl
 | r :: m=>by rw [List.map_cons,eQ,rwN,ndD,o9,me m]; rfl
theorem uu (m:List (List Int)):ndD (tbN m)=tbD m:=by
 unfold tbN tbD
 rw [ndD,me]
noncomputable def jc (ds:List D) (r:Sl):Prop:=∃ (T R C:Nat) (ss:List Stp) (i j:Nat),ds=[bT T R C ss,.int i,.int j]/\okL T R C ss/\ss.length<=8/\(∀ k,k < ss.length->Wq 20 (stp ss k).2.2)/\b7 ss<=8/\i < R/\j < C/\r=.d (frD (bwd ss i j))
section
variable {P:Program} {w:World} {K:PySem.W.Frag} {mg:Str->Option Value} {base:Heap} {k:Nat} {f:Addr} {fd:FuncData} {qual:Str}
theorem j3 (F:Fun K "_law_is_way" qual (top 57) f fd) (hb:∀ x ∈ ak,mg x=none) (c_l_goes:Cal P w K mg base k "_law_goes" gz) (c_l_whole:Cal P w K mg base k "_law_whole" dk):aL P w K mg base CX0 (k + 1) f fd ["_law_ladder_here","_law_way","_law_i","_law_j"] (spD K dR):=by
 refine fnD F fq hb (by rintro _ _ ⟨_,_,_,_,_,_,_,rfl,_⟩; rfl) ?_
 rintro _ _ ⟨T,R,C,ss,wy,i,j,rfl,h4,o,e0,ej,rfl⟩ cdv A outer s H E b
 have nd:=fq.nd
 have wl:=o.len
 refine bt (PW.pt (cc (a4 (aV (cV .list b (aa 1)))) λh=>(cc (aG (b9 b (ae (aa 1) ah) jS) (aA (b9 b (ae (ar (aa 0) af (ao (ag (i:=3) rfl))) ah) jS) af aT) ie) λh=>(bY (a4 (aV (b9 b (ae (a9 (eU (cmp 0 (f:=λl=>.bl (whw (.int (wy.getD l 0)))) b (a0 (aa 1)) gN (by rw [List.length_map]; omega) λl hl s0 H0 fp=>(x_call (b.comp s0 H0 _ fp) c_l_whole (ae (aa 0) ah) ⟨_,rfl,rfl⟩)))) ah) (oS b.calm ((List.range wy.length).map λl=>whw (.int (wy.getD l 0))) (by rw [List.length_map,List.map_map]; rfl))))))))) ?_ ?_
 · rw [l5 wy.length (λl=>whw (.int (wy.getD l 0))) λ_ _=>rfl,decide_eq_true (by rw [List.length_map,List.length_map,wl]; rfl)]
   rfl
 refine bt (PW.pt (cc (aG (ar (aa 1) af (aX (ba (ns:=wy) (i:=0) (by decide) (by rw [wl]; exact Nat.succ_pos _)))) (aa 2) ie) λh=>(bY (aG (ar (aa 1) (mC af) (aX (lV λz=>by rw [z] at wl; simp at wl))) (aa 3) ie)))) ?_ ?_
 · rw [decide_eq_true (show wy.getD (0:Int).toNat 0=i from e0),decide_eq_true ej]; rfl
 refine aD (b9 b (ae (a9 (eU (ua 0 1 (g:=λl=>.int (l:Nat)) (g':=λl=>stD (stp ss l)) (f:=λl=>.bl ((gos (stp ss l) (wy.getD l 0)).any λx=>decide (x=wy.getD (l + 1) 0))) b (jV b (ar (aa 0) af (ao (ag (i:=3) rfl)))) kK (by rw [aU,List.length_map]; omega) λl hl s0 H0 fp=>?_))) ah) (oS b.calm ((List.range ss.length).map λl=>(gos (stp ss l) (wy.getD l 0)).any λx=>decide (x=wy.getD (l + 1) 0)) (by rw [aU,List.length_map,List.map_map]; rfl))) ?_
 · have hl:l < ss.length:=by rw [aU,List.length_map] at hl; exact hl
   have e1:((l:Int) + 1).toNat=l + 1:=by omega
   have k1:atI (wy.map D.int) ((l:Int) + 1)=some (.int (wy.getD (l + 1) 0)):=by rw [<- e1]; exact ba (by omega) (by omega)
   exact eJ (ar (aa 2) (aA (aa 0) af aT) (aX k1)) (a9 (x_call (b.comp s0 H0 _ fp) c_l_goes (ae (aa 1) (ae (ar (aa 2) (aa 0) (aX (ba (ns:=wy) (i:=(l:Int)) (by omega) (by rw [Int.toNat_natCast]; omega)))) ah)) ⟨stp ss l,wy.getD l 0,rfl,rfl⟩)) ud
 · rw [l5 ss.length _ λl hl=>?_]
   rw [List.any_eq_true]
   exact ⟨_,o.go l hl,decide_eq_true rfl⟩
theorem pq (F:Fun K "_law_sum" qual (top 58) f fd) (hb:∀ x ∈ ak,mg x=none) (c_ways:Cal P w K mg base k "ways" k4) (c_weight_of:Cal P w K mg base k "weight_of" cR) (c_l_plus:Cal P w K mg base k "_law_plus" fY) (c_l_is_way:Cal P w K mg base k "_law_is_way" dR) (c_l_is_number:Cal P w K mg base k "_law_is_number" bx):aL P w K mg base CX0 (k + 1) f fd ["_law_ladder_here","_law_i","_law_j"] (spD K jc):=by
 refine fnD F jP hb (by rintro _ _ ⟨_,_,_,_,_,_,rfl,_⟩; rfl) ?_
 rintro _ _ ⟨T,R,C,ss,i,j,rfl,ok,h8,hq,ha,hi,hj,rfl⟩ cdv A outer s H E b
 have nd:=jP.nd
 have hiT:i < T:=Nat.lt_of_lt_of_le hi ok.rT
 have hst:∀ k,k < ss.length->okS T (stp ss k):=ok.st
 have weq:=pD (j:=j) hst hiT
 have wsum:=kf (j:=j) hst hiT
 have pow8:2 ^ b7 ss<=2 ^ 8:=Nat.pow_le_pow_right (by decide) ha
 have n3:nZ (cm T [(j:Int)] ss) [(i:Int)]<=3000:=by
   have h1:=qZ T [(j:Int)] ss [(i:Int)]
   have h3:((2 ^ b7 ss:Nat):Int)<=((2 ^ 8:Nat):Int):=Int.ofNat_le.mpr pow8
   have e:((2 ^ b7 ss:Nat):Int)=2 ^ b7 ss:=by simp
   have:((2 ^ 8:Nat):Int)=256:=by decide
   omega
 have ml:(lws ss i j).length<=256:=by
   have h1:=jq ss (i:Int) ss.length (Nat.le_refl _)
   rw [List.take_length] at h1
   have h3:(lws ss i j).length<=(lwK ss (i:Int) ss.length).length:=List.length_filter_le _ _
   omega
 have lo:∀ wy ∈ lws ss i j,LwO ss T ss.length wy/\wy.getD 0 0=(i:Int)/\bj wy=(j:Int):=λwy hw=>by
   obtain ⟨h1,h2⟩:=List.mem_filter.mp hw
   exact ⟨gi hst (i:=(i:Int)) ⟨by omega,by omega⟩ ss.length (Nat.le_refl _) wy h1,qP ss i ss.length wy h1,of_decide_eq_true h2⟩
 have sqw:∀ k,k < ss.length->Sq 20 (stp ss k).2.2:=λk hk=>(hq k hk).sq
 obtain ⟨dp,dl⟩:=la hq ss.length (Nat.le_refl _)
 have zq:∀ wy,Zq (dnP ss ss.length) (20 * ss.length) (wgK ss wy ss.length):=λwy=>kz hq wy ss.length (Nat.le_refl _)
 generalize hm:lws ss i j=m at *
 have part:∀ l,l<=m.length->Sq 500 (sR ((m.take l).map λwy=>wgK ss wy ss.length)):=λl hl=>by
   have h1:=kU (P:=dnP ss ss.length) (n:=20 * ss.length) l ((m.take l).map λwy=>wgK ss wy ss.length) (by rw [List.length_map,List.length_take]; omega) (λx hx=>by obtain ⟨wy,_,rfl⟩:=List.mem_map.mp hx; exact zq wy)
   exact (h1.sq dp dl (by omega)).mono (by omega)
 have fz:∀ m:List (List Int),fzD (.n (tbN m))=some (tbD m):=λm=>congrArg some (uu m)
 refine az 3 nd (bN (ae af (ae af ah))) ?_
 refine az 4 nd (a9 (x_call b c_ways (ae (aa 0) (ae (aa 1) (ae (aa 2) ah))) ⟨T,R,C,ss,i,j,rfl,ok,hi,hj,n3,by rw [weq]⟩) (fz m)) ?_
 refine bX 5 (g:=λl=>rwD (m.getD l [])) (λl τ=>∃ s5 s6,τ=[.d (bT T R C ss),.d (.int i),.d (.int j),.d (frD (sR ((m.take l).map λwy=>wgK ss wy ss.length))),.d (tbD m),s5,s6]) b nd (a0 (aa 4)) v3 ⟨.un,.un,rfl⟩ (λl hl τ h=>?_) λτ h=>?_
 · obtain ⟨s5,s6,rfl⟩:=h
   have hl:l < m.length:=by simpa using hl
   have tk:m.take (l + 1)=m.take l++[m.getD l []]:=take_snoc [] hl
   obtain ⟨o,w0,wj⟩:=lo _ (dP (d:=[]) hl)
   have pl:=part l (by omega)
   generalize m.getD l []=wy at tk o w0 wj ⊢
   have sw:=lh sqw wy ss.length (Nat.le_refl _)
   have sw':Sq 200 (wgK ss wy ss.length):=sw.mono (by omega)
   have pos:=qO.mpr (l3 hst o ss.length (Nat.le_refl _))
   refine bt (a4 (aV (x_call b c_l_is_way (ae (aa 0) (ae (aa 5) (ae (aa 1) (ae (aa 2) ah)))) ⟨T,R,C,ss,wy,i,j,rfl,by omega,o,w0,wj,rfl⟩))) rfl ?_
   refine az 6 nd (x_call b c_weight_of (ae (aa 0) (ae (aa 5) ah)) ⟨T,R,C,20,ss,wy,rfl,ok,o.len,sqw,by omega,rfl⟩) ?_
   refine bt (PW.pt (cc (a4 (aV (x_call b c_l_is_number (ae (aa 6) (ae (ar (aa 6) af (ao (ag (i:=0) rfl))) (ae (ar (aa 6) af (ao (ag (i:=1) rfl))) ah))) ⟨wgK ss wy ss.length,rfl,sw'.mono (by decide),rfl⟩))) λh=>(bY (aG (ar (aa 6) af (ao (ag (i:=0) rfl))) af pB)))) ?_ ?_
   · rw [decide_eq_false (by omega)]; rfl
   refine az 3 nd (x_call b c_l_plus (ae (aa 3) (ae (aa 6) ah)) ⟨_,_,_,_,rfl,pl,sw',by omega,rfl⟩) (aQ ⟨.d (rwD wy),.d (frD (wgK ss wy ss.length)),?_⟩)
   rw [tk,List.map_append,List.map_singleton,qm]
   rfl
 · obtain ⟨s5,s6,rfl⟩:=h
   refine aD (aa 3) ?_
   rw [List.length_map,List.take_of_length_le (Nat.le_refl _),wsum]
end
theorem gc:∀ ss:List Stp,b7 ss<=ss.length
 | []=>Nat.le_refl _
 | s :: ss=>by
   rw [b7,List.length_cons]
   have:=gc ss
   have:act s<=1:=by unfold act; split <;> omega
   omega
theorem uZ (xs:List D):eQ (xs.map .d)=xs:=by
 induction xs with
 | nil=>rfl
 | cons x xs ih=>rw [List.map_cons,eQ,ndD,ih]
theorem oJ {α:Type} (f:α->List Nd):∀ t:List α,eQ (t.map λr=>.l (f r))=t.map λr=>D.lst (eQ (f r))
 | []=>rfl
 | r :: t=>by rw [List.map_cons,eQ,ndD,oJ f t]; rfl
theorem tL (t:List (List Rat)):ndD (pe t)=kA t:=by
 unfold pe kA
 rw [ndD,oJ]
 congr 1
 exact List.map_congr_left λr _=>by rw [uZ]
theorem l9 {x:Int} (h0:0<=x) (h:x < 1048576):Bd 20 x:=by unfold Bd; omega
theorem u9 (p:Int) {g:Nat} (h:g=0\/g=5):Wq 20 (wgt p g):=by
 have h40:g<=40:=by omega
 obtain ⟨h1,h2,h3,h4⟩:=mv p h40
 have hb:Bd 20 (wgT p g)/\Bd 20 (wgB p g):=by
   rcases h with rfl | rfl
   · have h1:=fm (a:=p) (b:=7) (by decide)
     have h2:=fm (a:=p.fdiv 7) (b:=4) (by decide)
     rw [show wgT p 0=p.fmod 7 from rfl,show wgB p 0=1 + (p.fdiv 7).fmod 4 from rfl]
     exact ⟨l9 (by omega) (by omega),l9 (by omega) (by omega)⟩
   · have h1:=fm (a:=p) (b:=100000) (by decide)
     have h2:=fm (a:=p.fdiv 100000) (b:=99999) (by decide)
     rw [show wgT p 5=p.fmod 100000 from rfl,show wgB p 5=1 + (p.fdiv 100000).fmod 99999 from rfl]
     exact ⟨l9 (by omega) (by omega),l9 (by omega) (by omega)⟩
 exact ⟨(oN p h40).1,Sq.b5 h3 (fO p h40) hb.1 hb.2⟩
theorem vT {m:Nat} (c o:Int) {g:Nat} (h:g=0\/g=5):∀ k,k < (drS m c o g).length->Wq 20 (stp (drS m c o g) k).2.2:=λk hk=>by
 have hl:(drS m c o g).length=((szP m c).getD 5 0).toNat:=by simp [drS]
 rw [hl] at hk
 have:stp (drS m c o g) k=adS (adP o ((szP m c).getD 5 0).toNat g) (drT m c) g k:=j8 _ hk _
 rw [this]
 exact u9 _ h
theorem vk {T:Nat} {ss:List Stp} {i j:Nat} (hst:∀ k,k < ss.length->okS T (stp ss k)) (hi:i < T) (h8:ss.length<=8) (hq:∀ k,k < ss.length->Wq 20 (stp ss k).2.2):Sq 500 (bwd ss i j):=by
 have wsum:=kf (j:=j) hst hi
 have ml:(lws ss i j).length<=256:=by
   have h1:=jq ss (i:Int) ss.length (Nat.le_refl _)
   rw [List.take_length] at h1
   have h3:(lws ss i j).length<=(lwK ss (i:Int) ss.length).length:=List.length_filter_le _ _
   have h4:=gc ss
   have pow8:2 ^ b7 ss<=2 ^ 8:=Nat.pow_le_pow_right (by decide) (by omega)
   omega
 obtain ⟨dp,dl⟩:=la hq ss.length (Nat.le_refl _)
 have h1:=kU (P:=dnP ss ss.length) (n:=20 * ss.length) (lws ss i j).length ((lws ss i j).map λwy=>wgK ss wy ss.length) (by rw [List.length_map]) (λx hx=>by obtain ⟨wy,_,rfl⟩:=List.mem_map.mp hx; exact kz hq wy ss.length (Nat.le_refl _))
 rw [<- wsum]
 exact (h1.sq dp dl (by omega)).mono (by omega)
theorem vn {xs:List D}:bA X (compareOp .Is) (.tup xs) .non (.bl false):=⟨_,rJ,λ_ v w H Q _ d1 d2 k=>by
 cases d2
 cases d1
 exact ⟨rfl,by rw [decide_eq_false (by intro z; cases z)]; exact k _ H (aj.refl _) .bl⟩⟩
noncomputable def ma (ds:List D) (r:Sl):Prop:=∃ ns:List Int,ns.length<=63/\ds=[.lst (ns.map .int)]/\r=.d (.bl true)
theorem vR (x:Int):∃ g:Nat,(g=0\/g=5)/\atI [D.int 0,.int 0,.int 0,.int 5] (x.fmod 4)=some (.int (g:Nat)):=by
 have h:=fm (a:=x) (b:=4) (by decide)
 obtain ⟨n,hn⟩:=Int.eq_ofNat_of_zero_le h.1
 rw [hn]
 have hn8:n < 4:=by omega
 clear h hn
 rcases (by omega:n=0\/n=1\/n=2\/n=3) with rfl | rfl | rfl | rfl
 · exact ⟨0,.inl rfl,rfl⟩
 · exact ⟨0,.inl rfl,rfl⟩
 · exact ⟨0,.inl rfl,rfl⟩
 · exact ⟨5,.inr rfl,rfl⟩
theorem rP {C R:Nat} {V:Nat->Nat->Rat} {i:Nat} (h:i < R):atI ((gk C R V).map λr=>D.lst (r.map frD)) (i:Int)=some (.lst (((List.range C).map λj=>V j i).map frD)):=by
 unfold gk
 rw [ag (x:=.lst (((List.range C).map λj=>V j i).map frD)) (by simp [h])]
section
variable {P:Program} {w:World} {K:PySem.W.Frag} {mg:Str->Option Value} {base:Heap} {k:Nat} {f:Addr} {fd:FuncData} {qual:Str}
set_option maxHeartbeats 1000000 in
theorem sO (F:Fun K "law" qual (top 59) f fd) (hb:∀ x ∈ ak,mg x=none) (c_l_drawn:Cal P w K mg base k "_law_drawn" e8) (c_table_of:Cal P w K mg base k "table_of" dQ) (c_l_sum:Cal P w K mg base k "_law_sum" jc) (c_l_is_number:Cal P w K mg base k "_law_is_number" bx) (c_l_cell:Cal P w K mg base k "_law_cell" gL):aL P w K mg base CX0 (k + 1) f fd ["_law_script"] (spD K ma):=by
 refine fnD F oY hb (by rintro _ _ ⟨_,_,rfl,_⟩; rfl) ?_
 rintro _ _ ⟨ns,hn,rfl,rfl⟩ cdv A outer s H E b
 have nd:=oY.nd
 have ex:∃ ms:List Int,ms.length<=64/\[D.int (ns.getD 1 0)]++Hy.cutD (ns.map D.int) (some 2) (some 4)=ms.map D.int:=by
   refine ⟨ns.getD 1 0 :: ((ns.take 4).drop 2),by simp; omega,?_⟩
   rw [show (2:Int)=((2:Nat):Int) from rfl,show (4:Int)=((4:Nat):Int) from rfl,qg,<- List.map_take,<- List.map_drop]
   rfl
 obtain ⟨ms,hms,ems⟩:=ex
 refine jg 1 2 (g:=λi=>.int (i:Nat)) (g':=λi=>.int (ms.getD i 0)) (λi τ=>∃ s1 s2 s3 s4 s5 s6 s7,τ=[.d (.lst (ns.map .int)),s1,s2,s3,s4,s5,s6,s7]) b nd (jV b (a9 (qN (a9 (a6 (ae (x_call b c_l_cell (ae (aa 0) (ae af ah)) ⟨ns,1,rfl,rfl⟩) ah))) (a9 (uH (aa 0) (k9 af) (k9 af))) ?_))) ?_ ⟨.un,.un,.un,.un,.un,.un,.un,rfl⟩ (λi hi τ h=>?_) λτ h=>?_
 · have:=congrArg List.length ems
   rw [List.length_append,List.length_map] at this
   show [D.int (ns.getD 1 0)].length + _ < _
   omega
 · intro i h
   show (eH ([D.int (ns.getD 1 0)]++Hy.cutD (ns.map D.int) (some 2) (some 4)))[i]=_
   simp only [ems]
   exact rf i _
 · obtain ⟨s1,s2,s3,s4,s5,s6,s7,rfl⟩:=h
   generalize ms.getD i 0=c
   obtain ⟨g,hg,eg⟩:=vR c
   have hi:i < 100:=by
     have e:(eH ([D.int (ns.getD 1 0)]++Hy.cutD (ns.map D.int) (some 2) (some 4))).length=ms.length:=by rw [aU,ems,List.length_map]
     have hi:i < (eH ([D.int (ns.getD 1 0)]++Hy.cutD (ns.map D.int) (some 2) (some 4))).length:=hi
     omega
   refine az 3 nd (x_call b c_l_drawn (ae (aA (x_call b c_l_cell (ae (aa 0) (ae af ah)) ⟨ns,0,rfl,rfl⟩) (aA af (aa 1) (aY (mkL (by decide)))) aT) (ae (aa 2) (ae af (ae (ar (a9 (a6 (ae af (ae af (ae af (ae af ah)))))) (aA (aa 2) af (bO (by decide))) (aX eg)) ah)))) ⟨8,_,c,g,rfl,by omega,by decide,rfl⟩) ?_
   generalize ns.getD 0 0 + 17 * (i:Int)=c0
   obtain ⟨ok,_,h8⟩:=vc (m:=8) c0 c (g:=g) (by omega) (by decide)
   have hq:=vT (m:=8) c0 c hg
   generalize drT 8 c0=T at ok ⊢
   generalize drR 8 c0=R at ok ⊢
   generalize drC 8 c0=C at ok ⊢
   generalize drS 8 c0 c g=ss at ok h8 hq ⊢
   have t7:=ok.t7
   have rT:=ok.rT
   have cT:=ok.cT
   have hst:∀ k,k < ss.length->okS T (stp ss k):=ok.st
   have ha:=gc ss
   have okm:∀ st ∈ ss,okS T st:=λs hs=>by
     obtain ⟨i,hi,rfl⟩:=List.getElem_of_mem hs
     have:=ok.st i hi
     simpa [hi] using this
   refine az 4 nd (a9 (x_call b c_table_of (ae (aa 3) ah) ⟨20,T,R,C,ss,rfl,ok,hq,by omega,by decide,rfl⟩) (congrArg some (tL _))) ?_
   refine bX 5 (λl τ=>∃ s5 s6 s7,τ=[.d (.lst (ns.map .int)),.d (.int (i:Nat)),.d (.int c),.d (bT T R C ss),.d (kA (gk C R (fwd ss))),s5,s6,s7]) b nd (fD b (ar (aa 3) af (ao (ag (i:=1) rfl))) (by omega) (by omega)) fI ⟨_,_,_,rfl⟩ (λi1 hi1 τ h=>?_) λτ h=>?_
   · obtain ⟨s5,s6,s7,rfl⟩:=h
     have hi1:i1 < R:=by rw [aO] at hi1; omega
     refine bX 6 (λl τ=>∃ s6 s7,τ=[.d (.lst (ns.map .int)),.d (.int (i:Nat)),.d (.int c),.d (bT T R C ss),.d (kA (gk C R (fwd ss))),.d (.int (i1:Nat)),s6,s7]) b nd (fD b (ar (aa 3) af (ao (ag (i:=2) rfl))) (by omega) (by omega)) fI ⟨_,_,rfl⟩ (λj1 hj1 τ h=>?_) λτ h=>?_
     · obtain ⟨s6,s7,rfl⟩:=h
       have hj1:j1 < C:=by rw [aO] at hj1; omega
       have fb:=qJ okm (i:=i1) (j:=j1) (by omega) (by omega)
       have sq:=vk (j:=j1) hst (show i1 < T by omega) h8 hq
       have at2:atI (((List.range C).map λj=>fwd ss j i1).map frD) (j1:Int)=some (frD (bwd ss i1 j1)):=by
         rw [<- fb,ag (x:=frD (fwd ss j1 i1)) (by simp [hj1])]
       refine az 7 nd (x_call b c_l_sum (ae (aa 3) (ae (aa 5) (ae (aa 6) ah))) ⟨T,R,C,ss,i1,j1,rfl,ok,h8,hq,by omega,hi1,hj1,rfl⟩) ?_
       refine bt (PW.pt (cc (aG (aa 7) ui vn) λh=>(bY (a4 (aV (x_call b c_l_is_number (ae (ar (ar (aa 4) (aa 5) (aX (rP hi1))) (aa 6) (aX at2)) (ae (ar (aa 7) af (ao (ag (i:=0) rfl))) (ae (ar (aa 7) af (ao (ag (i:=1) rfl))) ah))) ⟨bwd ss i1 j1,rfl,sq.mono (by decide),rfl⟩)))))) rfl (aQ ⟨_,_,rfl⟩)
     · obtain ⟨s6,s7,rfl⟩:=h
       exact aQ ⟨_,_,_,rfl⟩
   · obtain ⟨s5,s6,s7,rfl⟩:=h
     exact aQ ⟨_,_,_,_,_,_,_,rfl⟩
 · obtain ⟨s1,s2,s3,s4,s5,s6,s7,rfl⟩:=h
   exact aD pG rfl
end
end K22
namespace K22
open PySem PySem.Spec PyProof.Rows L2 Hy
set_option maxHeartbeats 0 in
theorem all_mk {l:PySem.W.OpenLaw} {w:World} {K:PySem.W.Frag} {h:Heap} {mg:Str->Option Value} {fa f0 f1 f2 f3 f4 f5 f6 f7 f8 f9 f10 f11 f12 f13 f14 f15 f16 f17 f18 f19 f20 f21 f22 f23 f24 f25 f26 f27 f28 f29 f30 f31 f32 f33 f34 f35 f36 f37 f38 f39 f40 f41 f42 f43 f44 f45:Addr} {t0 t1 t2:Tok} {ab:Addr} {tb1 tb2:Tok} {nb:Nat} {db:Option Addr} {sb:Array (Option Value)} (X:K.In h) (G:h.Ns mainGlobals mg) (hfa:mg "law" = some (.ref fa))
   (h0:Dfn K "_law_numbers" (top 46) f0) (h1:Dfn K "_law_sizes" (top 54) f1) (h2:Dfn K "_law_divisor" (top 47) f2) (h3:Dfn K "_law_made" (top 48) f3) (h4:Dfn K "_law_ten" (top 44) f4) (h5:Dfn K "_law_weight" (top 51) f5) (h6:Dfn K "_law_ladder" (top 52) f6) (h7:Dfn K "_law_drawn" (top 55) f7) (h8:Dfn K "is_whole" (top 8) f8) (h9:Dfn K "is_between" (top 9) f9) (h10:Dfn K "common_divisor" (top 11) f10) (h11:Dfn K "is_fraction" (top 10) f11) (h12:Dfn K "is_weight" (top 24) f12) (h13:Dfn K "is_step" (top 25) f13) (h14:Dfn K "is_ladder" (top 26) f14) (h15:Dfn K "look_ladder" (top 27) f15) (h16:Dfn K "column_of" (top 20) f16) (h17:Dfn K "columns_of" (top 19) f17) (h18:Dfn K "first_sums" (top 31) f18) (h19:Dfn K "shared_divisor" (top 12) f19) (h20:Dfn K "weighed_sums" (top 33) f20) (h21:Dfn K "added_sums" (top 34) f21) (h22:Dfn K "in_lowest_terms" (top 13) f22) (h23:nO K "fraction" (top 14) f23 (1)) (h24:Dfn K "told_sums" (top 32) f24) (h25:Dfn K "rung_end" (top 29) f25) (h26:Dfn K "rung_start" (top 28) f26) (h27:Dfn K "table_of" (top 30) f27) (h28:Dfn K "_law_cell" (top 45) f28) (h29:Dfn K "way_on" (top 39) f29) (h30:Dfn K "choices_of" (top 18) f30) (h31:Dfn K "next_places" (top 35) f31) (h32:Dfn K "counts_ahead" (top 36) f32) (h33:Dfn K "longer_trails" (top 38) f33) (h34:Dfn K "trails" (top 37) f34) (h35:Dfn K "ways" (top 40) f35) (h36:Dfn K "is_multiplied" (top 42) f36) (h37:Dfn K "product_of" (top 15) f37) (h38:Dfn K "weight_of" (top 41) f38) (h39:Dfn K "_law_plus" (top 53) f39) (h40:Dfn K "_law_goes" (top 56) f40) (h41:Dfn K "_law_whole" (top 49) f41) (h42:Dfn K "_law_is_way" (top 57) f42) (h43:Dfn K "_law_is_number" (top 50) f43) (h44:Dfn K "_law_sum" (top 58) f44) (h45:Dfn K "law" (top 59) f45) (hz:nsL K ak) (z0:PySem.W.nsIn K mainGlobals "MOST" = some (some (.int 7 t0))) (z1:PySem.W.nsIn K mainGlobals "MOST_STEPS" = some (some (.int 400 t1))) (z2:PySem.W.nsIn K mainGlobals "MOST_LISTED" = some (some (.int 3000 t2))) (zb:PySem.W.nsIn K mainGlobals "ONE" = some (some (.ref ab))) (zl:K.lookup ab=some ⟨.type "tuple",db,.seq #[.int 1 tb1,.int 1 tb2] nb,sb⟩) :
   ∃ fd:FuncData,(∀ (s:Shared) (v:Value),BindsTo s fd ⟨[v],[]⟩ [("_law_script",v)])/\∀ base:Heap,K.In base->base.Ns mainGlobals mg->aL l.prog w K mg base CX0 9 fa fd ["_law_script"] (spD K ma):=by
 have hb:=hz.none X G
 have y_MOST:∃ t,mg "MOST" = some (.int 7 t):=⟨_,PySem.W.mg_of X G z0⟩
 have y_MOST_STEPS:∃ t,mg "MOST_STEPS" = some (.int 400 t):=⟨_,PySem.W.mg_of X G z1⟩
 have y_MOST_LISTED:∃ t,mg "MOST_LISTED" = some (.int 3000 t):=⟨_,PySem.W.mg_of X G z2⟩
 have y_ONE:Mk1 K mg "ONE" 1 1:=⟨ab,PySem.W.mg_of X G zb,λH=>.inr ⟨_,_,_,zl,rfl,rfl,(by show 2<=sizeLine; decide),.cons ⟨_,rfl⟩ (.cons ⟨_,rfl⟩ .nil)⟩⟩
 obtain ⟨a,⟨oc,od,kV,dc,pm,an,cd,ct,sl,l0,c⟩,r⟩:=h45
 cases hfa.symm.trans (PySem.W.mg_of X G a)
 refine ⟨PySem.W.fnOf "law" "law" (bz (top 59)) (bc (top 59)) (ai (top 59)) .none kV dc pm an cd ct,λs v=>.of_eq rfl,λbase _ _=>?_⟩
 have c_l_numbers:Cal l.prog w K mg base 1 "_law_numbers" bZ:=h0.cal (ps:=["_law_cell_here","_law_bases"]) X G (λ_ _ _ _ _ _=>Hy.bd2 λ_ _=>rfl) λ_ F=>je (k:=0) F hb
 have c_l_sizes:Cal l.prog w K mg base 2 "_law_sizes" ff:=h1.cal (ps:=["_law_cell_here","_law_most"]) X G (λ_ _ _ _ _ _=>Hy.bd2 λ_ _=>rfl) λ_ F=>lj (k:=1) F hb c_l_numbers
 have c_l_divisor:Cal l.prog w K mg base 1 "_law_divisor" bV:=h2.cal (ps:=["_law_one","_law_other"]) X G (λ_ _ _ _ _ _=>Hy.bd2 λ_ _=>rfl) λ_ F=>i9 (k:=0) F hb
 have c_l_made:Cal l.prog w K mg base 2 "_law_made" eA:=h3.cal (ps:=["_law_top","_law_bottom"]) X G (λ_ _ _ _ _ _=>Hy.bd2 λ_ _=>rfl) λ_ F=>nB (k:=1) F hb c_l_divisor
 have c_l_ten:Cal l.prog w K mg base 1 "_law_ten" fQ:=h4.cal (ps:=["_law_many"]) X G (λ_ _ _ _ _ _=>Hy.bd1 λ_=>rfl) λ_ F=>oA (k:=0) F hb
 have c_l_weight:Cal l.prog w K mg base 3 "_law_weight" dM:=h5.cal (ps:=["_law_part","_law_figures"]) X G (λ_ _ _ _ _ _=>Hy.bd2 λ_ _=>rfl) λ_ F=>j4 (k:=2) F hb c_l_made (c_l_ten.mono (by decide))
 have c_l_ladder:Cal l.prog w K mg base 4 "_law_ladder" dN:=h6.cal (ps:=["_law_cell_here","_law_tracks","_law_rows","_law_columns","_law_many","_law_figures"]) X G (λ_ _ _ _ _ _=>Hy.bd6 λ_ _ _ _ _ _=>rfl) λ_ F=>jZ (k:=3) F hb (c_l_numbers.mono (by decide)) c_l_weight (c_l_ten.mono (by decide))
 have c_l_drawn:Cal l.prog w K mg base 5 "_law_drawn" e8:=h7.cal (ps:=["_law_one","_law_other","_law_most","_law_figures"]) X G (λ_ _ _ _ _ _=>Hy.bd4 λ_ _ _ _=>rfl) λ_ F=>kL (k:=4) F hb (c_l_sizes.mono (by decide)) c_l_ladder
 have c_is_whole:Cal l.prog w K mg base 1 "is_whole" bL:=h8.cal (ps:=["thing"]) X G (λ_ _ _ _ _ _=>Hy.bd1 λ_=>rfl) λ_ F=>ki (k:=0) F hb
 have c_is_between:Cal l.prog w K mg base 2 "is_between" bo:=h9.cal (ps:=["thing","least","most"]) X G (λ_ _ _ _ _ _=>Hy.bd3 λ_ _ _=>rfl) λ_ F=>g9 (k:=1) F hb c_is_whole
 have c_common_divisor:Cal l.prog w K mg base 1 "common_divisor" aM:=h10.cal (ps:=["one","other"]) X G (λ_ _ _ _ _ _=>Hy.bd2 λ_ _=>rfl) λ_ F=>eG (k:=0) F hb
 have c_is_fraction:Cal l.prog w K mg base 2 "is_fraction" b8:=h11.cal (ps:=["thing"]) X G (λ_ _ _ _ _ _=>Hy.bd1 λ_=>rfl) λ_ F=>gq (k:=1) F hb c_is_whole c_common_divisor
 have c_is_weight:Cal l.prog w K mg base 3 "is_weight" dh:=h12.cal (ps:=["thing"]) X G (λ_ _ _ _ _ _=>Hy.bd1 λ_=>rfl) λ_ F=>ja (k:=2) F hb c_is_fraction
 have c_is_step:Cal l.prog w K mg base 4 "is_step" eP:=h13.cal (ps:=["thing","tracks"]) X G (λ_ _ _ _ _ _=>Hy.bd2 λ_ _=>rfl) λ_ F=>kC (k:=3) F hb (c_is_between.mono (by decide)) c_is_weight
 have c_is_ladder:Cal l.prog w K mg base 5 "is_ladder" de:=h14.cal (ps:=["thing"]) X G (λ_ _ _ _ _ _=>Hy.bd1 λ_=>rfl) λ_ F=>jt (k:=4) F hb y_MOST y_MOST_STEPS (c_is_between.mono (by decide)) c_is_step
 have c_look_ladder:Cal l.prog w K mg base 6 "look_ladder" bb:=h15.cal (ps:=["thing"]) X G (λ_ _ _ _ _ _=>Hy.bd1 λ_=>rfl) λ_ F=>gg (k:=5) F hb c_is_ladder
 have c_column_of:Cal l.prog w K mg base 1 "column_of" cY:=h16.cal (ps:=["table","j"]) X G (λ_ _ _ _ _ _=>Hy.bd2 λ_ _=>rfl) λ_ F=>jf (k:=0) F hb
 have c_columns_of:Cal l.prog w K mg base 2 "columns_of" cu:=h17.cal (ps:=["table"]) X G (λ_ _ _ _ _ _=>Hy.bd1 λ_=>rfl) λ_ F=>ij (k:=1) F hb c_column_of
 have c_first_sums:Cal l.prog w K mg base 1 "first_sums" cw:=h18.cal (ps:=["track","rows"]) X G (λ_ _ _ _ _ _=>Hy.bd2 λ_ _=>rfl) λ_ F=>hU (k:=0) F hb
 have c_shared_divisor:Cal l.prog w K mg base 2 "shared_divisor" a8:=h19.cal (ps:=["number","others"]) X G (λ_ _ _ _ _ _=>Hy.bd2 λ_ _=>rfl) λ_ F=>eD (k:=1) F hb c_common_divisor
 have c_weighed_sums:Cal l.prog w K mg base 3 "weighed_sums" bP:=h20.cal (ps:=["sums","weight"]) X G (λ_ _ _ _ _ _=>Hy.bd2 λ_ _=>rfl) λ_ F=>fL (k:=2) F hb (c_common_divisor.mono (by decide)) c_shared_divisor
 have c_added_sums:Cal l.prog w K mg base 3 "added_sums" cD:=h21.cal (ps:=["one","other"]) X G (λ_ _ _ _ _ _=>Hy.bd2 λ_ _=>rfl) λ_ F=>ir (k:=2) F hb (c_common_divisor.mono (by decide)) c_shared_divisor
 have c_in_lowest_terms:Cal l.prog w K mg base 2 "in_lowest_terms" bq:=h22.cal (ps:=["top","bottom"]) X G (λ_ _ _ _ _ _=>Hy.bd2 λ_ _=>rfl) λ_ F=>dZ (k:=1) F hb c_common_divisor
 have c_fraction:Cal l.prog w K mg base 3 "fraction" dU:=h23.cal (ps:=["top","bottom"]) X G (λ_ _ _ _ _ _ _ _=>Hy.bd2 λ_ _=>⟨_,rfl,rfl⟩) λ_ F=>jW (k:=2) F hb c_in_lowest_terms (c_is_whole.mono (by decide))
 have c_told_sums:Cal l.prog w K mg base 4 "told_sums" di:=h24.cal (ps:=["sums"]) X G (λ_ _ _ _ _ _=>Hy.bd1 λ_=>rfl) λ_ F=>jk (k:=3) F hb c_fraction
 have c_rung_end:Cal l.prog w K mg base 1 "rung_end" cA:=h25.cal (ps:=["step"]) X G (λ_ _ _ _ _ _=>Hy.bd1 λ_=>rfl) λ_ F=>jF (k:=0) F hb
 have c_rung_start:Cal l.prog w K mg base 1 "rung_start" bH:=h26.cal (ps:=["step"]) X G (λ_ _ _ _ _ _=>Hy.bd1 λ_=>rfl) λ_ F=>gY (k:=0) F hb
 have c_table_of:Cal l.prog w K mg base 7 "table_of" dQ:=h27.cal (ps:=["ladder"]) X G (λ_ _ _ _ _ _=>Hy.bd1 λ_=>rfl) λ_ F=>kx (k:=6) F hb c_look_ladder (c_columns_of.mono (by decide)) (c_first_sums.mono (by decide)) (c_weighed_sums.mono (by decide)) (c_added_sums.mono (by decide)) (c_told_sums.mono (by decide)) (c_rung_end.mono (by decide)) (c_rung_start.mono (by decide))
 have c_l_cell:Cal l.prog w K mg base 1 "_law_cell" gL:=h28.cal (ps:=["_law_script","_law_k"]) X G (λ_ _ _ _ _ _=>Hy.bd2 λ_ _=>rfl) λ_ F=>nq (k:=0) F hb
 have c_way_on:Cal l.prog w K mg base 1 "way_on" gr:=h29.cal (ps:=["trail","k"]) X G (λ_ _ _ _ _ _=>Hy.bd2 λ_ _=>rfl) λ_ F=>mY (k:=0) F hb
 have c_choices_of:Cal l.prog w K mg base 1 "choices_of" cC:=h30.cal (ps:=["many","size"]) X G (λ_ _ _ _ _ _=>Hy.bd2 λ_ _=>rfl) λ_ F=>iw (k:=0) F hb
 have c_next_places:Cal l.prog w K mg base 2 "next_places" bw:=h31.cal (ps:=["step","places"]) X G (λ_ _ _ _ _ _=>Hy.bd2 λ_ _=>rfl) λ_ F=>gh (k:=1) F hb c_rung_start c_rung_end
 have c_counts_ahead:Cal l.prog w K mg base 3 "counts_ahead" (bM l.prog w):=h32.cal (ps:=["ladder","ends"]) X G (λ_ _ _ _ _ _=>Hy.bd2 λ_ _=>rfl) λ_ F=>fN (k:=2) F hb (c_choices_of.mono (by decide)) c_next_places
 have c_longer_trails:Cal l.prog w K mg base 3 "longer_trails" (bC l.prog w):=h33.cal (ps:=["found","step","counts"]) X G (λ_ _ _ _ _ _=>Hy.bd3 λ_ _ _=>rfl) λ_ F=>eO (k:=2) F hb c_next_places
 have c_trails:Cal l.prog w K mg base 4 "trails" gp:=h34.cal (ps:=["ladder","starts","ends"]) X G (λ_ _ _ _ _ _=>Hy.bd3 λ_ _ _=>rfl) λ_ F=>nc (k:=3) F hb y_MOST_LISTED c_counts_ahead c_longer_trails
 have c_ways:Cal l.prog w K mg base 7 "ways" k4:=h35.cal (ps:=["ladder","i","j"]) X G (λ_ _ _ _ _ _=>Hy.bd3 λ_ _ _=>rfl) λ_ F=>pL (k:=6) F hb c_look_ladder (c_is_between.mono (by decide)) (c_way_on.mono (by decide)) (c_trails.mono (by decide))
 have c_is_multiplied:Cal l.prog w K mg base 1 "is_multiplied" bF:=h36.cal (ps:=["step","ahead","behind"]) X G (λ_ _ _ _ _ _=>Hy.bd3 λ_ _ _=>rfl) λ_ F=>eY (k:=0) F hb
 have c_product_of:Cal l.prog w K mg base 2 "product_of" cB:=h37.cal (ps:=["one","other"]) X G (λ_ _ _ _ _ _=>Hy.bd2 λ_ _=>rfl) λ_ F=>ig (k:=1) F hb c_common_divisor
 have c_weight_of:Cal l.prog w K mg base 7 "weight_of" cR:=h38.cal (ps:=["ladder","way"]) X G (λ_ _ _ _ _ _=>Hy.bd2 λ_ _=>rfl) λ_ F=>i4 (k:=6) F hb y_ONE c_look_ladder (c_is_multiplied.mono (by decide)) (c_product_of.mono (by decide))
 have c_l_plus:Cal l.prog w K mg base 3 "_law_plus" fY:=h39.cal (ps:=["_law_one","_law_other"]) X G (λ_ _ _ _ _ _=>Hy.bd2 λ_ _=>rfl) λ_ F=>mQ (k:=2) F hb c_l_made
 have c_l_goes:Cal l.prog w K mg base 1 "_law_goes" gz:=h40.cal (ps:=["_law_step","_law_track"]) X G (λ_ _ _ _ _ _=>Hy.bd2 λ_ _=>rfl) λ_ F=>mR (k:=0) F hb
 have c_l_whole:Cal l.prog w K mg base 1 "_law_whole" dk:=h41.cal (ps:=["_law_thing"]) X G (λ_ _ _ _ _ _=>Hy.bd1 λ_=>rfl) λ_ F=>kD (k:=0) F hb
 have c_l_is_way:Cal l.prog w K mg base 2 "_law_is_way" dR:=h42.cal (ps:=["_law_ladder_here","_law_way","_law_i","_law_j"]) X G (λ_ _ _ _ _ _=>Hy.bd4 λ_ _ _ _=>rfl) λ_ F=>j3 (k:=1) F hb c_l_goes c_l_whole
 have c_l_is_number:Cal l.prog w K mg base 2 "_law_is_number" bx:=h43.cal (ps:=["_law_found","_law_top","_law_bottom"]) X G (λ_ _ _ _ _ _=>Hy.bd3 λ_ _ _=>rfl) λ_ F=>gJ (k:=1) F hb c_l_whole c_l_divisor
 have c_l_sum:Cal l.prog w K mg base 8 "_law_sum" jc:=h44.cal (ps:=["_law_ladder_here","_law_i","_law_j"]) X G (λ_ _ _ _ _ _=>Hy.bd3 λ_ _ _=>rfl) λ_ F=>pq (k:=7) F hb c_ways c_weight_of (c_l_plus.mono (by decide)) (c_l_is_way.mono (by decide)) (c_l_is_number.mono (by decide))
 exact sO (k:=8) (kQ l0 c r) hb (c_l_drawn.mono (by decide)) (c_table_of.mono (by decide)) c_l_sum (c_l_is_number.mono (by decide)) (c_l_cell.mono (by decide))
theorem walk {l:PySem.W.OpenLaw} {q:Program} {loose:List Str} {XP:(Str->Option Value)->Heap->Prop} {YP:World->Heap->Prop} {d:DefRec} {K:Params->PySem.W.Frag} (hn:l.most=some 63) (hdf:d.params.defaults=[])
   (hY:∀ (w:World) (h:Heap),YP w h->(K w.params).In h)
   (F:∀ (w:World) (mg:Str->Option Value) (fa:Addr) (h:Heap),(K w.params).In h->h.Ns mainGlobals mg->mg d.name=some (.ref fa) ->
     ∃ fd:FuncData,(∀ (s:Shared) (u:Value),BindsTo s fd ⟨[u],[]⟩ [("_law_script",u)])/\∀ base:Heap,(K w.params).In base->base.Ns mainGlobals mg->aL l.prog w (K w.params) mg base CX0 9 fa fd ["_law_script"] (spD (K w.params) ma)) :
   PySem.W.WalkO q loose XP YP l.row.toRowW d [] (λf vs=>PySem.call f vs):=
 L2.qh (n:=63) (k:=9) (x:="_law_script") (CX:=λ_=>CX0) (sp:=λw=>spD (K w.params) ma) hn (by decide) hdf ⟨rfl,by decide,by decide⟩ hY F
   (λw H a ns hl _ hS=>qK (λns h=>⟨ns,h,rfl,rfl⟩) H a ns hl hS) λ_ _ _ _ _ z=>z
end K22
open PySem PySem.W PyProof.Rows
namespace PySem.W.Fast
theorem tw3293341620879723883:True:=⟨⟩
theorem tw13446704622809450109:True:=⟨⟩
theorem tw12025972620372856223:True:=⟨⟩
theorem tw7486962056270273876:True:=⟨⟩
theorem tw6437210917453486821:True:=⟨⟩
theorem tw7239234907213522220:True:=⟨⟩
theorem tw4324994513894516054:True:=⟨⟩
theorem tw2773353299201590764:True:=⟨⟩
theorem tw11814202399773428259:True:=⟨⟩
theorem tw17224098287669185235:True:=⟨⟩
theorem tw10286024160708279986:True:=⟨⟩
theorem tw1170541216633016371:True:=⟨⟩
theorem tw14721234404152918900:True:=⟨⟩
theorem tw454513398157765117:True:=⟨⟩
theorem tw10513461225312079169:True:=⟨⟩
theorem tw3549828677412810799:True:=⟨⟩
theorem tw14729968133630371688:True:=⟨⟩
theorem tw9616533744410433670:True:=⟨⟩
theorem tw4740086664799637087:True:=⟨⟩
theorem tw9421268583769965771:True:=⟨⟩
theorem tw7147357830018542219:True:=⟨⟩
theorem tw1777695781237197632:True:=⟨⟩
theorem tw6790726393487304446:True:=⟨⟩
theorem tw4485242105710669909:True:=⟨⟩
theorem tw5137780739512898276:True:=⟨⟩
theorem tw15397583096987104252:True:=⟨⟩
theorem tw1775884062360799488:True:=⟨⟩
theorem tw4681872678134238188:True:=⟨⟩
theorem tw12950705158420629698:True:=⟨⟩
theorem tw11656409925512858030:True:=⟨⟩
theorem tw15901309729293507817:True:=⟨⟩
theorem tw12783514640868779444:True:=⟨⟩
theorem tw17908975711059945816:True:=⟨⟩
theorem tw12258204964094723517:True:=⟨⟩
theorem tw6659053967290999205:True:=⟨⟩
theorem tw2547776109076704707:True:=⟨⟩
theorem tw4507065953986093087:True:=⟨⟩
theorem tw6631629012807327057:True:=⟨⟩
theorem tw4911492724796359049:True:=⟨⟩
theorem tw841500040626516768:True:=⟨⟩
theorem tw8759460431942849581:True:=⟨⟩
theorem tw5503287178185323828:True:=⟨⟩
theorem tw13448527454539997009:True:=⟨⟩
theorem tw7525266668985736977:True:=⟨⟩
theorem tw4496664713617777339:True:=⟨⟩
theorem tw4237683551781784777:True:=⟨⟩
theorem tw16143190742922599738:True:=⟨⟩
theorem tw8284127267095238465:True:=⟨⟩
theorem tw12505885721276311197:True:=⟨⟩
theorem tw14061228116590466982:True:=⟨⟩
theorem tw771000895916001457:True:=⟨⟩
theorem tw8791377820030335527:True:=⟨⟩
theorem tw4613570908336980421:True:=⟨⟩
theorem tw6183104324553144415:True:=⟨⟩
theorem tw18218707844447580275:True:=⟨⟩
theorem tw15760694332407669361:True:=⟨⟩
theorem tw14781524455116161876:True:=⟨⟩
theorem tw14982021457363540946:True:=⟨⟩
theorem tw5639596723320744809:True:=⟨⟩
end PySem.W.Fast
set_option maxRecDepth 100000 in
set_option maxHeartbeats 0 in
theorem PySem.Challenge.cw_signsmooth_k22_whole_sum_of_ways_holds : PySem.Challenge.rw_signsmooth_k22_whole_sum_of_ways.Holds := by
 w_on; o_law; k_head; (case hw=>w_witness2)
 k_fill
 refine K22.walk (l:=PySem.Challenge.rw_signsmooth_k22_whole_sum_of_ways) rfl rfl (λw h Y=>PySem.W.kIn_of Y) ?F
 case F=>
   intro w mg fa h KX G hmg
   refine' K22.all_mk KX G hmg (.of ?_ ?_ ?_ ?_) (.of ?_ ?_ ?_ ?_) (.of ?_ ?_ ?_ ?_) (.of ?_ ?_ ?_ ?_) (.of ?_ ?_ ?_ ?_) (.of ?_ ?_ ?_ ?_) (.of ?_ ?_ ?_ ?_) (.of ?_ ?_ ?_ ?_) (.of ?_ ?_ ?_ ?_) (.of ?_ ?_ ?_ ?_) (.of ?_ ?_ ?_ ?_) (.of ?_ ?_ ?_ ?_) (.of ?_ ?_ ?_ ?_) (.of ?_ ?_ ?_ ?_) (.of ?_ ?_ ?_ ?_) (.of ?_ ?_ ?_ ?_) (.of ?_ ?_ ?_ ?_) (.of ?_ ?_ ?_ ?_) (.of ?_ ?_ ?_ ?_) (.of ?_ ?_ ?_ ?_) (.of ?_ ?_ ?_ ?_) (.of ?_ ?_ ?_ ?_) (.of ?_ ?_ ?_ ?_) (.of ?_ ?_ ?_ ?_ ?_) (.of ?_ ?_ ?_ ?_) (.of ?_ ?_ ?_ ?_) (.of ?_ ?_ ?_ ?_) (.of ?_ ?_ ?_ ?_) (.of ?_ ?_ ?_ ?_) (.of ?_ ?_ ?_ ?_) (.of ?_ ?_ ?_ ?_) (.of ?_ ?_ ?_ ?_) (.of ?_ ?_ ?_ ?_) (.of ?_ ?_ ?_ ?_) (.of ?_ ?_ ?_ ?_) (.of ?_ ?_ ?_ ?_) (.of ?_ ?_ ?_ ?_) (.of ?_ ?_ ?_ ?_) (.of ?_ ?_ ?_ ?_) (.of ?_ ?_ ?_ ?_) (.of ?_ ?_ ?_ ?_) (.of ?_ ?_ ?_ ?_) (.of ?_ ?_ ?_ ?_) (.of ?_ ?_ ?_ ?_) (.of ?_ ?_ ?_ ?_) (.of ?_ ?_ ?_ ?_) ⟨?_,?_,?_,?_,?_,?_,?_,?_,?_,?_,?_,?_,?_,?_,?_,?_,?_,?_,trivial⟩ ?_ ?_ ?_ ?_ ?_
   all_goals try k_is
#print axioms PySem.Challenge.cw_signsmooth_k22_whole_sum_of_ways_holds
