import PyProof.Rows.All
import Wide.All
import OpenK.AllK
import Wide.FinOn
import Lean
import PyProof.EqAt
import PyProof.EqKinds
import PyProof.TupleCall
import PySem.Challenge.RW_signsmooth_k20_tables_of_ladders
set_option genSizeOf false
set_option bootstrap.genMatcherCode false
set_option Elab.async false
set_option linter.all false
set_option maxRecDepth 100000
set_option exponentiation.threshold 4000
namespace L2
open PySem PySem.Spec PyProof.Rows
noncomputable abbrev Key:=Sum Int Str
noncomputable def nP:Key->Value->Bool
 | .inl k,v=>Value.isInt k v
 | .inr x,v=>Value.isStrOf x v
noncomputable def rq (w:World):Key->Int
 | .inl k=>hashInt k
 | .inr x=>hashStr w x
theorem aQ:∀ {k:Key} {v:Value},nP k v=true->(∃ i t,k=Sum.inl i/\v=Value.int i t)\/(∃ x t,k=Sum.inr x/\v=Value.str x t)
 | .inl i,v,h=>by
   obtain ⟨t,e⟩:=Value.isInt_shape (k:=i) (v:=v) h
   exact .inl ⟨i,t,rfl,e⟩
 | .inr x,v,h=>by
   obtain ⟨t,e⟩:=Value.isStrOf_shape (x:=x) (v:=v) h
   exact .inr ⟨x,t,rfl,e⟩
theorem oW (a b:Int):decide ((Sum.inl a:Key)=Sum.inl b)=(a == b):=by
 by_cases e:a=b
 · subst e; simp
 · have h:¬ (Sum.inl a:Key)=Sum.inl b:=λq=>e (Sum.inl.inj q)
   rw [decide_eq_false h]
   exact (beq_eq_false_iff_ne.mpr e).symm
theorem ow (a b:Str):decide ((Sum.inr a:Key)=Sum.inr b)=decide (a=b):=by
 by_cases e:a=b
 · subst e; simp
 · have h:¬ (Sum.inr a:Key)=Sum.inr b:=λq=>e (Sum.inr.inj q)
   rw [decide_eq_false h,decide_eq_false e]
theorem ox (a:Int) (b:Str):decide ((Sum.inl a:Key)=Sum.inr b)=false:=decide_eq_false (λq=>nomatch q)
theorem pE (a:Str) (b:Int):decide ((Sum.inr a:Key)=Sum.inl b)=false:=decide_eq_false (λq=>nomatch q)
noncomputable def kb (prog:Program) (w:World):PySem.KeyKind prog w Key where
 is:=nP
 hash:=rq w
 inj:=λv a b ha hb=>by
   rcases aQ ha with ⟨i,t,rfl,rfl⟩ | ⟨x,t,rfl,rfl⟩
   · rcases aQ hb with ⟨j,u,rfl,e⟩ | ⟨y,u,rfl,e⟩
     · injection e with e1 _; rw [e1]
     · exact nomatch e
   · rcases aQ hb with ⟨j,u,rfl,e⟩ | ⟨y,u,rfl,e⟩
     · exact nomatch e
     · injection e with e1 _; rw [e1]
 byValue:=λk v h=>by
   rcases aQ h with ⟨i,t,rfl,rfl⟩ | ⟨x,t,rfl,rfl⟩ <;> rfl
 pyHash:=λhv h=>by
   rcases aQ hv with ⟨i,t,rfl,rfl⟩ | ⟨x,t,rfl,rfl⟩
   · exact wpAny_pyHash_int h
   · exact wpAny_pyHash_str h
 eqBool:=λhu hv h=>by
   rcases aQ hu with ⟨i,t,rfl,rfl⟩ | ⟨x,t,rfl,rfl⟩
   · rcases aQ hv with ⟨j,u,rfl,rfl⟩ | ⟨y,u,rfl,rfl⟩
     · rw [oW] at h; exact wpAny_eqBool_int h
     · rw [ox] at h; exact SeqAt.EqAt.int_str i t y u _ _ _ _ h
   · rcases aQ hv with ⟨j,u,rfl,rfl⟩ | ⟨y,u,rfl,rfl⟩
     · rw [pE] at h; exact SeqAt.EqAt.str_int x t j u _ _ _ _ h
     · rw [ow] at h; exact wpAny_eqBool_str h
 «strs»:=λk x t v h=>by
   rcases aQ h with ⟨i,u,rfl,e⟩ | ⟨y,u,rfl,e⟩
   · exact nomatch e
   · injection e with e1 _
     subst e1
     cases v <;> rfl
end L2
namespace L2
open PySem PySem.Spec PyProof.Rows
inductive V where
 | non | bl (b:Bool) | int (i:Int) | str (x:Str) | byt (b:Array UInt8) | flt (b:UInt64) | ref (a:Addr) | ty (n:String)
 deriving DecidableEq
noncomputable def RelV:V->Value->Prop
 | .non,u=>u=Value.none
 | .bl b,u=>u=Value.bool b
 | .int i,u=>∃ t,u=Value.int i t
 | .str x,u=>∃ t,u=Value.str x t
 | .byt b,u=>∃ t,u=Value.bytes b t
 | .flt b,u=>∃ t,u=Value.float b t
 | .ref a,u=>u=Value.ref a
 | .ty n,u=>u=Value.type n
noncomputable abbrev Vals:List V->List Value->Prop:=Paired RelV
theorem Vals.length {xs:List V} {us:List Value} (r:Vals xs us):xs.length=us.length:=Paired.length r
theorem Vals.get:∀ {xs:List V} {us:List Value} {i:Nat} {x:V},Vals xs us->xs[i]?=some x->∃ u,us[i]?=some u/\RelV x u
 | _,_,_,_,.nil,e=>by simp at e
 | _,_,0,_,.cons r _,e=>by simp at e; subst e; exact ⟨_,rfl,r⟩
 | _,_,i + 1,x,.cons _ t,e=>by
   obtain ⟨u,h1,h2⟩:=Vals.get (i:=i) (x:=x) t (by simpa using e)
   exact ⟨u,by simpa using h1,h2⟩
theorem Vals.set {x:V} {u:Value} (r:RelV x u):∀ {xs:List V} {us:List Value} (i:Nat),Vals xs us->Vals (xs.set i x) (us.set i u)
 | _,_,_,.nil=>.nil
 | _,_,0,.cons _ t=>.cons r t
 | _,_,i + 1,.cons q t=>.cons q (Vals.set r i t)
theorem Vals.append:∀ {xs ys:List V} {us ws:List Value},Vals xs us->Vals ys ws->Vals (xs++ys) (us++ws)
 | _,_,_,_,.nil,s=>s
 | _,_,_,_,.cons r t,s=>.cons r (Vals.append t s)
theorem Vals.take:∀ {xs:List V} {us:List Value} (n:Nat),Vals xs us->Vals (xs.take n) (us.take n)
 | _,_,0,_=>.nil
 | _,_,_ + 1,.nil=>.nil
 | _,_,n + 1,.cons r t=>.cons r (Vals.take n t)
theorem Vals.drop:∀ {xs:List V} {us:List Value} (n:Nat),Vals xs us->Vals (xs.drop n) (us.drop n)
 | _,_,0,r=>r
 | _,_,_ + 1,.nil=>.nil
 | _,_,n + 1,.cons _ t=>Vals.drop n t
noncomputable def mU:Option V->Option Value->Prop
 | some v,some u=>RelV v u
 | none,none=>True
 | _,_=>False
noncomputable def KV {κ:Type}:List (κ × V)->List (κ × Value)->Prop:=Paired λ(p:κ × V) (q:κ × Value)=>p.1=q.1/\RelV p.2 q.2
noncomputable def kV:Key->V
 | .inl i=>.int i
 | .inr x=>.str x
inductive HO where
 | lst (xs:List V)
 | tup (xs:List V)
 | dK (kvs:List (Key × V)) | dT (kvs:List (List Key × V))
 | set (S:Int->Bool) (n:Nat)
 | ins (C dx:Addr) (fs:List (Str × V))
 | own (x:Addr)
 | xd (fs:List (Str × V))
 | met (f x:Addr)
 | rng (lo hi:Int)
 | frz (o:Obj) (u:HO)
 | tbl (ps:Array Value)
 | ext (φ:Heap->Prop)
noncomputable abbrev Hp:=Addr->Option HO
noncomputable def upd (H:Hp) (a:Addr) (o:HO):Hp:=λb=>if b=a then some o else H b
theorem aF {H:Hp} {a:Addr} {o:HO}:upd H a o a=some o:=by unfold upd; rw [if_pos rfl]
theorem ao {H:Hp} {a b:Addr} {o:HO} (h:b ≠ a):upd H a o b=H b:=by unfold upd; rw [if_neg h]
theorem aB {H:Hp} {a b:Addr} {o:HO} (h:H a=some o) (h':H b=none):a ≠ b:=by
 intro e; subst e; rw [h] at h'; cases h'
section
variable (P:Program) (w:World)
noncomputable def b7 (H:Hp) (h:Heap) (a:Addr):HO->Prop
 | .lst xs=>xs.length<=sizeLine/\∃ (its:List Value) (n:Nat),Vals xs its/\h.get? a=some { cls:=.type "list",data:=.seq its.toArray n }
 | .tup xs=>xs.length<=sizeLine/\∃ its:List Value,Vals xs its/\IsTup h a its.toArray
 | .dK kvs=>kvs.length<=sizeLine/\(a == sysModules)=false/\∃ vs,KV kvs vs/\h.DictOf (kb P w) a vs
 | .dT kvs=>kvs.length<=sizeLine/\(a == sysModules)=false/\∃ xs:List (List Key × Addr × Value),
     Paired (λ(p:List Key × V) (q:List Key × Addr × Value)=>p.1=q.1/\H q.2.1=some (.tup (p.1.map kV))/\RelV p.2 q.2.2) kvs xs /\
     ∃ o es ep,h.get? a=some o/\o.ExactDict/\o.data=.dict es ep/\es.toList=xs.map (entryOfKey (tupleKind (kb P w)))/\(xs.map (·.1)).Nodup
 | .set S n=>h.SetOf (intKind P w) a S n
 | .ins C dx fs=>H dx=some (.own a)/\fs.length<=1000/\dx ≠ a/\h.get? a=some (PySem.W.instObj C dx) /\
     ∃ mA,h.Ns1 dx mA/\(∀ f,mU (fs.lookup f) (mA f))/\PySem.Within mA (fs.map (·.1))
 | .own _=>∃ o,h.get? a=some o
 | .xd fs=>∃ mA,h.Ns1 a mA/\∀ f,mU (fs.lookup f) (mA f)
 | .rng lo hi=>∃ t u v,h.get? a=some { cls:=.type "range",data:=.fields #[.int lo t,.int hi u,.int 1 v] }
 | .frz o u=>h.get? a=some o/\b7 H h a u
 | .tbl ps=>h.get? a=some { cls:=.none,data:=.fields ps }
 | .met f x=>h.get? a=some (PySem.W.methodObj (.ref f) (.ref x))
 | .ext φ=>φ h/\(∃ o,h.get? a=some o)/\∀ h1 h2:Heap,φ h1->(∀ o,h1.get? a=some o->h2.get? a=some o)->φ h2
noncomputable def HOk (H:Hp) (h:Heap):Prop:=∀ a o,H a=some o->b7 P w H h a o
end
section
variable {P:Program} {w:World} {H H':Hp} {h h':Heap} {a:Addr} {o:HO}
theorem b7.lt (x:b7 P w H h a o):a < h.objs.size:=by
 cases o with
 | lst xs=>obtain ⟨_,_,_,_,e⟩:=x; exact Heap.lt_size e
 | tup xs=>obtain ⟨_,_,_,p⟩:=x; exact p.lt
 | dK kvs=>obtain ⟨_,_,_,_,o,_,_,e,_⟩:=x; exact Heap.lt_size e
 | dT kvs=>obtain ⟨_,_,_,_,o,_,_,e,_⟩:=x; exact Heap.lt_size e
 | set S n=>obtain ⟨o,_,_,_,e,_⟩:=x; exact Heap.lt_size e
 | ins C dx fs=>obtain ⟨_,_,_,e,_⟩:=x; exact Heap.lt_size e
 | own y=>obtain ⟨_,e⟩:=x; exact Heap.lt_size e
 | xd fs=>obtain ⟨_,⟨_,_,_,e,_⟩,_⟩:=x; exact Heap.lt_size e
 | rng lo hi=>obtain ⟨_,_,_,e⟩:=x; exact Heap.lt_size e
 | frz ob u=>obtain ⟨e,_⟩:=x; exact Heap.lt_size e
 | tbl ps=>exact Heap.lt_size (show h.get? a=some _ from x)
 | met f y=>exact Heap.lt_size (show h.get? a=some _ from x)
 | ext φ=>obtain ⟨_,⟨_,e⟩,_⟩:=x; exact Heap.lt_size e
theorem Paired.qH {α β:Type} {F G:α->β->Prop}:∀ {l₁:List α} {l₂:List β},Paired F l₁ l₂->(∀ a b,F a b->G a b)->Paired G l₁ l₂
 | _,_,.nil,_=>.nil
 | _,_,.cons r t,f=>.cons (f _ _ r) (Paired.qH t f)
theorem b7.fD (x:b7 P w H h a o) (k:∀ b u,(b=a\/H b=some (.own a))->h.get? b=some u->h'.get? b=some u)
   (ho:∀ b,H b=some (.own a)->H' b=some (.own a)) (ht:∀ b xs,H b=some (.tup xs)->H' b=some (.tup xs)):b7 P w H' h' a o:=by
 induction o with
 | lst xs=>obtain ⟨z,its,n,r,e⟩:=x; exact ⟨z,its,n,r,k _ _ (.inl rfl) e⟩
 | tup xs=>obtain ⟨z,its,r,ob,e,c⟩:=x; exact ⟨z,its,r,ob,k _ _ (.inl rfl) e,c⟩
 | dK kvs=>obtain ⟨z,y,vs,r,ob,es,ep,e,c⟩:=x; exact ⟨z,y,vs,r,ob,es,ep,k _ _ (.inl rfl) e,c⟩
 | dT kvs=>
   obtain ⟨z,y,xs,r,ob,es,ep,e,c⟩:=x
   exact ⟨z,y,xs,Paired.qH r λp q z=>⟨z.1,ht _ _ z.2.1,z.2.2⟩,ob,es,ep,k _ _ (.inl rfl) e,c⟩
 | set S n=>obtain ⟨ob,es,ep,t,e,c⟩:=x; exact ⟨ob,es,ep,t,k _ _ (.inl rfl) e,c⟩
 | ins C dx fs=>
   obtain ⟨d,z,ne,e,mA,⟨od,es,ep,e2,c⟩,r⟩:=x
   exact ⟨ho _ d,z,ne,k _ _ (.inl rfl) e,mA,⟨od,es,ep,k _ _ (.inr d) e2,c⟩,r⟩
 | own y=>obtain ⟨ob,e⟩:=x; exact ⟨ob,k _ _ (.inl rfl) e⟩
 | xd fs=>obtain ⟨mA,⟨od,es,ep,e,c⟩,r⟩:=x; exact ⟨mA,⟨od,es,ep,k _ _ (.inl rfl) e,c⟩,r⟩
 | rng lo hi=>obtain ⟨t,u,v,e⟩:=x; exact ⟨t,u,v,k _ _ (.inl rfl) e⟩
 | frz ob u ih=>obtain ⟨e,q⟩:=x; exact ⟨k _ _ (.inl rfl) e,ih q⟩
 | tbl ps=>
   have e:h.get? a=some { cls:=.none,data:=.fields ps }:=x
   show h'.get? a=some { cls:=.none,data:=.fields ps }
   exact k a _ (.inl rfl) e
 | met f y=>
   have e:h.get? a=some (PySem.W.methodObj (.ref f) (.ref y)):=x
   show h'.get? a=some (PySem.W.methodObj (.ref f) (.ref y))
   exact k a _ (.inl rfl) e
 | ext φ=>obtain ⟨p,⟨o,e⟩,st⟩:=x; exact ⟨st _ _ p λo q=>k _ _ (.inl rfl) q,⟨o,k _ _ (.inl rfl) e⟩,st⟩
theorem HOk.lt (x:HOk P w H h) (e:H a=some o):a < h.objs.size:=(x a o e).lt
theorem HOk.fresh (x:HOk P w H h) (e:h.objs.size<=a):H a=none:=by
 cases q:H a with
 | none=>rfl
 | some u=>exact absurd (Nat.lt_of_lt_of_le (x.lt q) e) (Nat.lt_irrefl _)
theorem HOk.kept (x:HOk P w H h) (k:∀ b u,h.get? b=some u->h'.get? b=some u):HOk P w H h':=λa o e=>
 (x a o e).fD (λb u _ q=>k b u q) (λ_ q=>q) λ_ _ q=>q
theorem HOk.laid (x:HOk P w H h) (k:∀ b u,h.get? b=some u->h'.get? b=some u) (hp:h.objs.size<=a) (new:b7 P w (upd H a o) h' a o):HOk P w (upd H a o) h':=λb u e=>by
 have hn:=x.fresh hp
 by_cases hb:b=a
 · subst hb; rw [aF] at e; cases e; exact new
 · rw [ao hb] at e
   exact (x b u e).fD (λc v _ q=>k c v q) (λc q=>by rw [ao (aB q hn)]; exact q) λc xs q=>by rw [ao (aB q hn)]; exact q
end
noncomputable def Rd (H:Hp) (a:Addr) (u:HO):Prop:=H a=some u\/∃ o,H a=some (.frz o u)
theorem Rd.ok {P:Program} {w:World} {H:Hp} {h:Heap} {a:Addr} {u:HO} (r:Rd H a u) (x:HOk P w H h):b7 P w H h a u:=by
 rcases r with r | ⟨o,r⟩
 · exact x a u r
 · obtain ⟨_,q⟩:=x a _ r
   exact q
noncomputable def Mut:Option HO->Prop
 | some (.lst _)=>True
 | some (.dK _)=>True
 | some (.dT _)=>True
 | some (.set _ _)=>True
 | some (.ins _ _ _)=>True
 | some (.ext _)=>True
 | _=>False
section
variable {P:Program} {w:World} {H:Hp} {h h':Heap} {x e:Addr} {o':HO}
theorem HOk.write (ok:HOk P w H h) (mu:Mut (H x)) (he:e=x\/H e=some (.own x)) (k:∀ b u,b ≠ e->h.get? b=some u->h'.get? b=some u) (heo:∃ u,h'.get? e=some u)
   (new:b7 P w (upd H x o') h' x o'):HOk P w (upd H x o') h':=λb u q=>by
 have nown:∀ c y,H c=some (.own y)->c ≠ x:=λc y r z=>by subst z; rw [r] at mu; exact mu
 have ntup:∀ c xs,H c=some (.tup xs)->c ≠ x:=λc xs r z=>by subst z; rw [r] at mu; exact mu
 by_cases hb:b=x
 · subst hb; rw [aF] at q; cases q; exact new
 · rw [ao hb] at q
   by_cases hbe:b=e
   · have q':H b=some (.own x):=by
       rcases he with z | z
       · exact absurd (hbe.trans z) hb
       · rw [hbe]; exact z
     rw [q] at q'; cases q'
     obtain ⟨v,hv⟩:=heo
     exact ⟨v,by rw [hbe]; exact hv⟩
   · refine (ok b u q).fD (λc v hc r=>k c v ?_ r) (λc r=>by rw [ao (nown c b r)]; exact r) λc xs r=>by rw [ao (ntup c xs r)]; exact r
     rcases hc with rfl | hc
     · exact hbe
     · rintro rfl
       rcases he with z | z
       · exact nown c b hc z
       · rw [hc] at z; cases z; exact hb rfl
end
structure Un (fs ex:List Addr) (H H':Hp) (h h':Heap):Prop where
 keep:∀ b o,h.get? b=some o->H b=none->b ∉ fs->b ∉ ex->h'.get? b=some o
 slot:∀ b o,h.get? b=some o->H b=none->b ∈ fs->b ∉ ex->∃ sl,h'.get? b=some { o with slots:=sl }
 free:∀ b o,h.get? b=some o->H b=none->b ∉ ex->H' b=none
 there:∀ b o,h.get? b=some o->b ∉ ex->∃ o',h'.get? b=some o'
 tups:∀ b xs,H b=some (.tup xs)->H' b=some (.tup xs)
 frzs:∀ b o u,H b=some (.frz o u)->H' b=some (.frz o u)
 tbls:∀ b ps,H b=some (.tbl ps)->∃ more,H' b=some (.tbl (ps++more))
section
variable {fs fs' ex ex':List Addr} {H H1 H2:Hp} {h h1 h2 h':Heap} {a x e:Addr} {o:HO}
theorem Un.any (u:Un fs ex H H1 h h1) {b:Addr} {ob:Obj} (q:h.get? b=some ob) (n:H b=none) (hx:b ∉ ex):∃ sl,h1.get? b=some { ob with slots:=sl }:=by
 by_cases hb:b ∈ fs
 · exact u.slot b ob q n hb hx
 · exact ⟨ob.slots,u.keep b ob q n hb hx⟩
theorem Un.kept (k:∀ b u,h.get? b=some u->h'.get? b=some u):Un fs ex H H h h':=
 ⟨λb ob q _ _ _=>k b ob q,λb ob q _ _ _=>⟨ob.slots,k b ob q⟩,λ_ _ _ n _=>n,λb ob q _=>⟨ob,k b ob q⟩,λ_ _ q=>q,λ_ _ _ q=>q,λ_ ps q=>⟨#[],by rw [q]; simp⟩⟩
theorem Un.refl:Un fs ex H H h h:=Un.kept λ_ _ q=>q
theorem Un.laid (k:∀ b u,h.get? b=some u->h'.get? b=some u) (hp:h.objs.size<=a) (hn:H a=none):Un fs ex H (upd H a o) h h' where
 keep:=λb u q _ _ _=>k b u q
 slot:=λb u q _ _ _=>⟨u.slots,k b u q⟩
 free:=λb u q n _=>by rw [ao (Nat.ne_of_lt (Nat.lt_of_lt_of_le (Heap.lt_size q) hp))]; exact n
 there:=λb u q _=>⟨u,k b u q⟩
 tups:=λb xs q=>by rw [ao (aB q hn)]; exact q
 frzs:=λb u xs q=>by rw [ao (aB q hn)]; exact q
 tbls:=λb ps q=>⟨#[],by rw [ao (aB q hn),q]; simp⟩
theorem Un.write (mu:Mut (H x)) (he:e=x\/H e=some (.own x)) (k:∀ b u,b ≠ e->h.get? b=some u->h'.get? b=some u) (heo:∃ u,h'.get? e=some u):Un fs ex H (upd H x o) h h':=by
 have hx:∀ b,H b=none->b ≠ x:=λb n z=>by subst z; rw [n] at mu; exact mu
 have hb:∀ b,H b=none->b ≠ e:=λb n z=>by
   subst z
   rcases he with r | r
   · exact hx b n r
   · rw [n] at r; cases r
 have hm:∀ b u,H b=some u->¬ Mut (some u)->b ≠ x:=λb u q nm z=>by subst z; rw [q] at mu; exact nm mu
 refine ⟨λb u q n _ _=>k b u (hb b n) q,λb u q n _ _=>⟨u.slots,k b u (hb b n) q⟩,λb u q n _=>by rw [ao (hx b n)]; exact n,λb u q _=>?_,
   λb xs q=>by rw [ao (hm b _ q λz=>z)]; exact q,λb u xs q=>by rw [ao (hm b _ q λz=>z)]; exact q,λb ps q=>⟨#[],by rw [ao (hm b _ q λz=>z),q]; simp⟩⟩
 by_cases hbe:b=e
 · subst hbe; exact heo
 · exact ⟨u,k b u hbe q⟩
end
noncomputable def trk (h:Heap) (H:Hp):List Addr:=(List.range h.objs.size).filter λa=>(H a).isSome
noncomputable def g8 (h:Heap) (H:Hp):Heap:=PySem.W.hideAll h (trk h H)
theorem kP (h:Heap) (H:Hp):(g8 h H).objs.size=h.objs.size:=PySem.W.hideAll_size _ _
theorem lU {h:Heap} {H:Hp} {b:Addr} {o:Obj} (e:h.get? b=some o) (n:H b=none):(g8 h H).get? b=some o:=
 PySem.W.hideAll_get _ e λhm=>by
   have q:(H b).isSome=true:=(List.mem_filter.mp hm).2
   rw [n] at q; simp at q
theorem nr {h:Heap} {H:Hp} {b:Addr} {o:Obj} (e:(g8 h H).get? b=some o):h.get? b=some o/\H b=none:=by
 have e':h.get? b=some o:=PySem.W.of_hideAll (trk h H) e
 refine ⟨e',?_⟩
 cases q:H b with
 | none=>rfl
 | some x=>
   have hm:b ∈ trk h H:=List.mem_filter.mpr ⟨List.mem_range.mpr (Heap.lt_size e'),by simp [q]⟩
   have z:(g8 h H).get? b=none:=PySem.W.hideAll_none (trk h H) hm
   rw [z] at e; cases e
noncomputable def mT (g h:Heap) (L:Addr):List (Addr × Obj):=(List.range h.objs.size).filterMap λa=>if a=L\/(g.get? a).isSome=true then none else (h.get? a).map λo=>(a,o)
noncomputable def rest (g h:Heap) (L d:Addr):List (Addr × Obj):=(mT g h L).filter λp=>decide (p.1 ≠ d)
end L2
namespace L2
open PySem PySem.Spec PyProof.Rows
structure Mod (K:PySem.W.Frag) (mg:Str->Option Value) (base:Heap):Prop where
 kin:K.In base
 glob:base.Ns mainGlobals mg
 blt:∃ mb,base.Ns builtinsNs mb/\∀ x:Str,x ≠ "__name__" -> mb x=bootBuiltins x
 nolimit:base.NoLimit
structure Cx where
 prog:Program
 w:World
 K:PySem.W.Frag
 mg:Str->Option Value
 base:Heap
 A:Around
 N:List Str
 s₀:Shared
 H₀:Hp
 env:Env
 outer:List Env
 stack:List Env
 ex:List Addr
 fn:Str->Bool
 calm:Bool
 pn:List (Addr × Obj)
 xe:Value->Shared->Prop
noncomputable def frs (l:List Env):List Addr:=l.filterMap (·.frame)
noncomputable abbrev Cx.fs (X:Cx):List Addr:=frs X.outer
noncomputable def Vis (sc:Scope) (x:Str):Prop:=sc.names.lookup x=some .local\/sc.names.lookup x=some .cell\/sc.names.lookup x=some .free
noncomputable def Loc (sc:Scope) (x:Str):Prop:=sc.names.lookup x=some .local\/sc.names.lookup x=some .cell
noncomputable def Look (env:Env) (h:Heap) (m:Str->Option Value) (x:Str) (u:Value):Prop:=
 (env.kindOf x=some .local/\m x=some u)\/((env.kindOf x=some .cell\/env.kindOf x=some .free)/\∃ c,env.cells.lookup x=some c/\h.IsCell c (some u))
structure Cx.Ok (X:Cx):Prop where
 mod:Mod X.K X.mg X.base
 kind:X.env.scope.kind=.function
 glob:X.env.globals=mainGlobals
 blt:X.env.builtins=builtinsNs
 above:X.s₀.heap.objs.size<=X.env.locals
 inj:∀ x y c,X.env.cells.lookup x=some c->X.env.cells.lookup y=some c->x=y
 has:∀ x,(X.env.kindOf x=some .cell\/X.env.kindOf x=some .free)->∃ c,X.env.cells.lookup x=some c
 cab:∀ x c,X.fn x=true->X.env.cells.lookup x=some c->X.s₀.heap.objs.size<=c
 hd:X.calm=true->X.A.handled=none
 frames:X.A.frames=some X.stack
 stk:X.stack=X.outer\/(X.stack=X.env :: X.outer/\X.env.frame=some X.env.locals)
 exf:∀ b ∈ X.ex,b ≠ X.env.locals/\∀ x c,X.env.cells.lookup x=some c->c ≠ b
 bs:∀ b o,X.base.get? b=some o->X.s₀.heap.get? b=some o/\X.H₀ b=none
 bsz:X.base.objs.size<=X.s₀.heap.objs.size
 noex:∀ b o,X.base.get? b=some o->b ∉ X.ex
 exfs:∀ b ∈ X.ex,b ∉ X.fs
 ff:X.s₀.heap.FunFrames X.base X.outer
 frf:∀ b ∈ X.fs,X.H₀ b=none
structure Inv (X:Cx) (pins:List (Addr × Obj)) (σ:List (Option V)) (H:Hp) (s:Shared):Prop where
 ok:X.Ok
 os:s.os=X.s₀.os
 bare:AllBare s.gens
 base:Un X.fs X.ex X.H₀ H X.s₀.heap s.heap
 loc:∃ m,s.heap.Ns X.env.locals m/\∀ (i:Nat) (x:Str) (v:V),X.N[i]?=some x->σ[i]?=some (some v)->Vis X.env.scope x->∃ u,RelV v u/\Look X.env s.heap m x u
 cell:∀ x c,X.env.cells.lookup x=some c->∃ v,s.heap.IsCell c v
 free:H X.env.locals=none
 freeC:∀ x c,X.env.cells.lookup x=some c->H c=none
 pin:∀ p ∈ X.pn++pins,s.heap.get? p.1=some p.2/\H p.1=none/\p.1 ≠ X.env.locals/\p.1 ∉ X.fs/\∀ v,p.2.data ≠ .cell v
 hok:HOk X.prog X.w H s.heap
 len:σ.length=X.N.length
section
variable {X:Cx} {pins:List (Addr × Obj)} {σ:List (Option V)} {H H':Hp} {s:Shared} {h':Heap}
theorem Cx.Ok.rh (ok:X.Ok) {b:Addr} {o:Obj} (e:X.base.get? b=some o):b ∉ X.fs:=λhb=>by
 have:=(ok.ff.mem hb).1
 rw [e] at this; cases this
theorem Inv.bs (I:Inv X pins σ H s):∀ b o,X.base.get? b=some o->s.heap.get? b=some o/\H b=none:=λb o e=>
 ⟨I.base.keep b o (I.ok.bs b o e).1 (I.ok.bs b o e).2 (I.ok.rh e) (I.ok.noex b o e),I.base.free b o (I.ok.bs b o e).1 (I.ok.bs b o e).2 (I.ok.noex b o e)⟩
theorem Inv.bk (I:Inv X pins σ H s):∀ b o,X.base.get? b=some o->s.heap.get? b=some o:=λb o e=>(I.bs b o e).1
theorem Inv.mod (I:Inv X pins σ H s):Mod X.K X.mg X.base:=I.ok.mod
theorem Inv.kIn (I:Inv X pins σ H s):X.K.In s.heap:=I.ok.mod.kin.keeps I.bk
theorem Inv.lt (I:Inv X pins σ H s):X.env.locals < s.heap.objs.size:=let ⟨_,hn,_⟩:=I.loc; hn.lt
theorem Inv.sz (I:Inv X pins σ H s):X.s₀.heap.objs.size<=s.heap.objs.size:=Nat.le_trans I.ok.above (Nat.le_of_lt I.lt)
theorem Inv.ra (I:Inv X pins σ H s) {a:Addr} (h:s.heap.objs.size<=a):a ∉ X.fs:=λhb=>by
 obtain ⟨_,o,ho,_⟩:=I.ok.ff.mem hb
 exact absurd (Nat.lt_of_lt_of_le (Heap.lt_size ho) (Nat.le_trans I.sz h)) (Nat.lt_irrefl _)
theorem Inv.cne (I:Inv X pins σ H s):∀ x c,X.env.cells.lookup x=some c->c ≠ X.env.locals:=λx c e z=>by
 obtain ⟨v,o,ho,hd⟩:=I.cell x c e
 obtain ⟨m,⟨o',es,ep,ho',hd',_⟩,_⟩:=I.loc
 rw [z,ho'] at ho; cases ho; rw [hd'] at hd; cases hd
theorem Inv.ff (I:Inv X pins σ H s):s.heap.FunFrames X.base X.outer:=by
 have all:∀ (l:List Env),(∀ b ∈ frs l,b ∈ X.fs)->X.s₀.heap.FunFrames X.base l->s.heap.FunFrames X.base l:=by
   intro l
   induction l with
   | nil=>intro _ _; trivial
   | cons env r ih=>
     intro hs hl
     obtain ⟨hk,⟨L,o,hf,hn,ho,hd⟩,hr⟩:=hl
     have hL:L ∈ X.fs:=hs L (by unfold frs; rw [List.filterMap_cons,hf]; exact List.mem_cons_self)
     obtain ⟨sl,e⟩:=I.base.slot L o ho (I.ok.frf L hL) hL λz=>I.ok.exfs L z hL
     exact ⟨hk,⟨L,_,hf,hn,e,hd⟩,ih (λb hb=>hs b (by unfold frs; rw [List.filterMap_cons,hf]; exact List.mem_cons_of_mem _ hb)) hr⟩
 exact all X.outer (λ_ hb=>hb) I.ok.ff
theorem Inv.stack (I:Inv X pins σ H s):s.heap.FunFrames X.base X.stack:=by
 rcases I.ok.stk with e | ⟨e,hf⟩
 · rw [e]; exact I.ff
 · rw [e]
   obtain ⟨m,hn,_⟩:=I.loc
   refine .cons (by rw [I.ok.kind]; decide) hf hn ?_ I.ff
   exact Heap.get?_none_of_le (Nat.le_trans I.ok.bsz I.ok.above)
theorem Inv.jj (I:Inv X pins σ H s):∀ b ∈ frs X.stack,b ∈ X.env.locals :: X.fs:=λb hb=>by
 rcases I.ok.stk with e | ⟨e,hf⟩
 · rw [e] at hb; exact List.mem_cons_of_mem _ hb
 · rw [e] at hb
   unfold frs at hb
   rw [List.filterMap_cons,hf] at hb
   exact hb
theorem Inv.j1 (I:Inv X pins σ H s):∀ b ∈ frs X.stack,H b=none:=λb hb=>by
 rcases List.mem_cons.mp (I.jj b hb) with e | hb
 · rw [e]; exact I.free
 · obtain ⟨_,o,ho,_⟩:=I.ok.ff.mem hb
   exact I.base.free b o ho (I.ok.frf b hb) λz=>I.ok.exfs b z hb
theorem Inv.step {g':Array GenState} {t':Nat} {d':Drawn} {ch:List Addr} (I:Inv X pins σ H s)
   (hch:∀ b ∈ ch,(b ∈ X.ex\/X.s₀.heap.objs.size<=b)/\b ≠ X.env.locals/\(∀ x c,X.env.cells.lookup x=some c->c ≠ b)/\∀ p ∈ X.pn++pins,p.1 ≠ b)
   (keep:∀ b o,b ≠ X.env.locals->b ∉ X.fs->b ∉ ch->s.heap.get? b=some o->H b=none->h'.get? b=some o)
   (slot:∀ b o,b ≠ X.env.locals->b ∈ X.fs->b ∉ ch->s.heap.get? b=some o->H b=none->∃ sl,h'.get? b=some { o with slots:=sl }) (free:∀ b o,b ∉ ch->s.heap.get? b=some o->H b=none->H' b=none)
   (there:∀ b o,b ∉ ch->s.heap.get? b=some o->∃ o',h'.get? b=some o')
   (tups:∀ b xs,H b=some (.tup xs)->H' b=some (.tup xs)) (frzs:∀ b o u,H b=some (.frz o u)->H' b=some (.frz o u)) (tbls:∀ b ps,H b=some (.tbl ps)->∃ more,H' b=some (.tbl (ps++more)))
   (ns:∀ m,s.heap.Ns X.env.locals m->h'.Ns X.env.locals m) (hok:HOk X.prog X.w H' h') (hg:AllBare g') :
   Inv X pins σ H' { s with heap:=h',gens:=g',drawn:=d',toks:=t' }:=by
 have neL:∀ b o,X.s₀.heap.get? b=some o->b ≠ X.env.locals:=λb o e=>Nat.ne_of_lt (Nat.lt_of_lt_of_le (Heap.lt_size e) I.ok.above)
 have neC:∀ b o,X.s₀.heap.get? b=some o->b ∉ X.ex->b ∉ ch:=λb o e hx hb=>by
   rcases (hch b hb).1 with z | z
   · exact hx z
   · exact absurd (Nat.lt_of_lt_of_le (Heap.lt_size e) z) (Nat.lt_irrefl _)
 have cellK:∀ x c,X.env.cells.lookup x=some c->∀ v,s.heap.IsCell c v->h'.IsCell c v:=λx c e v ⟨o,ho,hd⟩=>by
   have nch:c ∉ ch:=λz=>(hch c z).2.2.1 x c e rfl
   by_cases hc:c ∈ X.fs
   · obtain ⟨sl,q⟩:=slot c o (I.cne x c e) hc nch ho (I.freeC x c e)
     exact ⟨_,q,hd⟩
   · exact ⟨o,keep c o (I.cne x c e) hc nch ho (I.freeC x c e),hd⟩
 refine ⟨I.ok,I.os,hg,⟨λb o e n hb hx=>?_,λb o e n hb hx=>?_,λb o e n hx=>?_,λb o e hx=>?_,λb xs e=>tups b xs (I.base.tups b xs e),λb o xs e=>frzs b o xs (I.base.frzs b o xs e),λb ps e=>?_⟩,?_,λx c e=>?_,?_,λx c e=>?_,λp hp=>?_,hok,I.len⟩
 · exact keep b o (neL b o e) hb (neC b o e hx) (I.base.keep b o e n hb hx) (I.base.free b o e n hx)
 · obtain ⟨sl,e1⟩:=I.base.slot b o e n hb hx
   obtain ⟨sl',e2⟩:=slot b _ (neL b o e) hb (neC b o e hx) e1 (I.base.free b o e n hx)
   exact ⟨sl',e2⟩
 · obtain ⟨o',e1⟩:=I.base.there b o e hx
   exact free b o' (neC b o e hx) e1 (I.base.free b o e n hx)
 · obtain ⟨o',e1⟩:=I.base.there b o e hx
   exact there b o' (neC b o e hx) e1
 · obtain ⟨m1,e1⟩:=I.base.tbls b ps e
   obtain ⟨m2,e2⟩:=tbls b _ e1
   exact ⟨m1++m2,by rw [e2,Array.append_assoc]⟩
 · obtain ⟨m,hn,hl⟩:=I.loc
   refine ⟨m,ns m hn,λi x v e1 e2 e3=>?_⟩
   obtain ⟨u,r,l⟩:=hl i x v e1 e2 e3
   refine ⟨u,r,?_⟩
   rcases l with l | ⟨k,c,e,z⟩
   · exact .inl l
   · exact .inr ⟨k,c,e,cellK x c e _ z⟩
 · obtain ⟨v,z⟩:=I.cell x c e
   exact ⟨v,cellK x c e v z⟩
 · obtain ⟨m,⟨o,_,_,ho,_⟩,_⟩:=I.loc
   exact free _ o (λz=>(hch _ z).2.1 rfl) ho I.free
 · obtain ⟨v,o,ho,hd⟩:=I.cell x c e
   exact free c o (λz=>(hch c z).2.2.1 x c e rfl) ho (I.freeC x c e)
 · obtain ⟨e,n,ne,nf,d⟩:=I.pin p hp
   have nch:p.1 ∉ ch:=λz=>(hch p.1 z).2.2.2 p hp rfl
   exact ⟨keep p.1 p.2 ne nf nch e n,free p.1 p.2 nch e n,ne,nf,d⟩
theorem Inv.un {t':Nat} (I:Inv X pins σ H s) (u:Un X.fs [] H H' s.heap h') (hok:HOk X.prog X.w H' h'):Inv X pins σ H' { s with heap:=h',toks:=t' }:=by
 obtain ⟨m,⟨o,es,ep,ho,r⟩,_⟩:=id I.loc
 obtain ⟨sl,hL⟩:=u.any ho I.free (by simp)
 exact I.step (g':=s.gens) (d':=s.drawn) (ch:=[]) (λ_ z=>nomatch z) (λb o _ hb _ e n=>u.keep b o e n hb (by simp)) (λb o _ hb _ e n=>u.slot b o e n hb (by simp)) (λb o _ e n=>u.free b o e n (by simp)) (λb o _ e=>u.there b o e (by simp)) u.tups u.frzs u.tbls (λm' hm=>by
   obtain ⟨o',es',ep',ho',r'⟩:=hm
   rw [ho] at ho'; cases ho'
   exact ⟨_,es',ep',hL,r'⟩) hok I.bare
theorem Inv.call {g':Array GenState} {t':Nat} {d':Drawn} {ch:List Addr} (I:Inv X pins σ H s) (u:Un (frs X.stack) ch H H' s.heap h') (hok:HOk X.prog X.w H' h') (hg:AllBare g')
   (hch:∀ b ∈ ch,(b ∈ X.ex\/X.s₀.heap.objs.size<=b)/\b ≠ X.env.locals/\(∀ x c,X.env.cells.lookup x=some c->c ≠ b)/\∀ p ∈ X.pn++pins,p.1 ≠ b) :
   Inv X pins σ H' { s with heap:=h',gens:=g',drawn:=d',toks:=t' }:=by
 obtain ⟨m,⟨o,es,ep,ho,r⟩,_⟩:=id I.loc
 obtain ⟨sl,hL⟩:=u.any ho I.free λz=>(hch _ z).2.1 rfl
 exact I.step (ch:=ch) hch (λb o hL hb hc e n=>u.keep b o e n (λz=>(List.mem_cons.mp (I.jj b z)).elim hL hb) hc) (λb o _ _ hc e n=>u.any e n hc) (λb o hc e n=>u.free b o e n hc) (λb o hc e=>u.there b o e hc) u.tups u.frzs u.tbls (λm' hm=>by
   obtain ⟨o',es',ep',ho',r'⟩:=hm
   rw [ho] at ho'; cases ho'
   exact ⟨_,es',ep',hL,r'⟩) hok hg
theorem Inv.turned {t':Nat} {it:Addr} (I:Inv X pins σ H s) (k:∀ b o,b ≠ it->s.heap.get? b=some o->h'.get? b=some o) (hn:H it=none) (hL:it ≠ X.env.locals)
   (h1:it ∈ X.ex\/X.s₀.heap.objs.size<=it) (h2:∀ x c,X.env.cells.lookup x=some c->c ≠ it) (h3:∀ p ∈ X.pn++pins,p.1 ≠ it):Inv X pins σ H { s with heap:=h',toks:=t' }:=by
 have nit:∀ b u,H b=some u->b ≠ it:=λb u e z=>by rw [z,hn] at e; cases e
 refine I.step (g':=s.gens) (d':=s.drawn) (ch:=[it]) (λb hb=>?_) (λb o _ _ hc e _=>k b o (λz=>hc (by simp [z])) e) (λb o _ _ hc e _=>⟨o.slots,k b o (λz=>hc (by simp [z])) e⟩) (λ_ _ _ _ n=>n)
   (λb o hc e=>⟨o,k b o (λz=>hc (by simp [z])) e⟩) (λ_ _ e=>e) (λ_ _ _ e=>e) (λb ps e=>⟨#[],by rw [e]; simp⟩) (λm hm=>?_) (λb u e=>?_) I.bare
 · have e:b=it:=by simpa using hb
   subst e
   exact ⟨h1,hL,h2,h3⟩
 · obtain ⟨o,es,ep,ho,r⟩:=hm
   exact ⟨o,es,ep,k _ o (Ne.symm hL) ho,r⟩
 · refine (I.hok b u e).fD (λc v hc q=>k c v ?_ q) (λ_ q=>q) λ_ _ q=>q
   rcases hc with z | z
   · rw [z]; exact nit b u e
   · exact nit c _ z
theorem Inv.tok (I:Inv X pins σ H s) (t:Nat):Inv X pins σ H { s with toks:=t }:=I.un (h':=s.heap) (t':=t) Un.refl I.hok
theorem Inv.kept {t':Nat} (I:Inv X pins σ H s) (k:∀ b u,s.heap.get? b=some u->h'.get? b=some u):Inv X pins σ H { s with heap:=h',toks:=t' }:=I.un (Un.kept k) (I.hok.kept k)
theorem Inv.laid {a:Addr} {o:HO} {t':Nat} (I:Inv X pins σ H s) (k:∀ b u,s.heap.get? b=some u->h'.get? b=some u) (hp:s.heap.objs.size<=a) (new:b7 X.prog X.w (upd H a o) h' a o) :
   Inv X pins σ (upd H a o) { s with heap:=h',toks:=t' }:=I.un (Un.laid k hp (I.hok.fresh hp)) (I.hok.laid k hp new)
theorem Inv.write {x e:Addr} {o:HO} {t':Nat} (I:Inv X pins σ H s) (mu:Mut (H x)) (he:e=x\/H e=some (.own x)) (k:∀ b u,b ≠ e->s.heap.get? b=some u->h'.get? b=some u) (heo:∃ u,h'.get? e=some u)
   (new:b7 X.prog X.w (upd H x o) h' x o):Inv X pins σ (upd H x o) { s with heap:=h',toks:=t' }:=I.un (Un.write mu he k heo) (I.hok.write mu he k heo new)
theorem Inv.ka {pins':List (Addr × Obj)} (I:Inv X pins σ H s) (h:∀ p ∈ pins',s.heap.get? p.1=some p.2/\H p.1=none/\p.1 ≠ X.env.locals/\p.1 ∉ X.fs/\∀ v,p.2.data ≠ .cell v):Inv X pins' σ H s:=
 ⟨I.ok,I.os,I.bare,I.base,I.loc,I.cell,I.free,I.freeC,λp hp=>(List.mem_append.mp hp).elim (λz=>I.pin p (List.mem_append_left _ z)) (h p),I.hok,I.len⟩
theorem iZ {N:List Str} (hN:N.Nodup) {i j:Nat} {x:Str} (a:N[i]?=some x) (b:N[j]?=some x):i=j:=by
 obtain ⟨h1,e1⟩:=List.getElem?_eq_some_iff.mp a
 obtain ⟨h2,e2⟩:=List.getElem?_eq_some_iff.mp b
 exact (List.getElem_inj hN).mp (e1.trans e2.symm)
theorem kU {M:Model} {A:Around} {E:Value->Shared->Prop} {i:Nat} {x:Str} {v:V} {u:Value} {Q:Unit->Shared->Prop} (I:Inv X pins σ H s) (hN:X.N.Nodup) (hi:X.N[i]?=some x) (hx:Loc X.env.scope x) (r:RelV v u)
   (h:∀ s',Inv X pins (σ.set i (some v)) H s'->(∃ a,Heap.SameBut a s.heap s'.heap/\(a=X.env.locals\/X.env.cells.lookup x=some a))->Q () s') (hf:X.fn x=true\/X.env.scope.names.lookup x=some .local:=by first | exact .inl rfl | exact .inr rfl | assumption):wpAny M A (storeName X.env x u) Q E s:=by
 obtain ⟨m,hn,hl⟩:=id I.loc
 have hcls:(X.env.scope.kind == .class || (X.env.scope.kind == .module && X.env.locals != X.env.globals))=false:=by rw [I.ok.kind]; rfl
 have hiσ:i < σ.length:=by rw [I.len]; exact (List.getElem?_eq_some_iff.mp hi).1
 have cne:=I.cne
 have tracked:∀ {a:Addr} {h':Heap},(∃ o,s.heap.get? a=some o/\H a=none)->Heap.SameBut a s.heap h'->HOk X.prog X.w H h':=λ{a h'} ha hs b ob e=>by
   obtain ⟨_,_,hfree⟩:=ha
   refine (I.hok b ob e).fD (λc w' hc q=>(hs.2 c ?_).trans q) (λ_ q=>q) λ_ _ q=>q
   rintro rfl
   rcases hc with rfl | hc
   · rw [hfree] at e; cases e
   · rw [hfree] at hc; cases hc
 rcases hx with hk | hk
 · refine wpAny_storeName_local hk hn (λh' hn' hs=>?_) hcls
   obtain ⟨oL,_,_,hoL,_⟩:=id hn
   refine h _ ⟨I.ok,I.os,I.bare,⟨λb o e n hb hx=>?_,λb o e n hb hx=>?_,I.base.free,λb o e hx=>?_,I.base.tups,I.base.frzs,I.base.tbls⟩,⟨_,hn',λj y v' e1 e2 e3=>?_⟩,λy c e=>?_,I.free,I.freeC,λp hp=>?_,tracked ⟨oL,hoL,I.free⟩ hs,by simpa using I.len⟩ ⟨_,hs,.inl rfl⟩
   · exact (hs.2 b (Nat.ne_of_lt (Nat.lt_of_lt_of_le (Heap.lt_size e) I.ok.above))).trans (I.base.keep b o e n hb hx)
   · obtain ⟨sl,e1⟩:=I.base.slot b o e n hb hx
     exact ⟨sl,(hs.2 b (Nat.ne_of_lt (Nat.lt_of_lt_of_le (Heap.lt_size e) I.ok.above))).trans e1⟩
   · obtain ⟨o',e1⟩:=I.base.there b o e hx
     exact ⟨o',(hs.2 b (Nat.ne_of_lt (Nat.lt_of_lt_of_le (Heap.lt_size e) I.ok.above))).trans e1⟩
   · by_cases hj:j=i
     · subst hj
       rw [hi] at e1; cases e1
       rw [List.getElem?_set_self hiσ] at e2
       cases e2
       exact ⟨u,r,.inl ⟨hk,by simp⟩⟩
     · rw [List.getElem?_set_ne (Ne.symm hj)] at e2
       obtain ⟨u',r',q⟩:=hl j y v' e1 e2 e3
       refine ⟨u',r',?_⟩
       rcases q with ⟨k,e⟩ | ⟨k,c,e,z⟩
       · refine .inl ⟨k,?_⟩
         have:y ≠ x:=λe=>hj (iZ hN e1 (e ▸ hi))
         simp [this,e]
       · exact .inr ⟨k,c,e,z.sameBut hs (cne y c e)⟩
   · obtain ⟨w',z⟩:=I.cell y c e
     exact ⟨w',z.sameBut hs (cne y c e)⟩
   · obtain ⟨e,n,ne,nf,d⟩:=I.pin p hp
     exact ⟨(hs.2 p.1 ne).trans e,n,ne,nf,d⟩
 · have hfn:X.fn x=true:=by
     rcases hf with z | z
     · exact z
     · rw [z] at hk; cases hk
   obtain ⟨c,hc⟩:=I.ok.has x (.inl hk)
   obtain ⟨w',z⟩:=I.cell x c hc
   refine wpAny_storeName_cell I.ok.kind hk hc z (λh' hc' hs=>?_)
   obtain ⟨oc,hoc,hocd⟩:=id z
   refine h { s with heap:=h' } ⟨I.ok,I.os,I.bare,⟨λb o e n hb hx=>?_,λb o e n hb hx=>?_,I.base.free,λb o e hx=>?_,I.base.tups,I.base.frzs,I.base.tbls⟩,⟨m,hn.sameBut hs (Ne.symm (cne x c hc)),λj y v' e1 e2 e3=>?_⟩,λy c' e=>?_,I.free,I.freeC,λp hp=>?_,tracked ⟨oc,hoc,I.freeC x c hc⟩ hs,by simpa using I.len⟩ ⟨c,hs,.inr hc⟩
   · exact (hs.2 b (Nat.ne_of_lt (Nat.lt_of_lt_of_le (Heap.lt_size e) (I.ok.cab x c hfn hc)))).trans (I.base.keep b o e n hb hx)
   · obtain ⟨sl,e1⟩:=I.base.slot b o e n hb hx
     exact ⟨sl,(hs.2 b (Nat.ne_of_lt (Nat.lt_of_lt_of_le (Heap.lt_size e) (I.ok.cab x c hfn hc)))).trans e1⟩
   · obtain ⟨o',e1⟩:=I.base.there b o e hx
     exact ⟨o',(hs.2 b (Nat.ne_of_lt (Nat.lt_of_lt_of_le (Heap.lt_size e) (I.ok.cab x c hfn hc)))).trans e1⟩
   · by_cases hj:j=i
     · subst hj
       rw [hi] at e1; cases e1
       rw [List.getElem?_set_self hiσ] at e2
       cases e2
       exact ⟨u,r,.inr ⟨.inl hk,c,hc,hc'⟩⟩
     · rw [List.getElem?_set_ne (Ne.symm hj)] at e2
       obtain ⟨u',r',q⟩:=hl j y v' e1 e2 e3
       refine ⟨u',r',?_⟩
       rcases q with q | ⟨k,c',e,z'⟩
       · exact .inl q
       · refine .inr ⟨k,c',e,z'.sameBut hs ?_⟩
         rintro rfl
         exact hj (iZ hN e1 (I.ok.inj _ _ _ e hc ▸ hi))
   · by_cases hcc:c'=c
     · subst hcc; exact ⟨_,hc'⟩
     · obtain ⟨w2,z2⟩:=I.cell y c' e
       exact ⟨w2,z2.sameBut hs hcc⟩
   · obtain ⟨e,n,ne,nf,d⟩:=I.pin p hp
     refine ⟨(hs.2 p.1 ?_).trans e,n,ne,nf,d⟩
     intro q
     rw [q,hoc] at e
     have q':oc=p.2:=Option.some.inj e
     exact d w' (by rw [<- q']; exact hocd)
theorem iT {M:Model} {A:Around} {E:Value->Shared->Prop} {i:Nat} {x:Str} {v:V} {u:Value} {Q:Unit->Shared->Prop} (I:Inv X pins σ H s) (hN:X.N.Nodup) (hi:X.N[i]?=some x) (hx:Loc X.env.scope x) (r:RelV v u)
   (h:∀ s',Inv X pins (σ.set i (some v)) H s'->Q () s') (hf:X.fn x=true\/X.env.scope.names.lookup x=some .local:=by first | exact .inl rfl | exact .inr rfl | assumption):wpAny M A (storeName X.env x u) Q E s:=
 kU I hN hi hx r (λs' I' _=>h s' I') hf
theorem Inv.nV {s':Shared} {ch:List Addr} (I:Inv X pins σ H s) (ho:s'.os=s.os) (u:Un (frs X.stack) ch H H' s.heap s'.heap) (hok:HOk X.prog X.w H' s'.heap) (hg:AllBare s'.gens)
   (hch:∀ b ∈ ch,(b ∈ X.ex\/X.s₀.heap.objs.size<=b)/\b ≠ X.env.locals/\(∀ x c,X.env.cells.lookup x=some c->c ≠ b)/\∀ p ∈ X.pn++pins,p.1 ≠ b):Inv X pins σ H' s':=by
 obtain ⟨h',g',d',t',o'⟩:=s'
 have e:o'=s.os:=ho
 subst e
 exact I.call (g':=g') (t':=t') (d':=d') u hok hg hch
end
noncomputable abbrev XK:=Value->Option Addr->Hp->Prop
noncomputable abbrev St:=List (Option V)
noncomputable abbrev VK:=V->Hp->Prop
noncomputable abbrev TE:=St->Hp->VK->Prop
noncomputable abbrev TT:=St->Hp->(Bool->Hp->Prop)->Prop
noncomputable abbrev TA:=St->Hp->(List V->Hp->Prop)->Prop
structure Ends where
 nx:St->Hp->Prop
 rt:VK
 bk:St->Hp->Prop:=λ_ _=>False
 ct:St->Hp->Prop:=λ_ _=>False
noncomputable abbrev TS:=Ends->St->Hp->Prop
noncomputable def EP (X:Cx) (pins:List (Addr × Obj)) (σ:St) (Q:VK) (u:Value) (s':Shared):Prop:=∃ v H',Inv X pins σ H' s'/\RelV v u/\Q v H'
noncomputable def TP (X:Cx) (pins:List (Addr × Obj)) (σ:St) (Q:Bool->Hp->Prop) (b:Bool) (s':Shared):Prop:=∃ H',Inv X pins σ H' s'/\Q b H'
noncomputable def AP (X:Cx) (pins:List (Addr × Obj)) (σ:St) (Q:List V->Hp->Prop) (us:List Value) (s':Shared):Prop:=∃ vs H',Inv X pins σ H' s'/\Vals vs us/\Q vs H'
noncomputable def SP (X:Cx) (pins:List (Addr × Obj)) (D:Ends) (f:Flow) (s':Shared):Prop:=
 match f with
 | .next=>∃ σ' H',Inv X pins σ' H' s'/\D.nx σ' H'
 | .brk=>∃ σ' H',Inv X pins σ' H' s'/\D.bk σ' H'
 | .cont=>∃ σ' H',Inv X pins σ' H' s'/\D.ct σ' H'
 | .ret u=>∃ v σ' H',Inv X pins σ' H' s'/\RelV v u/\D.rt v H'
noncomputable def PE (X:Cx) (e:Expr) (t:TE):Prop:=
 ∀ (pins:List (Addr × Obj)) (s:Shared) (σ:St) (H:Hp) (Q:VK),Inv X pins σ H s->t σ H Q->wpAny (model X.prog X.w) X.A (eval e X.env) (EP X pins σ Q) X.xe s
noncomputable def PT (X:Cx) (e:Expr) (t:TT):Prop:=
 ∀ (pins:List (Addr × Obj)) (s:Shared) (σ:St) (H:Hp) (Q:Bool->Hp->Prop),Inv X pins σ H s->t σ H Q->wpAny (model X.prog X.w) X.A (isTrue e X.env (eval e X.env)) (TP X pins σ Q) X.xe s
noncomputable def PW (X:Cx) (e:Expr) (t:TT):Prop:=
 ∀ (whole:Sem Value) (pins:List (Addr × Obj)) (s:Shared) (σ:St) (H:Hp) (Q:Bool->Hp->Prop),Inv X pins σ H s->t σ H Q->wpAny (model X.prog X.w) X.A (isTrue e X.env whole) (TP X pins σ Q) X.xe s
theorem PW.pt {X:Cx} {e:Expr} {t:TT} (h:PW X e t):PT X e t:=h _
noncomputable def PA (X:Cx) (es:List Expr) (t:TA):Prop:=
 ∀ (pos:Pos) (pins:List (Addr × Obj)) (s:Shared) (σ:St) (H:Hp) (Q:List V->Hp->Prop),Inv X pins σ H s->t σ H Q->wpAny (model X.prog X.w) X.A (spliced (backTo pos (starEach es X.env))) (AP X pins σ Q) X.xe s
noncomputable def PS (X:Cx) (st:Stmt) (t:TS):Prop:=
 ∀ (pins:List (Addr × Obj)) (s:Shared) (σ:St) (H:Hp) (D:Ends),Inv X pins σ H s->t D σ H->wpAny (model X.prog X.w) X.A (exec st X.env) (SP X pins D) X.xe s
noncomputable def PSs (X:Cx) (st:List Stmt) (t:TS):Prop:=
 ∀ (pins:List (Addr × Obj)) (s:Shared) (σ:St) (H:Hp) (D:Ends),Inv X pins σ H s->t D σ H->wpAny (model X.prog X.w) X.A (execs st X.env) (SP X pins D) X.xe s
theorem thn {α:Type} {t:Sem α} {Q Q':α->Shared->Prop} {M:Model} {A:Around} {E:Value->Shared->Prop} {s:Shared} (h:wpAny M A t Q E s) (hQ:∀ a s,Q a s->Q' a s):wpAny M A t Q' E s:=wpAny_mono h hQ λ_ _ x=>x
end L2
namespace L2
open PySem PySem.Spec PyProof.Rows
section
variable {X:Cx}
theorem bin {a b:Expr} {ta tb:TE} (ha:PE X a ta) (hb:PE X b tb) {pins:List (Addr × Obj)} {s:Shared} {σ:St} {H:Hp} {R:V->V->Hp->Prop} (I:Inv X pins σ H s) (h:ta σ H λx H1=>tb σ H1 λy H2=>R x y H2)
   {α:Type} {Q:α->Shared->Prop} {f:Value->Value->Sem α}
   (hf:∀ v u s2 x y H2,Inv X pins σ H2 s2->RelV x v->RelV y u->R x y H2->wpAny (model X.prog X.w) X.A (f v u) Q X.xe s2) :
   wpAny (model X.prog X.w) X.A (eval a X.env) (λv s₁=>wpAny (model X.prog X.w) X.A (eval b X.env) (λu s₂=>wpAny (model X.prog X.w) X.A (f v u) Q X.xe s₂) X.xe s₁) X.xe s:=by
 refine thn (ha pins s σ H _ I h) λv s1 ⟨x,H1,I1,r1,q1⟩=>?_
 refine thn (hb pins s1 σ H1 _ I1 q1) λu s2 ⟨y,H2,I2,r2,q2⟩=>?_
 exact hf v u s2 x y H2 I2 r1 r2 q2
noncomputable def oI (i:Nat):TE:=λσ H Q=>∃ v,σ[i]?=some (some v)/\Q v H
noncomputable def tC (v:V):TE:=λ_ H Q=>Q v H
theorem bP {i:Nat} {x:Str} {pos:Pos} (hN:X.N[i]?=some x) (hv:Vis X.env.scope x) (hd:(x == ("__debug__" : Str))=false:=by decide) (hcd:(x == ("__classdict__" : Str))=false:=by decide):PE X (.Name x pos) (oI i):=by
 intro pins s σ H Q I h
 obtain ⟨v,e,h⟩:=h
 obtain ⟨m,hn,hl⟩:=I.loc
 obtain ⟨u,r,l⟩:=hl i x v hN e hv
 have fin:EP X pins σ Q u s:=⟨v,H,I,r,h⟩
 rcases l with ⟨hk,hm⟩ | ⟨hk,c,hc,hcell⟩
 · exact wpAny_Name (wpAny_loadName_local I.ok.kind hk hn hm fin) hd
 · rcases hk with hk | hk
   · exact wpAny_Name (wpAny_loadName_cell I.ok.kind hk hc hcell fin) hd
   · exact wpAny_Name (wpAny_loadName_free I.ok.kind hk hc hcell fin hcd) hd
theorem pF {i j pos}:PE X (.Constant (.int i) j pos) (tC (.int i)):=λ_ _ _ H _ I h=>wpAny_Constant_int ⟨.int i,H,I.tok _,⟨_,rfl⟩,h⟩
theorem qI {b j pos}:PE X (.Constant (.bool b) j pos) (tC (.bl b)):=λ_ _ _ H _ I h=>Constant_bool ⟨.bl b,H,I,rfl,h⟩
theorem oo {x j pos}:PE X (.Constant (.str x) j pos) (tC (.str x)):=λ_ _ _ H _ I h=>Calls.Constant_str ⟨.str x,H,I.tok _,⟨_,rfl⟩,h⟩
noncomputable def Gl (X:Cx) (x:Str):Prop:=X.env.kindOf x=some .globalImplicit
theorem j5 {E:Value->Shared->Prop} {pins:List (Addr × Obj)} {s:Shared} {σ:St} {H:Hp} {x:Str} {u:Value} {pos:Pos} {Q:Value->Shared->Prop} (I:Inv X pins σ H s) (hg:Gl X x) (hm:X.mg x=some u) (h:Q u s)
   (hd:(x == ("__debug__" : Str))=false:=by decide):wpAny (model X.prog X.w) X.A (eval (.Name x pos) X.env) Q E s:=
 Calls.Name_function_global I.ok.kind hg (Calls.loadGlobal_global (by rw [I.ok.glob]; exact I.mod.glob.keeps I.bk) hm h) hd
theorem da {E:Value->Shared->Prop} {pins:List (Addr × Obj)} {s:Shared} {σ:St} {H:Hp} {x:Str} {u:Value} {pos:Pos} {Q:Value->Shared->Prop} (I:Inv X pins σ H s) (hg:Gl X x) (hm:X.mg x=none) (hv:bootBuiltins x=some u) (h:Q u s)
   (hn:x ≠ "__name__":=by decide) (hd:(x == ("__debug__" : Str))=false:=by decide):wpAny (model X.prog X.w) X.A (eval (.Name x pos) X.env) Q E s:=by
 obtain ⟨mb,h1,h2⟩:=I.mod.blt
 exact Calls.Name_function_global I.ok.kind hg (Calls.loadGlobal_builtin (by rw [I.ok.glob]; exact I.mod.glob.keeps I.bk) hm (by rw [I.ok.blt]; exact h1.keeps I.bk) ((h2 x hn).trans hv) h) hd
theorem m9 {x:Str} {v:V} {u:Value} {pos:Pos} (hg:Gl X x) (hm:X.mg x=some u) (r:RelV v u) (hd:(x == ("__debug__" : Str))=false:=by decide):PE X (.Name x pos) (tC v):=
 λ_ _ _ H _ I h=>j5 I hg hm ⟨v,H,I,r,h⟩ hd
theorem mR {x:Str} {v:V} {u:Value} {pos:Pos} (hg:Gl X x) (hm:X.mg x=none) (hv:bootBuiltins x=some u) (r:RelV v u) (hn:x ≠ "__name__":=by decide) (hd:(x == ("__debug__" : Str))=false:=by decide):PE X (.Name x pos) (tC v):=
 λ_ _ _ H _ I h=>da I hg hm hv ⟨v,H,I,r,h⟩ hn hd
variable {a b:Expr} {ta tb:TE} {pos:Pos}
noncomputable def PC (X:Cx) (op:CmpOp) (a b:Expr) (t:TE):Prop:=
 ∀ (pins:List (Addr × Obj)) (s:Shared) (σ:St) (H:Hp) (Q:VK),Inv X pins σ H s->t σ H Q ->
   wpAny (model X.prog X.w) X.A (eval a X.env) (λv s₁=>wpAny (model X.prog X.w) X.A (eval b X.env) (λu s₂=>wpAny (model X.prog X.w) X.A (compareOp op v u) (EP X pins σ Q) X.xe s₂) X.xe s₁) X.xe s
theorem mf (b:Expr) {op:CmpOp} (h:op ≠ .In) (h2:op ≠ .NotIn):behindInMarks op b=false:=by
 have e1:(op == CmpOp.In)=false:=by cases op <;> first | rfl | exact absurd rfl h
 have e2:(op == CmpOp.NotIn)=false:=by cases op <;> first | rfl | exact absurd rfl h2
 cases b <;> simp [behindInMarks,e1,e2]
noncomputable def tB (t:TE):TT:=λσ H Q=>t σ H λx H1=>∃ c,x=.bl c/\Q c H1
theorem rD {op:CmpOp} {t:TE} (h:PC X op a b t) (h1:behindInMarks op b=false:=by first | exact mf _ (by decide) (by decide) | rfl):PT X (.Compare a [op] [b] pos) (tB t):=by
 intro pins s σ H Q I hw
 refine wpAny_isTrue_Compare1 (thn (h pins s σ H _ I hw) λv s1 h1=>thn h1 λu s2 h2=>thn h2 λc s3 ⟨x,H1,I1,r1,q1⟩=>?_) h1
 obtain ⟨d,rfl,q⟩:=q1
 cases r1
 exact wpAny_truthy_bool ⟨H1,I1,q⟩
theorem n8 {e:Expr} {t:TE} (h:PE X e t) (he:∀ whole,isTrue e X.env whole=(do let v <- whole; standAt e.pos; holding [v] (truthy v)):=by intro _; rfl):PT X e (tB t):=by
 intro pins s σ H Q I hw
 refine isTrue_plain (thn (h pins s σ H _ I hw) λv s1 ⟨x,H1,I1,r1,q1⟩=>?_) (he _)
 obtain ⟨d,rfl,q⟩:=q1
 cases r1
 exact wpAny_truthy_bool ⟨H1,I1,q⟩
variable {tA tB':TT} {rest:List Expr}
noncomputable def rn (t u:TT):TT:=λσ H Q=>t σ H λc H1=>if c=true then u σ H1 Q else Q false H1
noncomputable def tOr (t u:TT):TT:=λσ H Q=>t σ H λc H1=>if c=true then Q true H1 else u σ H1 Q
noncomputable def qW (t:TT):TT:=λσ H Q=>t σ H λc H1=>Q (!c) H1
theorem pw_and1 (ha:PT X a tA):PW X (.BoolOp .And [a] pos) tA:=by
 intro wh pins s σ H Q I h
 refine isTrue_and (thn (ha pins s σ H Q I h) λc s1 e=>?_)
 cases c with
 | true=>exact isTrue_and_nil e
 | false=>exact e
theorem pw_or1 (ha:PT X a tA):PW X (.BoolOp .Or [a] pos) tA:=by
 intro wh pins s σ H Q I h
 refine isTrue_or (thn (ha pins s σ H Q I h) λc s1 e=>?_)
 cases c with
 | false=>exact isTrue_or_nil e
 | true=>exact e
theorem pw_and (ha:PT X a tA) (hb:PW X (.BoolOp .And (b :: rest) pos) tB'):PW X (.BoolOp .And (a :: b :: rest) pos) (rn tA tB'):=by
 intro wh pins s σ H Q I h
 refine isTrue_and (thn (ha pins s σ H _ I h) λc s1 ⟨H1,I1,q1⟩=>?_)
 cases c with
 | true=>exact hb wh pins s1 σ H1 Q I1 q1
 | false=>exact ⟨H1,I1,q1⟩
theorem pw_or (ha:PT X a tA) (hb:PW X (.BoolOp .Or (b :: rest) pos) tB'):PW X (.BoolOp .Or (a :: b :: rest) pos) (tOr tA tB'):=by
 intro wh pins s σ H Q I h
 refine isTrue_or (thn (ha pins s σ H _ I h) λc s1 ⟨H1,I1,q1⟩=>?_)
 cases c with
 | true=>exact ⟨H1,I1,q1⟩
 | false=>exact hb wh pins s1 σ H1 Q I1 q1
theorem oY (ha:PT X a tA):PT X (.UnaryOp .Not a pos) (qW tA):=by
 intro pins s σ H Q I h
 exact isTrue_not (ha pins s σ H (λc H1=>Q (!c) H1) I h)
noncomputable def qB (ta tb:TE):TE:=λσ H Q=>ta σ H λx H1=>∃ c,x=.bl c/\if c=true then tb σ H1 Q else Q (.bl false) H1
noncomputable def p9 (ta:TE):TE:=λσ H Q=>ta σ H λx H1=>∃ c,x=.bl c/\Q (.bl (!c)) H1
theorem pA {op} {t:TE} (h:PE X a t):PE X (.BoolOp op [a] pos) t:=λpins s σ H Q I hw=>BoolOp_one (h pins s σ H Q I hw)
theorem mE (ha:PE X a ta) (hb:PE X (.BoolOp .And (b :: rest) pos) tb):PE X (.BoolOp .And (a :: b :: rest) pos) (qB ta tb):=by
 intro pins s σ H Q I h
 refine BoolOp_and (thn (ha pins s σ H _ I h) λv s1 ⟨x,H1,I1,r1,q1⟩=>?_)
 obtain ⟨c,rfl,q1⟩:=q1
 cases r1
 refine wpAny_truthy_bool ?_
 cases c with
 | true=>exact hb pins s1 σ H1 Q I1 q1
 | false=>exact ⟨.bl false,H1,I1,rfl,q1⟩
theorem oh (ha:PE X a ta):PE X (.UnaryOp .Not a pos) (p9 ta):=by
 intro pins s σ H Q I h
 refine UnaryOp_ (thn (ha pins s σ H _ I h) λv s1 ⟨x,H1,I1,r1,q1⟩=>?_)
 obtain ⟨c,rfl,q1⟩:=q1
 cases r1
 exact not_of (wpAny_truthy_bool ⟨.bl (!c),H1,I1,rfl,q1⟩)
noncomputable def tIf (t:TT) (ta tb:TE):TE:=λσ H Q=>t σ H λc H1=>if c=true then ta σ H1 Q else tb σ H1 Q
theorem i9 {c:Expr} (hc:PT X c tA) (ha:PE X a ta) (hb:PE X b tb):PE X (.IfExp c a b pos) (tIf tA ta tb):=by
 intro pins s σ H Q I h
 refine wpAny_IfExp (thn (hc pins s σ H _ I h) λd s1 ⟨H1,I1,q1⟩=>?_)
 cases d with
 | true=>exact ha pins s1 σ H1 Q I1 q1
 | false=>exact hb pins s1 σ H1 Q I1 q1
end
end L2
namespace L2
open PySem PySem.Spec PyProof.Rows
noncomputable def SqL (K:PySem.W.Frag) (H:Hp) (a:Addr) (xs:List V):Prop:=
 Rd H a (.lst xs) \/
   ∃ (o:Obj) (its:Array Value) (n:Nat),K.lookup a=some o/\o.cls=.type "list" /\ o.dict=none/\o.data=.seq its n/\its.size<=sizeLine/\Vals xs its.toList
noncomputable def SqT (K:PySem.W.Frag) (H:Hp) (a:Addr) (xs:List V):Prop:=
 Rd H a (.tup xs) \/
   ∃ (o:Obj) (its:Array Value) (n:Nat),K.lookup a=some o/\o.cls=.type "tuple" /\ o.data=.seq its n/\its.size<=sizeLine/\Vals xs its.toList
noncomputable def qS:Value->Option V
 | .none=>some .non
 | .bool b=>some (.bl b)
 | .int i _=>some (.int i)
 | .str x _=>some (.str x)
 | .bytes b _=>some (.byt b)
 | .float b _=>some (.flt b)
 | .ref a=>some (.ref a)
 | .type n=>some (.ty n)
 | _=>none
theorem RelV.abs {x:V} {u:Value} (r:RelV x u):qS u=some x:=by
 cases x with
 | non=>cases r; rfl
 | bl _=>cases r; rfl
 | int _=>obtain ⟨t,rfl⟩:=r; rfl
 | str _=>obtain ⟨t,rfl⟩:=r; rfl
 | byt _=>obtain ⟨t,rfl⟩:=r; rfl
 | flt _=>obtain ⟨t,rfl⟩:=r; rfl
 | ref _=>cases r; rfl
 | ty _=>cases r; rfl
theorem RelV.inj {x y:V} {u:Value} (r:RelV x u) (q:RelV y u):x=y:=Option.some.inj (r.abs.symm.trans q.abs)
theorem Vals.inj:∀ {xs ys:List V} {us:List Value},Vals xs us->Vals ys us->xs=ys
 | _,_,_,.nil,.nil=>rfl
 | _,_,_,.cons r t,.cons r' t'=>by rw [r.inj r',Vals.inj t t']
section
variable {X:Cx} {pins:List (Addr × Obj)} {σ:St} {H:Hp} {s:Shared} {a:Addr} {xs ys:List V}
theorem SqL.of {K:PySem.W.Frag} (h:H a=some (.lst xs)):SqL K H a xs:=.inl (.inl h)
theorem SqT.of {K:PySem.W.Frag} (h:H a=some (.tup xs)):SqT K H a xs:=.inl (.inl h)
theorem Inv.list (I:Inv X pins σ H s) (h:SqL X.K H a xs):∃ its:List Value,Vals xs its/\PlainL s.heap a its.toArray/\xs.length<=sizeLine:=by
 rcases h with h | ⟨o,its,n,hk,hc,hd,hs,hz,r⟩
 · obtain ⟨z,its,n,r,e⟩:=h.ok I.hok
   exact ⟨its,r,⟨_,n,e,rfl,rfl,rfl⟩,z⟩
 · refine ⟨its.toList,r,⟨o,n,I.kIn a o hk,hc,hd,by simpa using hs⟩,?_⟩
   have e:=r.length
   simp only [Array.length_toList] at e
   omega
theorem Inv.tuple (I:Inv X pins σ H s) (h:SqT X.K H a xs):∃ its:List Value,Vals xs its/\IsTup s.heap a its.toArray/\xs.length<=sizeLine:=by
 rcases h with h | ⟨o,its,n,hk,hc,hs,hz,r⟩
 · obtain ⟨z,its,r,p⟩:=h.ok I.hok
   exact ⟨its,r,p,z⟩
 · refine ⟨its.toList,r,⟨o,I.kIn a o hk,hc,n,by simpa using hs⟩,?_⟩
   have e:=r.length
   simp only [Array.length_toList] at e
   omega
theorem Inv.cF (I:Inv X pins σ H s) (h:SqL X.K H a xs) (h':SqL X.K H a ys):xs=ys:=by
 obtain ⟨its,r,⟨o,n,e,_,_,d⟩,_⟩:=I.list h
 obtain ⟨its',r',⟨o',n',e',_,_,d'⟩,_⟩:=I.list h'
 rw [e] at e'; cases e'
 rw [d] at d'
 injection d' with d1 _
 have:its=its':=by simpa using congrArg Array.toList d1
 subst this
 exact r.inj r'
end
noncomputable abbrev Cx.gg (X:Cx) (E:Value->Shared->Prop):Cx:={ X with xe:=E }
noncomputable abbrev Cx.nox (X:Cx):Cx:=X.gg λ_ _=>False
theorem Cx.Ok.gg {X:Cx} (ok:X.Ok) (E:Value->Shared->Prop):(X.gg E).Ok:=
 ⟨ok.mod,ok.kind,ok.glob,ok.blt,ok.above,ok.inj,ok.has,ok.cab,ok.hd,ok.frames,ok.stk,ok.exf,ok.bs,ok.bsz,ok.noex,ok.exfs,ok.ff,ok.frf⟩
theorem Cx.Ok.cG {X:Cx} {E:Value->Shared->Prop} (ok:(X.gg E).Ok):X.Ok:=
 ⟨ok.mod,ok.kind,ok.glob,ok.blt,ok.above,ok.inj,ok.has,ok.cab,ok.hd,ok.frames,ok.stk,ok.exf,ok.bs,ok.bsz,ok.noex,ok.exfs,ok.ff,ok.frf⟩
section
variable {X:Cx} {pins:List (Addr × Obj)} {σ:St} {H:Hp} {s:Shared} {E:Value->Shared->Prop}
theorem Inv.gg (I:Inv X pins σ H s) (E:Value->Shared->Prop):Inv (X.gg E) pins σ H s:=⟨I.ok.gg E,I.os,I.bare,I.base,I.loc,I.cell,I.free,I.freeC,I.pin,I.hok,I.len⟩
theorem Inv.cG (I:Inv (X.gg E) pins σ H s):Inv X pins σ H s:=⟨I.ok.cG,I.os,I.bare,I.base,I.loc,I.cell,I.free,I.freeC,I.pin,I.hok,I.len⟩
theorem SP.cG {D:Ends} {f:Flow} {s':Shared} (h:SP (X.gg E) pins D f s'):SP X pins D f s':=by
 cases f with
 | next=>obtain ⟨σ',H',I,q⟩:=h; exact ⟨σ',H',I.cG,q⟩
 | brk=>obtain ⟨σ',H',I,q⟩:=h; exact ⟨σ',H',I.cG,q⟩
 | cont=>obtain ⟨σ',H',I,q⟩:=h; exact ⟨σ',H',I.cG,q⟩
 | ret u=>obtain ⟨v,σ',H',I,r,q⟩:=h; exact ⟨v,σ',H',I.cG,r,q⟩
theorem PSs.nox {st:List Stmt} {t:TS} (h:PSs X.nox st t):PSs X st t:=λpins s σ H D I hw=>
 wpAny_mono (h pins s σ H D (I.gg _) hw) (λ_ _ q=>q.cG) λ_ _ z=>False.elim z
end
section
variable {X:Cx} {st:Stmt} {rest:List Stmt} {t u:TS} {e:Expr} {te:TE} {pos:Pos}
noncomputable def qt:TS:=λD σ H=>D.nx σ H
noncomputable def qT (t u:TS):TS:=λD σ H=>t { D with nx:=u D } σ H
theorem km:PSs X [] qt:=λ_ _ σ H _ I h=>wpAny_execs_nil ⟨σ,H,I,h⟩
theorem i8 (h1:PS X st t) (h2:PSs X rest u):PSs X (st :: rest) (qT t u):=by
 intro pins s σ H D I h
 refine wpAny_execs_cons (thn (h1 pins s σ H { D with nx:=u D } I h) λf s1 q=>?_)
 cases f with
 | next=>
   obtain ⟨σ',H',I',q⟩:=q
   exact h2 pins s1 σ' H' D I' q
 | ret v=>exact q
 | brk=>exact q
 | cont=>exact q
theorem Inv.quiet {pins:List (Addr × Obj)} {σ:St} {H:Hp} {s:Shared} (I:Inv X pins σ H s):interactive X.env=false:=by simp [interactive,I.ok.kind]
noncomputable def qu (te:TE):TS:=λD σ H=>te σ H λ_ H1=>D.nx σ H1
theorem eV (he:PE X e te) (hs:swapsWith e none pos.line X.env=pure false:=by rfl):PS X (.Expr e pos) (qu te):=by
 intro pins s σ H D I h
 exact wpAny_Expr_any (thn (he pins s σ H _ I h) λv s1 ⟨x,H1,I1,r1,q1⟩=>⟨σ,H1,I1,q1⟩) I.quiet hs
noncomputable def qZ (te:TE):TS:=λD σ H=>te σ H D.rt
theorem k7 (he:PE X e te):PS X (.Return (some e) pos) (qZ te):=by
 intro pins s σ H D I h
 exact wpAny_Return_some (thn (he pins s σ H _ I h) λv s1 ⟨x,H1,I1,r1,q1⟩=>⟨x,σ,H1,I1,r1,q1⟩)
noncomputable def rm (c:TT) (t u:TS):TS:=λD σ H=>c σ H λb H1=>if b=true then t D σ H1 else u D σ H1
theorem nH {c:Expr} {a b:List Stmt} {tc:TT} (hc:PT X c tc) (ha:PSs X a t) (hb:PSs X b u):PS X (.If c a b pos) (rm tc t u):=by
 intro pins s σ H D I h
 refine wpAny_If (thn (hc pins s σ H _ I h) λd s1 ⟨H1,I1,q1⟩=>?_)
 cases d with
 | true=>exact ha pins s1 σ H1 D I1 q1
 | false=>exact hb pins s1 σ H1 D I1 q1
noncomputable def oK:TS:=λ_ _ _=>False
theorem gB {sts:List Stmt}:PSs X sts oK:=λ_ _ _ _ _ _ h=>h.elim
end
noncomputable abbrev TG:=V->St->Hp->(St->Hp->Prop)->Prop
noncomputable abbrev TGs:=List V->St->Hp->(St->Hp->Prop)->Prop
noncomputable def PG (X:Cx) (target:Expr) (t:TG):Prop:=
 ∀ (pins:List (Addr × Obj)) (s:Shared) (σ:St) (H:Hp) (v:V) (u:Value) (Q:St->Hp->Prop),Inv X pins σ H s->RelV v u->t v σ H Q ->
   wpAny (model X.prog X.w) X.A (assign target X.env u) (λ_ s'=>∃ σ' H',Inv X pins σ' H' s'/\Q σ' H') X.xe s
noncomputable def PGs (X:Cx) (ts:List Expr) (t:TGs):Prop:=
 ∀ (pins:List (Addr × Obj)) (s:Shared) (σ:St) (H:Hp) (vs:List V) (us:List Value) (Q:St->Hp->Prop),Inv X pins σ H s->Vals vs us->t vs σ H Q ->
   wpAny (model X.prog X.w) X.A (assignInOrder ((assignEach ts X.env).map (·.2)) us) (λ_ s'=>∃ σ' H',Inv X pins σ' H' s'/\Q σ' H') X.xe s
noncomputable abbrev oA:=V->V->V->Hp->(Hp->Prop)->Prop
noncomputable def pU (X:Cx) (t:oA):Prop:=
 ∀ (pins:List (Addr × Obj)) (s:Shared) (σ:St) (H:Hp) (o i v:V) (ov iv u:Value) (Q:Hp->Prop),Inv X pins σ H s->RelV o ov->RelV i iv->RelV v u->t o i v H Q ->
   wpAny (model X.prog X.w) X.A (setItem ov iv u) (λ_ s'=>∃ H',Inv X pins σ H' s'/\Q H') X.xe s
section
variable {X:Cx} {pos:Pos}
noncomputable def nU (i:Nat):TG:=λv σ H Q=>Q (σ.set i (some v)) H
theorem cS {i:Nat} {x:Str} (hN:X.N.Nodup) (hi:X.N[i]?=some x) (hx:Loc X.env.scope x) (hf:X.fn x=true\/X.env.scope.names.lookup x=some .local:=by first | exact .inl rfl | exact .inr rfl | assumption):PG X (.Name x pos) (nU i):=by
 intro pins s σ H v u Q I r h
 exact wpAny_assign_Name (iT I hN hi hx r (λs' I'=>⟨_,H,I',h⟩) hf)
noncomputable def qX:TGs:=λvs σ H Q=>vs=[]/\Q σ H
noncomputable def qj (t:TG) (u:TGs):TGs:=λvs σ H Q=>∃ v r,vs=v :: r/\t v σ H λσ' H'=>u r σ' H' Q
theorem jO:PGs X [] qX:=by
 intro pins s σ H vs us Q I r h
 obtain ⟨e,h⟩:=h
 subst e
 cases r
 exact assignInOrder_nil ⟨σ,H,I,h⟩
theorem fT {e:Expr} {es:List Expr} {t:TG} {u:TGs} (h1:PG X e t) (h2:PGs X es u)
   (hs:(assignEach (e :: es) X.env).map (·.2)=assign e X.env :: (assignEach es X.env).map (·.2):=by rfl):PGs X (e :: es) (qj t u):=by
 intro pins s σ H vs us Q I r h
 obtain ⟨v,vr,e1,h⟩:=h
 subst e1
 cases r with
 | cons r rr=>
   rw [hs]
   refine assignInOrder_cons (thn (h1 pins s σ H _ _ _ I r h) λ_ s1 ⟨σ1,H1,I1,q1⟩=>?_)
   exact h2 pins s1 σ1 H1 _ _ Q I1 rr q1
noncomputable def rd (K:PySem.W.Frag) (n:Nat) (t:TGs):TG:=λv σ H Q=>∃ a xs,v=.ref a/\SqT K H a xs/\xs.length=n/\t xs σ H Q
theorem mh {es:List Expr} {k:Nat} {t:TGs} {n:Nat} (hc:X.calm=true) (h:PGs X es t)
   (hn:(assignEach es X.env).length=n:=by rfl) (hst:(assignEach es X.env).findIdx? (·.1)=none:=by rfl):PG X (.Tuple es k pos) (rd X.K n t):=by
 intro pins s σ H v u Q I r hw
 obtain ⟨a,xs,e1,hq,hl,hw⟩:=hw
 subst e1
 cases r
 obtain ⟨its,rv,ht,hz⟩:=I.tuple hq
 refine assign_Tuple_tuple (I.ok.hd hc) ht (by simp [hn,<- hl,rv.length]) hst λh' hx=>?_
 have I1:Inv X pins σ H { s with heap:=h' }:=I.kept (t':=s.toks) λb o e=>hx b o (Nat.ne_of_lt (Heap.lt_size e)) e
 exact h pins _ σ H xs _ Q I1 (by simpa using rv) hw
noncomputable def rf (to ti:TE) (t:oA):TG:=λv σ H Q=>to σ H λo H1=>ti σ H1 λi H2=>t o i v H2 λH3=>Q σ H3
theorem oq {o i:Expr} {to ti:TE} {t:oA} (ho:PE X o to) (hi:PE X i ti) (hs:pU X t)
   (ha:∀ v,assign (.Subscript o i pos) X.env v=(do
     let ov <- holding [v] (eval o X.env)
     let iv <- holding [v,ov] (eval i X.env)
     standAt pos
     holding [v,ov,iv] (setItem ov iv v)
     release [v,ov,iv] []):=by intro _; rfl):PG X (.Subscript o i pos) (rf to ti t):=by
 intro pins s σ H v u Q I r h
 rw [ha]
 refine wpAny_bind (wpAny_holding (thn (ho pins s σ H _ I h) λov s1 ⟨x,H1,I1,r1,q1⟩=>?_))
 refine wpAny_bind (wpAny_holding (thn (hi pins s1 σ H1 _ I1 q1) λiv s2 ⟨y,H2,I2,r2,q2⟩=>?_))
 refine wpAny_bind (wpAny_standAt (wpAny_bind (wpAny_holding (thn (hs pins s2 σ H2 x y v ov iv u _ I2 r1 r2 r q2) λ_ s3 ⟨H3,I3,q3⟩=>?_))))
 exact wpAny_release ⟨σ,H3,I3,q3⟩
noncomputable def n9 (te:TE) (g:TG):TS:=λD σ H=>te σ H λx H1=>g x σ H1 D.nx
theorem kY {tg e:Expr} {te:TE} {g:TG} (he:PE X e te) (hg:PG X tg g) (hs:swapsWithSole [tg] e pos.line X.env=pure false:=by rfl) (hw:swappedStores [tg] e X.env=pure none:=by rfl)
   (h1:(assignEach [tg] X.env).map (·.2)=[assign tg X.env]:=by rfl):PS X (.Assign [tg] e pos) (n9 te g):=by
 intro pins s σ H D I h
 refine wpAny_Assign_stores (thn (he pins s σ H _ I h) λv s1 ⟨x,H1,I1,r1,q1⟩=>?_) hs hw
 rw [h1]
 exact thn (hg pins s1 σ H1 x v _ I1 r1 q1) λ_ s2 q=>q
theorem k4 {i:Nat} {x:Str} {e:Expr} {te:TE} {pos':Pos} (hN:X.N.Nodup) (hi:X.N[i]?=some x) (hx:Loc X.env.scope x) (he:PE X e te) (hs:swapsWith e (some (.Name x pos')) pos.line X.env=pure false:=by rfl) (hf:X.fn x=true\/X.env.scope.names.lookup x=some .local:=by first | exact .inl rfl | exact .inr rfl | assumption) :
   PS X (.Assign [.Name x pos'] e pos) (n9 te (nU i)):=by
 intro pins s σ H D I h
 refine wpAny_Assign_Name (thn (he pins s σ H _ I h) λv s1 ⟨y,H1,I1,r1,q1⟩=>?_) hs
 exact iT I1 hN hi hx r1 (λs2 I2=>⟨_,H1,I2,q1⟩) hf
end
section
variable {X:Cx} {pos:Pos}
noncomputable def o9 (c:TT) (tb:TS):TS:=λD σ H=>∃ W:Nat->St->Hp->Prop,(∃ m,W m σ H)/\∀ m σ H,W m σ H ->
 c σ H λb H1=>if b=true then ∃ N:St->Hp->Prop,(∀ σ' H',N σ' H'->∃ m',m' < m/\W m' σ' H')/\tb { D with nx:=N,ct:=N,bk:=D.nx } σ H1 else D.nx σ H1
theorem mr {c:Expr} {body:List Stmt} {tc:TT} {tb:TS} (hp:PassesOwn (model X.prog X.w) X.A X.env X.xe) (hc:PT X c tc) (hb:PSs X body tb):PS X (.While c body [] pos) (o9 tc tb):=by
 intro pins s σ H D I h
 obtain ⟨W,⟨m0,w0⟩,turn⟩:=h
 refine wpAny_While (codeAny_whileLoop (λn s'=>∃ σ' H',Inv X pins σ' H' s'/\W n σ' H') ?_ m0 ⟨σ,H,I,w0⟩)
 rintro n s1 ⟨σ1,H1,I1,w1⟩
 refine wpAny_passesOwn hp (thn (hc pins s1 σ1 H1 _ I1 (turn n σ1 H1 w1)) λb s2 ⟨H2,I2,q2⟩=>?_)
 cases b with
 | true=>
   obtain ⟨N,hN,q2⟩:=q2
   rw [if_pos rfl]
   refine wpAny_passesOwn hp (thn (hb pins s2 σ1 H2 _ I2 q2) λf s3 q3=>?_)
   cases f with
   | next=>
     obtain ⟨σ3,H3,I3,n3⟩:=q3
     obtain ⟨m',hm,w3⟩:=hN σ3 H3 n3
     exact ⟨m',hm,σ3,H3,I3,w3⟩
   | cont=>
     obtain ⟨σ3,H3,I3,n3⟩:=q3
     obtain ⟨m',hm,w3⟩:=hN σ3 H3 n3
     exact ⟨m',hm,σ3,H3,I3,w3⟩
   | brk=>exact q3
   | ret v=>exact q3
 | false=>
   rw [if_neg Bool.false_ne_true]
   exact wpAny_execs_nil ⟨σ1,H2,I2,q2⟩
end
structure It where
 go:Nat->Hp->Prop
 yld:Nat->Hp->V->Hp->Prop
 stop:Nat->Hp->Prop
noncomputable def gc (X:Cx) (pins:List (Addr × Obj)) (H:Hp) (b:Addr):Prop:=
 H b=none/\b ≠ X.env.locals/\b ∉ X.fs/\(b ∈ X.ex\/X.s₀.heap.objs.size<=b)/\(∀ x c,X.env.cells.lookup x=some c->c ≠ b)/\∀ p ∈ X.pn++pins,p.1 ≠ b
theorem Inv.jk {X:Cx} {pins:List (Addr × Obj)} {σ:St} {H H':Hp} {s:Shared} {b:Addr} (I:Inv X pins σ H s) (hb:s.heap.objs.size<=b) (hn:H' b=none):gc X pins H' b:=by
 refine ⟨hn,Nat.ne_of_gt (Nat.lt_of_lt_of_le I.lt hb),I.ra hb,.inr (Nat.le_trans I.sz hb),λx c e z=>?_,λp hp z=>?_⟩
 · obtain ⟨v,q⟩:=I.cell x c e
   exact absurd (Nat.lt_of_lt_of_le q.lt (by rw [z]; exact hb)) (Nat.lt_irrefl _)
 · exact absurd (Nat.lt_of_lt_of_le (Heap.lt_size (I.pin p hp).1) (by rw [z]; exact hb)) (Nat.lt_irrefl _)
structure Turn (P:Program) (w:World) (K:PySem.W.Frag) (tg:Expr) (J:It) (fp:List Addr) (it:Addr) (tn:Nat->Heap->Prop):Prop where
 mem:it ∈ fp
 obj:∀ i h,tn i h->∀ b ∈ fp,∃ o,h.get? b=some o/\∀ v,o.data ≠ .cell v
 keep:∀ i h h',tn i h->(∀ b ∈ fp,∀ o,h.get? b=some o->h'.get? b=some o)->tn i h'
 item:∀ (X:Cx),X.prog=P->X.w=w->X.K=K->X.calm=true->∀ (i:Nat) (pins:List (Addr × Obj)) (s:Shared) (σ:St) (H:Hp) (E:Value->Shared->Prop),Inv X pins σ H s->(∀ b ∈ fp,gc X pins H b)->tn i s.heap->J.go i H ->
   wpAny (model P w) X.A (pyNext (.ref it)) (λr s1=>∃ u,r=some u /\
     wpAny (model P w) X.A (letOwnedTupleGo tg (.ref it) u) (λ_ s2=>∃ x H',Inv X pins σ H' s2/\RelV x u/\J.yld i H x H'/\tn (i + 1) s2.heap/\∀ b ∈ fp,H' b=none) E s1) E s
 done:∀ (X:Cx),X.prog=P->X.w=w->X.K=K->X.calm=true->∀ (i:Nat) (pins:List (Addr × Obj)) (s:Shared) (σ:St) (H:Hp) (E:Value->Shared->Prop),Inv X pins σ H s->(∀ b ∈ fp,gc X pins H b)->tn i s.heap->J.stop i H ->
   wpAny (model P w) X.A (pyNext (.ref it)) (λr s1=>r=none/\Inv X pins σ H s1) E s
 self:∀ (A:Around) (i:Nat) (s:Shared) (Q:Value->Shared->Prop) (E:Value->Shared->Prop),tn i s.heap->Q (.ref it) s->wpAny (model P w) A (pyIter (.ref it)) Q E s
noncomputable abbrev TI:=St->Hp->(It->Hp->Prop)->Prop
noncomputable def PIE (X:Cx) (pins:List (Addr × Obj)) (σ:St) (tg:Expr) (R:It->Hp->Prop) (itv:Value) (s2:Shared):Prop:=
 ∃ (it:Addr) (fp:List Addr) (tn:Nat->Heap->Prop) (J:It) (H':Hp),itv=.ref it/\Inv X pins σ H' s2/\Turn X.prog X.w X.K tg J fp it tn/\tn 0 s2.heap/\(∀ b ∈ fp,gc X pins H' b)/\R J H'
noncomputable def PI (X:Cx) (tg iter:Expr) (wi:TI):Prop:=
 ∀ (pins:List (Addr × Obj)) (s:Shared) (σ:St) (H:Hp) (R:It->Hp->Prop),Inv X pins σ H s->wi σ H R ->
   wpAny (model X.prog X.w) X.A (eval iter X.env) (λv s1=>wpAny (model X.prog X.w) X.A (pyIter v) (PIE X pins σ tg R) X.xe s1) X.xe s
theorem kW {M:Model} {A:Around} {E:Value->Shared->Prop} {s:Shared} {tg:Expr} {it:Addr} {u:Value} {o:Obj} {n:String} {vs:Array Value} {Q:Unit->Shared->Prop} (ho:s.heap.get? it=some o) (hc:o.cls=.type n) (hd:o.data=.fields vs)
   (hn:["enumerate","zip","dict_itemiterator","dict_reverseitemiterator","odict_iterator","itertools.zip_longest","itertools.pairwise"].contains n=false) (hQ:Q () s):wpAny M A (letOwnedTupleGo tg (.ref it) u) Q E s:=by
 unfold letOwnedTupleGo
 cases tg <;> first
   | exact wpAny_pure hQ
   | (cases u <;> first
       | exact wpAny_pure hQ
       | (refine wpAny_bind (wpAny_load ho ?_)
          rw [hc,hd]
          show wpAny M A (if (["enumerate","zip","dict_itemiterator","dict_reverseitemiterator","odict_iterator","itertools.zip_longest","itertools.pairwise"].contains n && vs[0]? == some (rawInt _))=true then _ else _) Q E s
          rw [if_neg (by intro h; rw [hn,Bool.false_and] at h; cases h)]
          exact wpAny_pure hQ))
noncomputable def Itl (K:PySem.W.Frag) (a:Addr):It:=
 ⟨λi H=>∃ xs x,SqL K H a xs/\xs[i]?=some x,λi H x H'=>H'=H/\∀ xs,SqL K H a xs->xs[i]?=some x,λi H=>∃ xs,SqL K H a xs/\xs.length<=i⟩
noncomputable def Itr (lo:Int) (n:Nat):It:=⟨λi _=>i < n,λi H x H'=>H'=H/\x=.int (lo + i),λi _=>n<=i⟩
theorem kr {P:Program} {w:World} {K:PySem.W.Frag} {tg:Expr} (a it:Addr):Turn P w K tg (Itl K a) [it] it (λi h=>h.IsListIter it a i) where
 mem:=by simp
 obj:=λi h st b hb=>by
   have e:b=it:=by simpa using hb
   subst e
   obtain ⟨o,e,c,d⟩:=st
   exact ⟨o,e,λv z=>by rw [d] at z; cases z⟩
 keep:=λi h h' st k=>st.at λo e=>k it (by simp) o e
 item:=by
   intro X hP hw hK hc i pins s σ H E I hf st hg
   subst hP hw hK
   obtain ⟨xs,x,hq,hx⟩:=hg
   obtain ⟨its,rv,p,hz⟩:=I.list hq
   obtain ⟨u,hu,ru⟩:=rv.get hx
   obtain ⟨f0,f1,f2,f3,f4,f5⟩:=hf it (by simp)
   refine wpAny_pyNext_list_item st p.isList (x:=u) (by simpa using hu) λh' st' sb=>?_
   have I1:Inv X pins σ H { s with heap:=h' }:=I.turned (t':=s.toks) (λb o hb e=>(sb.2 b hb).trans e) f0 f1 f3 f4 f5
   obtain ⟨o,e,c,d⟩:=id st'
   exact ⟨u,rfl,kW (s:={ s with heap:=h' }) e c d (by decide) ⟨x,H,I1,ru,⟨rfl,λys hy=>by rw [I.cF hy hq]; exact hx⟩,st',λb hb=>(hf b hb).1⟩⟩
 done:=by
   intro X hP hw hK hc i pins s σ H E I hf st hg
   subst hP hw hK
   obtain ⟨xs,hq,hx⟩:=hg
   obtain ⟨its,rv,p,hz⟩:=I.list hq
   obtain ⟨f0,f1,f2,f3,f4,f5⟩:=hf it (by simp)
   have hl:=rv.length
   exact wpAny_pyNext_list_end (I.ok.hd hc) st p.isList (by simp; omega) λh' eb=>⟨rfl,I.turned (t':=s.toks) (λb o hb e=>eb b o hb e) f0 f1 f3 f4 f5⟩
 self:=λ_ _ _ _ _ st h=>wpAny_pyIter_listiter st h
theorem jv {P:Program} {w:World} {K:PySem.W.Frag} {tg:Expr} (it:Addr) (lo:Int) (n:Nat):Turn P w K tg (Itr lo n) [it] it (λi h=>IsRangeIter h it (lo + (i:Nat) * 1) ((n:Int) - (i:Nat)) 1) where
 mem:=by simp
 obj:=λi h st b hb=>by
   have e:b=it:=by simpa using hb
   subst e
   exact ⟨_,st,λv z=>by
     have z':Data.fields _=Data.cell v:=z
     cases z'⟩
 keep:=λi h h' st k=>k it (by simp) _ st
 item:=by
   intro X hP hw hK hc i pins s σ H E I hf st hg
   subst hP hw hK
   obtain ⟨f0,f1,f2,f3,f4,f5⟩:=hf it (by simp)
   have W:=Walks.range (prog:=X.prog) (w:=X.w) (I.ok.hd hc) it lo 1 n
   refine W.item i s _ _ hg st λv h' tk hv st' kk=>?_
   obtain ⟨t,rfl⟩:=hv
   have I1:Inv X pins σ H { s with heap:=h',toks:=tk }:=I.turned (λb o hb e=>kk b o (by simpa using hb) e) f0 f1 f3 f4 f5
   refine ⟨_,rfl,kW (s:={ s with heap:=h',toks:=tk }) (n:="range_iterator") st' rfl rfl (by decide) ⟨.int (lo + i),H,I1,⟨t,?_⟩,⟨rfl,rfl⟩,st',λb hb=>(hf b hb).1⟩⟩
   rw [Int.mul_one]
 done:=by
   intro X hP hw hK hc i pins s σ H E I hf st hg
   subst hP hw hK
   obtain ⟨f0,f1,f2,f3,f4,f5⟩:=hf it (by simp)
   exact wpAny_pyNext_range_end (I.ok.hd hc) st (by have:n<=i:=hg; omega) λh' eb=>⟨rfl,I.turned (t':=s.toks) (λb o hb e=>eb b o hb e) f0 f1 f3 f4 f5⟩
 self:=λ_ _ _ _ _ st h=>wpAny_pyIter_rangeiter st h
end L2
namespace L2
open PySem PySem.Spec PyProof.Rows
section
variable {X:Cx} {tg:Expr}
noncomputable def ql (K:PySem.W.Frag) (tl:TE):TI:=λσ H R=>tl σ H λx H1=>∃ a,x=.ref a/\(∃ xs,SqL K H1 a xs)/\R (Itl K a) H1
theorem j9 {l:Expr} {tl:TE} (hl:PE X l tl):PI X tg l (ql X.K tl):=by
 intro pins s σ H R I h
 refine thn (hl pins s σ H _ I h) λv s1 ⟨x,H1,I1,r1,q1⟩=>?_
 obtain ⟨a,e,⟨xs,hq⟩,q⟩:=q1
 subst e
 cases r1
 obtain ⟨its,rv,p,hz⟩:=I1.list hq
 refine wpAny_pyIter_list p.isList ?_
 refine ⟨s1.heap.objs.size,[s1.heap.objs.size],_,_,H1,rfl,I1.kept (t':=s1.toks) λb o e=>Heap.get?_push_of_some _ e,kr a _,⟨_,Heap.get?_push_size _ rfl,rfl,rfl⟩,λb hb=>?_,q⟩
 have e:b=s1.heap.objs.size:=by simpa using hb
 subst e
 exact I1.jk (Nat.le_refl _) (I1.hok.fresh (Nat.le_refl _))
theorem lz {pins:List (Addr × Obj)} {σ:St} {H:Hp} {s:Shared} {R:It->Hp->Prop} {E:Value->Shared->Prop} {lo hi:Int} {t u v:Tok} {tk:Nat} (I:Inv X pins σ H s) (h1:-(2 ^ 62)<=lo) (h2:lo < 2 ^ 62) (h3:-(2 ^ 62)<=hi) (h4:hi < 2 ^ 62)
   (q:R (Itr lo (hi - lo).toNat) H):wpAny (model X.prog X.w) X.A (pyIter (.ref s.heap.objs.size)) (PIE X pins σ tg R) E { s with heap:=s.heap.push { cls:=.type "range",data:=.fields #[.int lo t,.int hi u,.int 1 v] },toks:=tk }:=by
 refine wpAny_pyIter_range (IsRange.new ..) (small_one h1 h2 h3 h4) ?_
 have I1:Inv X pins σ H { s with heap:=s.heap.push { cls:=.type "range",data:=.fields #[.int lo t,.int hi u,.int 1 v] },toks:=tk }:=I.kept λb o e=>Heap.get?_push_of_some _ e
 refine ⟨(s.heap.push { cls:=.type "range",data:=.fields #[.int lo t,.int hi u,.int 1 v] }).objs.size,[(s.heap.push { cls:=.type "range",data:=.fields #[.int lo t,.int hi u,.int 1 v] }).objs.size],_,_,H,rfl,
   I1.kept (t':=tk) λb o e=>Heap.get?_push_of_some _ e,jv _ lo (hi - lo).toNat,?_,λb hb=>?_,q⟩
 · have e1:lo + ((0:Nat):Int) * 1=lo:=by simp
   have e2:(((hi - lo).toNat:Nat):Int) - ((0:Nat):Int)=Builtin.Range.rangeSize lo hi 1:=by rw [rangeSize_one]; split <;> omega
   show IsRangeIter _ _ (lo + ((0:Nat):Int) * 1) ((((hi - lo).toNat:Nat):Int) - ((0:Nat):Int)) 1
   rw [e1,e2]
   exact Heap.get?_push_size _ rfl
 · have e:b=(s.heap.push { cls:=.type "range",data:=.fields #[.int lo t,.int hi u,.int 1 v] }).objs.size:=by simpa using hb
   subst e
   exact I1.jk (Nat.le_refl _) (I1.hok.fresh (Nat.le_refl _))
noncomputable def pS (ta:TA):TI:=λσ H R=>ta σ H λvs H1=>∃ j:Int,vs=[.int j]/\-(2 ^ 62)<=j/\j < 2 ^ 62/\R (Itr 0 j.toNat) H1
theorem kJ {a:Expr} {ta:TA} {p pos:Pos} (hg:Gl X "range") (hm:X.mg "range" = none) (ha:PA X [a] ta) (hs:starEach [a] X.env=[(false,eval a X.env)]:=by rfl):PI X tg (.Call (.Name "range" p) [a] [] pos) (pS ta):=by
 intro pins s σ H R I h
 refine Call_ (da I hg hm boot_range (PyProof.Rows.callWith_type1 (thn (ha pos pins s σ H _ I h) λus s1 ⟨vs,H1,I1,r1,q1⟩=>?_) hs rfl))
 obtain ⟨j,e,q1,q2,q⟩:=q1
 subst e
 cases r1 with
 | cons r rr=>
   cases rr
   obtain ⟨t,rfl⟩:=r
   exact call_range_1 (lz I1 (by omega) (by omega) q1 q2 (by simpa using q))
noncomputable def rp (wi:TI) (g:TG) (tb:TS):TS:=λD σ H=>wi σ H λJ H1=>∃ W:Nat->Nat->St->Hp->Prop,(∃ m,W 0 m σ H1)/\∀ i m σ H,W i m σ H ->
 (J.stop i H/\D.nx σ H)\/(J.go i H/\∃ N:St->Hp->Prop,(∀ σ' H',N σ' H'->∃ m',m' < m/\W (i + 1) m' σ' H')/\∀ x H',J.yld i H x H'->g x σ H' λσ2 H2=>tb { D with nx:=N,ct:=N,bk:=D.nx } σ2 H2)
noncomputable def dk (fp:List Addr) (h:Heap):List (Addr × Obj):=fp.filterMap λb=>(h.get? b).map λo=>(b,o)
theorem bb {fp:List Addr} {h:Heap} {b:Addr} {o:Obj} (hb:b ∈ fp) (e:h.get? b=some o):(b,o) ∈ dk fp h:=List.mem_filterMap.mpr ⟨b,hb,by rw [e]; rfl⟩
theorem kO {fp:List Addr} {h:Heap} {p:Addr × Obj} (hp:p ∈ dk fp h):p.1 ∈ fp/\h.get? p.1=some p.2:=by
 obtain ⟨b,hb,e⟩:=List.mem_filterMap.mp hp
 cases q:h.get? b with
 | none=>rw [q] at e; cases e
 | some o=>
   rw [q] at e
   have e':(b,o)=p:=Option.some.inj e
   subst e'
   exact ⟨hb,q⟩
theorem Inv.pinned {pins:List (Addr × Obj)} {σ:St} {H:Hp} {s:Shared} {fp:List Addr} (I:Inv X pins σ H s) (hf:∀ b ∈ fp,gc X pins H b) (ho:∀ b ∈ fp,∃ o,s.heap.get? b=some o/\∀ v,o.data ≠ .cell v):Inv X (pins++dk fp s.heap) σ H s:=
 I.ka λp hp=>(List.mem_append.mp hp).elim (λz=>I.pin p (List.mem_append_right _ z)) λz=>by
   obtain ⟨hb,e⟩:=kO z
   obtain ⟨f0,f1,f2,_⟩:=hf p.1 hb
   obtain ⟨o,e',d⟩:=ho p.1 hb
   rw [e] at e'; cases e'
   exact ⟨e,f0,f1,f2,d⟩
theorem Inv.b5 {pins pl:List (Addr × Obj)} {σ:St} {H:Hp} {s:Shared} (I:Inv X (pins++pl) σ H s):Inv X pins σ H s:=I.ka λp hp=>I.pin p (List.mem_append_right _ (List.mem_append_left _ hp))
theorem mK {iter:Expr} {body:List Stmt} {wi:TI} {g:TG} {tb:TS} {pos:Pos} (hp:PassesOwn (model X.prog X.w) X.A X.env X.xe) (hc:X.calm=true) (hi:PI X tg iter wi) (hg:PG X tg g) (hb:PSs X body tb)
   (hs:∀ x,foldedSetIterable iter X.env x=pure x:=by intro _; rfl):PS X (.For tg iter body [] pos) (rp wi g tb):=by
 intro pins s σ H D I h
 refine wpAny_For (thn (hi pins s σ H _ I h) λv s1 h1=>thn h1 λitv s2 h2=>?_) hs
 obtain ⟨it,fp,tn,J,H2,e,I2,T,st2,f2,W,⟨m0,w0⟩,turn⟩:=h2
 subst e
 have stat:∀ {H':Hp},(∀ b ∈ fp,H' b=none)->∀ b ∈ fp,gc X pins H' b:=λhn b hb=>⟨hn b hb,(f2 b hb).2⟩
 refine codeAny_forLoop_any (λn s'=>∃ i σ' H',Inv X pins σ' H' s'/\tn i s'.heap/\(∀ b ∈ fp,H' b=none)/\W i n σ' H') ?_ m0 ⟨0,σ,H2,I2,st2,λb hb=>(f2 b hb).1,w0⟩
 rintro n s3 ⟨i,σ3,H3,I3,st3,fr3,w3⟩
 rcases turn i n σ3 H3 w3 with ⟨stop,qn⟩ | ⟨go,N,hN,step⟩
 · refine wpAny_passesOwn hp (thn (T.done X rfl rfl rfl hc i pins s3 σ3 H3 X.xe I3 (stat fr3) st3 stop) λr s4 ⟨hr,I4⟩=>?_)
   subst hr
   exact wpAny_execs_nil ⟨σ3,H3,I4,qn⟩
 · refine wpAny_passesOwn hp (thn (T.item X rfl rfl rfl hc i pins s3 σ3 H3 X.xe I3 (stat fr3) st3 go) λr s4 ⟨u,hr,h4⟩=>?_)
   subst hr
   refine wpAny_passesOwn hp (thn h4 λ_ s5 ⟨x,H5,I5,r5,y5,st5,fr5⟩=>?_)
   have I5':=I5.pinned (stat fr5) (T.obj _ _ st5)
   refine wpAny_passesOwn hp (thn (hg _ s5 σ3 H5 x u _ I5' r5 (step x H5 y5)) λ_ s6 ⟨σ6,H6,I6,q6⟩=>?_)
   refine wpAny_passesOwn hp (thn (hb _ s6 σ6 H6 _ I6 q6) λf s7 q7=>?_)
   have again:∀ {σ7:St} {H7:Hp},Inv X (pins++dk fp s5.heap) σ7 H7 s7->N σ7 H7->∃ m,m < n/\∃ i σ' H',Inv X pins σ' H' s7/\tn i s7.heap/\(∀ b ∈ fp,H' b=none)/\W i m σ' H':=λ{σ7 H7} I7 n7=>by
     obtain ⟨m',hm,w7⟩:=hN σ7 H7 n7
     refine ⟨m',hm,i + 1,σ7,H7,I7.b5,T.keep _ _ _ st5 λb hb o e=>(I7.pin (b,o) (List.mem_append_right _ (List.mem_append_right _ (bb hb e)))).1,λb hb=>?_,w7⟩
     obtain ⟨o,e,d⟩:=T.obj _ _ st5 b hb
     exact (I7.pin (b,o) (List.mem_append_right _ (List.mem_append_right _ (bb hb e)))).2.1
   cases f with
   | next=>obtain ⟨σ7,H7,I7,n7⟩:=q7; exact again I7 n7
   | cont=>obtain ⟨σ7,H7,I7,n7⟩:=q7; exact again I7 n7
   | brk=>obtain ⟨σ7,H7,I7,q7⟩:=q7; exact ⟨σ7,H7,I7.b5,q7⟩
   | ret v=>obtain ⟨x7,σ7,H7,I7,r7,q7⟩:=q7; exact ⟨x7,σ7,H7,I7.b5,r7,q7⟩
end
end L2
namespace L2
open PySem PySem.Spec PyProof.Rows
noncomputable abbrev R2:=V->V->Hp->VK->Prop
noncomputable def OpR (X:Cx) (f:Value->Value->Sem Value) (r:R2):Prop:=
 ∀ (pins:List (Addr × Obj)) (s:Shared) (σ:St) (H:Hp) (x y:V) (v u:Value) (Q:VK),Inv X pins σ H s->RelV x v->RelV y u->r x y H Q ->
   wpAny (model X.prog X.w) X.A (f v u) (EP X pins σ Q) X.xe s
noncomputable def cZ (X:Cx) (f:Value) (r:List V->Hp->VK->Prop):Prop:=
 ∀ (pins:List (Addr × Obj)) (s:Shared) (σ:St) (H:Hp) (xs:List V) (us:List Value) (Q:VK),Inv X pins σ H s->Vals xs us->r xs H Q ->
   wpAny (model X.prog X.w) X.A (call f us) (EP X pins σ Q) X.xe s
noncomputable def tOp (r:R2) (ta tb:TE):TE:=λσ H Q=>ta σ H λx H1=>tb σ H1 λy H2=>r x y H2 Q
noncomputable def rI (C:Int->Int->Prop) (g:Int->Int->V):R2:=λx y H Q=>∃ i j,x=.int i/\y=.int j/\C i j/\Q (g i j) H
noncomputable def rI0 (g:Int->Int->V):R2:=λx y H Q=>∃ i j,x=.int i/\y=.int j/\Q (g i j) H
section
variable {X:Cx} {a b c:Expr} {ta tb tc:TE} {pos:Pos}
theorem pD (ha:PE X a ta) (hb:PE X b tb) {pins:List (Addr × Obj)} {s:Shared} {σ:St} {H:Hp} {R:V->V->Hp->Prop} (I:Inv X pins σ H s)
   (h:ta σ H λx H1=>tb σ H1 λy H2=>R x y H2) {Q:Value->Shared->Prop} {f:Value->Value->Sem Value}
   (hf:∀ v u s2 x y H2,Inv X pins σ H2 s2->RelV x v->RelV y u->R x y H2->wpAny (model X.prog X.w) X.A (f v u) Q X.xe s2) :
   wpAny (model X.prog X.w) X.A (eval a X.env) (λv s₁=>wpAny (model X.prog X.w) X.A (eval b X.env) (λu s₂=>wpAny (model X.prog X.w) X.A (f v u) Q X.xe s₂) X.xe s₁) X.xe s:=by
 refine thn (ha pins s σ H _ I h) λv s1 ⟨x,H1,I1,r1,q1⟩=>?_
 refine thn (hb pins s1 σ H1 _ I1 q1) λu s2 ⟨y,H2,I2,r2,q2⟩=>?_
 exact hf v u s2 x y H2 I2 r1 r2 q2
theorem l4 {op:Operator} {r:R2} (ho:OpR X (binaryOp op) r) (ha:PE X a ta) (hb:PE X b tb):PE X (.BinOp a op b pos) (tOp r ta tb):=by
 intro pins s σ H Q I h
 exact wpAny_BinOp (pD ha hb I h λv u s2 x y H2 I2 rx ry q=>ho pins s2 σ H2 x y v u Q I2 rx ry q)
theorem opI {f:Value->Value->Sem Value} {C:Int->Int->Prop} {g:Int->Int->Int}
   (rule:∀ (i j:Int) (t u:Tok) (s:Shared) (Q:Value->Shared->Prop) (E:Value->Shared->Prop),C i j->Q (.int (g i j) s.toks) { s with toks:=s.toks + 1 }->wpAny (model X.prog X.w) X.A (f (.int i t) (.int j u)) Q E s) :
   OpR X f (rI C λi j=>.int (g i j)):=by
 intro pins s σ H x y v u Q I rx ry h
 obtain ⟨i,j,rfl,rfl,hc,q⟩:=h
 obtain ⟨t,rfl⟩:=rx
 obtain ⟨t',rfl⟩:=ry
 exact rule i j t t' s _ _ hc ⟨.int (g i j),H,I.tok _,⟨_,rfl⟩,q⟩
theorem qv {f:Value->Value->Sem Value} {g:Int->Int->Int}
   (rule:∀ (i j:Int) (t u:Tok) (s:Shared) (Q:Value->Shared->Prop) (E:Value->Shared->Prop),Q (.int (g i j) s.toks) { s with toks:=s.toks + 1 }->wpAny (model X.prog X.w) X.A (f (.int i t) (.int j u)) Q E s) :
   OpR X f (rI0 λi j=>.int (g i j)):=by
 intro pins s σ H x y v u Q I rx ry h
 obtain ⟨i,j,rfl,rfl,q⟩:=h
 obtain ⟨t,rfl⟩:=rx
 obtain ⟨t',rfl⟩:=ry
 exact rule i j t t' s _ _ ⟨.int (g i j),H,I.tok _,⟨_,rfl⟩,q⟩
theorem m3 {f:Value->Value->Sem Value} {g:Int->Int->Bool}
   (rule:∀ (i j:Int) (t u:Tok) (s:Shared) (Q:Value->Shared->Prop) (E:Value->Shared->Prop),Q (.bool (g i j)) s->wpAny (model X.prog X.w) X.A (f (.int i t) (.int j u)) Q E s) :
   OpR X f (rI0 λi j=>.bl (g i j)):=by
 intro pins s σ H x y v u Q I rx ry h
 obtain ⟨i,j,rfl,rfl,q⟩:=h
 obtain ⟨t,rfl⟩:=rx
 obtain ⟨t',rfl⟩:=ry
 exact rule i j t t' s _ _ ⟨.bl (g i j),H,I,rfl,q⟩
noncomputable def qP (i j:Int):Prop:=0<=j/\j<=1000000/\i.natAbs < 2 ^ 64
theorem oN:OpR X (binaryOp .Add) (rI0 λi j=>.int (i + j)):=qv λ_ _ _ _ _ _ _ q=>add_int q
theorem pK:OpR X (binaryOp .Sub) (rI0 λi j=>.int (i - j)):=qv λ_ _ _ _ _ _ _ q=>sub_int q
theorem ng:OpR X (binaryOp .Mod) (rI (λ_ j=>j ≠ 0) λi j=>.int (i.fmod j)):=opI λ_ _ _ _ _ _ _ hc q=>mod_int' hc q
theorem pB:OpR X (binaryOp .Pow) (rI qP λi j=>.int (i ^ j.toNat)):=opI λ_ _ _ _ _ _ _ hc q=>pow_int_small hc.1 hc.2.1 hc.2.2 q
end
noncomputable def qE:V->V->Bool
 | .non,.non=>true | .non,.int _=>true | .int _,.non=>true | .non,.bl _=>true | .bl _,.non=>true | .non,.str _=>true | .str _,.non=>true
 | .int _,.int _=>true | .bl _,.bl _=>true | .str _,.str _=>true | .byt _,.byt _=>true
 | .int _,.str _=>true | .str _,.int _=>true | .bl _,.str _=>true | .str _,.bl _=>true
 | _,_=>false
noncomputable def rEq:R2:=λx y H Q=>qE x y=true/\Q (.bl (decide (x=y))) H
noncomputable def rNe:R2:=λx y H Q=>qE x y=true/\Q (.bl (!decide (x=y))) H
theorem kj {i j:Int}:decide (V.int i=V.int j)=(i == j):=by
 rw [Bool.eq_iff_iff]
 simp
theorem l5 {i j:Bool}:decide (V.bl i=V.bl j)=(i == j):=by
 rw [Bool.eq_iff_iff]
 simp
theorem jY {i j:Str}:decide (V.str i=V.str j)=(i == j):=by
 rw [Bool.eq_iff_iff]
 simp
theorem jW {i j:Array UInt8}:decide (V.byt i=V.byt j)=(i.toList == j.toList):=by
 rw [Bool.eq_iff_iff]
 cases i
 cases j
 simp
section
variable {X:Cx} {a b c:Expr} {ta tb tc:TE} {pos:Pos}
theorem aG {pins:List (Addr × Obj)} {σ:St} {H:Hp} {s:Shared} {Q:VK} {k k':Bool} (I:Inv X pins σ H s) (q:Q (.bl k) H) (e:k=k'):EP X pins σ Q (.bool k') s:=by
 subst e
 exact ⟨.bl k,H,I,rfl,q⟩
theorem nM:OpR X (compareOp .Eq) rEq:=by
 intro pins s σ H x y v u Q I rx ry h
 obtain ⟨hs,q⟩:=h
 cases x with
 | non=>
   cases rx
   cases y with
   | non=>cases ry; exact PySem.EqNone.eq_none_none (aG I q (by simp))
   | bl j=>cases ry; exact PySem.EqNone.eq_none_bool (aG I q (by simp))
   | int j=>obtain ⟨t',rfl⟩:=ry; exact PySem.EqNone.eq_none_int (aG I q (by simp))
   | str j=>obtain ⟨t',rfl⟩:=ry; exact PySem.EqNone.eq_none_str (aG I q (by simp))
   | _=>exact absurd (show false=true from hs) Bool.false_ne_true
 | bl i=>
   cases rx
   cases y with
   | non=>cases ry; exact PySem.EqNone.eq_bool_none (aG I q (by simp))
   | bl j=>cases ry; exact eq_bool (aG I q l5)
   | str j=>obtain ⟨t',rfl⟩:=ry; exact PySem.EqMixed.eq_bool_str (aG I q (by simp))
   | _=>exact absurd (show false=true from hs) Bool.false_ne_true
 | int i=>
   obtain ⟨t,rfl⟩:=rx
   cases y with
   | non=>cases ry; exact PySem.EqNone.eq_int_none (aG I q (by simp))
   | int j=>obtain ⟨t',rfl⟩:=ry; exact eq_int (aG I q kj)
   | str j=>obtain ⟨t',rfl⟩:=ry; exact PySem.EqMixed.eq_int_str (aG I q (by simp))
   | _=>exact absurd (show false=true from hs) Bool.false_ne_true
 | str i=>
   obtain ⟨t,rfl⟩:=rx
   cases y with
   | non=>cases ry; exact PySem.EqNone.eq_str_none (aG I q (by simp))
   | bl j=>cases ry; exact PySem.EqMixed.eq_str_bool (aG I q (by simp))
   | int j=>obtain ⟨t',rfl⟩:=ry; exact PySem.EqMixed.eq_str_int (aG I q (by simp))
   | str j=>obtain ⟨t',rfl⟩:=ry; exact eq_str (aG I q jY)
   | _=>exact absurd (show false=true from hs) Bool.false_ne_true
 | byt i=>
   obtain ⟨t,rfl⟩:=rx
   cases y with
   | byt j=>obtain ⟨t',rfl⟩:=ry; exact PySem.W.eq_bytes (aG I q jW)
   | _=>exact absurd (show false=true from hs) Bool.false_ne_true
 | _=>cases y <;> exact absurd (show false=true from hs) Bool.false_ne_true
theorem nF:OpR X (compareOp .NotEq) rNe:=by
 intro pins s σ H x y v u Q I rx ry h
 obtain ⟨hs,q⟩:=h
 cases x with
 | non=>
   cases rx
   cases y with
   | non=>cases ry; exact PySem.EqNone.ne_none_none (aG I q (by simp))
   | bl j=>cases ry; exact PySem.EqNone.ne_none_bool (aG I q (by simp))
   | int j=>obtain ⟨t',rfl⟩:=ry; exact PySem.EqNone.ne_none_int (aG I q (by simp))
   | str j=>obtain ⟨t',rfl⟩:=ry; exact PySem.EqNone.ne_none_str (aG I q (by simp))
   | _=>exact absurd (show false=true from hs) Bool.false_ne_true
 | bl i=>
   cases rx
   cases y with
   | non=>cases ry; exact PySem.EqNone.ne_bool_none (aG I q (by simp))
   | bl j=>cases ry; exact ne_bool (aG I q (congrArg not l5))
   | str j=>obtain ⟨t',rfl⟩:=ry; exact PySem.EqMixed.ne_bool_str (aG I q (by simp))
   | _=>exact absurd (show false=true from hs) Bool.false_ne_true
 | int i=>
   obtain ⟨t,rfl⟩:=rx
   cases y with
   | non=>cases ry; exact PySem.EqNone.ne_int_none (aG I q (by simp))
   | int j=>obtain ⟨t',rfl⟩:=ry; exact ne_int (aG I q (congrArg not kj))
   | str j=>obtain ⟨t',rfl⟩:=ry; exact PySem.EqMixed.ne_int_str (aG I q (by simp))
   | _=>exact absurd (show false=true from hs) Bool.false_ne_true
 | str i=>
   obtain ⟨t,rfl⟩:=rx
   cases y with
   | non=>cases ry; exact PySem.EqNone.ne_str_none (aG I q (by simp))
   | bl j=>cases ry; exact PySem.EqMixed.ne_str_bool (aG I q (by simp))
   | int j=>obtain ⟨t',rfl⟩:=ry; exact PySem.EqMixed.ne_str_int (aG I q (by simp))
   | str j=>obtain ⟨t',rfl⟩:=ry; exact ne_str (aG I q (congrArg not jY))
   | _=>exact absurd (show false=true from hs) Bool.false_ne_true
 | byt i=>
   obtain ⟨t,rfl⟩:=rx
   cases y with
   | byt j=>obtain ⟨t',rfl⟩:=ry; exact PySem.W.ne_bytes (aG I q (congrArg not jW))
   | _=>exact absurd (show false=true from hs) Bool.false_ne_true
 | _=>cases y <;> exact absurd (show false=true from hs) Bool.false_ne_true
theorem qk:OpR X (compareOp .Lt) (rI0 λi j=>.bl (decide (i < j))):=m3 λ_ _ _ _ _ _ _ q=>lt_int q
theorem qM:OpR X (compareOp .LtE) (rI0 λi j=>.bl (decide (i<=j))):=m3 λ_ _ _ _ _ _ _ q=>le_int q
theorem pZ:OpR X (compareOp .Gt) (rI0 λi j=>.bl (decide (j < i))):=m3 λ_ _ _ _ _ _ _ q=>gt_int q
theorem pX:OpR X (compareOp .GtE) (rI0 λi j=>.bl (decide (j<=i))):=m3 λ_ _ _ _ _ _ _ q=>ge_int q
theorem lg (b:Expr) {op:CmpOp} (h:op ≠ .In:=by decide) (h2:op ≠ .NotIn:=by decide):behindInMarks op b=false:=by
 have e1:(op == CmpOp.In)=false:=by cases op <;> first | rfl | exact absurd rfl h
 have e2:(op == CmpOp.NotIn)=false:=by cases op <;> first | rfl | exact absurd rfl h2
 cases b <;> simp [behindInMarks,e1,e2]
theorem ny {op:CmpOp} {r:R2} (ho:OpR X (compareOp op) r) (ha:PE X a ta) (hb:PE X b tb) (hm:behindInMarks op b=false):PE X (.Compare a [op] [b] pos) (tOp r ta tb):=by
 intro pins s σ H Q I h
 exact wpAny_Compare1 (pD ha hb I h λv u s2 x y H2 I2 rx ry q=>ho pins s2 σ H2 x y v u Q I2 rx ry q) hm
noncomputable def nO (t:TE):TT:=λσ H Q=>t σ H λx H'=>∃ k,x=.bl k/\Q k H'
theorem mY {op:CmpOp} {r:R2} (ho:OpR X (compareOp op) r) (ha:PE X a ta) (hb:PE X b tb) (hm:behindInMarks op b=false):PT X (.Compare a [op] [b] pos) (nO (tOp r ta tb)):=by
 intro pins s σ H Q I h
 refine wpAny_isTrue_Compare1 (thn (ha pins s σ H _ I h) λv s1 ⟨x,H1,I1,r1,q1⟩=>thn (hb pins s1 σ H1 _ I1 q1) λu s2 ⟨y,H2,I2,r2,q2⟩=>
   thn (ho pins s2 σ H2 x y v u _ I2 r1 r2 q2) λc s3 ⟨z,H3,I3,r3,k,e,q3⟩=>?_) hm
 subst e
 cases r3
 exact wpAny_truthy_bool ⟨H3,I3,q3⟩
noncomputable def jF (r r':R2) (ta tb tc:TE):TE:=λσ H Q=>ta σ H λx H1=>tb σ H1 λy H2=>r x y H2 λz H3=>∃ k,z=.bl k /\
 (if k=true then tc σ H3 λw' H4=>r' y w' H4 Q else Q (.bl false) H3)
theorem lX {op op':CmpOp} {r r':R2} (ho:OpR X (compareOp op) r) (ho':OpR X (compareOp op') r') (ha:PE X a ta) (hb:PE X b tb) (hc:PE X c tc)
   (hm:lastMarks [op,op'] [b,c]=false:=by with_unfolding_all rfl):PE X (.Compare a [op,op'] [b,c] pos) (jF r r' ta tb tc):=by
 intro pins s σ H Q I h
 refine Compare_chain (thn (ha pins s σ H _ I h) λv s1 ⟨x,H1,I1,r1,q1⟩=>chain_link (thn (hb pins s1 σ H1 _ I1 q1) λu s2 ⟨y,H2,I2,r2,q2⟩=>
   thn (ho pins s2 σ H2 x y v u _ I2 r1 r2 q2) λd s3 ⟨z,H3,I3,r3,k,e,q3⟩=>?_)) hm
 subst e
 cases r3
 refine wpAny_truthy_bool ?_
 cases k with
 | false=>exact ite_ff ⟨.bl false,H3,I3,rfl,q3⟩
 | true=>exact ite_tt (chain_last (thn (hc pins s3 σ H3 _ I3 q3) λw' s4 ⟨z',H4,I4,r4,q4⟩=>ho' pins s4 σ H4 y z' u w' Q I4 r2 r4 q4))
theorem lV {op op':CmpOp} {r r':R2} (ho:OpR X (compareOp op) r) (ho':OpR X (compareOp op') r') (ha:PE X a ta) (hb:PE X b tb) (hc:PE X c tc)
   (hm:lastMarks [op,op'] [b,c]=false:=by with_unfolding_all rfl):PT X (.Compare a [op,op'] [b,c] pos) (nO (jF r r' ta tb tc)):=by
 intro pins s σ H Q I h
 refine isTrue_chain (thn (ha pins s σ H _ I h) λv s1 ⟨x,H1,I1,r1,q1⟩=>test_link (thn (hb pins s1 σ H1 _ I1 q1) λu s2 ⟨y,H2,I2,r2,q2⟩=>
   thn (ho pins s2 σ H2 x y v u _ I2 r1 r2 q2) λd s3 ⟨z,H3,I3,r3,k,e,q3⟩=>?_)) hm
 subst e
 cases r3
 refine wpAny_truthy_bool ?_
 cases k with
 | false=>
   obtain ⟨k',e',q'⟩:=q3
   cases e'
   exact ite_ff ⟨H3,I3,q'⟩
 | true=>
   refine ite_tt (test_last (thn (hc pins s3 σ H3 _ I3 q3) λw' s4 ⟨z',H4,I4,r4,q4⟩=>thn (ho' pins s4 σ H4 y z' u w' _ I4 r2 r4 q4) λd' s5 ⟨z2,H5,I5,r5,k2,e2,q5⟩=>?_))
   subst e2
   cases r5
   exact wpAny_truthy_bool ⟨H5,I5,q5⟩
theorem gW:(sizeLine:Nat) < 2 ^ 63:=by rw [sizeLine_eq]; decide
theorem vals1 {x:V} {us:List Value} (r:Vals [x] us):∃ u,us=[u]/\RelV x u:=by
 cases r with
 | cons r1 r2=>cases r2; exact ⟨_,rfl,r1⟩
theorem vals2 {x y:V} {us:List Value} (r:Vals [x,y] us):∃ u w',us=[u,w']/\RelV x u/\RelV y w':=by
 cases r with
 | cons r1 r2=>
   cases r2 with
   | cons r3 r4=>cases r4; exact ⟨_,_,rfl,r1,r3⟩
theorem mj:cZ X (.builtin "abs") (λxs H Q=>∃ i,xs=[.int i]/\Q (.int (if i < 0 then -i else i)) H):=by
 intro pins s σ H xs us Q I r h
 obtain ⟨i,rfl,q⟩:=h
 obtain ⟨u,rfl,t,rfl⟩:=vals1 r
 exact call_abs_int λu tk=>⟨.int (if i < 0 then -i else i),H,I.tok _,⟨_,rfl⟩,q⟩
theorem kK (hc:X.calm=true):cZ X (.builtin "max") (λxs H Q=>∃ i j,xs=[.int i,.int j]/\Q (.int (if j > i then j else i)) H):=by
 intro pins s σ H xs us Q I r h
 obtain ⟨i,j,rfl,q⟩:=h
 obtain ⟨u,w',rfl,⟨t,rfl⟩,⟨t',rfl⟩⟩:=vals2 r
 refine max_two_ints (I.ok.hd hc) λh' tk k=>⟨_,H,I.kept k,?_,q⟩
 by_cases hj:j > i
 · rw [if_pos hj,if_pos hj]; exact ⟨_,rfl⟩
 · rw [if_neg hj,if_neg hj]; exact ⟨_,rfl⟩
theorem kB:cZ X (.type "int") (λxs H Q=>(∃ i,xs=[.int i]/\Q (.int i) H)\/∃ k,xs=[.bl k]/\Q (.int (if k then 1 else 0)) H):=by
 intro pins s σ H xs us Q I r h
 rcases h with ⟨i,rfl,q⟩ | ⟨k,rfl,q⟩
 · obtain ⟨u,rfl,t,rfl⟩:=vals1 r
   exact call_int_int ⟨.int i,H,I,⟨_,rfl⟩,q⟩
 · obtain ⟨u,rfl,r1⟩:=vals1 r
   cases r1
   exact call_int_bool ⟨.int (if k then 1 else 0),H,I.tok _,⟨_,rfl⟩,q⟩
end
end L2
namespace L2
open PySem PySem.Spec PyProof.Rows
section
variable {prog:Program} {w:World} {A:Around} {E:Value->Shared->Prop} {s:Shared} {K:PySem.W.Frag} {x dx C f:Addr} {mA:Str->Option Value} {name:Str} {v:Value}
end
theorem mU.some_of {v:V} {o:Option Value} (r:mU (some v) o):∃ u,o=some u/\RelV v u:=by
 cases o with
 | none=>exact (show False from r).elim
 | some u=>exact ⟨u,rfl,r⟩
section
variable {P:Program} {w:World} {H H':Hp} {h h':Heap} {a C dx:Addr} {fs fs':List (Str × V)}
end
section
variable {X:Cx} {pins:List (Addr × Obj)} {σ:St} {H:Hp} {s:Shared} {a C dx:Addr} {fs:List (Str × V)} {f:Str} {v:V} {A:Around} {E:Value->Shared->Prop}
end
section
variable {X:Cx} {o e value:Expr} {f:Str} {pos pos' tpos:Pos} {ta tv:TE}
end
section
variable {X:Cx} {pins:List (Addr × Obj)} {σ:St} {H:Hp} {s:Shared} {A:Around} {E:Value->Shared->Prop} {Q:Value->Shared->Prop} {c:Value} {b:Bool}
end
end L2
namespace L2
open PySem PySem.Spec PyProof.Rows
structure cC (k:Nat) (A:Around):Prop where
 hd:A.handled=none
 dp:A.depth + 3 * k + 5 < recursionLimit
 un:A.units + 16 * k + 200 < cLine
theorem cC.mono {j k:Nat} {A:Around} (r:cC k A) (h:j<=k):cC j A:=⟨r.hd,by have:=r.dp; omega,by have:=r.un; omega⟩
theorem cC.deeper {k:Nat} {A:Around} (r:cC (k + 1) A) (env:Env):cC k (A.deeper env):=
 ⟨r.hd,by have:=r.dp; show A.depth + 1 + 3 * k + 5 < _; omega,by have:=r.un; show A.units + 3 + 16 * k + 200 < _; omega⟩
theorem cC.depth {k:Nat} {A:Around} (r:cC k A):A.depth < recursionLimit:=by have:=r.dp; omega
theorem cC.units {k:Nat} {A:Around} (r:cC k A):A.units + 64 < cLine:=by have:=r.un; omega
noncomputable def qU:TA:=λ_ H Q=>Q [] H
noncomputable def qJ (ta:TE) (tr:TA):TA:=λσ H Q=>ta σ H λx H1=>tr σ H1 λxs H2=>Q (x :: xs) H2
section
variable {X:Cx} {e:Expr} {es:List Expr} {te:TE} {t:TA} {pos:Pos}
theorem eA:PA X [] qU:=λ_ _ _ _ H Q I h=>Calls.spliced_nil ⟨[],H,I,.nil,h⟩
theorem cq (ha:PE X e te) (hr:PA X es t) (hs:starEach (e :: es) X.env=(false,eval e X.env) :: starEach es X.env:=by rfl):PA X (e :: es) (qJ te t):=by
 intro pos pins s σ H Q I h
 rw [hs]
 show wpAny _ _ (spliced ((false,eval e X.env) :: backTo pos (starEach es X.env))) _ _ s
 refine Calls.spliced_cons (thn (ha pins s σ H _ I h) λu s1 ⟨x,H1,I1,r1,q1⟩=>?_)
 exact thn (hr pos pins s1 σ H1 _ I1 q1) λus s2 ⟨xs,H2,I2,r2,q2⟩=>⟨x :: xs,H2,I2,.cons r1 r2,q2⟩
noncomputable def q9 (t:TA):TE:=λσ H Q=>t σ H λxs H1=>xs.length<=sizeLine/\∀ p,H1 p=none->Q (.ref p) (upd H1 p (.tup xs))
noncomputable def rk (t:TA):TE:=λσ H Q=>t σ H λxs H1=>xs.length<=sizeLine/\∀ p,H1 p=none->Q (.ref p) (upd H1 p (.lst xs))
theorem lC {x1} (h:PA X es t):PE X (.Tuple es x1 pos) (q9 t):=by
 intro pins s σ H Q I hq
 refine wpAny_Tuple_spliced (thn (h pos pins s σ H _ I hq) λus s1 ⟨xs,H1,I1,r,z,q⟩=>⟨by rw [<- r.length]; exact z,?_⟩)
 have hf:H1 s1.heap.objs.size=none:=I1.hok.fresh (Nat.le_refl _)
 refine ⟨.ref s1.heap.objs.size,upd H1 s1.heap.objs.size (.tup xs),I1.laid (t':=s1.toks) (λb u e=>Heap.get?_push_of_some _ e) (Nat.le_refl _) ?_,rfl,q _ hf⟩
 exact ⟨z,us,r,⟨_,Heap.get?_push_size _ rfl,rfl,_,rfl⟩⟩
theorem pL (h:PA X es t):PE X (.List es pos) (rk t):=by
 intro pins s σ H Q I hq
 refine wpAny_List_spliced (thn (h pos pins s σ H _ I hq) λus s1 ⟨xs,H1,I1,r,z,q⟩=>⟨by rw [<- r.length]; exact z,?_⟩)
 have hf:H1 s1.heap.objs.size=none:=I1.hok.fresh (Nat.le_refl _)
 refine ⟨.ref s1.heap.objs.size,upd H1 s1.heap.objs.size (.lst xs),I1.laid (t':=s1.toks) (λb u e=>Heap.get?_push_of_some _ e) (Nat.le_refl _) ?_,rfl,q _ hf⟩
 exact ⟨z,us,0,r,Heap.get?_push_size _ rfl⟩
end
noncomputable abbrev Sp:=List V->Hp->VK->XK->Prop
noncomputable abbrev CXT:=List Env->Hp->Shared->XK->Value->Shared->Prop
structure nB (P:Program) (w:World) (K:PySem.W.Frag) (mg:Str->Option Value) (base:Heap) (A:Around) (outer:List Env) (s:Shared) (H:Hp):Prop where
 frames:A.frames=some outer
 mod:Mod K mg base
 bs:∀ b o,base.get? b=some o->s.heap.get? b=some o/\H b=none
 bsz:base.objs.size<=s.heap.objs.size
 ff:s.heap.FunFrames base outer
 frf:∀ b ∈ frs outer,H b=none
 hok:HOk P w H s.heap
 bare:AllBare s.gens
noncomputable def CE (outer:List Env) (P:Program) (w:World) (H:Hp) (s:Shared) (Q:VK) (u:Value) (s':Shared):Prop:=
 ∃ v H',s'.os=s.os/\AllBare s'.gens/\Un (frs outer) [] H H' s.heap s'.heap/\HOk P w H' s'.heap/\RelV v u/\Q v H'
noncomputable def CR (CX:CXT) (outer:List Env) (P:Program) (w:World) (H:Hp) (s:Shared) (Q:VK) (E:XK) (r:Result) (s':Shared):Prop:=
 match r with
 | .ok (.ret u)=>CE outer P w H s Q u s'
 | .ok _=>False
 | .error e=>CX outer H s E e s'
structure aK (P:Program) (w:World) (K:PySem.W.Frag) (mg:Str->Option Value) (base:Heap) (CX:CXT) (k:Nat) (f:Addr) (fd:FuncData) (ps:List Str) (sp:Sp):Prop where
 len:∀ vs H Q E,sp vs H Q E->vs.length=ps.length
 run:∀ (A:Around) (outer:List Env) (s:Shared) (H:Hp) (args:Args) (us:List Value) (vs:List V) (Q:VK) (E:XK),cC k A->nB P w K mg base A outer s H->BindsTo s fd args (ps.zip us)->Vals vs us->sp vs H Q E ->
   codeAny (model P w) A (.call (.ref f) args) (CR CX outer P w H s Q E) s
theorem aK.mono {P:Program} {w:World} {K:PySem.W.Frag} {mg:Str->Option Value} {base:Heap} {CX:CXT} {j k:Nat} {f:Addr} {fd:FuncData} {ps:List Str} {sp:Sp} (F:aK P w K mg base CX j f fd ps sp) (h:j<=k) :
   aK P w K mg base CX k f fd ps sp:=⟨F.len,λA outer s H args us vs Q E hr=>F.run A outer s H args us vs Q E (hr.mono h)⟩
section
variable {X:Cx} {pins:List (Addr × Obj)} {σ:St} {H:Hp} {s s':Shared}
theorem Inv.rA (I:Inv X pins σ H s):nB X.prog X.w X.K X.mg X.base X.A X.stack s H:=
 ⟨I.ok.frames,I.ok.mod,I.bs,Nat.le_trans I.ok.bsz I.sz,I.stack,I.j1,I.hok,I.bare⟩
theorem Inv.after {Q:VK} {u:Value} (I:Inv X pins σ H s) (h:CE X.stack X.prog X.w H s Q u s'):EP X pins σ Q u s':=by
 obtain ⟨v,H',os,bare,un,hok,r,q⟩:=h
 obtain ⟨hh,g,d,t,os'⟩:=s'
 obtain rfl:os'=s.os:=os
 exact ⟨v,H',I.call (h':=hh) (g':=g) (d':=d) (t':=t) (ch:=[]) un hok bare (λb z=>absurd z (by simp)),r,q⟩
end
noncomputable def qG (sp:Sp) (dvs:List V) (E:XK) (t:TA):TE:=λσ H Q=>t σ H λvs H1=>sp (vs++dvs) H1 Q E
noncomputable def Binds (K:PySem.W.Frag) (fd:FuncData) (ps:List Str) (ds:List Value):Prop:=
 ∀ (s:Shared) (us:List Value),K.In s.heap->(us++ds).length=ps.length->BindsTo s fd ⟨us,[]⟩ (ps.zip (us++ds))
theorem Binds.all {K:PySem.W.Frag} {fd:FuncData} {ps:List Str} (h:∀ us:List Value,us.length=ps.length->bindArgs fd ⟨us,[]⟩=pure (ps.zip us)):Binds K fd ps []:=λs us _ hl=>by
 rw [List.append_nil] at hl ⊢
 exact .of_eq (h us hl)
noncomputable def Passes (CX:CXT) (X:Cx) (E:XK):Prop:=∀ (pins:List (Addr × Obj)) (σ:St) (H:Hp) (s:Shared) (e:Value) (s':Shared),Inv X pins σ H s->CX X.stack H s E e s'->X.xe e s'
section
variable {X:Cx} {CX:CXT} {k:Nat} {f C:Addr} {fd:FuncData} {ps:List Str} {sp:Sp} {dvs:List V} {ds:List Value} {E:XK} {x m:Str} {p pos apos:Pos} {e o:Expr} {es:List Expr} {ta:TE} {t:TA}
theorem pk {pins:List (Addr × Obj)} {σ:St} {H:Hp} {s:Shared} {Q:VK} {us:List Value} {vs:List V} (F:aK X.prog X.w X.K X.mg X.base CX k f fd ps sp) (hr:cC k X.A) (hb:Binds X.K fd ps ds) (hd:Vals dvs ds) (hx:Passes CX X E)
   (I:Inv X pins σ H s) (r:Vals vs us) (h:sp (vs++dvs) H Q E):wpAny (model X.prog X.w) X.A (call (.ref f) us) (EP X pins σ Q) X.xe s:=by
 have r2:Vals (vs++dvs) (us++ds):=r.append hd
 have hl:(us++ds).length=ps.length:=by rw [<- r2.length]; exact F.len _ _ _ _ h
 refine wpAny_call (codeAny_mono (F.run X.A X.stack s H ⟨us,[]⟩ (us++ds) (vs++dvs) Q E hr I.rA (hb s us I.kIn hl) r2 h) λr s' hq=>?_)
 cases r with
 | error e=>exact hx pins σ H s e s' I hq
 | ok fl=>
   cases fl with
   | ret u=>exact I.after hq
   | next=>exact False.elim hq
   | brk=>exact False.elim hq
   | cont=>exact False.elim hq
theorem nq (F:aK X.prog X.w X.K X.mg X.base CX k f fd ps sp) (hr:cC k X.A) (hg:Gl X x) (hm:X.mg x=some (.ref f)) (hk:PySem.W.keepIn X.K (.ref f)=true) (hb:Binds X.K fd ps ds) (hd:Vals dvs ds) (hx:Passes CX X E)
   (ha:PA X (e :: es) t) (hdb:(x == ("__debug__" : Str))=false:=by decide) (he:starEach (e :: es) X.env=(false,eval e X.env) :: starEach es X.env:=by rfl) (hpl:(backTo pos (starEach es X.env)).any (·.1)=false:=by rfl) :
   PE X (.Call (.Name x p) (e :: es) [] pos) (qG sp dvs E t):=by
 intro pins s σ H Q I h
 refine wpAny_Call_Name_kw (j5 I hg hm ?_ hdb)
 refine PySem.W.callWith_K (h₀:=X.base) I.ok.mod.kin hk (thn (ha pos pins s σ H _ I h) λus s1 ⟨vs,H1,I1,r,q⟩=>⟨I1.kIn,?_⟩) he hpl
 exact pk F hr hb hd hx I1 r q
end
section
variable {X:Cx} {CX:CXT} {k:Nat} {f C:Addr} {fd:FuncData} {ps ks:List Str} {sp:Sp} {E:XK} {x m:Str} {p pos apos kpos:Pos} {e o:Expr} {es:List Expr} {kws:List Keyword} {te ta:TE} {t tk:TA} {nm:Option Str}
variable {g:List Value->List Value->List Value} {gV:List V->List V->List V}
end
structure ar (N P:List Str) (sc:Scope):Prop where
 kind:sc.kind=.function
 co:sc.isCoroutine=false
 gen:sc.isGenerator=false
 nd:N.Nodup
 pre:N.take P.length=P
 par:∀ x ∈ P,sc.names.lookup x=some .local\/sc.names.lookup x=some .cell
 nofree:∀ y ∈ sc.names,y.2 ≠ .free
theorem gw {kindOf:Str->Option NameKind} {x:Str}:∀ {binds:List (Str × Value)} {m:Str->Option Value},(∀ v,(x,v) ∉ binds)->bindL kindOf binds m x=m x
 | [],_,_=>rfl
 | (n,v) :: r,m,h=>by
   unfold bindL
   rw [gw λw hw=>h w (List.mem_cons_of_mem _ hw)]
   split
   · have:x ≠ n:=by rintro rfl; exact h v List.mem_cons_self
     simp [this]
   · rfl
theorem gG {kindOf:Str->Option NameKind} {x:Str}:∀ {binds:List (Str × Value)} {m:Str->Option Value},(∀ v,(x,v) ∉ binds)->bindC kindOf binds m x=m x
 | [],_,_=>rfl
 | (n,v) :: r,m,h=>by
   unfold bindC
   rw [gG λw hw=>h w (List.mem_cons_of_mem _ hw)]
   split
   · rfl
   · have:x ≠ n:=by rintro rfl; exact h v List.mem_cons_self
     simp [this]
theorem gy {kindOf:Str->Option NameKind} {x:Str} {v:Value}:∀ {P:List Str} {vs:List Value} {i:Nat} {m:Str->Option Value},P.Nodup->P[i]?=some x->vs[i]?=some v->kindOf x=some .local ->
   bindL kindOf (P.zip vs) m x=some v
 | [],_,_,_,_,h,_,_=>by simp at h
 | _ :: _,[],_,_,_,_,h,_=>by simp at h
 | p :: P,w :: vs,0,m,nd,h1,h2,hk=>by
   simp at h1 h2; subst h1; subst h2
   show bindL kindOf ((p,w) :: P.zip vs) m p=_
   unfold bindL
   rw [gw λv hv=>(List.nodup_cons.mp nd).1 (List.of_mem_zip hv).1,if_pos hk]
   simp
 | p :: P,w :: vs,i + 1,m,nd,h1,h2,hk=>by
   show bindL kindOf ((p,w) :: P.zip vs) m x=_
   unfold bindL
   exact gy (i:=i) (List.nodup_cons.mp nd).2 (by simpa using h1) (by simpa using h2) hk
theorem gA {kindOf:Str->Option NameKind} {x:Str} {v:Value}:∀ {P:List Str} {vs:List Value} {i:Nat} {m:Str->Option Value},P.Nodup->P[i]?=some x->vs[i]?=some v->kindOf x ≠ some .local ->
   bindC kindOf (P.zip vs) m x=some v
 | [],_,_,_,_,h,_,_=>by simp at h
 | _ :: _,[],_,_,_,_,h,_=>by simp at h
 | p :: P,w :: vs,0,m,nd,h1,h2,hk=>by
   simp at h1 h2; subst h1; subst h2
   show bindC kindOf ((p,w) :: P.zip vs) m p=_
   unfold bindC
   rw [gG λv hv=>(List.nodup_cons.mp nd).1 (List.of_mem_zip hv).1,if_neg hk]
   simp
 | p :: P,w :: vs,i + 1,m,nd,h1,h2,hk=>by
   show bindC kindOf ((p,w) :: P.zip vs) m x=_
   unfold bindC
   exact gA (i:=i) (List.nodup_cons.mp nd).2 (by simpa using h1) (by simpa using h2) hk
noncomputable def start (N:List Str) (vs:List V):St:=vs.map some++List.replicate (N.length - vs.length) none
noncomputable def jz (CX:CXT) (P:Program) (w:World) (K:PySem.W.Frag) (mg:Str->Option Value) (base:Heap) (N:List Str) (qual:Str) (scope:Scope) (f:Addr) (cd:Value) (A:Around) (outer:List Env) (s:Shared) (H:Hp) (E:XK):Cx where
 prog:=P
 w:=w
 K:=K
 mg:=mg
 base:=base
 A:=A.deeper (envOfC qual scope s.heap.objs.size f cd)
 N:=N
 s₀:=s
 H₀:=H
 env:=envOfC qual scope s.heap.objs.size f cd
 outer:=outer
 stack:=envOfC qual scope s.heap.objs.size f cd :: outer
 ex:=[]
 calm:=true
 fn:=λ_=>true
 pn:=[]
 xe:=λe s'=>wpAny (model P w) (A.deeper (envOfC qual scope s.heap.objs.size f cd)) (leaving (envOfC qual scope s.heap.objs.size f cd) e) (λ_ s''=>CX outer H s E e s'') (λe' s''=>CX outer H s E e' s'') s'
theorem iP {sc:Scope} {n:Nat} {x:Str} (h:sc.names.lookup x=some .cell):∃ c,(cellsFrom n sc.names []).lookup x=some c:=by
 have q:=PySem.W.cellsFrom_some sc.names n [] (.inl h)
 exact Option.isSome_iff_exists.mp q
theorem kR {CX:CXT} {P:Program} {w:World} {K:PySem.W.Frag} {mg:Str->Option Value} {base:Heap} {N ps:List Str} {qual:Str} {scope:Scope} {f:Addr} {cd:Value} {A:Around} {outer:List Env} {s s1:Shared} {H:Hp} {E:XK} {us:List Value} {vs:List V}
   (S:ar N ps scope) (hd:A.handled=none) (e0:nB P w K mg base A outer s H) (hl:vs.length=ps.length) (r:Vals vs us)
   (x:InCallC s s.heap.objs.size (bindL (envOfC qual scope s.heap.objs.size f cd).kindOf (ps.zip us) λ_=>none) (cellsFrom (s.heap.objs.size + 1) scope.names []) (bindC (envOfC qual scope s.heap.objs.size f cd).kindOf (ps.zip us) λ_=>none) s1) :
   Inv (jz CX P w K mg base N qual scope f cd A outer s H E) [] (start N vs) H s1:=by
 have hpl:ps.length<=N.length:=by have:=congrArg List.length S.pre; rw [List.length_take] at this; omega
 obtain ⟨h1,tk,rfl,hk⟩:=x.done
 have noA:∀ b:Addr,b ∉ (jz CX P w K mg base N qual scope f cd A outer s H E).ex:=λb z=>absurd (show b ∈ ([]:List Addr) from z) (by simp)
 refine ⟨⟨e0.mod,S.kind,rfl,rfl,Nat.le_refl _,λy z c h1 h2=>?_,λy hy=>?_,λy c _ h=>?_,λ_=>hd,Around.frames_deeper e0.frames,.inr ⟨rfl,rfl⟩,λb z=>absurd z (noA b),e0.bs,e0.bsz,λb _ _=>noA b,λb z=>absurd z (noA b),e0.ff,e0.frf⟩,
   rfl,e0.bare,Un.kept hk,⟨_,x.toInCall.ns,λi y v h1 h2 h3=>?_⟩,λy c h=>⟨_,x.cell y c h⟩,e0.hok.fresh (Nat.le_refl _),λy c h=>?_,λp hp=>absurd (show p ∈ ([]:List (Addr × Obj)) from hp) (by simp),e0.hok.kept hk,?_⟩
 · exact name_of_addr x.apart (PySem.mem_of_lookup h1) (PySem.mem_of_lookup h2)
 · have hy:scope.names.lookup y=some .cell\/scope.names.lookup y=some .free:=hy
   rcases hy with hy | hy
   · exact iP hy
   · exact absurd rfl (S.nofree _ (PySem.mem_of_lookup hy))
 · exact Nat.le_of_lt (x.above y c (PySem.mem_of_lookup h))
 · have hi:i < vs.length:=by
     unfold start at h2
     by_cases hi:i < vs.length
     · exact hi
     · rw [List.getElem?_append_right (by simpa using hi)] at h2
       rw [List.getElem?_replicate] at h2
       split at h2 <;> cases h2
   have ha:vs[i]?=some v:=by
     unfold start at h2
     rw [List.getElem?_append_left (by simpa using hi),List.getElem?_map] at h2
     cases e:vs[i]? with
     | none=>rw [e] at h2; cases h2
     | some a=>rw [e] at h2; cases h2; rfl
   obtain ⟨u,hu,rv⟩:=r.get ha
   have hp:ps[i]?=some y:=by
     rw [<- S.pre,List.getElem?_take_of_lt (by omega)]; exact h1
   have ndP:ps.Nodup:=by rw [<- S.pre]; exact S.nd.sublist (List.take_sublist _ _)
   refine ⟨u,rv,?_⟩
   rcases S.par y (List.mem_of_getElem? hp) with k | k
   · exact .inl ⟨k,gy ndP hp hu k⟩
   · obtain ⟨c,e⟩:=iP (n:=s.heap.objs.size + 1) k
     refine .inr ⟨.inl k,c,e,?_⟩
     have q:=x.cell y c e
     rw [gA ndP hp hu (by show scope.names.lookup y ≠ _; rw [k]; decide)] at q
     exact q
 · exact e0.hok.fresh (Nat.le_of_lt (x.above y c (PySem.mem_of_lookup h)))
 · unfold start
   show _=N.length
   rw [List.length_append,List.length_map,List.length_replicate]
   omega
theorem pN {CX:CXT} {P:Program} {w:World} {K:PySem.W.Frag} {mg:Str->Option Value} {base:Heap} {k:Nat} {f:Addr} {name qual:Str} {params:Arguments} {body:List Stmt} {scope:Scope} {dV kV doc pm cdv ct oc:Value} {an od:Option Addr}
   {osl:Array (Option Value)} {N ps:List Str} {sp:Sp} (lk:K.lookup f=some ⟨oc,od,.func (PySem.W.fnOf name qual params body scope dV kV doc pm an cdv ct),osl⟩) (hcd:PySem.W.codeIn K cdv qual=true) (S:ar N ps scope)
   (len:∀ vs H Q E,sp vs H Q E->vs.length=ps.length)
   (hbody:∀ (A:Around) (outer:List Env) (s:Shared) (H:Hp) (vs:List V) (Q:VK) (E:XK),cC k (A.deeper (envOfC qual scope s.heap.objs.size f cdv))->sp vs H Q E ->
     ∃ t,PSs (jz CX P w K mg base N qual scope f cdv A outer s H E) body t/\t { nx:=λ_ H'=>Q .non H',rt:=Q } (start N vs) H) :
   aK P w K mg base CX (k + 1) f (PySem.W.fnOf name qual params body scope dV kV doc pm an cdv ct) ps sp:=by
 refine ⟨len,λA outer s H args us vs Q E hr e0 hb r hsp=>?_⟩
 have hl:=len _ _ _ _ hsp
 have KX:K.In s.heap:=e0.mod.kin.keeps λb o e=>(e0.bs b o e).1
 have lim:s.heap.NoLimit:=e0.mod.nolimit.keeps λb o e=>(e0.bs b o e).1
 have hkind:∀ y ∈ ps.zip us,scope.names.lookup y.1=some .local\/(scope.names.lookup y.1=some .cell/\((cellsFrom (s.heap.objs.size + 1) scope.names []).lookup y.1).isSome=true):=λ⟨n,v⟩ hy=>by
   rcases S.par n (List.of_mem_zip hy).1 with q | q
   · exact .inl q
   · exact .inr ⟨q,PySem.W.cellsFrom_some _ _ _ (.inl q)⟩
 refine codeAny_call_function hr.depth (KX _ _ lk) rfl S.co S.gen rfl (PySem.W.codeRec_of KX hcd) (hb _ _ _ _ ?_)
 refine wpAny_newFunctionEnv_cells S.kind hkind λenv he s1 x=>?_
 subst he
 refine ⟨lim.keeps x.toInCall.keep,codeAny_func ?_⟩
 obtain ⟨t,ht,hq⟩:=hbody A outer s H vs Q E (hr.deeper _) hsp
 have I:Inv (jz CX P w K mg base N qual scope f cdv A outer s H E) [] (start N vs) H s1:=kR S hr.hd e0 hl r x
 refine wpAny_mono (ht [] s1 (start N vs) H _ I hq) (λfl s' hs=>?_) λe s' hs=>hs
 have fin:∀ {σ':St} {H':Hp} {v:V} {u:Value},Inv (jz CX P w K mg base N qual scope f cdv A outer s H E) [] σ' H' s'->RelV v u->Q v H'->CE outer P w H s Q u s':=
   λ{σ' H' v u} J rv q=>⟨v,H',J.os,J.bare,J.base,J.hok,rv,q⟩
 cases fl with
 | ret u=>
   obtain ⟨v,σ',H',J,rv,q⟩:=hs
   exact fin J rv q
 | next=>
   obtain ⟨σ',H',J,q⟩:=hs
   exact fin (v:=V.non) (u:=Value.none) J rfl q
 | brk=>
   obtain ⟨_,_,_,q⟩:=hs
   exact False.elim q
 | cont=>
   obtain ⟨_,_,_,q⟩:=hs
   exact False.elim q
end L2
namespace L2
open PySem PySem.Spec PyProof.Rows
section
variable {X:Cx} {x:Str} {p pos:Pos} {e:Expr} {es:List Expr} {t:TA} {id T:String} {r:List V->Hp->VK->Prop}
noncomputable def tCB (r:List V->Hp->VK->Prop) (t:TA):TE:=λσ H Q=>t σ H λvs H1=>r vs H1 Q
theorem je (hc:cZ X (.builtin id) r) (hg:Gl X x) (hm:X.mg x=none) (hv:bootBuiltins x=some (.builtin id)) (ha:PA X (e :: es) t) (hn:x ≠ "__name__":=by decide) (hdb:(x == ("__debug__" : Str))=false:=by decide)
   (he:starEach (e :: es) X.env=(false,eval e X.env) :: starEach es X.env:=by rfl) (hpl:(backTo pos (starEach es X.env)).any (·.1)=false:=by rfl):PE X (.Call (.Name x p) (e :: es) [] pos) (tCB r t):=by
 intro pins s σ H Q I h
 refine wpAny_Call_Name_kw (da I hg hm hv ?_ hn hdb)
 exact PyProof.Rows.callWith_builtin1 (thn (ha pos pins s σ H _ I h) λus s1 ⟨vs,H1,I1,r1,q1⟩=>hc pins s1 σ H1 vs us Q I1 r1 q1) he hpl
theorem kI (hc:cZ X (.type T) r) (hg:Gl X x) (hm:X.mg x=none) (hv:bootBuiltins x=some (.type T)) (ha:PA X (e :: es) t) (hn:x ≠ "__name__":=by decide) (hdb:(x == ("__debug__" : Str))=false:=by decide)
   (he:starEach (e :: es) X.env=(false,eval e X.env) :: starEach es X.env:=by rfl) (hpl:(backTo pos (starEach es X.env)).any (·.1)=false:=by rfl):PE X (.Call (.Name x p) (e :: es) [] pos) (tCB r t):=by
 intro pins s σ H Q I h
 refine wpAny_Call_Name_kw (da I hg hm hv ?_ hn hdb)
 exact PyProof.Rows.callWith_type1 (thn (ha pos pins s σ H _ I h) λus s1 ⟨vs,H1,I1,r1,q1⟩=>hc pins s1 σ H1 vs us Q I1 r1 q1) he hpl
end
end L2
namespace HT
open PySem PyProof.Rows
section
open PySem.SeqAt
open PySem.AutoSeq1 (wpAny_loadPart')
open PySem.MeetsSeq PySem.MeetsSeq2 PySem.MeetsSeq3
end
section
variable {prog:Program} {w:World} {A:Around} {E:Value->Shared->Prop} {s:Shared}
noncomputable def sIx (n d:Nat):Option Int->Nat
 | none=>d
 | some v=>if v < 0 then (v + (n:Int)).toNat else min v.toNat n
theorem mC (n d:Nat):sIx n d none=d:=rfl
theorem iA (n d k:Nat):sIx n d (some (k:Int))=min k n:=by
 show (if (k:Int) < 0 then ((k:Int) + (n:Int)).toNat else min (k:Int).toNat n)=min k n
 rw [if_neg (by omega),Int.toNat_natCast]
end
end HT
namespace L2
open PySem PySem.Spec PyProof.Rows
noncomputable abbrev TO:=St->Hp->(Option Int->Hp->Prop)->Prop
noncomputable def PO (X:Cx) (e:Option Expr) (t:TO):Prop:=
 ∀ (pins:List (Addr × Obj)) (s:Shared) (σ:St) (H:Hp) (Q:Option Int->Hp->Prop),Inv X pins σ H s->t σ H Q ->
   wpAny (model X.prog X.w) X.A (evalPart e X.env) (λu s'=>∃ o H',Inv X pins σ H' s'/\IsPart u o/\Q o H') X.xe s
noncomputable def mO:TO:=λ_ H Q=>Q none H
noncomputable def p8 (t:TE):TO:=λσ H Q=>t σ H λx H1=>∃ i,x=.int i/\Q (some i) H1
section
variable {X:Cx} {e:Expr} {te:TE} {lo hi:Option Expr} {tl th:TO} {pos p2:Pos}
theorem nh:PO X none mO:=by
 intro pins s σ H Q I h
 rw [evalPart_none]
 exact wpAny_pure ⟨none,H,I,.none,h⟩
theorem mP (h:PE X e te):PO X (some e) (p8 te):=by
 intro pins s σ H Q I hw
 rw [evalPart_some]
 refine thn (h pins s σ H _ I hw) λu s1 ⟨x,H1,I1,r1,q1⟩=>?_
 obtain ⟨i,rfl,q⟩:=q1
 obtain ⟨t,rfl⟩:=r1
 exact ⟨some i,H1,I1,.int i t,q⟩
noncomputable def SlR (X:Cx) (r:V->Option Int->Option Int->Hp->VK->Prop):Prop:=
 ∀ (pins:List (Addr × Obj)) (s:Shared) (σ:St) (H:Hp) (x:V) (v vl vu:Value) (lo hi:Option Int) (sl:Addr) (Q:VK),Inv X pins σ H s->RelV x v->s.heap.IsSliceOf sl vl vu .none->IsPart vl lo->IsPart vu hi->r x lo hi H Q ->
   ∃ T id,typeLookup (.type T) "__getitem__" = pure (some (.builtin id))/\s.TypeIs v T/\wpAny (model X.prog X.w) X.A (getItem v (.ref sl)) (EP X pins σ Q) X.xe s
noncomputable def tSl (r:V->Option Int->Option Int->Hp->VK->Prop) (te:TE) (tl th:TO):TE:=λσ H Q=>te σ H λx H1=>tl σ H1 λl H2=>th σ H2 λu H3=>r x l u H3 Q
theorem lb {r:V->Option Int->Option Int->Hp->VK->Prop} (hr:SlR X r) (he:PE X e te) (hl:PO X lo tl) (hu:PO X hi th):PE X (.Subscript e (.Slice lo hi none p2) pos) (tSl r te tl th):=by
 intro pins s σ H Q I h
 refine Subscript_ (thn (he pins s σ H _ I h) λv s1 ⟨x,H1,I1,r1,q1⟩=>?_)
 refine wpAny_Slice (thn (hl pins s1 σ H1 _ I1 q1) λvl s2 ⟨l,H2,I2,pl,q2⟩=>thn (hu pins s2 σ H2 _ I2 q2) λvu s3 ⟨u,H3,I3,pu,q3⟩=>?_)
 rw [evalPart_none]
 refine wpAny_pure ?_
 have I4:Inv X pins σ H3 { s3 with heap:=s3.heap.push { cls:=.type "slice",data:=.fields #[vl,vu,.none] } }:=I3.kept (t':=s3.toks) λb ob q=>Heap.get?_push_of_some _ q
 obtain ⟨T,id,hT,ht,hg⟩:=hr pins { s3 with heap:=s3.heap.push { cls:=.type "slice",data:=.fields #[vl,vu,.none] } } σ H3 x v vl vu l u s3.heap.objs.size Q I4 r1 (Heap.IsSliceOf.new ..) pl pu q3
 show wpAny (model X.prog X.w) X.A (subscriptTail e (.Slice lo hi none p2) v (.ref s3.heap.objs.size)) (EP X pins σ Q) X.xe { s3 with heap:=s3.heap.push { cls:=.type "slice",data:=.fields #[vl,vu,.none] } }
 exact tail_any (ops:=[.ref s3.heap.objs.size,v]) ht hT hg (by with_unfolding_all rfl)
noncomputable def ky (xs:List V) (lo hi:Option Int):List V:=(xs.drop (HT.sIx xs.length 0 lo)).take (HT.sIx xs.length xs.length hi - HT.sIx xs.length 0 lo)
theorem iK (xs:List V) (lo hi:Option Int):(ky xs lo hi).length<=xs.length:=by
 unfold ky
 rw [List.length_take,List.length_drop]
 omega
end
end L2
namespace L2
open PySem PySem.Spec PyProof.Rows
noncomputable def ixN (n:Nat) (i:Int):Option Nat:=if 0<=i then (if i < n then some i.toNat else none) else if -(n:Int)<=i then some (i + n).toNat else none
noncomputable def atI {α:Type} (xs:List α) (i:Int):Option α:=(ixN xs.length i).bind λj=>xs[j]?
theorem j2 {n:Nat} {i:Int} {j:Nat} (h:ixN n i=some j):seqIndex? i n=some j/\j < n/\-(n:Int)<=i/\i < n:=by
 unfold ixN at h
 by_cases h0:0<=i
 · rw [if_pos h0] at h
   by_cases h1:i < n
   · rw [if_pos h1] at h
     have e:i.toNat=j:=Option.some.inj h
     exact ⟨by rw [seqIndex_of h0 h1,e],by omega,by omega,h1⟩
   · rw [if_neg h1] at h; cases h
 · rw [if_neg h0] at h
   by_cases h1:-(n:Int)<=i
   · rw [if_pos h1] at h
     have e:(i + n).toNat=j:=Option.some.inj h
     exact ⟨by rw [seqIndex_neg (by omega) h1,e],by omega,h1,by omega⟩
   · rw [if_neg h1] at h; cases h
theorem jU {α:Type} {xs:List α} {i:Int} {v:α} (h:atI xs i=some v):∃ j,seqIndex? i xs.length=some j/\xs[j]?=some v/\j < xs.length/\-(xs.length:Int)<=i/\i < xs.length:=by
 unfold atI at h
 cases e:ixN xs.length i with
 | none=>rw [e] at h; cases h
 | some j=>
   rw [e] at h
   obtain ⟨h1,h2,h3,h4⟩:=j2 e
   exact ⟨j,h1,h,h2,h3,h4⟩
noncomputable def dN (b:Expr):Prop:=∀ o i,subscripted b false o i=operate [o,i] (getItem o i)
noncomputable def IxR (X:Cx) (r:R2):Prop:=
 ∀ (value slice:Expr) (pins:List (Addr × Obj)) (s:Shared) (σ:St) (H:Hp) (x y:V) (v u:Value) (Q:VK),Inv X pins σ H s->RelV x v->RelV y u->r x y H Q ->
   subscripted slice false v u=operate [v,u] (getItem v u)->wpAny (model X.prog X.w) X.A (subscriptTail value slice v u) (EP X pins σ Q) X.xe s
noncomputable def MtR (X:Cx) (id:String) (r:V->List V->Hp->VK->Prop):Prop:=
 ∀ (pins:List (Addr × Obj)) (s:Shared) (σ:St) (H:Hp) (x:V) (xs:List V) (v:Value) (us:List Value) (Q:VK),Inv X pins σ H s->RelV x v->Vals xs us->r x xs H Q ->
   wpAny (model X.prog X.w) X.A (call (.builtin id) (v :: us)) (EP X pins σ Q) X.xe s
section
variable {X:Cx} {a b:Expr} {ta tb:TE} {pos:Pos}
theorem jS {r:R2} (hr:IxR X r) (ha:PE X a ta) (hb:PE X b tb) (hs:dN b):PE X (.Subscript a b pos) (tOp r ta tb):=by
 intro pins s σ H Q I h
 exact Subscript_ (pD ha hb I h λv u s2 x y H2 I2 rx ry q=>hr a b pins s2 σ H2 x y v u Q I2 rx ry q (hs _ _))
noncomputable def rz (K:PySem.W.Frag):R2:=λx y H Q=>∃ p xs i v,x=.ref p/\y=.int i/\SqL K H p xs/\atI xs i=some v/\Q v H
noncomputable def qV (K:PySem.W.Frag):R2:=λx y H Q=>∃ p xs i v,x=.ref p/\y=.int i/\SqT K H p xs/\atI xs i=some v/\Q v H
theorem iE:IxR X (rz X.K):=by
 intro value slice pins s σ H x y v u Q I rx ry h hs
 obtain ⟨p,xs,i,z,rfl,rfl,hq,he,q⟩:=h
 cases rx
 obtain ⟨t,rfl⟩:=ry
 obtain ⟨its,r,pl,hz⟩:=I.list hq
 obtain ⟨j,h1,h2,h3,h4,h5⟩:=jU he
 obtain ⟨w,ew,rw'⟩:=r.get h2
 have hl:=r.length
 have hn:=gW
 have fin:EP X pins σ Q w s:=⟨z,H,I,rw',q⟩
 by_cases h0:0<=i
 · have hj:i.toNat=j:=by
     rw [seqIndex_of h0 h5] at h1
     exact Option.some.inj h1
   exact item_listR pl.isList h0 (by omega) (by rw [hj]; simpa using ew) fin hs
 · have hj:(i + (its.toArray.size:Int)).toNat=j:=by
     rw [seqIndex_neg (by omega) h4] at h1
     rw [List.size_toArray,<- hl]
     exact Option.some.inj h1
   exact subscriptTail_builtinR (x:=w) pl.isList.typeIs slot_list_getitem.lookup
     (wpAny_getItem_list_neg (Q:=λr s'=>r=w/\EP X pins σ Q r s') pl.isList (by omega) (by rw [List.size_toArray] <;> omega) (by omega) (by rw [hj]; simpa using ew) ⟨rfl,fin⟩) hs
theorem mJ:IxR X (qV X.K):=by
 intro value slice pins s σ H x y v u Q I rx ry h hs
 obtain ⟨p,xs,i,z,rfl,rfl,hq,he,q⟩:=h
 cases rx
 obtain ⟨t,rfl⟩:=ry
 obtain ⟨its,r,pl,hz⟩:=I.tuple hq
 obtain ⟨j,h1,h2,h3,h4,h5⟩:=jU he
 obtain ⟨w,ew,rw'⟩:=r.get h2
 have hl:=r.length
 have hn:=gW
 have fin:EP X pins σ Q w s:=⟨z,H,I,rw',q⟩
 exact subscriptTail_builtinR (x:=w) pl.typeIs slot_tuple_getitem.lookup
   (getItem_tuple (j:=j) (Q:=λr s'=>r=w/\EP X pins σ Q r s') pl (by omega) (by omega) (by rw [List.size_toArray,<- hl]; exact h1) (by simpa using ew) ⟨rfl,fin⟩) hs
theorem jK (its:List Value) (n j:Nat) (u:Value):Obj.mapSeq (·.setIfInBounds j u) { cls:=.type "list",data:=.seq its.toArray n }={ cls:=.type "list",data:=.seq (its.set j u).toArray n }:=by
 simp [Obj.mapSeq]
theorem Inv.lst {pins:List (Addr × Obj)} {σ:St} {H:Hp} {s:Shared} {p:Addr} {xs:List V} (I:Inv X pins σ H s) (h:H p=some (.lst xs)) :
   ∃ (its:List Value) (n:Nat),Vals xs its/\s.heap.get? p=some { cls:=.type "list",data:=.seq its.toArray n }/\xs.length<=sizeLine:=by
 obtain ⟨z,its,n,r,e⟩:=I.hok p _ h
 exact ⟨its,n,r,e,z⟩
theorem Inv.pe {pins:List (Addr × Obj)} {σ:St} {H:Hp} {s:Shared} {p:Addr} {xs ys:List V} {its its':List Value} {n n':Nat} {f:Obj->Obj} (I:Inv X pins σ H s) (h:H p=some (.lst xs))
   (ho:s.heap.get? p=some { cls:=.type "list",data:=.seq its.toArray n }) (hf:f { cls:=.type "list",data:=.seq its.toArray n }={ cls:=.type "list",data:=.seq its'.toArray n' }) (r:Vals ys its') (hz:ys.length<=sizeLine) (t:Nat) :
   Inv X pins σ (upd H p (.lst ys)) { s with heap:=s.heap.update p f,toks:=t }:=by
 have e:(s.heap.update p f).get? p=some { cls:=.type "list",data:=.seq its'.toArray n' }:=by
   rw [Heap.get?_update_self f ho (by rw [hf] <;> rfl),hf]
 refine I.write (x:=p) (e:=p) (by rw [h]; trivial) (.inl rfl) (λb u hb q=>(Heap.get?_update_other _ _ (Ne.symm hb)).trans q) ⟨_,e⟩ ?_
 exact ⟨hz,its',n',r,e⟩
noncomputable def qw:V->V->V->Hp->(Hp->Prop)->Prop:=λo i v H Q=>∃ p xs k j,o=.ref p/\i=.int k/\H p=some (.lst xs)/\ixN xs.length k=some j/\Q (upd H p (.lst (xs.set j v)))
theorem set_list:pU X qw:=by
 intro pins s σ H o i v ov iv u Q I ro ri rv h
 obtain ⟨p,xs,k,j,rfl,rfl,hp,hj,q⟩:=h
 cases ro
 obtain ⟨t,rfl⟩:=ri
 obtain ⟨its,n,r,ho,hz⟩:=I.lst hp
 obtain ⟨h1,h2,h3,h4⟩:=j2 hj
 have hl:=r.length
 have hn:=gW
 have I':Inv X pins σ (upd H p (.lst (xs.set j v))) { s with heap:=s.heap.update p (Obj.mapSeq (·.setIfInBounds j u)) }:=
   I.pe hp ho (jK its n j u) (r.set rv j) (by rw [List.length_set]; exact hz) s.toks
 by_cases h0:0<=k
 · have hk:k.toNat=j:=by
     rw [seqIndex_of h0 h4] at h1
     exact Option.some.inj h1
   exact PySem.W.ki_setAt ho h0 (by omega) (by rw [List.size_toArray,<- hl]; exact h4) (by rw [hk]; exact ⟨_,I',q⟩)
 · have hk:(k + (its.toArray.size:Int)).toNat=j:=by
     rw [seqIndex_neg (by omega) h3] at h1
     rw [List.size_toArray,<- hl]
     exact Option.some.inj h1
   exact PySem.W.ki_setBack ho (by omega) (by rw [List.size_toArray,<- hl]; exact h3) (by omega) (by rw [hk]; exact ⟨_,I',q⟩)
theorem iu (lo hi:Option Int) (n:Nat):(sliceBounds lo hi none n).1=((HT.sIx n 0 lo:Nat):Int)/\(sliceBounds lo hi none n).2.1=((HT.sIx n n hi:Nat):Int)/\(sliceBounds lo hi none n).2.2=1:=by
 refine ⟨?_,?_,rfl⟩
 · cases lo with
   | none=>simp [sliceBounds,HT.sIx]
   | some i=>
     simp only [sliceBounds,HT.sIx,Option.getD_none,show (1:Int) > 0 by decide,if_true]
     by_cases h:i < 0
     · simp only [h,if_true] <;> omega
     · simp only [h,if_false] <;> omega
 · cases hi with
   | none=>simp [sliceBounds,HT.sIx]
   | some i=>
     simp only [sliceBounds,HT.sIx,Option.getD_none,show (1:Int) > 0 by decide,if_true]
     by_cases h:i < 0
     · simp only [h,if_true] <;> omega
     · simp only [h,if_false] <;> omega
theorem gi (its:List Value) (lo hi:Option Int):slicePick its.toArray lo hi none=((its.drop (HT.sIx its.length 0 lo)).take (HT.sIx its.length its.length hi - HT.sIx its.length 0 lo)).toArray:=by
 obtain ⟨h1,h2,h3⟩:=iu lo hi its.toArray.size
 unfold slicePick
 rw [h1,h2,h3]
 simp only [sliceRange_one,pick_run,List.size_toArray] <;> rfl
noncomputable def qY (K:PySem.W.Frag):V->Option Int->Option Int->Hp->VK->Prop:=λx lo hi H Q=>∃ a xs,x=.ref a/\SqL K H a xs/\∀ p,H p=none->Q (.ref p) (upd H p (.lst (ky xs lo hi)))
theorem nk:SlR X (qY X.K):=by
 intro pins s σ H x v vl vu lo hi sl Q I rx hs pl pu h
 obtain ⟨a,xs,rfl,hx,q⟩:=h
 cases rx
 obtain ⟨its,r,ht,hz⟩:=I.list hx
 have hlen:=r.length
 refine ⟨"list",_,slot_list_getitem.lookup,ht.isList.typeIs,?_⟩
 refine wpAny_getItem_list_slice ht.isList hs pl pu .none (by simp) ?_ (by rw [List.size_toArray] <;> omega)
 rw [gi,<- hlen]
 refine ⟨.ref s.heap.objs.size,_,I.laid (t':=s.toks) (o:=.lst (ky xs lo hi)) (λb ob q=>Heap.get?_push_of_some _ q) (Nat.le_refl _) ?_,rfl,q _ (I.hok.fresh (Nat.le_refl _))⟩
 exact ⟨Nat.le_trans (iK xs lo hi) hz,_,0,(r.drop (HT.sIx xs.length 0 lo)).take (HT.sIx xs.length xs.length hi - HT.sIx xs.length 0 lo),Heap.get?_push_size _ rfl⟩
noncomputable def eJ:V->Bool
 | .non=>true
 | .bl _=>true
 | .int _=>true
 | .str _=>true
 | _=>false
noncomputable def eqV:V->V->Bool
 | .non,.non=>true
 | .bl a,.bl b=>a == b
 | .bl a,.int b=>(if a then 1 else 0) == b
 | .int a,.bl b=>a == (if b then 1 else 0)
 | .int a,.int b=>a == b
 | .str a,.str b=>a == b
 | _,_=>false
theorem pz {A:Around} {s:Shared} {y x:V} {u v:Value} (ry:RelV y u) (rx:RelV x v) (fy:eJ y=true) (fx:eJ x=true):SeqAt.EqAt A s u v (eqV y x):=by
 cases y with
 | non=>
   cases ry
   cases x with
   | non=>cases rx; exact SeqAt.EqAt.same _
   | bl b=>cases rx; exact SeqAt.EqAt.none_bool b
   | int b=>obtain ⟨t,rfl⟩:=rx; exact SeqAt.EqAt.none_int b t
   | str b=>obtain ⟨t,rfl⟩:=rx; exact SeqAt.EqAt.none_str b t
   | _=>exact absurd (show false=true from fx) Bool.false_ne_true
 | bl a=>
   cases ry
   cases x with
   | non=>cases rx; exact SeqAt.EqAt.bool_none a
   | bl b=>cases rx; exact SeqAt.EqAt.bool_bool a b
   | int b=>obtain ⟨t,rfl⟩:=rx; exact SeqAt.EqAt.bool_int a b t
   | str b=>obtain ⟨t,rfl⟩:=rx; exact SeqAt.EqAt.bool_str a b t
   | _=>exact absurd (show false=true from fx) Bool.false_ne_true
 | int a=>
   obtain ⟨t',rfl⟩:=ry
   cases x with
   | non=>cases rx; exact SeqAt.EqAt.int_none a t'
   | bl b=>cases rx; exact SeqAt.EqAt.int_bool a t' b
   | int b=>obtain ⟨t,rfl⟩:=rx; exact SeqAt.EqAt.int_int a t' b t
   | str b=>obtain ⟨t,rfl⟩:=rx; exact SeqAt.EqAt.int_str a t' b t
   | _=>exact absurd (show false=true from fx) Bool.false_ne_true
 | str a=>
   obtain ⟨t',rfl⟩:=ry
   cases x with
   | non=>cases rx; exact SeqAt.EqAt.str_none a t'
   | bl b=>cases rx; exact SeqAt.EqAt.str_bool a t' b
   | int b=>obtain ⟨t,rfl⟩:=rx; exact SeqAt.EqAt.str_int a t' b t
   | str b=>obtain ⟨t,rfl⟩:=rx; exact SeqAt.EqAt.str_str a t' b t
   | _=>exact absurd (show false=true from fx) Bool.false_ne_true
 | _=>exact absurd (show false=true from fy) Bool.false_ne_true
noncomputable def eqU (x:V) (u:Value):Bool:=match u with
 | .none=>eqV .non x
 | .bool b=>eqV (.bl b) x
 | .int i _=>eqV (.int i) x
 | .str z _=>eqV (.str z) x
 | _=>false
theorem ma {x y:V} {u:Value} (r:RelV y u) (f:eJ y=true):eqU x u=eqV y x:=by
 cases y with
 | non=>cases r; rfl
 | bl b=>cases r; rfl
 | int i=>obtain ⟨t,rfl⟩:=r; rfl
 | str z=>obtain ⟨t,rfl⟩:=r; rfl
 | _=>exact absurd (show false=true from f) Bool.false_ne_true
theorem g9 {x:V}:∀ {xs:List V} {us:List Value},Vals xs us->xs.all eJ=true->us.any (eqU x)=xs.any λy=>eqV y x
 | _,_,.nil,_=>rfl
 | y :: xs,u :: us,.cons r t,f=>by
   rw [List.all_cons,Bool.and_eq_true] at f
   rw [List.any_cons,List.any_cons,ma r f.1,g9 t f.2]
theorem e7 {A:Around} {s:Shared} {x:V} {v:Value} (rx:RelV x v) (fx:eJ x=true):∀ {xs:List V} {us:List Value},Vals xs us->xs.all eJ=true->∀ u ∈ us,SeqAt.EqAt A s u v (eqU x u)
 | _,_,.nil,_=>λu hu=>by cases hu
 | y :: xs,u :: us,.cons r t,f=>λu' hu=>by
   rw [List.all_cons,Bool.and_eq_true] at f
   rcases List.mem_cons.mp hu with rfl | hu
   · rw [ma r f.1]; exact pz r rx f.1 fx
   · exact e7 rx fx t f.2 u' hu
noncomputable def inV (x:V) (xs:List V):Bool:=xs.any λy=>eqV y x
noncomputable def rIn (K:PySem.W.Frag) (neg:Bool):R2:=λx y H Q=>∃ p xs,y=.ref p/\(SqL K H p xs\/SqT K H p xs)/\eJ x=true/\xs.all eJ=true/\Q (.bl (if neg then !inV x xs else inV x xs)) H
theorem kv:OpR X (compareOp .In) (rIn X.K false):=by
 intro pins s σ H x y v u Q I rx ry h
 obtain ⟨p,xs,rfl,hq,fx,fs,q⟩:=h
 cases ry
 rcases hq with hq | hq
 · obtain ⟨its,r,pl,hz⟩:=I.list hq
   refine SeqAt.in_listAt (eqU x) pl.isList (λw hw=>e7 rx fx r fs w (by simpa using hw)) ⟨.bl _,H,I,rfl,?_⟩
   rw [show its.toArray.any (eqU x)=its.any (eqU x) by simp,g9 r fs]
   exact q
 · obtain ⟨its,r,pl,hz⟩:=I.tuple hq
   refine SeqAt.in_tupleAt (eqU x) pl (λw hw=>e7 rx fx r fs w (by simpa using hw)) ⟨.bl _,H,I,rfl,?_⟩
   rw [show its.toArray.any (eqU x)=its.any (eqU x) by simp,g9 r fs]
   exact q
theorem dY:cZ X (.builtin "len") (λxs H Q=>∃ p ys,xs=[.ref p]/\(SqL X.K H p ys\/SqT X.K H p ys)/\Q (.int ys.length) H):=by
 intro pins s σ H xs us Q I r h
 obtain ⟨p,ys,rfl,hq,q⟩:=h
 obtain ⟨u,rfl,rx⟩:=vals1 r
 cases rx
 have hn:=gW
 rcases hq with hq | hq
 · obtain ⟨its,r',pl,hz⟩:=I.list hq
   have hlen:=r'.length
   exact Calls.call_len_list pl.isList (by simp only [List.size_toArray] <;> omega) ⟨.int ys.length,H,I.tok _,⟨s.toks + 1,by rw [List.size_toArray,hlen]⟩,q⟩
 · obtain ⟨its,r',pl,hz⟩:=I.tuple hq
   have hlen:=r'.length
   exact len_tuple pl (by simp only [List.size_toArray] <;> omega) ⟨.int ys.length,H,I.tok _,⟨s.toks + 1,by rw [List.size_toArray,hlen]⟩,q⟩
theorem gN:cZ X (.type "list") (λxs H Q=>∃ p ys,xs=[.ref p]/\(SqL X.K H p ys\/SqT X.K H p ys)/\∀ l,H l=none->Q (.ref l) (upd H l (.lst ys))):=by
 intro pins s σ H xs us Q I r h
 obtain ⟨p,ys,rfl,hq,q⟩:=h
 obtain ⟨u,rfl,rx⟩:=vals1 r
 cases rx
 have fin:∀ (its:List Value),Vals ys its->ys.length<=sizeLine->∀ (h':Heap) (c':Nat),(∀ b o',s.heap.get? b=some o'->h'.get? b=some o') ->
     h'.get? s.heap.objs.size=some { cls:=.type "list",dict:=none,data:=.seq its.toArray c',slots:=#[] }->EP X pins σ Q (.ref s.heap.objs.size) { s with heap:=h' }:=λits r' hz h' c' kp e=>
   ⟨.ref s.heap.objs.size,_,I.laid (t':=s.toks) kp (Nat.le_refl _) (show b7 X.prog X.w _ h' _ (.lst ys) from ⟨hz,its,c',r',e⟩),rfl,q _ (I.hok.fresh (Nat.le_refl _))⟩
 rcases hq with hq | hq
 · obtain ⟨its,r',pl,hz⟩:=I.list hq
   have hlen:=r'.length
   obtain ⟨o,ho,hc,n,hd⟩:=pl.isList
   exact call_list_seq p (.inl rfl) ho hc hd (λh' c' kp e=>fin its r' hz h' c' kp e) (by simp only [List.size_toArray] <;> omega)
 · obtain ⟨its,r',pl,hz⟩:=I.tuple hq
   have hlen:=r'.length
   obtain ⟨o,ho,hc,n,hd⟩:=pl
   exact call_list_seq p (.inr rfl) ho hc hd (λh' c' kp e=>fin its r' hz h' c' kp e) (by simp only [List.size_toArray] <;> omega)
noncomputable def tyV (K:PySem.W.Frag) (T:String) (x:V) (H:Hp):Prop:=match x with
 | .str _=>T = "str"
 | .int _=>T = "int"
 | .ref p=>(T = "list" /\ ∃ xs,SqL K H p xs)\/(T = "tuple" /\ ∃ o,K.lookup p=some o/\o.cls=.type "tuple" /\ o.dict=none) \/
     (T = "dict" /\ ((∃ kvs,H p=some (.dK kvs))\/∃ kvs,H p=some (.dT kvs)))\/(T = "set" /\ ∃ S n,H p=some (.set S n))
 | _=>False
theorem oP {pins:List (Addr × Obj)} {σ:St} {H:Hp} {s:Shared} {T:String} {x:V} {v:Value} (I:Inv X pins σ H s) (r:RelV x v) (ty:tyV X.K T x H) :
   s.TypeIs v T/\∀ a,v=.ref a->∃ ob,s.heap.get? a=some ob/\ob.dict=none:=by
 cases x with
 | str z=>
   obtain ⟨t,rfl⟩:=r
   cases (show T = "str" from ty)
   exact ⟨typeIs_str s z t,λ_ e=>nomatch e⟩
 | int i=>
   obtain ⟨t,rfl⟩:=r
   cases (show T = "int" from ty)
   exact ⟨typeIs_int s i t,λ_ e=>nomatch e⟩
 | ref p=>
   cases r
   rcases ty with ⟨rfl,xs,hq⟩ | ⟨rfl,o,hk,hc,hd⟩ | ⟨rfl,hk⟩ | ⟨rfl,S,n,hk⟩
   · obtain ⟨its,_,pl,_⟩:=I.list hq
     refine ⟨pl.isList.typeIs,λa e=>?_⟩
     cases e
     obtain ⟨o,n,e,c,hd,_⟩:=pl
     exact ⟨o,e,hd⟩
   · refine ⟨⟨o,I.kIn p o hk,hc⟩,λa e=>?_⟩
     cases e
     exact ⟨o,I.kIn _ o hk,hd⟩
   · have z:∃ o,s.heap.get? p=some o/\o.ExactDict:=by
       rcases hk with ⟨kvs,hk⟩ | ⟨kvs,hk⟩
       · obtain ⟨_,_,_,_,o,_,_,e,ex,_⟩:=I.hok p _ hk
         exact ⟨o,e,ex⟩
       · obtain ⟨_,_,_,_,o,_,_,e,ex,_⟩:=I.hok p _ hk
         exact ⟨o,e,ex⟩
     obtain ⟨o,e,ex⟩:=z
     refine ⟨⟨o,e,ex.1⟩,λa e2=>?_⟩
     cases e2
     exact ⟨o,e,ex.2.1⟩
   · obtain ⟨o,_,_,_,e,ex,_⟩:=I.hok p _ hk
     refine ⟨⟨o,e,ex.1⟩,λa e2=>?_⟩
     cases e2
     exact ⟨o,e,ex.2.1⟩
 | _=>exact False.elim ty
noncomputable def tBM (K:PySem.W.Frag) (T:String) (r:V->List V->Hp->VK->Prop) (to:TE) (t:TA):TE:=λσ H Q=>to σ H λx H1=>tyV K T x H1/\t σ H1 λxs H2=>r x xs H2 Q
variable {o e:Expr} {es:List Expr} {to:TE} {t:TA} {name:Str} {apos cpos:Pos} {T id:String} {r:V->List V->Hp->VK->Prop}
theorem lB (pa:PlainAttrs T) (slot:Slot T name id) (hty:typeOf (.builtin id)=pure (.type "method_descriptor")) (hm:MtR X id r) (ho:PE X o to) (ha:PA X (e :: es) t)
   (hbase:attributeBase o name X.env (eval o X.env)=eval o X.env:=by rfl)
   (hfew:((backTo cpos (starEach (e :: es) X.env)).all (λx=>!x.1) && (backToKw cpos (keywordEach [] X.env)).all (λx=>x.1.isSome)
     && decide ((e :: es).length + ([]:List Keyword).length + (if ([]:List Keyword).isEmpty then 0 else 1) < 30))=true:=by rfl)
   (hline:(apos.endLine == cpos.line)=true:=by rfl) (hs:starEach (e :: es) X.env=(false,eval e X.env) :: starEach es X.env:=by rfl) (hplain:(backTo cpos (starEach es X.env)).any (·.1)=false:=by rfl) :
   PE X (.Call (.Attribute o name apos) (e :: es) [] cpos) (tBM X.K T r to t):=by
 intro pins s σ H Q I h
 refine wpAny_Call_method_late hbase hfew hline rfl (thn (ho pins s σ H _ I h) λv s1 ⟨x,H1,I1,r1,ty,q1⟩=>?_)
 obtain ⟨h1,h2⟩:=oP I1 r1 ty
 refine ⟨T,id,pa,slot,hty,h1,h2,?_⟩
 have hA:=ha cpos pins s1 σ H1 _ I1 q1
 rw [hs] at hA ⊢
 refine Calls.callWith_builtin (by show (false || (backTo cpos (starEach es X.env)).any (·.1))=false; rw [hplain] <;> rfl) (Calls.evalArgs_plain ?_)
 exact thn hA λus s2 ⟨vs,H2,I2,r2,q2⟩=>hm pins s2 σ H2 x vs v us Q I2 r1 r2 q2
end
end L2
namespace L2
open PySem PySem.Spec PyProof.Rows
noncomputable def MtM (X:Cx) (id:String) (r:V->List V->Hp->VK->Prop):Prop:=
 ∀ (pins:List (Addr × Obj)) (s:Shared) (σ:St) (H:Hp) (x:V) (xs:List V) (v:Value) (us:List Value) (Q:VK),Inv X pins σ H s->RelV x v->Vals xs us->r x xs H Q ->
   wpAny (model X.prog X.w) X.A (call (.builtin id) (v :: us)) (EP X pins σ Q) X.xe s
theorem Vals.one:∀ {x:V} {us:List Value},Vals [x] us->∃ u,us=[u]/\RelV x u
 | _,_,.cons r .nil=>⟨_,rfl,r⟩
theorem Vals.zero:∀ {us:List Value},Vals [] us->us=[]
 | _,.nil=>rfl
theorem Vals.rep {xs:List V} {us:List Value} (h:Vals xs us):∀ k:Nat,Vals (List.replicate k xs).flatten (List.replicate k us).flatten
 | 0=>.nil
 | k + 1=>by
   rw [List.replicate_succ,List.replicate_succ,List.flatten_cons,List.flatten_cons]
   exact Vals.append h (Vals.rep h k)
theorem foldl_rep (its:List Value):∀ (k:Nat) (acc:List Value),
   List.foldl (λx1 x2=>x1++x2) acc.toArray (List.replicate k its.toArray)=(acc++(List.replicate k its).flatten).toArray
 | 0,acc=>by simp
 | k + 1,acc=>by
   have e:acc.toArray++its.toArray=(acc++its).toArray:=by simp
   have e2:(acc++its)++(List.replicate k its).flatten=acc++(List.replicate (k + 1) its).flatten:=by
     rw [List.replicate_succ,List.flatten_cons,List.append_assoc]
   rw [<- e2,<- foldl_rep its k (acc++its),<- e,List.replicate_succ,List.foldl_cons]
section
variable {X:Cx} {pins:List (Addr × Obj)} {σ:St} {H:Hp} {s:Shared} {l b:Addr} {xs ys zs:List V}
theorem Inv.rb {its its':List Value} {n:Nat} {f:Array Value->Array Value} {t':Nat} (I:Inv X pins σ H s) (hH:H l=some (.lst xs))
   (e:s.heap.get? l=some { cls:=.type "list",data:=.seq its.toArray n }) (hf:f its.toArray=its'.toArray) (hv:Vals ys its') (hz:ys.length<=sizeLine) :
   Inv X pins σ (upd H l (.lst ys)) { s with heap:=s.heap.update l (Obj.mapSeq f),toks:=t' }:=by
 have q:=PySem.IsL.update e f
 rw [hf] at q
 refine I.write (x:=l) (e:=l) (by rw [hH]; exact trivial) (.inl rfl) (λb' u hb hu=>(Heap.get?_update_other s.heap (Obj.mapSeq f) (Ne.symm hb)).trans hu) ⟨_,q⟩ ?_
 exact ⟨hz,its',_,hv,q⟩
theorem Inv.qK {its:List Value} {t':Nat} (I:Inv X pins σ H s) (hv:Vals ys its) (hz:ys.length<=sizeLine) :
   Inv X pins σ (upd H s.heap.objs.size (.lst ys)) { s with heap:=s.heap.push { cls:=.type "list",data:=.seq its.toArray },toks:=t' }:=
 I.laid (λ_ _ q=>Heap.get?_push_of_some _ q) (Nat.le_refl _) ⟨hz,its,0,hv,Heap.get?_push_size _ rfl⟩
theorem Inv.fresh (I:Inv X pins σ H s):H s.heap.objs.size=none:=I.hok.fresh (Nat.le_refl _)
theorem Inv.rB (I:Inv X pins σ H s) (hH:H l=some (.lst xs)):xs.length<=sizeLine/\∃ (its:List Value) (n:Nat),Vals xs its/\xs.length=its.length/\s.heap.get? l=some { cls:=.type "list",data:=.seq its.toArray n }:=by
 obtain ⟨z,its,n,r,e⟩:=I.hok l _ hH
 exact ⟨z,its,n,r,r.length,e⟩
theorem lO {n:Nat} (h:n<=sizeLine):Builtin.List.listTooLong n=false:=by
 unfold Builtin.List.listTooLong
 exact decide_eq_false (by omega)
end
section
variable {X:Cx}
noncomputable def nu:V->List V->Hp->VK->Prop:=λx vs H Q=>∃ l xs y,x=.ref l/\vs=[y]/\H l=some (.lst xs)/\xs.length < sizeLine/\Q .non (upd H l (.lst (xs++[y])))
theorem bZ:MtM X "list.append" nu:=by
 intro pins s σ H x vs v us Q I rx rv h
 obtain ⟨l,xs,y,rfl,rfl,hH,hz,q⟩:=h
 cases rx
 obtain ⟨u,rfl,ru⟩:=rv.one
 obtain ⟨z,its,n,r,hl,e⟩:=I.rB hH
 refine call_meets F.slot_list_append ⟨_,e,rfl⟩ F.entry_list_append (F.args_list_append_2 _ _) (PySem.list_append l its.toArray n u (by rw [List.size_toArray]; omega)) ⟨e,?_⟩
 refine ⟨.non,_,I.rb (its':=its++[u]) hH e (by simp) (r.append (.cons ru .nil)) ?_,rfl,q⟩
 rw [List.length_append,List.length_singleton]
 omega
theorem len_rep {α:Type} (xs:List α) (k:Nat):(List.replicate k xs).flatten.length=k * xs.length:=by
 induction k with
 | zero=>simp
 | succ k ih=>rw [List.replicate_succ,List.flatten_cons,List.length_append,ih,Nat.succ_mul,Nat.add_comm]
end
section
variable {prog:Program} {w:World} {A:Around} {E:Value->Shared->Prop} {s:Shared}
end
section
variable {X:Cx}
end
end L2
namespace Att
open PySem PySem.W PySem.Calls PyProof.Rows
theorem eU {P:Params} {h:Heap}:∀ (ns:List Int) (vs:List Value),WellAll P h vs (ns.map WData.int)->IntsAre vs ns:=by
 intro ns
 induction ns with
 | nil=>
   intro vs w
   rw [List.map_nil] at w
   cases w
   exact .nil
 | cons n ns ih=>
   intro vs w
   rw [List.map_cons] at w
   cases w with
   | cons a b=>
     cases a
     exact .cons _ _ (ih _ b)
theorem kF {l:OpenLaw} {n:Nat} (hn:l.most=some n) {P:Params} {h:Heap} {args:List WData} {vals:List Value}
   (hpre:l.row.toRowW.claim.pre args=true) (hwl:WellAll P h vals args) :
   ∃ a vs ns,vals=[Value.ref a]/\args=[WData.list (ns.map WData.int)]/\h.get? a=some { cls:=.type "list",data:=.seq vs.toArray }/\IntsAre vs ns/\ns.length<=n:=by
 have hsh:WShape.hasAll [] args [.list .int]=true:=(pre_splitW hpre).1
 have hc:l.pre.holds [] { args:=args }=true:=(pre_splitW hpre).2
 obtain ⟨d,r,rfl,h1,h2⟩:=hasAllW_cons hsh
 obtain rfl:=hasAllW_nil h2
 obtain ⟨xs,rfl,h3⟩:=hasW_list h1
 obtain ⟨ns,rfl⟩:=items_int h3
 have hlen:ns.length<=n:=by
   unfold OpenLaw.pre at hc
   have h4:(WTm.not (.lt (.lit (.int (n:Int))) (.len (.arg 0)))).holds [] { args:=[.list (ns.map .int)] }=true:=by
     have h4:=(holds_andW hc).1
     rw [hn] at h4
     exact h4
   have h5:=condW_of h4 (w_not (w_lt w_lit (w_len_list (w_arg rfl))))
   rw [List.length_map] at h5
   refine Nat.le_of_not_lt λq=>?_
   have q':(n:Int) < ((ns.length:Nat):Int):=by omega
   first
     | (rw [decide_eq_true q'] at h5; exact absurd h5 (by decide))
     | (simp at h5; omega)
 cases hwl with
 | cons w1 w2=>
   cases w2
   cases w1 with
   | list ho hall=>exact ⟨_,_,ns,rfl,rfl,ho,eU ns _ hall,hlen⟩
theorem kL (l:OpenLaw) (args:List WData):l.row.toRowW.claim.post args (.bool true) args=true:=
 postW_of (r:=l.row.toRowW) (X:=(true == true))
   (show WShape.has [] (.bool true) .bool=true by first | rfl | decide | simp [WShape.has,WShape.arms,WShape.armsAll])
   (show (WTm.eq .res (.lit (.bool true))).value [] { args:=args,res:=some (.bool true),after:=args }=some (.bool (true == true)) from w_eq_bool (w_res rfl) w_lit) rfl
theorem i7 {l:OpenLaw} {n:Nat} {q:Program} {loose:List Str} {XP:(Str->Option Value)->Heap->Prop} {YP:World->Heap->Prop} {d:DefRec}
   (hn:l.most=some n) (hdf:d.params.defaults=[])
   (call:∀ (w:World) (s₀ s₁:Shared) (mg mb:Str->Option Value) (fa:Addr) (o:Obj) (pm cd doc:Value) (a:Addr) (vs:List Value) (ns:List Int),
     Ground q loose [] XP w s₀ mg mb s₁.heap->YP w s₁.heap ->
     s₁.heap.get? fa=some o->o.data=.func (docDef d.name d.params d.body d.scope pm cd doc)->s₁.heap.CodeRec cd d.name->mg d.name=some (.ref fa) ->
     s₁.heap.get? a=some { cls:=.type "list",data:=.seq vs.toArray }->IntsAre vs ns->ns.length<=n->s₁.gens=#[] ->
     codeAny (model l.prog w) callerA (.call (.ref fa) ⟨[.ref a],[]⟩) (λr s'=>r=.ok (.ret (.bool true))/\OldK s₁.heap s'.heap/\s'.os=s₁.os/\AllBare s'.gens) s₁) :
   WalkO q loose XP YP l.row.toRowW d [] (λf vs=>PySem.call f vs):=by
 intro w s₀ s₁ mg mb G Y fa o pm cd doc dV kV ho hd hcd hD hmg hg args vals as hpre hlay hrd hwl hlo
 obtain rfl:dV=.none:=Dflts.none hD hdf
 obtain rfl:kV=.none:=Dflts.noKw hD
 obtain ⟨a,vs,ns,rfl,rfl,hobj,hints,hlen⟩:=kF hn hpre hwl
 refine enter_call (codeAny_mono (call w s₀ s₁ mg mb fa o pm cd doc a vs ns G Y ho (fd_plain hd) hcd hmg hobj hints hlen hg) λr s' hq=>?_)
 obtain ⟨rfl,h2,h3,h4⟩:=hq
 exact ⟨.inl ⟨.bool true,.bool true,[],rfl,λ_=>rfl,.bool true,kL l _,λ_=>⟨List.Pairwise.nil,λ_ hm=>(nomatch hm)⟩⟩,h2,h3,h4⟩
section
variable {prog:Program} {w:World} {A:Around} {E:Value->Shared->Prop} {s:Shared} {K:Frag}
end
end Att
namespace L2
open PySem PySem.Spec PyProof.Rows
theorem gF:∀ {vs:List Value} {ns:List Int},IntsAre vs ns->Vals (ns.map V.int) vs
 | _,_,.nil=>.nil
 | _,_,.cons n t h=>.cons ⟨t,rfl⟩ (gF h)
noncomputable def om (H:Hp):Prop:=∀ b,H b=none\/∃ o xs,H b=some (.frz o (.lst xs))
theorem lR {P:Program} {w:World} {K:PySem.W.Frag} {mg mb:Str->Option Value} {CX:CXT} {k:Nat} {fa a:Addr} {fd:FuncData} {x:Str} {sp:Sp} {s₁:Shared} {vs:List Value} {ns:List Int}
   (KX:K.In s₁.heap) (hns:s₁.heap.Ns mainGlobals mg) (hb:s₁.heap.Ns builtinsNs mb) (hbb:∀ x:Str,x ≠ "__name__" -> mb x=bootBuiltins x) (hlim:s₁.heap.NoLimit) (hg:s₁.gens=#[])
   (ha:s₁.heap.get? a=some { cls:=.type "list",data:=.seq vs.toArray }) (hi:IntsAre vs ns) (hl:ns.length<=sizeLine) (hr:cC k callerA)
   (F:∀ base:Heap,K.In base->base.Ns mainGlobals mg->aK P w K mg base CX k fa fd [x] sp) (hbind:∀ (s:Shared) (u:Value),BindsTo s fd ⟨[u],[]⟩ [(x,u)])
   (hsp:∀ H:Hp,om H->SqL K H a (ns.map V.int)->sp [.ref a] H (λv _=>v=.bl true) λ_ _ _=>False)
   (hCX:∀ H e s',CX [] H s₁ (λ_ _ _=>False) e s'->False) :
   codeAny (model P w) callerA (.call (.ref fa) ⟨[.ref a],[]⟩) (λr s'=>r=.ok (.ret (.bool true))/\OldK s₁.heap s'.heap/\s'.os=s₁.os/\AllBare s'.gens) s₁:=by
 have rv:=gF hi
 have lenV:=hi.length
 have core:∀ H:Hp,om H->SqL K H a (ns.map V.int)->HOk P w H s₁.heap->(∀ b,H b ≠ none->b=a)->(H a ≠ none->K.lookup a=none) ->
     codeAny (model P w) callerA (.call (.ref fa) ⟨[.ref a],[]⟩) (λr s'=>r=.ok (.ret (.bool true))/\OldK s₁.heap s'.heap/\s'.os=s₁.os/\AllBare s'.gens) s₁:=by
   intro H hO hS hok hA hK
   have base_of:∀ {b:Addr} {o:Obj},s₁.heap.get? b=some o->H b=none->(g8 s₁.heap H).get? b=some o:=λe n=>lU e n
   have noA:∀ {b:Addr} {o:Obj} {es:Array DictEntry} {ep:Nat},s₁.heap.get? b=some o->o.data=.dict es ep->H b=none:=λ{b o es ep} e d=>by
     cases q:H b with
     | none=>rfl
     | some u=>
       have e':b=a:=hA b (by rw [q]; simp)
       subst e'
       rw [ha] at e; cases e
       have d':Data.seq vs.toArray _=Data.dict es ep:=d
       cases d'
   have nsK:∀ {b:Addr} {m:Str->Option Value},s₁.heap.Ns b m->(g8 s₁.heap H).Ns b m:=λ{b m} ⟨o,es,ep,e,d,r⟩=>⟨o,es,ep,base_of e (noA e d),d,r⟩
   have hKb:K.In (g8 s₁.heap H):=λb o e=>base_of (KX b o e) (by
     cases q:H b with
     | none=>rfl
     | some u=>
       have e':b=a:=hA b (by rw [q]; simp)
       subst e'
       rw [hK (by rw [q]; simp)] at e; cases e)
   have hM:Mod K mg (g8 s₁.heap H):=⟨hKb,nsK hns,⟨mb,nsK hb,hbb⟩,let ⟨mc,h1,h2⟩:=hlim; ⟨mc,nsK h1,h2⟩⟩
   have e0:nB P w K mg (g8 s₁.heap H) callerA [] s₁ H:=⟨rfl,hM,λb o e=>nr e,Nat.le_of_eq (kP _ _),trivial,λb hb=>absurd (show b ∈ ([]:List Addr) from hb) (by simp),hok,.of_eq hg⟩
   refine codeAny_mono ((F _ hKb (nsK hns)).run callerA [] s₁ H ⟨[.ref a],[]⟩ [.ref a] [.ref a] _ _ hr e0 (hbind s₁ (.ref a)) (.cons rfl .nil) (hsp H hO hS)) λr s' h=>?_
   cases r with
   | error e=>exact (hCX H e s' h).elim
   | ok fl=>
     cases fl with
     | next=>exact False.elim h
     | brk=>exact False.elim h
     | cont=>exact False.elim h
     | ret u=>
       obtain ⟨v,H',os,bare,un,hok',r',q⟩:=h
       have q':v=.bl true:=q
       subst q'
       obtain rfl:u=Value.bool true:=r'
       refine ⟨rfl,OldK.of_keep λb o e=>?_,os,bare⟩
       cases q:H b with
       | none=>exact un.keep b o e q (by intro z; exact absurd (show b ∈ ([]:List Addr) from z) (by simp)) (by simp)
       | some u=>
         rcases hO b with z | ⟨ob,xs,z⟩
         · rw [q] at z; cases z
         · have z2:=un.frzs b ob _ z
           obtain ⟨e1,_⟩:=hok b _ z
           obtain ⟨e2,_⟩:=hok' b _ z2
           rw [e] at e1; cases e1
           exact e2
 cases hk:K.lookup a with
 | some o=>
   have e:=KX a o hk
   rw [ha] at e
   cases e
   refine core (λ_=>none) (λ_=>.inl rfl) (.inr ⟨_,vs.toArray,_,hk,rfl,rfl,rfl,by rw [List.size_toArray,lenV]; exact hl,by simpa using rv⟩) (λb u z=>by have z':(none:Option HO)=some u:=z; cases z') (λb z=>absurd rfl z) λz=>absurd rfl z
 | none=>
   refine core (λb=>if b=a then some (.frz { cls:=.type "list",data:=.seq vs.toArray } (.lst (ns.map V.int))) else none) (λb=>?_) (.inl (.inr ⟨{ cls:=.type "list",data:=.seq vs.toArray },if_pos rfl⟩)) (λb u z=>?_) (λb z=>?_) λ_=>hk
   · by_cases hb:b=a
     · exact .inr ⟨_,_,if_pos hb⟩
     · exact .inl (if_neg hb)
   · by_cases hb:b=a
     · have z':=(if_pos hb).symm.trans z
       cases z'
       subst hb
       exact ⟨ha,by rw [List.length_map]; exact hl,vs,_,rv,ha⟩
     · have z':=(if_neg hb).symm.trans z
       cases z'
   · by_cases hb:b=a
     · exact hb
     · exact absurd (if_neg hb) z
end L2
namespace L2
open PySem PySem.Spec PyProof.Rows
theorem m5 {l:PySem.W.OpenLaw} {n k:Nat} {q:Program} {loose:List Str} {XP:(Str->Option Value)->Heap->Prop} {YP:World->Heap->Prop} {d:DefRec} {K:Params->PySem.W.Frag} {CX:World->CXT} {sp:World->Sp} {x:Str}
   (hn:l.most=some n) (hn2:n<=sizeLine) (hdf:d.params.defaults=[]) (hr:cC k callerA)
   (hY:∀ (w:World) (h:Heap),YP w h->(K w.params).In h)
   (F:∀ (w:World) (mg:Str->Option Value) (fa:Addr) (h:Heap),(K w.params).In h->h.Ns mainGlobals mg->mg d.name=some (.ref fa) ->
     ∃ fd:FuncData,(∀ (s:Shared) (u:Value),BindsTo s fd ⟨[u],[]⟩ [(x,u)]) /\
       ∀ base:Heap,(K w.params).In base->base.Ns mainGlobals mg->aK l.prog w (K w.params) mg base (CX w) k fa fd [x] (sp w))
   (hsp:∀ (w:World) (H:Hp) (a:Addr) (ns:List Int),ns.length<=n->om H->SqL (K w.params) H a (ns.map V.int)->sp w [.ref a] H (λv _=>v=.bl true) λ_ _ _=>False)
   (hCX:∀ (w:World) (H:Hp) (s:Shared) (e:Value) (s':Shared),CX w [] H s (λ_ _ _=>False) e s'->False) :
   PySem.W.WalkO q loose XP YP l.row.toRowW d [] (λf vs=>PySem.call f vs):=by
 refine Att.i7 hn hdf λw s₀ s₁ mg mb fa o pm cd doc a vs ns G Y ho hd hcd hmg hobj hints hlen hg=>?_
 have KX:=hY w _ Y
 obtain ⟨fd,hb,hF⟩:=F w mg fa _ KX G.T.g hmg
 exact lR KX G.T.g G.T.b G.T.builtins G.T.nolimit hg hobj hints (Nat.le_trans hlen hn2) hr hF hb (λH hO hS=>hsp w H a ns hlen hO hS) λH e s'=>hCX w H s₁ e s'
end L2
namespace L2
open PySem PySem.Spec PyProof.Rows
noncomputable def bo (s:Stmt):Arguments:=match s with
 | .FunctionDef _ a _ _ _ _ _ _ _ _=>a
 | _=>{ posonlyargs:=[],args:=[],vararg:=none,kwonlyargs:=[],kw_defaults:=[],kwarg:=none,defaults:=[] }
noncomputable def ba (s:Stmt):List Stmt:=match s with
 | .FunctionDef _ _ b _ _ _ _ _ _ _=>b
 | _=>[]
noncomputable def ah (s:Stmt):Scope:=match s with
 | .FunctionDef _ _ _ _ _ _ sc _ _ _=>sc
 | _=>{ kind:=.function,names:=[],isGenerator:=false,isCoroutine:=false }
noncomputable abbrev CX0:CXT:=λ_ _ _ _ _ _=>False
noncomputable abbrev E0:XK:=λ_ _ _=>False
theorem pW {X:Cx}:Passes CX0 X E0:=λ_ _ _ _ _ _ _ h=>h.elim
structure Fun (K:PySem.W.Frag) (x qual:Str) (st:Stmt) (f:Addr) (fd:FuncData):Prop where
 ex:∃ (oc:Value) (od:Option Addr) (dV kV doc pm:Value) (an:Option Addr) (cdv ct:Value) (osl:Array (Option Value)),
   fd=PySem.W.fnOf x qual (bo st) (ba st) (ah st) dV kV doc pm an cdv ct/\K.lookup f=some ⟨oc,od,.func fd,osl⟩/\PySem.W.codeIn K cdv qual=true
 kp:PySem.W.keepIn K (.ref f)=true
section
variable {P:Program} {w:World} {K:PySem.W.Frag} {mg:Str->Option Value} {base:Heap}
theorem Fun.ok {x qual:Str} {st:Stmt} {f:Addr} {fd:FuncData} {N ps:List Str} {k:Nat} {sp:Sp} (F:Fun K x qual st f fd) (S:ar N ps (ah st)) (len:∀ vs H Q E,sp vs H Q E->vs.length=ps.length)
   (hbody:∀ (cdv:Value) (A:Around) (outer:List Env) (s:Shared) (H:Hp) (vs:List V) (Q:VK) (E:XK),cC k (A.deeper (envOfC qual (ah st) s.heap.objs.size f cdv))->sp vs H Q E ->
     ∃ t,PSs (jz CX0 P w K mg base N qual (ah st) f cdv A outer s H E).nox (ba st) t/\t { nx:=λ_ H'=>Q .non H',rt:=Q } (start N vs) H):aK P w K mg base CX0 (k + 1) f fd ps sp:=by
 obtain ⟨oc,od,dV,kV,doc,pm,an,cdv,ct,osl,rfl,lk,hcd⟩:=F.ex
 refine pN lk hcd S len λA outer s H vs Q E hr hsp=>?_
 obtain ⟨t,h,q⟩:=hbody cdv A outer s H vs Q E hr hsp
 exact ⟨t,h.nox,q⟩
theorem Fun.binds {x qual:Str} {st:Stmt} {f:Addr} {fd:FuncData} {ps:List Str} (_:Fun K x qual st f fd) (h:∀ us:List Value,us.length=ps.length->bindArgs fd ⟨us,[]⟩=pure (ps.zip us)):Binds K fd ps []:=.all h
theorem jH {x qual:Str} {st:Stmt} {f:Addr} {oc:Value} {od an:Option Addr} {osl:Array (Option Value)} {dV kV doc pm cdv ct:Value} (l:K.lookup f=some ⟨oc,od,.func (PySem.W.fnOf x qual (bo st) (ba st) (ah st) dV kV doc pm an cdv ct),osl⟩)
   (c:PySem.W.codeIn K cdv qual=true) (k:PySem.W.keepIn K (.ref f)=true):Fun K x qual st f (PySem.W.fnOf x qual (bo st) (ba st) (ah st) dV kV doc pm an cdv ct):=⟨⟨oc,od,dV,kV,doc,pm,an,cdv,ct,osl,rfl,l,c⟩,k⟩
end
theorem ek {n:Nat} (h:n<=1000):n < sizeLine:=Nat.lt_of_le_of_lt h (by decide)
section
variable {X:Cx}
theorem pv (i:Nat) {x:Str} {pos:Pos} (hN:X.N[i]?=some x:=by rfl) (hv:Vis X.env.scope x:=by first | exact Or.inl rfl | exact Or.inr (Or.inl rfl) | exact Or.inr (Or.inr rfl)) (hd:(x == ("__debug__" : Str))=false:=by decide)
   (hcd:(x == ("__classdict__" : Str))=false:=by decide):PE X (.Name x pos) (oI i):=bP hN hv hd hcd
end
theorem kM {A B:Prop} (h:B):if false=true then A else B:=by
 rw [if_neg Bool.false_ne_true]
 exact h
theorem jA {A B:Prop} (h:A):if true=true then A else B:=by
 rw [if_pos rfl]
 exact h
noncomputable def ai (H H':Hp):Prop:=∀ b o,H b=some o->H' b=some o
theorem ai.refl (H:Hp):ai H H:=λ_ _ h=>h
theorem ai.trans {H H1 H2:Hp} (a:ai H H1) (b:ai H1 H2):ai H H2:=λc o h=>b c o (a c o h)
theorem ai.free {H H':Hp} (e:ai H H') {l:Addr} (h:H' l=Option.none):H l=Option.none:=by
 cases q:H l with
 | none=>rfl
 | some o=>
   rw [e l o q] at h
   cases h
theorem ai.seq {K:PySem.W.Frag} {H H':Hp} {a:Addr} {xs:List V} (e:ai H H') (h:SqL K H a xs):SqL K H' a xs:=by
 rcases h with (h | ⟨o,h⟩) | h
 · exact .inl (.inl (e _ _ h))
 · exact .inl (.inr ⟨o,e _ _ h⟩)
 · exact .inr h
end L2
set_option linter.all false
set_option maxRecDepth 100000
namespace Ev
open PySem PySem.Spec PyProof.Rows L2
inductive D where
 | non | bl (b:Bool) | int (i:Int) | str (x:Str) | tup (xs:List D) | lst (xs:List D)
 deriving Inhabited
mutual
inductive Den (K:PySem.W.Frag) (H:Hp):V->D->Prop where
 | non:Den K H .non .non
 | bl {b:Bool}:Den K H (.bl b) (.bl b)
 | int {i:Int}:Den K H (.int i) (.int i)
 | str {x:Str}:Den K H (.str x) (.str x)
 | tup {a:Addr} {vs:List V} {ds:List D} (h:SqT K H a vs) (r:aA K H vs ds):Den K H (.ref a) (.tup ds)
 | lst {a:Addr} {vs:List V} {ds:List D} (h:SqL K H a vs) (r:aA K H vs ds):Den K H (.ref a) (.lst ds)
inductive aA (K:PySem.W.Frag) (H:Hp):List V->List D->Prop where
 | nil:aA K H [] []
 | cons {v:V} {d:D} {vs:List V} {ds:List D} (h:Den K H v d) (r:aA K H vs ds):aA K H (v :: vs) (d :: ds)
end
section
variable {K:PySem.W.Frag} {H H':Hp}
theorem a6 (e:ai H H') {a:Addr} {xs:List V} (h:SqT K H a xs):SqT K H' a xs:=by
 rcases h with (h | ⟨o,h⟩) | h
 · exact .inl (.inl (e _ _ h))
 · exact .inl (.inr ⟨o,e _ _ h⟩)
 · exact .inr h
theorem aD (e:ai H H') {a:Addr} {xs:List V} (h:SqL K H a xs):SqL K H' a xs:=e.seq h
mutual
theorem Den.mono (e:ai H H'):∀ {v:V} {d:D},Den K H v d->Den K H' v d
 | _,_,.non=>.non
 | _,_,.bl=>.bl
 | _,_,.int=>.int
 | _,_,.str=>.str
 | _,_,.tup h r=>.tup (a6 e h) (aA.mono e r)
 | _,_,.lst h r=>.lst (aD e h) (aA.mono e r)
theorem aA.mono (e:ai H H'):∀ {vs:List V} {ds:List D},aA K H vs ds->aA K H' vs ds
 | _,_,.nil=>.nil
 | _,_,.cons h r=>.cons (Den.mono e h) (aA.mono e r)
end
theorem aA.length:∀ {vs:List V} {ds:List D},aA K H vs ds->vs.length=ds.length
 | _,_,.nil=>rfl
 | _,_,.cons _ r=>congrArg (· + 1) r.length
theorem aA.get:∀ {vs:List V} {ds:List D} {i:Nat} {d:D},aA K H vs ds->ds[i]?=some d->∃ v,vs[i]?=some v/\Den K H v d
 | _,_,_,_,.nil,e=>by simp at e
 | _,_,0,_,.cons h _,e=>by simp at e; subst e; exact ⟨_,rfl,h⟩
 | _,_,i + 1,d,.cons _ r,e=>by
   obtain ⟨v,h1,h2⟩:=aA.get (i:=i) (d:=d) r (by simpa using e)
   exact ⟨v,by simpa using h1,h2⟩
theorem aA.append:∀ {xs ys:List V} {ds es:List D},aA K H xs ds->aA K H ys es->aA K H (xs++ys) (ds++es)
 | _,_,_,_,.nil,s=>s
 | _,_,_,_,.cons h r,s=>.cons h (aA.append r s)
theorem aA.take:∀ {xs:List V} {ds:List D} (n:Nat),aA K H xs ds->aA K H (xs.take n) (ds.take n)
 | _,_,0,_=>.nil
 | _,_,_ + 1,.nil=>.nil
 | _,_,n + 1,.cons h r=>.cons h (aA.take n r)
theorem aA.drop:∀ {xs:List V} {ds:List D} (n:Nat),aA K H xs ds->aA K H (xs.drop n) (ds.drop n)
 | _,_,0,r=>r
 | _,_,_ + 1,.nil=>.nil
 | _,_,n + 1,.cons _ r=>aA.drop n r
end
noncomputable def aH (i j:Int):Prop:=i.natAbs.log2 < 64\/j.natAbs.log2 < 64\/(i.natAbs.log2 < 1000000/\j.natAbs.log2 < 1000000)
noncomputable def aL (j:Int):Prop:=j ≠ 0/\j.natAbs.log2 < 9000
theorem az {H:Hp} {p:Addr} (h:H p=none) (o:HO):ai H (upd H p o):=λb u q=>by rw [ao (aB q h)]; exact q
end Ev
namespace Ev
open PySem PySem.Spec PyProof.Rows L2
noncomputable def Ite (K:PySem.W.Frag) (a:Addr):L2.It:=
 ⟨λi H=>∃ xs x,SqL K H a xs/\xs[i]?=some x,λi H v H'=>∃ p x,H p=none/\v=.ref p/\H'=upd H p (.tup [.int (i:Nat),x])/\∀ xs,SqL K H a xs->xs[i]?=some x,λi H=>∃ xs,SqL K H a xs/\xs.length<=i⟩
theorem kz {P:Program} {w:World} {K:PySem.W.Frag} {ts:List Expr} {q:Nat} {tp:Pos} (a e it:Addr) (hne:e ≠ it) :
   Turn P w K (.Tuple ts q tp) (Ite K a) [e,it] e (λi h=>(∃ old,IsEnum h e it (i:Nat) old)/\h.IsListIter it a i) where
 mem:=by simp
 obj:=λi h st b hb=>by
   obtain ⟨⟨old,h1⟩,o,h2,h3,h4⟩:=st
   rcases List.mem_cons.mp hb with rfl | hb
   · exact ⟨_,h1,λv z=>nomatch z⟩
   · have z:b=it:=by simpa using hb
     subst z
     exact ⟨o,h2,λv z=>by rw [h4] at z; cases z⟩
 keep:=λi h h' st k=>by
   obtain ⟨⟨old,h1⟩,o,h2,h3,h4⟩:=st
   exact ⟨⟨old,k e (by simp) _ h1⟩,o,k it (by simp) o h2,h3,h4⟩
 item:=by
   intro X hP hw hK hc i pins s σ H E I hf st hg
   subst hP hw hK
   obtain ⟨xs,x,hq,hx⟩:=hg
   obtain ⟨its,rv,p,hz⟩:=I.list hq
   obtain ⟨u,hu,ru⟩:=rv.get hx
   obtain ⟨⟨old,h1⟩,h2⟩:=st
   have fe:=hf e (by simp)
   have fi:=hf it (by simp)
   refine wpAny_pyNext_enum_item h1 h2 p.isList (x:=u) (by simpa using hu) hne λh' g1 g2 g3 g4 g5=>⟨_,rfl,?_⟩
   refine wpAny_letOwnedTupleGo_enum (s:={ s with heap:=h',toks:=s.toks + 1 }) g1 λh2' k1 k2=>?_
   have hn:H s.heap.objs.size=none:=I.hok.fresh (Nat.le_refl _)
   have le1:e < s.heap.objs.size:=Heap.lt_size h1
   have le2:it < s.heap.objs.size:=by obtain ⟨o,z,_⟩:=h2; exact Heap.lt_size z
   have kp:∀ b o,b ≠ e->b ≠ it->s.heap.get? b=some o->h2'.get? b=some o:=λb o b1 b2 z=>(k2.2 b b1).trans (g5 b o b1 b2 z)
   have nt:h2'.get? s.heap.objs.size=some { cls:=.type "tuple",data:=.seq #[.int (i:Nat) s.toks,u] }:=(k2.2 _ (Nat.ne_of_gt le1)).trans g3
   have ne1:∀ b v,H b=some v->b ≠ e:=λb v z q=>by rw [q,fe.1] at z; cases z
   have ne2:∀ b v,H b=some v->b ≠ it:=λb v z q=>by rw [q,fi.1] at z; cases z
   have hok0:HOk X.prog X.w H h2':=λb v z=>(I.hok b v z).fD (λc v' hc' q=>kp c v' (by
       rcases hc' with hc' | hc'
       · rw [hc']; exact ne1 b v z
       · exact ne1 c _ hc') (by
       rcases hc' with hc' | hc'
       · rw [hc']; exact ne2 b v z
       · exact ne2 c _ hc') q) (λ_ q=>q) λ_ _ q=>q
   have hok1:HOk X.prog X.w (upd H s.heap.objs.size (.tup [.int (i:Nat),x])) h2':=λb v z=>by
     by_cases hb:b=s.heap.objs.size
     · subst hb
       rw [aF] at z; cases z
       exact ⟨(by show 2<=sizeLine; decide),[.int (i:Nat) s.toks,u],.cons ⟨_,rfl⟩ (.cons ru .nil),_,nt,rfl,_,rfl⟩
     · rw [ao hb] at z
       exact (hok0 b v z).fD (λc v' _ q=>q) (λc q=>by rw [ao (aB q hn)]; exact q) λc ys q=>by rw [ao (aB q hn)]; exact q
   have I1:Inv X pins σ (upd H s.heap.objs.size (.tup [.int (i:Nat),x])) { s with heap:=h2',toks:=s.toks + 1 }:=by
     refine I.step (g':=s.gens) (d':=s.drawn) (ch:=[e,it]) (λb hb=>?_) (λb o _ _ hc' z _=>kp b o (λq=>hc' (by simp [q])) (λq=>hc' (by simp [q])) z)
       (λb o _ _ hc' z _=>⟨o.slots,kp b o (λq=>hc' (by simp [q])) (λq=>hc' (by simp [q])) z⟩)
       (λb o hc' z n=>by rw [ao (Nat.ne_of_lt (Heap.lt_size z))]; exact n) (λb o hc' z=>⟨o,kp b o (λq=>hc' (by simp [q])) (λq=>hc' (by simp [q])) z⟩)
       (λb ys z=>by rw [ao (aB z hn)]; exact z) (λb o u z=>by rw [ao (aB z hn)]; exact z) (λb ps z=>⟨#[],by rw [ao (aB z hn),z]; simp⟩) (λm hm=>?_) hok1 I.bare
     · rcases List.mem_cons.mp hb with rfl | hb
       · exact ⟨fe.2.2.2.1,fe.2.1,fe.2.2.2.2.1,fe.2.2.2.2.2⟩
       · have z:b=it:=by simpa using hb
         subst z
         exact ⟨fi.2.2.2.1,fi.2.1,fi.2.2.2.2.1,fi.2.2.2.2.2⟩
     · obtain ⟨o,es,ep,ho,r⟩:=hm
       exact ⟨o,es,ep,kp _ o (Ne.symm fe.2.1) (Ne.symm fi.2.1) ho,r⟩
   refine ⟨.ref s.heap.objs.size,_,I1,rfl,⟨s.heap.objs.size,x,hn,rfl,rfl,λys hy=>by rw [I.cF hy hq]; exact hx⟩,⟨⟨_,k1⟩,?_⟩,λb hb=>?_⟩
   · obtain ⟨o,z1,z2,z3⟩:=g2
     exact ⟨o,(k2.2 it (Ne.symm hne)).trans z1,z2,z3⟩
   · rcases List.mem_cons.mp hb with rfl | hb
     · rw [ao (Nat.ne_of_lt le1)]; exact fe.1
     · have z:b=it:=by simpa using hb
       subst z
       rw [ao (Nat.ne_of_lt le2)]; exact fi.1
 done:=by
   intro X hP hw hK hc i pins s σ H E I hf st hg
   subst hP hw hK
   obtain ⟨xs,hq,hx⟩:=hg
   obtain ⟨its,rv,p,hz⟩:=I.list hq
   obtain ⟨⟨old,h1⟩,h2⟩:=st
   obtain ⟨f0,f1,f2,f3,f4,f5⟩:=hf it (by simp)
   have hl:=rv.length
   exact wpAny_pyNext_enum_end (I.ok.hd hc) h1 h2 p.isList (by simp; omega) λh' eb=>⟨rfl,I.turned (t':=s.toks) (λb o hb z=>eb b o hb z) f0 f1 f3 f4 f5⟩
 self:=λ_ _ _ _ _ st h=>by
   obtain ⟨⟨old,h1⟩,_⟩:=st
   exact wpAny_pyIter_enum h1 h
section
variable {X:Cx}
noncomputable def qQ (K:PySem.W.Frag) (ta:TA):TI:=λσ H R=>ta σ H λvs H1=>∃ a,vs=[.ref a]/\(∃ xs,SqL K H1 a xs)/\R (Ite K a) H1
theorem kN:bootBuiltins "enumerate" = some (.type "enumerate"):=by decide +kernel
theorem kl {ts:List Expr} {q:Nat} {tp:Pos} {a:Expr} {ta:TA} {p pos:Pos} (hg:Gl X "enumerate") (hm:X.mg "enumerate" = none) (ha:PA X [a] ta) (hs:starEach [a] X.env=[(false,eval a X.env)]) :
   PI X (.Tuple ts q tp) (.Call (.Name "enumerate" p) [a] [] pos) (qQ X.K ta):=by
 intro pins s σ H R I h
 refine Call_ (da I hg hm kN (PyProof.Rows.callWith_type1 (thn (ha pos pins s σ H _ I h) λus s1 ⟨vs,H1,I1,r1,q1⟩=>?_) hs rfl))
 obtain ⟨l,e,⟨xs,hq⟩,q⟩:=q1
 subst e
 obtain ⟨u,rfl,ru⟩:=vals1 r1
 cases ru
 obtain ⟨its,rv,pl,hz⟩:=I1.list hq
 refine call_enumerate_list pl.isList λh' g1 g2 g3 g4=>?_
 refine wpAny_pyIter_enum (s:={ s1 with heap:=h' }) g1 ?_
 have I2:Inv X pins σ H1 { s1 with heap:=h' }:=I1.kept (t':=s1.toks) g4
 have n1:H1 (s1.heap.objs.size + 1)=none:=I1.hok.fresh (by omega)
 have n2:H1 s1.heap.objs.size=none:=I1.hok.fresh (Nat.le_refl _)
 refine ⟨s1.heap.objs.size + 1,[s1.heap.objs.size + 1,s1.heap.objs.size],_,_,H1,rfl,I2,kz l (s1.heap.objs.size + 1) s1.heap.objs.size (Nat.succ_ne_self _),⟨⟨_,g1⟩,g2⟩,λb hb=>?_,q⟩
 rcases List.mem_cons.mp hb with rfl | hb
 · exact I1.jk (by omega) n1
 · have z:b=s1.heap.objs.size:=by simpa using hb
   subst z
   exact I1.jk (Nat.le_refl _) n2
end
end Ev
namespace Ev
open PySem PySem.Spec PyProof.Rows L2
noncomputable def Itz (K:PySem.W.Frag) (a b:Addr):L2.It:=
 ⟨λi H=>∃ xs ys x y,SqL K H a xs/\SqL K H b ys/\xs[i]?=some x/\ys[i]?=some y,
  λi H v H'=>∃ p x y,H p=none/\v=.ref p/\H'=upd H p (.tup [x,y])/\(∀ xs,SqL K H a xs->xs[i]?=some x)/\∀ ys,SqL K H b ys->ys[i]?=some y,
  λi H=>∃ xs ys,SqL K H a xs/\SqL K H b ys/\(xs.length<=i\/ys.length<=i)⟩
noncomputable def zSt (a b z TI TO i1 i2:Addr) (i:Nat) (h:Heap):Prop:=
 IsZip h z TI TO .none/\IsPair h TI (.ref i1) (.ref i2)/\(∃ u v,IsPair h TO u v)/\h.IsListIter i1 a i/\h.IsListIter i2 b i
theorem gv {h:Heap} {a b z TI TO i1 i2:Addr} {i:Nat} {xs ys:Array Value} (n:TI ≠ TO) (m:i1 ≠ i2) (s:zSt a b z TI TO i1 i2 i h) (l1:h.IsList a xs) (l2:h.IsList b ys):ZipApart z TI TO i1 i2 a b:=by
 obtain ⟨h1,h2,⟨u,v,h3⟩,⟨o4,h4,c4,d4⟩,⟨o5,h5,c5,d5⟩⟩:=s
 obtain ⟨o6,h6,c6,n6,d6⟩:=l1
 obtain ⟨o7,h7,c7,n7,d7⟩:=l2
 have kk:∀ {x y:Addr} {o p:Obj},h.get? x=some o->h.get? y=some p->o.cls ≠ p.cls->x ≠ y:=λe1 e2 c q=>by subst q; rw [e1] at e2; cases e2; exact c rfl
 have cz:∀ {s t:String},s ≠ t->Value.type s ≠ Value.type t:=λn q=>n (by cases q; rfl)
 refine ⟨kk h2 h1 (cz (by decide)),kk h3 h1 (cz (by decide)),kk h4 h1 ?_,kk h5 h1 ?_,n,kk h2 h4 ?_,kk h2 h5 ?_,kk h3 h4 ?_,kk h3 h5 ?_,m,kk h6 h1 ?_,kk h6 h3 ?_,kk h6 h4 ?_,kk h6 h5 ?_,kk h7 h1 ?_,kk h7 h3 ?_,kk h7 h4 ?_,kk h7 h5 ?_⟩
 all_goals first | (rw [c4]; exact cz (by decide)) | (rw [c5]; exact cz (by decide)) | (rw [c6]; exact cz (by decide)) | (rw [c7]; exact cz (by decide)) | (rw [c6,c4]; exact cz (by decide)) | (rw [c6,c5]; exact cz (by decide)) | (rw [c7,c4]; exact cz (by decide)) | (rw [c7,c5]; exact cz (by decide))
theorem k9 {P:Program} {w:World} {K:PySem.W.Frag} {ts:List Expr} {q:Nat} {tp:Pos} (a b z TI TO i1 i2:Addr) (nT:TI ≠ TO) (nI:i1 ≠ i2) :
   Turn P w K (.Tuple ts q tp) (Itz K a b) [z,TI,TO,i1,i2] z (zSt a b z TI TO i1 i2) where
 mem:=by simp
 obj:=λi h st c hb=>by
   obtain ⟨h1,h2,⟨u,v,h3⟩,⟨o4,h4,c4,d4⟩,⟨o5,h5,c5,d5⟩⟩:=st
   simp only [List.mem_cons,List.not_mem_nil,or_false] at hb
   rcases hb with rfl | rfl | rfl | rfl | rfl
   · exact ⟨_,h1,λv z=>nomatch z⟩
   · exact ⟨_,h2,λv z=>nomatch z⟩
   · exact ⟨_,h3,λv z=>nomatch z⟩
   · exact ⟨_,h4,λv z=>by rw [d4] at z; cases z⟩
   · exact ⟨_,h5,λv z=>by rw [d5] at z; cases z⟩
 keep:=λi h h' st k=>by
   obtain ⟨h1,h2,⟨u,v,h3⟩,⟨o4,h4,c4,d4⟩,⟨o5,h5,c5,d5⟩⟩:=st
   exact ⟨k z (by simp) _ h1,k TI (by simp) _ h2,⟨u,v,k TO (by simp) _ h3⟩,⟨o4,k i1 (by simp) _ h4,c4,d4⟩,⟨o5,k i2 (by simp) _ h5,c5,d5⟩⟩
 item:=by
   intro X hP hw hK hc i pins s σ H E I hf st hg
   subst hP hw hK
   obtain ⟨xs,ys,x,y,hq1,hq2,hx,hy⟩:=hg
   obtain ⟨its1,rv1,p1,hz1⟩:=I.list hq1
   obtain ⟨its2,rv2,p2,hz2⟩:=I.list hq2
   obtain ⟨u1,hu1,ru1⟩:=rv1.get hx
   obtain ⟨u2,hu2,ru2⟩:=rv2.get hy
   have D:=gv nT nI st p1.isList p2.isList
   obtain ⟨h1,h2,⟨u,v,h3⟩,h4,h5⟩:=st
   refine wpAny_pyNext_zip_item D h1 h2 h3 h4 h5 p1.isList p2.isList (x:=u1) (y:=u2) (by simpa using hu1) (by simpa using hu2) λh' g1 g2 g3 g4 g5 g6 g7=>⟨_,rfl,?_⟩
   refine wpAny_letOwnedTupleGo_zip (s:={ s with heap:=h' }) g1 λh2' k1 k2=>?_
   have hn:H s.heap.objs.size=none:=I.hok.fresh (Nat.le_refl _)
   have le1:z < s.heap.objs.size:=Heap.lt_size h1
   have lt2:TI < s.heap.objs.size:=Heap.lt_size h2
   have lt3:TO < s.heap.objs.size:=Heap.lt_size h3
   have lt4:i1 < s.heap.objs.size:=by obtain ⟨o,z,_⟩:=h4; exact Heap.lt_size z
   have lt5:i2 < s.heap.objs.size:=by obtain ⟨o,z,_⟩:=h5; exact Heap.lt_size z
   have kp:∀ c o,c ≠ z->c ≠ TO->c ≠ i1->c ≠ i2->s.heap.get? c=some o->h2'.get? c=some o:=λc o b1 b2 b3 b4 e=>(k2.2 c b1).trans (g7 c o b1 b2 b3 b4 e)
   have nt:IsPair h2' s.heap.objs.size u1 u2:=(k2.2 _ (Nat.ne_of_gt le1)).trans g5
   have ne:∀ c,c ∈ [z,TI,TO,i1,i2]->∀ d v,H d=some v->d ≠ c:=λc hc d v e q=>by
     have:=(hf c hc).1
     rw [q,this] at e; cases e
   have hok0:HOk X.prog X.w H h2':=λd v e=>(I.hok d v e).fD (λc v' hc' q=>kp c v'
       (by rcases hc' with hc' | hc'
           · rw [hc']; exact ne z (by simp) d v e
           · exact ne z (by simp) c _ hc')
       (by rcases hc' with hc' | hc'
           · rw [hc']; exact ne TO (by simp) d v e
           · exact ne TO (by simp) c _ hc')
       (by rcases hc' with hc' | hc'
           · rw [hc']; exact ne i1 (by simp) d v e
           · exact ne i1 (by simp) c _ hc')
       (by rcases hc' with hc' | hc'
           · rw [hc']; exact ne i2 (by simp) d v e
           · exact ne i2 (by simp) c _ hc') q) (λ_ q=>q) λ_ _ q=>q
   have hok1:HOk X.prog X.w (upd H s.heap.objs.size (.tup [x,y])) h2':=λd v e=>by
     by_cases hb:d=s.heap.objs.size
     · subst hb
       rw [aF] at e; cases e
       exact ⟨(by show 2<=sizeLine; decide),[u1,u2],.cons ru1 (.cons ru2 .nil),_,nt,rfl,_,rfl⟩
     · rw [ao hb] at e
       exact (hok0 d v e).fD (λc v' _ q=>q) (λc q=>by rw [ao (aB q hn)]; exact q) λc ys q=>by rw [ao (aB q hn)]; exact q
   have I1:Inv X pins σ (upd H s.heap.objs.size (.tup [x,y])) { s with heap:=h2' }:=by
     refine I.step (t':=s.toks) (g':=s.gens) (d':=s.drawn) (ch:=[z,TO,i1,i2]) (λc hb=>?_) (λc o _ _ hc' e _=>kp c o (λq=>hc' (by simp [q])) (λq=>hc' (by simp [q])) (λq=>hc' (by simp [q])) (λq=>hc' (by simp [q])) e)
       (λc o _ _ hc' e _=>⟨o.slots,kp c o (λq=>hc' (by simp [q])) (λq=>hc' (by simp [q])) (λq=>hc' (by simp [q])) (λq=>hc' (by simp [q])) e⟩)
       (λc o hc' e n=>by rw [ao (Nat.ne_of_lt (Heap.lt_size e))]; exact n) (λc o hc' e=>⟨o,kp c o (λq=>hc' (by simp [q])) (λq=>hc' (by simp [q])) (λq=>hc' (by simp [q])) (λq=>hc' (by simp [q])) e⟩)
       (λc ys e=>by rw [ao (aB e hn)]; exact e) (λc o u e=>by rw [ao (aB e hn)]; exact e) (λc ps e=>⟨#[],by rw [ao (aB e hn),e]; simp⟩) (λm hm=>?_) hok1 I.bare
     · have hb':c ∈ [z,TI,TO,i1,i2]:=by
         simp only [List.mem_cons,List.not_mem_nil,or_false] at hb ⊢
         rcases hb with h | h | h | h <;> simp [h]
       have fe:=hf c hb'
       exact ⟨fe.2.2.2.1,fe.2.1,fe.2.2.2.2.1,fe.2.2.2.2.2⟩
     · obtain ⟨o,es,ep,ho,r⟩:=hm
       exact ⟨o,es,ep,kp _ o (Ne.symm (hf z (by simp)).2.1) (Ne.symm (hf TO (by simp)).2.1) (Ne.symm (hf i1 (by simp)).2.1) (Ne.symm (hf i2 (by simp)).2.1) ho,r⟩
   refine ⟨.ref s.heap.objs.size,_,I1,rfl,⟨s.heap.objs.size,x,y,hn,rfl,rfl,λzs hy'=>by rw [I.cF hy' hq1]; exact hx,λzs hy'=>by rw [I.cF hy' hq2]; exact hy⟩,⟨k1,?_,⟨u1,u2,(k2.2 TO D.TOz).trans g2⟩,?_,?_⟩,λc hb=>?_⟩
   · exact kp TI _ D.TIz D.TITO D.TIi1 D.TIi2 h2
   · obtain ⟨o,z1,z2,z3⟩:=g3
     exact ⟨o,(k2.2 i1 D.i1z).trans z1,z2,z3⟩
   · obtain ⟨o,z1,z2,z3⟩:=g4
     exact ⟨o,(k2.2 i2 D.i2z).trans z1,z2,z3⟩
   · have fc:=(hf c hb).1
     have lt:c < s.heap.objs.size:=by
       simp only [List.mem_cons,List.not_mem_nil,or_false] at hb
       rcases hb with rfl | rfl | rfl | rfl | rfl <;> assumption
     rw [ao (Nat.ne_of_lt lt)]
     exact fc
 done:=by
   intro X hP hw hK hc i pins s σ H E I hf st hg
   subst hP hw hK
   obtain ⟨xs,ys,hq1,hq2,hx⟩:=hg
   obtain ⟨its1,rv1,p1,hz1⟩:=I.list hq1
   obtain ⟨its2,rv2,p2,hz2⟩:=I.list hq2
   have D:=gv nT nI st p1.isList p2.isList
   obtain ⟨h1,h2,⟨u,v,h3⟩,h4,h5⟩:=st
   have hl1:=rv1.length
   have hl2:=rv2.length
   refine wpAny_pyNext_zip_end (I.ok.hd hc) D h1 h2 h3 h4 h5 p1.isList p2.isList (by
     rcases hx with hx | hx
     · left; simp; omega
     · right; simp; omega) λh' eb=>⟨rfl,?_⟩
   have ne:∀ c,c ∈ [z,TI,TO,i1,i2]->∀ d v,H d=some v->d ≠ c:=λc hc d v e q=>by
     have:=(hf c hc).1
     rw [q,this] at e; cases e
   have hok0:HOk X.prog X.w H h':=λd v e=>(I.hok d v e).fD (λc v' hc' q=>eb c v'
       (by rcases hc' with hc' | hc'
           · rw [hc']; exact ne z (by simp) d v e
           · exact ne z (by simp) c _ hc')
       (by rcases hc' with hc' | hc'
           · rw [hc']; exact ne TO (by simp) d v e
           · exact ne TO (by simp) c _ hc')
       (by rcases hc' with hc' | hc'
           · rw [hc']; exact ne i1 (by simp) d v e
           · exact ne i1 (by simp) c _ hc')
       (by rcases hc' with hc' | hc'
           · rw [hc']; exact ne i2 (by simp) d v e
           · exact ne i2 (by simp) c _ hc') q) (λ_ q=>q) λ_ _ q=>q
   refine I.step (t':=s.toks) (g':=s.gens) (d':=s.drawn) (ch:=[z,TO,i1,i2]) (λc hb=>?_) (λc o _ _ hc' e _=>eb c o (λq=>hc' (by simp [q])) (λq=>hc' (by simp [q])) (λq=>hc' (by simp [q])) (λq=>hc' (by simp [q])) e)
       (λc o _ _ hc' e _=>⟨o.slots,eb c o (λq=>hc' (by simp [q])) (λq=>hc' (by simp [q])) (λq=>hc' (by simp [q])) (λq=>hc' (by simp [q])) e⟩)
       (λc o hc' e n=>n) (λc o hc' e=>⟨o,eb c o (λq=>hc' (by simp [q])) (λq=>hc' (by simp [q])) (λq=>hc' (by simp [q])) (λq=>hc' (by simp [q])) e⟩)
       (λc ys e=>e) (λc o u e=>e) (λc ps e=>⟨#[],by rw [e]; simp⟩) (λm hm=>?_) hok0 I.bare
   · have hb':c ∈ [z,TI,TO,i1,i2]:=by
       simp only [List.mem_cons,List.not_mem_nil,or_false] at hb ⊢
       rcases hb with h | h | h | h <;> simp [h]
     have fe:=hf c hb'
     exact ⟨fe.2.2.2.1,fe.2.1,fe.2.2.2.2.1,fe.2.2.2.2.2⟩
   · obtain ⟨o,es,ep,ho,r⟩:=hm
     exact ⟨o,es,ep,eb _ o (Ne.symm (hf z (by simp)).2.1) (Ne.symm (hf TO (by simp)).2.1) (Ne.symm (hf i1 (by simp)).2.1) (Ne.symm (hf i2 (by simp)).2.1) ho,r⟩
 self:=λ_ _ _ _ _ st h=>wpAny_pyIter_zip st.1 h
section
variable {X:Cx}
noncomputable def pC (K:PySem.W.Frag) (ta:TA):TI:=λσ H R=>ta σ H λvs H1=>∃ a b,vs=[.ref a,.ref b]/\(∃ xs,SqL K H1 a xs)/\(∃ ys,SqL K H1 b ys)/\R (Itz K a b) H1
theorem jq {ts:List Expr} {q:Nat} {tp:Pos} {a b:Expr} {ta:TA} {p pos:Pos} (hg:Gl X "zip") (hm:X.mg "zip" = none) (ha:PA X [a,b] ta) (hs:starEach [a,b] X.env=(false,eval a X.env) :: starEach [b] X.env) (hs2:starEach [b] X.env=[(false,eval b X.env)]) :
   PI X (.Tuple ts q tp) (.Call (.Name "zip" p) [a,b] [] pos) (pC X.K ta):=by
 intro pins s σ H R I h
 refine Call_ (da I hg hm boot_zip (PyProof.Rows.callWith_type1 (thn (ha pos pins s σ H _ I h) λus s1 ⟨vs,H1,I1,r1,q1⟩=>?_) hs (by rw [hs2]; rfl)))
 obtain ⟨l,l',e,⟨xs,hq1⟩,⟨ys,hq2⟩,q⟩:=q1
 subst e
 obtain ⟨u,u',rfl,ru,ru'⟩:=vals2 r1
 cases ru
 cases ru'
 obtain ⟨its1,rv1,pl1,hz1⟩:=I1.list hq1
 obtain ⟨its2,rv2,pl2,hz2⟩:=I1.list hq2
 refine call_zip_2 pl1.isList pl2.isList λh' g1 g2 g3 g4 g5 g6 g7=>?_
 refine wpAny_pyIter_zip (s:={ s1 with heap:=h' }) g1 ?_
 have I2:Inv X pins σ H1 { s1 with heap:=h' }:=I1.kept (t':=s1.toks) g7
 have nn:∀ j,H1 (s1.heap.objs.size + j)=none:=λj=>I1.hok.fresh (by omega)
 refine ⟨s1.heap.objs.size + 4,[s1.heap.objs.size + 4,s1.heap.objs.size + 2,s1.heap.objs.size + 3,s1.heap.objs.size,s1.heap.objs.size + 1],_,_,H1,rfl,I2,k9 l l' (s1.heap.objs.size + 4) (s1.heap.objs.size + 2) (s1.heap.objs.size + 3) s1.heap.objs.size (s1.heap.objs.size + 1) (by simp) (Ne.symm (Nat.succ_ne_self _)),⟨g1,g2,⟨_,_,g3⟩,g4,g5⟩,λc hb=>?_,q⟩
 have hb':∃ j,c=s1.heap.objs.size + j:=by
   simp only [List.mem_cons,List.not_mem_nil,or_false] at hb
   rcases hb with h | h | h | h | h
   · exact ⟨_,h⟩
   · exact ⟨_,h⟩
   · exact ⟨_,h⟩
   · exact ⟨0,h⟩
   · exact ⟨_,h⟩
 obtain ⟨j,rfl⟩:=hb'
 exact I1.jk (Nat.le_add_right _ _) (nn j)
end
end Ev
namespace Ev
open PySem PySem.Spec PyProof.Rows L2
noncomputable def Itv (K:PySem.W.Frag) (a:Addr) (n:Nat):L2.It:=
 ⟨λi H=>i < n/\∃ xs x,SqL K H a xs/\xs[n - 1 - i]?=some x,λi H x H'=>H'=H/\∀ xs,SqL K H a xs->xs[n - 1 - i]?=some x,λi _=>n<=i⟩
theorem lP {P:Program} {w:World} {K:PySem.W.Frag} {tg:Expr} (a it:Addr) (n:Nat) :
   Turn P w K tg (Itv K a n) [it] it (λi h=>i<=n/\h.IsRevIter it a ((n:Int) - 1 - (i:Int))) where
 mem:=by simp
 obj:=λi h st b hb=>by
   have e:b=it:=by simpa using hb
   subst e
   obtain ⟨o,e,c,d⟩:=st.2
   exact ⟨o,e,λv z=>by rw [d] at z; cases z⟩
 keep:=λi h h' st k=>⟨st.1,st.2.at λo e=>k it (by simp) o e⟩
 item:=by
   intro X hP hw hK hc i pins s σ H E I hf st hg
   subst hP hw hK
   obtain ⟨hi,xs,x,hq,hx⟩:=hg
   obtain ⟨its,rv,p,hz⟩:=I.list hq
   obtain ⟨u,hu,ru⟩:=rv.get hx
   obtain ⟨f0,f1,f2,f3,f4,f5⟩:=hf it (by simp)
   have st2:=st.2
   rw [show (n:Int) - 1 - (i:Int)=((n - 1 - i:Nat):Int) by omega] at st2
   refine wpAny_pyNext_rev_item st2 p.isList (x:=u) (by simpa using hu) λh' st' sb=>?_
   have I1:Inv X pins σ H { s with heap:=h' }:=I.turned (t':=s.toks) (λb o hb e=>(sb.2 b hb).trans e) f0 f1 f3 f4 f5
   obtain ⟨o,e,c,d⟩:=id st'
   refine ⟨u,rfl,kW (s:={ s with heap:=h' }) e c d (by decide) ⟨x,H,I1,ru,⟨rfl,λys hy=>by rw [I.cF hy hq]; exact hx⟩,⟨hi,?_⟩,λb hb=>(hf b hb).1⟩⟩
   rw [show (n:Int) - 1 - ((i + 1:Nat):Int)=((n - 1 - i:Nat):Int) - 1 by omega]
   exact st'
 done:=by
   intro X hP hw hK hc i pins s σ H E I hf st hg
   subst hP hw hK
   obtain ⟨f0,f1,f2,f3,f4,f5⟩:=hf it (by simp)
   have st2:=st.2
   have hg:n<=i:=hg
   rw [show (n:Int) - 1 - (i:Int)=-1 by have:=st.1; omega] at st2
   exact wpAny_pyNext_rev_end (I.ok.hd hc) st2 λh' eb=>⟨rfl,I.turned (t':=s.toks) (λb o hb e=>eb b o hb e) f0 f1 f3 f4 f5⟩
 self:=λ_ _ _ _ _ st h=>wpAny_pyIter_revIter st.2 h
section
variable {X:Cx} {tg:Expr}
noncomputable def pg (K:PySem.W.Frag) (ta:TA):TI:=λσ H R=>ta σ H λvs H1=>∃ a xs,vs=[.ref a]/\SqL K H1 a xs/\R (Itv K a xs.length) H1
theorem mI:bootBuiltins "reversed" = some (.type "reversed"):=by decide +kernel
theorem jl {a:Expr} {ta:TA} {p pos:Pos} (hg:Gl X "reversed") (hm:X.mg "reversed" = none) (ha:PA X [a] ta) (hs:starEach [a] X.env=[(false,eval a X.env)]):PI X tg (.Call (.Name "reversed" p) [a] [] pos) (pg X.K ta):=by
 intro pins s σ H R I h
 refine Call_ (da I hg hm mI (PyProof.Rows.callWith_type1 (thn (ha pos pins s σ H _ I h) λus s1 ⟨vs,H1,I1,r1,q1⟩=>?_) hs rfl))
 obtain ⟨l,xs,e,hq,q⟩:=q1
 subst e
 obtain ⟨u,rfl,ru⟩:=vals1 r1
 cases ru
 obtain ⟨its,rv,pl,hz⟩:=I1.list hq
 have hl:=rv.length
 refine call_reversed_list pl.isList ?_
 have st:({ s1 with heap:=s1.heap.push (revObj l ((its.toArray.size:Int) - 1)) }:Shared).heap.IsRevIter s1.heap.objs.size l ((its.toArray.size:Int) - 1):=⟨_,Heap.get?_push_size _ rfl,rfl,rfl⟩
 refine wpAny_pyIter_revIter st ?_
 refine ⟨s1.heap.objs.size,[s1.heap.objs.size],_,_,H1,rfl,I1.kept (t':=s1.toks) λb o e=>Heap.get?_push_of_some _ e,lP l _ xs.length,⟨Nat.zero_le _,?_⟩,λb hb=>?_,q⟩
 · rw [show (xs.length:Int) - 1 - ((0:Nat):Int)=(its.toArray.size:Int) - 1 by rw [List.size_toArray,<- hl]; omega]
   exact st
 · have e:b=s1.heap.objs.size:=by simpa using hb
   subst e
   exact I1.jk (Nat.le_refl _) (I1.hok.fresh (Nat.le_refl _))
end
end Ev
namespace Ev
open PySem PySem.Spec PyProof.Rows L2
theorem mn:∀ (names:List (Str × NameKind)) (n:Nat) (acc:List (Str × Addr)) (x:Str) (c:Addr),(cellsFrom n names acc).lookup x=some c->n<=c\/acc.lookup x=some c
 | [],_,_,_,_,h=>.inr h
 | (y,k) :: r,n,acc,x,c,h=>by
   unfold cellsFrom at h
   split at h
   · rcases mn r (n + 1) _ x c h with q | q
     · exact .inl (by omega)
     · rw [List.lookup_cons] at q
       split at q
       · cases q; exact .inl (Nat.le_refl _)
       · exact .inr q
   · exact mn r n acc x c h
theorem fv:∀ (names:List (Str × NameKind)) (n:Nat) (acc:List (Str × Addr)) (x:Str),(x,NameKind.cell) ∉ names->(cellsFrom n names acc).lookup x=acc.lookup x
 | [],_,_,_,_=>rfl
 | (y,k) :: r,n,acc,x,h=>by
   have h1:(x,NameKind.cell) ∉ r:=λz=>h (List.mem_cons_of_mem _ z)
   unfold cellsFrom
   split
   · rename_i hk
     rw [fv r _ _ x h1,List.lookup_cons]
     have:(x == y)=false:=by
       rw [beq_eq_false_iff_ne]
       rintro rfl
       exact h (by rw [eq_of_beq hk]; exact List.mem_cons_self)
     rw [this]
   · exact fv r n acc x h1
theorem ik:∀ (names:List (Str × NameKind)) (n:Nat) (acc:List (Str × Addr)) (x:Str),(x,NameKind.cell) ∈ names->∃ c,(cellsFrom n names acc).lookup x=some c/\n<=c
 | (y,k) :: r,n,acc,x,h=>by
   unfold cellsFrom
   by_cases hr:(x,NameKind.cell) ∈ r
   · split
     · obtain ⟨c,e,l⟩:=ik r (n + 1) ((y,n) :: acc) x hr
       exact ⟨c,e,by omega⟩
     · exact ik r n acc x hr
   · rcases List.mem_cons.mp h with q | q
     · cases q
       rw [if_pos (by rfl),fv r _ _ _ hr]
       exact ⟨n,by simp [List.lookup_cons],Nat.le_refl _⟩
     · exact absurd q hr
theorem jE:∀ (names:List (Str × NameKind)) (n:Nat) (acc:List (Str × Addr)),(∀ x c,acc.lookup x=some c->c < n)->(∀ x y c,acc.lookup x=some c->acc.lookup y=some c->x=y) ->
   ∀ x y c,(cellsFrom n names acc).lookup x=some c->(cellsFrom n names acc).lookup y=some c->x=y
 | [],_,_,_,h=>h
 | (z,k) :: r,n,acc,hl,h=>by
   unfold cellsFrom
   split
   · refine jE r (n + 1) _ (λx c e=>?_) (λx y c e1 e2=>?_)
     · rw [List.lookup_cons] at e
       split at e
       · cases e; exact Nat.lt_succ_self _
       · exact Nat.lt_succ_of_lt (hl x c e)
     · rw [List.lookup_cons] at e1 e2
       split at e1
       · rename_i q1
         cases e1
         split at e2
         · rename_i q2
           exact (eq_of_beq q1).trans (eq_of_beq q2).symm
         · exact absurd (hl y _ e2) (Nat.lt_irrefl _)
       · split at e2
         · cases e2
           exact absurd (hl x _ e1) (Nat.lt_irrefl _)
         · exact h x y c e1 e2
   · exact jE r n acc hl h
theorem gZ:∀ (names:List (Str × NameKind)) (h:Heap) (acc:List (Str × Addr)),(∀ x c,acc.lookup x=some c->∃ v,h.IsCell c v)->∀ x c,(cellsFrom h.objs.size names acc).lookup x=some c->∃ v,(pushCells h names).IsCell c v
 | [],_,_,ha,x,c,e=>ha x c e
 | (z,k) :: r,h,acc,ha,x,c,e=>by
   unfold cellsFrom at e
   unfold pushCells
   split at e
   · rename_i hk
     rw [if_pos hk]
     refine gZ r _ ((z,h.objs.size) :: acc) (λy d q=>?_) x c (by rw [Heap.size_push]; exact e)
     rw [List.lookup_cons] at q
     split at q
     · cases q
       exact ⟨none,_,Heap.get?_push_size _ rfl,rfl⟩
     · obtain ⟨v,o,ho,hd⟩:=ha y d q
       exact ⟨v,o,Heap.get?_push_of_some _ ho,hd⟩
   · rename_i hk
     rw [if_neg hk]
     exact gZ r h acc ha x c e
noncomputable def bx (env:PySem.Env):List (Str × NameKind)->List (Str × Addr)->List (Str × Addr)
 | [],acc=>acc
 | (n,k) :: r,acc=>if k == .free then (match env.cells.lookup n with | some c=>bx env r ((n,c) :: acc) | none=>bx env r acc) else bx env r acc
theorem fJ (env:PySem.Env):∀ (names:List (Str × NameKind)) (acc:List (Str × Addr)),(∀ x ∈ names,x.2=.free->∃ c,env.cells.lookup x.1=some c) ->
   (forIn (m:=Sem) names acc λx cs=>do
     let (name,kind):=x
     if kind == .free then do
       let c <- cellOf env name
       pure (ForInStep.yield ((name,c) :: cs))
     else pure (ForInStep.yield cs))=pure (bx env names acc)
 | [],acc,_=>rfl
 | (n,k) :: r,acc,h=>by
   rw [List.forIn_cons]
   unfold bx
   by_cases hk:(k == .free)=true
   · obtain ⟨c,hc⟩:=h (n,k) List.mem_cons_self (eq_of_beq hk)
     simp only [hk,if_true,cellOf,hc,pure_bind]
     exact fJ env r _ λx hx=>h x (List.mem_cons_of_mem _ hx)
   · simp only [hk,Bool.false_eq_true,if_false,pure_bind]
     exact fJ env r _ λx hx=>h x (List.mem_cons_of_mem _ hx)
theorem kf {env:PySem.Env} {scope:Scope} (h:∀ x ∈ scope.names,x.2=.free->∃ c,env.cells.lookup x.1=some c):closureFor scope env=pure (bx env scope.names []):=by
 unfold closureFor
 have:=fJ env scope.names [] h
 simp only [bind_pure]
 exact this
theorem cg (env:PySem.Env):∀ (names:List (Str × NameKind)) (acc:List (Str × Addr)) (x:Str) (c:Addr),(∀ y d,acc.lookup y=some d->env.cells.lookup y=some d)->(bx env names acc).lookup x=some c->env.cells.lookup x=some c
 | [],_,x,c,ha,h=>ha x c h
 | (n,k) :: r,acc,x,c,ha,h=>by
   unfold bx at h
   split at h
   · split at h
     · rename_i c' hc
       refine cg env r _ x c (λy d q=>?_) h
       rw [List.lookup_cons] at q
       split at q
       · rename_i qq
         cases q
         rw [eq_of_beq qq]; exact hc
       · exact ha y d q
     · exact cg env r acc x c ha h
   · exact cg env r acc x c ha h
theorem bF (env:PySem.Env):∀ (names:List (Str × NameKind)) (acc:List (Str × Addr)) (x:Str) (c:Addr),(∀ y d,acc.lookup y=some d->env.cells.lookup y=some d)->env.cells.lookup x=some c->((x,NameKind.free) ∈ names\/acc.lookup x=some c)->(bx env names acc).lookup x=some c
 | [],_,x,c,_,_,h=>h.elim (λz=>absurd z (by simp)) id
 | (n,k) :: r,acc,x,c,ha,hc,h=>by
   unfold bx
   split
   · split
     · rename_i c' hc'
       refine bF env r _ x c (λy d q=>?_) hc ?_
       · rw [List.lookup_cons] at q
         split at q
         · rename_i qq
           cases q
           rw [eq_of_beq qq]; exact hc'
         · exact ha y d q
       · by_cases q:x=n
         · subst q
           rw [hc] at hc'; cases hc'
           exact .inr (by simp [List.lookup_cons])
         · rcases h with h | h
           · rcases List.mem_cons.mp h with z | z
             · cases z; exact absurd rfl q
             · exact .inl z
           · refine .inr ?_
             rw [List.lookup_cons,beq_eq_false_iff_ne.mpr q]
             exact h
     · rename_i hc'
       refine bF env r acc x c ha hc ?_
       rcases h with h | h
       · rcases List.mem_cons.mp h with z | z
         · cases z; rw [hc] at hc'; cases hc'
         · exact .inl z
       · exact .inr h
   · rename_i hk
     refine bF env r acc x c ha hc ?_
     rcases h with h | h
     · rcases List.mem_cons.mp h with z | z
       · cases z; exact absurd rfl hk
       · exact .inl z
     · exact .inr h
theorem gC {M:Model} {A:Around} {E:Value->Shared->Prop} {s:Shared} {scope:Scope} {cl:List (Str × Addr)} {env:PySem.Env} {Q:PySem.Env->Shared->Prop}
   (h:Q (newEnv scope s.heap.objs.size env.globals (cellsFrom (s.heap.objs.size + 1) scope.names cl) env.qual none .none (some env) builtinsNs) { s with heap:=pushCells (s.heap.push { cls:=.type "dict",data:=.dict #[] }) scope.names }) :
   wpAny M A (newFunctionEnv scope env.globals cl [] env.qual none .none (some env)) Q E s:=by
 simp only [newFunctionEnv,Option.isSome_some,if_true]
 refine wpAny_bind (wpAny_alloc ?_)
 refine wpAny_bind (wpAny_layCells _ (λname kind cells=>by cases hkc:kind == NameKind.cell <;> simp [hkc]) _ _ _ _ ?_)
 rw [show ({ s with heap:=s.heap.push { cls:=.type "dict",data:=.dict #[] } }:Shared).heap.objs.size=s.heap.objs.size + 1 from Heap.size_push ..]
 exact wpAny_bind (wpAny_pure (wpAny_pure h))
end Ev
namespace Ev
open PySem PySem.Spec PyProof.Rows L2
noncomputable def ax (X:Cx) (s:Shared) (H:Hp) (scope:Scope) (N:List Str) (fp:List Addr):Cx:=
 { prog:=X.prog,w:=X.w,K:=X.K,mg:=X.mg,base:=X.base,A:=X.A,N:=N,s₀:=s,H₀:=H
   env:=compEnvC scope (cellsFrom (s.heap.objs.size + 1 + 1) scope.names (bx X.env scope.names [])) (s.heap.objs.size + 1) X.env
   outer:=X.stack,stack:=X.stack,ex:=fp,fn:=λx=>decide ((x,NameKind.cell) ∈ scope.names),calm:=X.calm,pn:=[],xe:=λ_ _=>False }
noncomputable def cW (σ:L2.St) (caps:List (Option Nat)):L2.St:=caps.map λo=>o.bind λi=>(σ[i]?).join
structure cx (X:Cx) (scope:Scope) (N:List Str) (caps:List (Option Nat)):Prop where
 kind:scope.kind=.function
 loc:∀ x ∈ scope.names,x.2=.local->scope.names.lookup x.1=some .local
 fre:∀ x ∈ scope.names,x.2=.free->X.env.kindOf x.1=some .cell
 one:∀ x,(x,NameKind.free) ∈ scope.names->(x,NameKind.cell) ∉ scope.names
 noboth:∀ x,(x,NameKind.free) ∈ scope.names->(x,NameKind.local) ∉ scope.names
 len:N.length=caps.length + 1
 cap:∀ (j i:Nat),caps[j]?=some (some i)->∃ x,N[j]?=some x/\X.N[i]?=some x/\(x,NameKind.free) ∈ scope.names
 acc:∃ z,N[caps.length]?=some z/\¬ Vis (relabel scope X.env) z
section
variable {X:Cx} {pins:List (Addr × Obj)} {σ:L2.St} {H:Hp} {s:Shared} {scope:Scope} {N:List Str} {caps:List (Option Nat)} {fp:List Addr}
theorem cn {env:PySem.Env} {x:Str} {names:List (Str × NameKind)} (h:∀ y,(y,NameKind.free) ∈ names->env.kindOf y=some .cell) (hk:env.scope.kind=.function) {k:NameKind}
   (e:(names.map λ(n,k)=>if (k == NameKind.free && env.scope.kind == .function && env.kindOf n == some .cell) then (n,NameKind.cell) else (n,k)).lookup x=some k) :
   (x,k) ∈ names\/((x,NameKind.free) ∈ names/\k=.cell):=by
 induction names with
 | nil=>cases e
 | cons p r ih=>
   obtain ⟨n,q⟩:=p
   rw [List.map_cons] at e
   have hr:∀ y,(y,NameKind.free) ∈ r->env.kindOf y=some .cell:=λy hy=>h y (List.mem_cons_of_mem _ hy)
   have sub:((x,k) ∈ r\/((x,NameKind.free) ∈ r/\k=.cell))->(x,k) ∈ (n,q) :: r\/((x,NameKind.free) ∈ (n,q) :: r/\k=.cell):=λz=>
     z.elim (λy=>.inl (List.mem_cons_of_mem _ y)) λy=>.inr ⟨List.mem_cons_of_mem _ y.1,y.2⟩
   dsimp only at e
   split at e
   · rename_i c
     rw [List.lookup_cons] at e
     split at e
     · rename_i qq
       cases e
       rw [Bool.and_eq_true,Bool.and_eq_true] at c
       rw [eq_of_beq qq,eq_of_beq c.1.1]
       exact .inr ⟨List.mem_cons_self,rfl⟩
     · exact sub (ih hr e)
   · rename_i c
     rw [List.lookup_cons] at e
     split at e
     · rename_i qq
       cases e
       rw [eq_of_beq qq]
       exact .inl List.mem_cons_self
     · exact sub (ih hr e)
theorem c8 (I:Inv X pins σ H s) (c:cx X scope N caps):∀ x ∈ scope.names,x.2=.free->∃ d,X.env.cells.lookup x.1=some d:=λx hx hf=>I.ok.has x.1 (.inl (c.fre x hx hf))
theorem i4 (I:Inv X pins σ H s) (hf:∀ b ∈ fp,gc X pins H b) (ho:∀ b ∈ fp,∃ o,s.heap.get? b=some o) (c:cx X scope N caps) :
   Inv (ax X s H scope N fp) [] (cW σ caps++[some (.ref s.heap.objs.size)]) (upd H s.heap.objs.size (.lst []))
     { s with heap:=pushCells ((s.heap.push { cls:=.type "list",data:=.seq ([]:List Value).toArray }).push { cls:=.type "dict",data:=.dict #[] }) scope.names }:=by
 have hcl:∀ x d,(bx X.env scope.names []).lookup x=some d->X.env.cells.lookup x=some d:=λx d=>cg X.env scope.names [] x d (λy d z=>by simp at z)
 have kp:∀ b o,s.heap.get? b=some o->(pushCells ((s.heap.push { cls:=.type "list",data:=.seq ([]:List Value).toArray }).push { cls:=.type "dict",data:=.dict #[] }) scope.names).get? b=some o:=λb o e=>
   pushCells_keeps _ _ b o (Heap.get?_push_of_some _ (Heap.get?_push_of_some _ e))
 have sz2:((s.heap.push { cls:=.type "list",data:=.seq ([]:List Value).toArray }).push { cls:=.type "dict",data:=.dict #[] }).objs.size=s.heap.objs.size + 1 + 1:=by rw [Heap.size_push,Heap.size_push]
 have oldc:∀ x d,X.env.cells.lookup x=some d->d < s.heap.objs.size:=λx d e=>by
   obtain ⟨v,o,q,_⟩:=I.cell x d e
   exact Heap.lt_size q
 have cel:∀ x d,(ax X s H scope N fp).env.cells.lookup x=some d->s.heap.objs.size + 1 + 1<=d\/X.env.cells.lookup x=some d:=λx d e=>by
   rcases mn _ _ _ x d e with q | q
   · exact .inl q
   · exact .inr (hcl x d q)
 have ok:(ax X s H scope N fp).Ok:=by
   refine ⟨I.ok.mod,c.kind,I.ok.glob,I.ok.blt,Nat.le_succ _,?_,?_,?_,I.ok.hd,I.ok.frames,.inl rfl,?_,I.bs,Nat.le_trans I.ok.bsz I.sz,?_,?_,I.stack,I.j1⟩
   · exact jE _ _ _ (λx d e=>Nat.lt_of_lt_of_le (oldc x d (hcl x d e)) (by omega)) λx y d e1 e2=>I.ok.inj x y d (hcl x d e1) (hcl y d e2)
   · intro x hx
     have hfk:∀ y,(y,NameKind.free) ∈ scope.names->X.env.kindOf y=some .cell:=λy hy=>c.fre _ hy rfl
     have fre:(x,NameKind.free) ∈ scope.names->∃ d,(ax X s H scope N fp).env.cells.lookup x=some d:=λhm=>by
       obtain ⟨d,hd⟩:=c8 I c _ hm rfl
       exact ⟨d,by
         show (cellsFrom _ scope.names _).lookup x=_
         rw [fv _ _ _ x (c.one x hm)]
         exact bF X.env scope.names [] x d (λy e z=>by simp at z) hd (.inl hm)⟩
     have own:(x,NameKind.cell) ∈ scope.names->∃ d,(ax X s H scope N fp).env.cells.lookup x=some d:=λhm=>by
       obtain ⟨d,e,_⟩:=ik scope.names (s.heap.objs.size + 1 + 1) (bx X.env scope.names []) x hm
       exact ⟨d,e⟩
     rcases hx with hx | hx
     · rcases cn hfk I.ok.kind (show (scope.names.map _).lookup x=some .cell from hx) with q | q
       · exact own q
       · exact fre q.1
     · rcases cn hfk I.ok.kind (show (scope.names.map _).lookup x=some .free from hx) with q | q
       · exact fre q
       · exact fre q.1
   · intro x d hfn e
     have hm:(x,NameKind.cell) ∈ scope.names:=of_decide_eq_true hfn
     obtain ⟨d',e',l⟩:=ik scope.names (s.heap.objs.size + 1 + 1) (bx X.env scope.names []) x hm
     have e2:(cellsFrom (s.heap.objs.size + 1 + 1) scope.names (bx X.env scope.names [])).lookup x=some d:=e
     rw [e'] at e2; cases e2
     exact Nat.le_trans (Nat.le_trans (Nat.le_succ _) (Nat.le_succ _)) l
   · intro b hb
     obtain ⟨o,q⟩:=ho b hb
     have bl:=Heap.lt_size q
     refine ⟨λz=>?_,λx d e z=>?_⟩
     · have z':b=s.heap.objs.size + 1:=z
       rw [z'] at bl
       exact absurd bl (Nat.not_lt.mpr (Nat.le_succ _))
     · subst z
       rcases cel x d e with q | q
       · exact absurd (Nat.lt_of_lt_of_le bl (Nat.le_trans (Nat.le_trans (Nat.le_succ _) (Nat.le_succ _)) q)) (Nat.lt_irrefl _)
       · exact (hf d hb).2.2.2.2.1 x d q rfl
   · intro b o e hb
     rcases (hf b hb).2.2.2.1 with q | q
     · exact I.ok.noex b o e q
     · have:=Nat.lt_of_lt_of_le (Heap.lt_size e) I.ok.bsz
       exact absurd (Nat.lt_of_lt_of_le this q) (Nat.lt_irrefl _)
   · intro b hb hm
     rcases List.mem_cons.mp (I.jj b hm) with q | q
     · exact (hf b hb).2.1 q
     · exact (hf b hb).2.2.1 q
 have hD:(pushCells ((s.heap.push { cls:=.type "list",data:=.seq ([]:List Value).toArray }).push { cls:=.type "dict",data:=.dict #[] }) scope.names).get? s.heap.objs.size=some { cls:=.type "list",data:=.seq ([]:List Value).toArray }:=
   pushCells_keeps _ _ _ _ (Heap.get?_push_of_some _ (Heap.get?_push_size _ rfl))
 have fr:∀ a,s.heap.objs.size<=a->a ≠ s.heap.objs.size->(upd H s.heap.objs.size (.lst [])) a=none:=λa h1 h2=>by rw [ao h2]; exact I.hok.fresh h1
 refine ⟨ok,rfl,I.bare,Un.laid kp (Nat.le_refl _) (I.hok.fresh (Nat.le_refl _)),⟨λ_=>none,?_,λi x v e1 e2 e3=>?_⟩,λx d e=>?_,?_,λx d e=>?_,λp hp=>absurd (show p ∈ ([]:List (Addr × Obj)) from hp) (by simp),?_,?_⟩
 · have:=Heap.Ns.new (s.heap.push { cls:=.type "list",data:=.seq ([]:List Value).toArray }) (.type "dict")
   rw [Heap.size_push] at this
   exact this.keeps (pushCells_keeps _ _)
 · by_cases hi:i < caps.length
   · rw [List.getElem?_append_left (by unfold cW; rw [List.length_map]; exact hi)] at e2
     unfold cW at e2
     rw [List.getElem?_map] at e2
     cases hc:caps[i]? with
     | none=>rw [hc] at e2; cases e2
     | some o=>
       rw [hc] at e2
       cases o with
       | none=>cases e2
       | some j=>
         have e2':(σ[j]?).join=some v:=Option.some.inj e2
         have e4:σ[j]?=some (some v):=by
           cases q:σ[j]? with
           | none=>rw [q] at e2'; cases e2'
           | some y=>rw [q] at e2'; exact congrArg some e2'
         obtain ⟨x',g1,g2,g3⟩:=c.cap i j hc
         rw [show (ax X s H scope N fp).N=N from rfl,g1] at e1
         cases e1
         have hkc:=c.fre _ g3 rfl
         obtain ⟨m,_,hl⟩:=I.loc
         obtain ⟨u,ru,look⟩:=hl j x v g2 e4 (.inr (.inl hkc))
         refine ⟨u,ru,?_⟩
         rcases look with ⟨k,_⟩ | ⟨k,d,hd,hcell⟩
         · rw [hkc] at k; cases k
         · have e5:(ax X s H scope N fp).env.cells.lookup x=some d:=by
             show (cellsFrom _ scope.names _).lookup x=_
             rw [fv _ _ _ x (c.one x g3)]
             exact bF X.env scope.names [] x d (λy e z=>by simp at z) hd (.inl g3)
           have hcell':Heap.IsCell (pushCells ((s.heap.push { cls:=.type "list",data:=.seq ([]:List Value).toArray }).push { cls:=.type "dict",data:=.dict #[] }) scope.names) d (some u):=by
             obtain ⟨o,q1,q2⟩:=hcell
             exact ⟨o,kp _ _ q1,q2⟩
           refine .inr ⟨?_,d,e5,hcell'⟩
           rcases e3 with e3 | e3 | e3
           · exfalso
             rcases cn (λy hy=>c.fre _ hy rfl) I.ok.kind (show (scope.names.map _).lookup x=some .local from e3) with q | q
             · have q1:=c.loc _ q rfl
               exact c.noboth x g3 q
             · cases q.2
           · exact .inl e3
           · exact .inr e3
   · exfalso
     obtain ⟨z,z1,z2⟩:=c.acc
     have hl:i < N.length:=(List.getElem?_eq_some_iff.mp e1).1
     have:i=caps.length:=by have:=c.len; omega
     subst this
     rw [show (ax X s H scope N fp).N=N from rfl,z1] at e1
     cases e1
     exact z2 e3
 · rw [show (ax X s H scope N fp).env.cells=cellsFrom (s.heap.objs.size + 1 + 1) scope.names (bx X.env scope.names []) from rfl,<- sz2] at e
   refine gZ scope.names _ _ (λy d' q=>?_) x d e
   obtain ⟨v,o,q1,q2⟩:=I.cell y d' (hcl y d' q)
   exact ⟨v,o,Heap.get?_push_of_some _ (Heap.get?_push_of_some _ q1),q2⟩
 · exact fr _ (Nat.le_succ _) (Nat.succ_ne_self _)
 · rcases cel x d e with q | q
   · exact fr d (by omega) (by intro z; omega)
   · rw [ao (Nat.ne_of_lt (oldc x d q))]; exact I.freeC x d q
 · exact I.hok.laid kp (Nat.le_refl _) ⟨Nat.zero_le _,[],0,.nil,hD⟩
 · rw [List.length_append]
   unfold cW
   rw [List.length_map,show (ax X s H scope N fp).N=N from rfl,c.len]
   rfl
end
end Ev
namespace Ev
open PySem PySem.Spec PyProof.Rows L2
noncomputable def PTs (X:Cx) (ifs:List Expr) (t:TT):Prop:=
 ∀ (pins:List (Addr × Obj)) (s:Shared) (σ:L2.St) (H:Hp) (Q:Bool->Hp->Prop),Inv X pins σ H s->t σ H Q ->
   wpAny (model X.prog X.w) X.A (forIn ifs true λc r=>if r=true then do let ok <- isTrue c X.env (eval c X.env); pure (ForInStep.yield ok) else pure (ForInStep.yield r)) (TP X pins σ Q) X.xe s
section
variable {prog:Program} {w:World} {A:Around} {R:Result->Shared->Prop} {s:Shared}
theorem fW {elt target iter:Expr} {ifs:List Expr} {scope:Scope} {pos:Pos} {it acc:Value} {env:PySem.Env} (Iv:Nat->Shared->Prop)
   (step:∀ n s,Iv n s->wpAny (model prog w) A (pyNext it) (λr s₁=>match r with
     | none=>R (.ok .next) s₁
     | some v=>wpAny (model prog w) A (letOwnedTupleGo target it v) (λ_ s₀=>wpAny (model prog w) A (assign target env v) (λ_ s₂=>
         wpAny (model prog w) A (forIn ifs true λc r=>if r=true then do let ok <- isTrue c env (eval c env); pure (ForInStep.yield ok) else pure (ForInStep.yield r)) (λok s₃=>
           if ok=true then wpAny (model prog w) A (eval elt env) (λx s₄=>
             wpAny (model prog w) A (call (.builtin "list.append") [acc,x]) (λ_ s₅=>∃ m,m < n/\Iv m s₅) (λ_ _=>False) s₄) (λ_ _=>False) s₃
           else ∃ m,m < n/\Iv m s₃) (λ_ _=>False) s₂) (λ_ _=>False) s₀) (λ_ _=>False) s₁) (λ_ _=>False) s)
   (n:Nat) (h:Iv n s):codeAny (model prog w) A (.compLoop (.ListComp elt [⟨target,iter,ifs,0⟩] scope pos) 0 it acc env) R s:=by
 have no:∀ {α:Type} {t:Sem α} {Q:α->Shared->Prop} {s:Shared} {E:Value->Shared->Prop},wpAny (model prog w) A t Q (λ_ _=>False) s->wpAny (model prog w) A t Q E s:=λh=>wpAny_mono h (λ_ _ q=>q) λ_ _ q=>q.elim
 refine codeAny_loop rfl Iv (λn s hI=>?_) n h
 show wpAny _ A (Sem.onRaise (compTurn (.ListComp elt [⟨target,iter,ifs,0⟩] scope pos) 0 it acc env) (λx=>do noteFrame x env; theTreesLotGoes x)) _ _ s
 refine wpAny_noted ?_
 rw [compTurn_list]
 refine wpAny_bind (wpAny_standAt (wpAny_bind (thn (no (step n s hI)) λr s₁ h₁=>?_)))
 cases r with
 | none=>exact wpAny_pure h₁
 | some v=>
   refine wpAny_bind (thn (no h₁) λ_ s₀ h₀=>wpAny_bind (thn (no h₀) λ_ s₂ h₂=>wpAny_bind (thn (no h₂) λok s₃ h₃=>?_)))
   cases ok with
   | false=>exact wpAny_pure ⟨rfl,h₃⟩
   | true=>exact wpAny_bind (wpAny_bind (thn (no h₃) λx s₄ h₄=>wpAny_bind (thn (no h₄) λ_ s₅ h₅=>wpAny_pure (wpAny_pure ⟨rfl,h₅⟩))))
end
noncomputable def cX (In:TG->TT->TE->Prop) (caps:List (Option Nat)) (wi:TI):TE:=λσ H Q=>wi σ H λJ H1=>∃ g tt te,In g tt te/\∀ D,H1 D=none ->
 ∃ Z:Nat->Nat->L2.St->Hp->Prop,(∃ m,Z 0 m (cW σ caps++[some (.ref D)]) (upd H1 D (.lst [])))/\∀ i m σ' H',Z i m σ' H' ->
   (J.stop i H'/\Q (.ref D) H')\/(J.go i H'/\∀ x H2,J.yld i H' x H2->g x σ' H2 λσ2 H3=>tt σ2 H3 λb H4=>
     if b=true then te σ2 H4 λv H5=>∃ vs m',H5 D=some (.lst vs)/\vs.length < sizeLine/\m' < m/\Z (i + 1) m' σ2 (upd H5 D (.lst (vs++[v]))) else ∃ m',m' < m/\Z (i + 1) m' σ2 H4)
theorem cc {X:Cx} {elt tg iter:Expr} {ifs:List Expr} {scope:Scope} {N:List Str} {caps:List (Option Nat)} {pos:Pos} {wi:TI} {In:TG->TT->TE->Prop} (hc:X.calm=true) (c:cx X scope N caps) (hi:PI X tg iter wi)
   (hs:∀ x,foldedSetIterable iter X.env x=pure x)
   (hin:∀ g tt te,In g tt te->∀ s H fp,PG (ax X s H scope N fp) tg g/\PTs (ax X s H scope N fp) ifs tt/\PE (ax X s H scope N fp) elt te) :
   PE X (.ListComp elt [⟨tg,iter,ifs,0⟩] scope pos) (cX In caps wi):=by
 intro pins s σ H Q I h
 rw [eval_ListComp]
 have hcl:=kf (c8 I c)
 refine wpAny_comprehension_free (use:=none) (g:=⟨tg,iter,ifs,0⟩) (gs:=[]) rfl hs hcl c.kind c.loc ?_
 show wpAny _ _ (eval iter X.env) _ _ s
 refine thn (hi pins s σ H _ I h) λv s1 h1=>thn h1 λitv s2 h2=>?_
 obtain ⟨it,fp,tn,J,H2,e,I2,T,st2,f2,g,tt,te,hI,q⟩:=h2
 subst e
 obtain ⟨Z,⟨m0,z0⟩,turn⟩:=q s2.heap.objs.size (I2.hok.fresh (Nat.le_refl _))
 have ho:∀ b ∈ fp,∃ o,s2.heap.get? b=some o:=λb hb=>let ⟨o,e,_⟩:=T.obj _ _ st2 b hb; ⟨o,e⟩
 have I4:=i4 (scope:=scope) (N:=N) (caps:=caps) I2 f2 ho c
 obtain ⟨hg,ht,he⟩:=hin g tt te hI s2 H2 fp
 refine wpAny_newObj_type (gC ?_) (by show 0<=sizeLine; decide)
 have hC:(s2.heap.push { cls:=.type "list",dict:=none,data:=.seq ([]:List Value).toArray }).objs.size=s2.heap.objs.size + 1:=Heap.size_push ..
 dsimp only
 rw [hC]
 have kp:∀ b o,s2.heap.get? b=some o->(pushCells ((s2.heap.push { cls:=.type "list",data:=.seq ([]:List Value).toArray }).push { cls:=.type "dict",data:=.dict #[] }) scope.names).get? b=some o:=λb o e=>
   pushCells_keeps _ _ b o (Heap.get?_push_of_some _ (Heap.get?_push_of_some _ e))
 have st4:tn 0 (pushCells ((s2.heap.push { cls:=.type "list",data:=.seq ([]:List Value).toArray }).push { cls:=.type "dict",data:=.dict #[] }) scope.names):=T.keep _ _ _ st2 λb _ o e=>kp b o e
 have stat:∀ {H':Hp},(∀ b ∈ fp,H' b=none)->∀ b ∈ fp,gc (ax X s2 H2 scope N fp) [] H' b:=λhn b hb=>
   ⟨hn b hb,(I4.ok.exf b hb).1,I4.ok.exfs b hb,.inl hb,(I4.ok.exf b hb).2,λp hp=>absurd (show p ∈ ([]:List (Addr × Obj)) from hp) (by simp)⟩
 have fr4:∀ b ∈ fp,(upd H2 s2.heap.objs.size (.lst [])) b=none:=λb hb=>by
   obtain ⟨o,e⟩:=ho b hb
   rw [ao (Nat.ne_of_lt (Heap.lt_size e))]; exact (f2 b hb).1
 have loop:codeAny (model X.prog X.w) X.A (.compLoop (.ListComp elt [⟨tg,iter,ifs,0⟩] scope pos) 0 (.ref it) (.ref s2.heap.objs.size) (ax X s2 H2 scope N fp).env)
     (compPost (model X.prog X.w) X.A X.xe none (EP X pins σ Q) (.ref s2.heap.objs.size) (s2.heap.objs.size + 1))
     { s2 with heap:=pushCells ((s2.heap.push { cls:=.type "list",data:=.seq ([]:List Value).toArray }).push { cls:=.type "dict",data:=.dict #[] }) scope.names }:=by
   refine fW (λn s'=>∃ i σ' H',Inv (ax X s2 H2 scope N fp) [] σ' H' s'/\tn i s'.heap/\(∀ b ∈ fp,H' b=none)/\Z i n σ' H') ?_ m0 ⟨0,_,_,I4,st4,fr4,z0⟩
   rintro n s3 ⟨i,σ3,H3,I3,st3,fr3,w3⟩
   rcases turn i n σ3 H3 w3 with ⟨stop,qn⟩ | ⟨go,step⟩
   · refine thn (T.done (ax X s2 H2 scope N fp) rfl rfl rfl hc i [] s3 σ3 H3 _ I3 (stat fr3) st3 stop) λr s5 ⟨hr,I5⟩=>?_
     subst hr
     obtain ⟨m,hn,_⟩:=id I5.loc
     refine ⟨m,hn,λh' sb=>⟨.ref s2.heap.objs.size,H3,?_,rfl,qn⟩⟩
     have lt:∀ b o,s2.heap.get? b=some o->b ≠ s2.heap.objs.size + 1:=λb o e=>Nat.ne_of_lt (Nat.lt_succ_of_lt (Heap.lt_size e))
     have u:=I5.base
     have u':Un (frs X.stack) fp H2 H3 s2.heap h':=⟨λb o e n1 n2 n3=>(sb.2 b (lt b o e)).trans (u.keep b o e n1 n2 n3),λb o e n1 n2 n3=>let ⟨sl,z⟩:=u.slot b o e n1 n2 n3; ⟨sl,(sb.2 b (lt b o e)).trans z⟩,
       u.free,λb o e n1=>let ⟨o',z⟩:=u.there b o e n1; ⟨o',(sb.2 b (lt b o e)).trans z⟩,u.tups,u.frzs,u.tbls⟩
     have fC:H3 (s2.heap.objs.size + 1)=none:=I5.free
     refine I2.nV (s':={ s5 with heap:=h' }) I5.os u' (λb o e=>(I5.hok b o e).fD (λd v hd z=>(sb.2 d ?_).trans z) (λ_ z=>z) λ_ _ z=>z) I5.bare λb hb=>⟨(f2 b hb).2.2.2.1,(f2 b hb).2.1,(f2 b hb).2.2.2.2.1,(f2 b hb).2.2.2.2.2⟩
     rcases hd with hd | hd
     · rw [hd]; exact aB e fC
     · exact aB hd fC
   · refine thn (T.item (ax X s2 H2 scope N fp) rfl rfl rfl hc i [] s3 σ3 H3 _ I3 (stat fr3) st3 go) λr s4 ⟨u,hr,h4⟩=>?_
     subst hr
     refine thn h4 λ_ s5 ⟨x,H5,I5,r5,y5,st5,fr5⟩=>?_
     have I5':=I5.pinned (stat fr5) (T.obj _ _ st5)
     refine thn (hg _ s5 σ3 H5 x u _ I5' r5 (step x H5 y5)) λ_ s6 ⟨σ6,H6,I6,q6⟩=>?_
     have again:∀ {s7:Shared} {σ7:L2.St} {H7:Hp} {m':Nat},Inv (ax X s2 H2 scope N fp) ([]++dk fp s5.heap) σ7 H7 s7->m' < n->Z (i + 1) m' σ7 H7 ->
         ∃ m,m < n/\∃ i σ' H',Inv (ax X s2 H2 scope N fp) [] σ' H' s7/\tn i s7.heap/\(∀ b ∈ fp,H' b=none)/\Z i m σ' H':=λ{s7 σ7 H7 m'} I7 hm z7=>by
       refine ⟨m',hm,i + 1,σ7,H7,I7.b5,T.keep _ _ _ st5 λb hb o e=>(I7.pin (b,o) (List.mem_append_right _ (List.mem_append_right _ (bb hb e)))).1,λb hb=>?_,z7⟩
       obtain ⟨o,e,d⟩:=T.obj _ _ st5 b hb
       exact (I7.pin (b,o) (List.mem_append_right _ (List.mem_append_right _ (bb hb e)))).2.1
     refine thn (ht _ s6 σ6 H6 _ I6 q6) λok s7 ⟨H7,I7,q7⟩=>?_
     cases ok with
     | false=>
       rw [if_neg (by decide)] at q7
       obtain ⟨m',hm,z7⟩:=q7
       exact again I7 hm z7
     | true=>
       rw [if_pos rfl] at q7
       refine thn (he _ s7 σ6 H7 _ I7 q7) λv' s8 ⟨v,H8,I8,r8,vs,m',q8,l8,hm,z8⟩=>?_
       refine thn (bZ (X:=ax X s2 H2 scope N fp) _ s8 σ6 H8 (.ref s2.heap.objs.size) [v] (.ref s2.heap.objs.size) [v'] (λ_ H9=>H9=upd H8 s2.heap.objs.size (.lst (vs++[v]))) I8 rfl (.cons r8 .nil) ⟨_,vs,v,rfl,rfl,q8,l8,rfl⟩) λ_ s9 ⟨_,H9,I9,_,e9⟩=>?_
       subst e9
       exact again I9 hm z8
 exact codeAny_compStart_list loop (T.self _ 0 _ _ _ st4 loop)
end Ev
namespace Ev
open PySem PySem.Spec PyProof.Rows L2
theorem i5 {X:Cx} {gT:TG} {y:Str} {py spos:Pos} {elt tg iter:Expr} {ifs:List Expr} {scope:Scope} {N:List Str} {caps:List (Option Nat)} {pos:Pos} {wi:TI} {In:TG->TT->TE->Prop} (hT:PG X (.Name y py) gT) (hc:X.calm=true) (c:cx X scope N caps) (hi:PI X tg iter wi)
   (hs:∀ x,foldedSetIterable iter X.env x=pure x)
   (hin:∀ g tt te,In g tt te->∀ s H fp,PG (ax X s H scope N fp) tg g/\PTs (ax X s H scope N fp) ifs tt/\PE (ax X s H scope N fp) elt te)
   (hsw:swapsWith (.ListComp elt [⟨tg,iter,ifs,0⟩] scope pos) (some (.Name y py)) spos.line X.env=pure true) :
   PS X (.Assign [.Name y py] (.ListComp elt [⟨tg,iter,ifs,0⟩] scope pos) spos) (n9 (cX In caps wi) gT):=by
 intro pins s σ H D I h
 rw [exec_Assign_Name_used _ _ _ _ hsw]
 refine wpAny_bind (wpAny_standAt (wpAny_bind ?_))
 show wpAny _ _ (do let _ <- comprehension (.ListComp elt [⟨tg,iter,ifs,0⟩] scope pos) scope X.env _ (newList []) false _ (some (assign (.Name y py) X.env))) _ _ s
 refine wpAny_bind ?_
 have hcl:=kf (c8 I c)
 refine wpAny_comprehension_free (use:=some (assign (.Name y py) X.env)) (Q:=λ_ s'=>wpAny (model X.prog X.w) X.A (pure ()) (λ_ s''=>wpAny (model X.prog X.w) X.A (pure Flow.next) (SP X pins D) X.xe s'') X.xe s') (g:=⟨tg,iter,ifs,0⟩) (gs:=[]) rfl hs hcl c.kind c.loc ?_
 show wpAny _ _ (eval iter X.env) _ _ s
 refine thn (hi pins s σ H _ I h) λv s1 h1=>thn h1 λitv s2 h2=>?_
 obtain ⟨it,fp,tn,J,H2,e,I2,T,st2,f2,g,tt,te,hI,q⟩:=h2
 subst e
 obtain ⟨Z,⟨m0,z0⟩,turn⟩:=q s2.heap.objs.size (I2.hok.fresh (Nat.le_refl _))
 have ho:∀ b ∈ fp,∃ o,s2.heap.get? b=some o:=λb hb=>let ⟨o,e,_⟩:=T.obj _ _ st2 b hb; ⟨o,e⟩
 have I4:=i4 (scope:=scope) (N:=N) (caps:=caps) I2 f2 ho c
 obtain ⟨hg,ht,he⟩:=hin g tt te hI s2 H2 fp
 refine wpAny_newObj_type (gC ?_) (by show 0<=sizeLine; decide)
 have hC:(s2.heap.push { cls:=.type "list",dict:=none,data:=.seq ([]:List Value).toArray }).objs.size=s2.heap.objs.size + 1:=Heap.size_push ..
 dsimp only
 rw [hC]
 have kp:∀ b o,s2.heap.get? b=some o->(pushCells ((s2.heap.push { cls:=.type "list",data:=.seq ([]:List Value).toArray }).push { cls:=.type "dict",data:=.dict #[] }) scope.names).get? b=some o:=λb o e=>
   pushCells_keeps _ _ b o (Heap.get?_push_of_some _ (Heap.get?_push_of_some _ e))
 have st4:tn 0 (pushCells ((s2.heap.push { cls:=.type "list",data:=.seq ([]:List Value).toArray }).push { cls:=.type "dict",data:=.dict #[] }) scope.names):=T.keep _ _ _ st2 λb _ o e=>kp b o e
 have stat:∀ {H':Hp},(∀ b ∈ fp,H' b=none)->∀ b ∈ fp,gc (ax X s2 H2 scope N fp) [] H' b:=λhn b hb=>
   ⟨hn b hb,(I4.ok.exf b hb).1,I4.ok.exfs b hb,.inl hb,(I4.ok.exf b hb).2,λp hp=>absurd (show p ∈ ([]:List (Addr × Obj)) from hp) (by simp)⟩
 have fr4:∀ b ∈ fp,(upd H2 s2.heap.objs.size (.lst [])) b=none:=λb hb=>by
   obtain ⟨o,e⟩:=ho b hb
   rw [ao (Nat.ne_of_lt (Heap.lt_size e))]; exact (f2 b hb).1
 have loop:codeAny (model X.prog X.w) X.A (.compLoop (.ListComp elt [⟨tg,iter,ifs,0⟩] scope pos) 0 (.ref it) (.ref s2.heap.objs.size) (ax X s2 H2 scope N fp).env)
     (compPost (model X.prog X.w) X.A X.xe (some (assign (.Name y py) X.env)) (λ_ s'=>wpAny (model X.prog X.w) X.A (pure ()) (λ_ s''=>wpAny (model X.prog X.w) X.A (pure Flow.next) (SP X pins D) X.xe s'') X.xe s') (.ref s2.heap.objs.size) (s2.heap.objs.size + 1))
     { s2 with heap:=pushCells ((s2.heap.push { cls:=.type "list",data:=.seq ([]:List Value).toArray }).push { cls:=.type "dict",data:=.dict #[] }) scope.names }:=by
   refine fW (λn s'=>∃ i σ' H',Inv (ax X s2 H2 scope N fp) [] σ' H' s'/\tn i s'.heap/\(∀ b ∈ fp,H' b=none)/\Z i n σ' H') ?_ m0 ⟨0,_,_,I4,st4,fr4,z0⟩
   rintro n s3 ⟨i,σ3,H3,I3,st3,fr3,w3⟩
   rcases turn i n σ3 H3 w3 with ⟨stop,qn⟩ | ⟨go,step⟩
   · refine thn (T.done (ax X s2 H2 scope N fp) rfl rfl rfl hc i [] s3 σ3 H3 _ I3 (stat fr3) st3 stop) λr s5 ⟨hr,I5⟩=>?_
     subst hr
     obtain ⟨m,hn,_⟩:=id I5.loc
     have I6:Inv X pins σ H3 s5:=by
       have lt:∀ b o,s2.heap.get? b=some o->b ≠ s2.heap.objs.size + 1:=λb o e=>Nat.ne_of_lt (Nat.lt_succ_of_lt (Heap.lt_size e))
       have u:=I5.base
       have u':Un (frs X.stack) fp H2 H3 s2.heap s5.heap:=⟨λb o e n1 n2 n3=>u.keep b o e n1 n2 n3,λb o e n1 n2 n3=>u.slot b o e n1 n2 n3,u.free,λb o e n1=>u.there b o e n1,u.tups,u.frzs,u.tbls⟩
       exact I2.nV (s':=s5) I5.os u' I5.hok I5.bare λb hb=>⟨(f2 b hb).2.2.2.1,(f2 b hb).2.1,(f2 b hb).2.2.2.2.1,(f2 b hb).2.2.2.2.2⟩
     have fC:H3 (s2.heap.objs.size + 1)=none:=I5.free
     have fk:gc X pins H3 (s2.heap.objs.size + 1):=I2.jk (Nat.le_succ _) fC
     obtain ⟨oC,es,ep,hoC,hdC,rC⟩:=id hn
     have hpin:=I6.pinned (fp:=[s2.heap.objs.size + 1]) (λb hb=>by rw [List.mem_singleton.mp hb]; exact fk) (λb hb=>by rw [List.mem_singleton.mp hb]; exact ⟨oC,hoC,λv z=>by rw [hdC] at z; cases z⟩)
     have hmem:(s2.heap.objs.size + 1,oC) ∈ dk [s2.heap.objs.size + 1] s5.heap:=bb (List.mem_singleton_self _) hoC
     refine thn (hT _ s5 σ H3 (.ref s2.heap.objs.size) (.ref s2.heap.objs.size) _ hpin rfl qn) λ_ s6 ⟨σ6,H6,I7,q7⟩=>?_
     obtain ⟨p1,p2,p3,p4,p5⟩:=I7.pin _ (List.mem_append_right _ (List.mem_append_right _ hmem))
     refine ⟨m,⟨oC,es,ep,p1,hdC,rC⟩,λh' sb=>wpAny_pure (wpAny_pure ?_)⟩
     refine ⟨σ6,H6,?_,q7⟩
     exact (I7.b5).turned (t':=s6.toks) (it:=s2.heap.objs.size + 1) (λb o hb e=>(sb.2 b hb).trans e) p2 p3 fk.2.2.2.1 fk.2.2.2.2.1 fk.2.2.2.2.2
   · refine thn (T.item (ax X s2 H2 scope N fp) rfl rfl rfl hc i [] s3 σ3 H3 _ I3 (stat fr3) st3 go) λr s4 ⟨u,hr,h4⟩=>?_
     subst hr
     refine thn h4 λ_ s5 ⟨x,H5,I5,r5,y5,st5,fr5⟩=>?_
     have I5':=I5.pinned (stat fr5) (T.obj _ _ st5)
     refine thn (hg _ s5 σ3 H5 x u _ I5' r5 (step x H5 y5)) λ_ s6 ⟨σ6,H6,I6,q6⟩=>?_
     have again:∀ {s7:Shared} {σ7:L2.St} {H7:Hp} {m':Nat},Inv (ax X s2 H2 scope N fp) ([]++dk fp s5.heap) σ7 H7 s7->m' < n->Z (i + 1) m' σ7 H7 ->
         ∃ m,m < n/\∃ i σ' H',Inv (ax X s2 H2 scope N fp) [] σ' H' s7/\tn i s7.heap/\(∀ b ∈ fp,H' b=none)/\Z i m σ' H':=λ{s7 σ7 H7 m'} I7 hm z7=>by
       refine ⟨m',hm,i + 1,σ7,H7,I7.b5,T.keep _ _ _ st5 λb hb o e=>(I7.pin (b,o) (List.mem_append_right _ (List.mem_append_right _ (bb hb e)))).1,λb hb=>?_,z7⟩
       obtain ⟨o,e,d⟩:=T.obj _ _ st5 b hb
       exact (I7.pin (b,o) (List.mem_append_right _ (List.mem_append_right _ (bb hb e)))).2.1
     refine thn (ht _ s6 σ6 H6 _ I6 q6) λok s7 ⟨H7,I7,q7⟩=>?_
     cases ok with
     | false=>
       rw [if_neg (by decide)] at q7
       obtain ⟨m',hm,z7⟩:=q7
       exact again I7 hm z7
     | true=>
       rw [if_pos rfl] at q7
       refine thn (he _ s7 σ6 H7 _ I7 q7) λv' s8 ⟨v,H8,I8,r8,vs,m',q8,l8,hm,z8⟩=>?_
       refine thn (bZ (X:=ax X s2 H2 scope N fp) _ s8 σ6 H8 (.ref s2.heap.objs.size) [v] (.ref s2.heap.objs.size) [v'] (λ_ H9=>H9=upd H8 s2.heap.objs.size (.lst (vs++[v]))) I8 rfl (.cons r8 .nil) ⟨_,vs,v,rfl,rfl,q8,l8,rfl⟩) λ_ s9 ⟨_,H9,I9,_,e9⟩=>?_
       subst e9
       exact again I9 hm z8
 exact codeAny_compStart_list loop (T.self _ 0 _ _ _ st4 loop)
end Ev
namespace Hy
open PySem PySem.Spec PyProof.Rows L2
open Ev (D Den aA)
open Classical in
noncomputable def hd (H:Hp) (M:Addr->Prop):Hp:=λb=>if M b then none else H b
theorem aj {H:Hp} {M:Addr->Prop} {b:Addr} {o:HO}:hd H M b=some o ↔ ¬ M b/\H b=some o:=by
 unfold hd
 by_cases h:M b
 · rw [if_pos h]; exact ⟨λz=>(nomatch z),λz=>absurd h z.1⟩
 · rw [if_neg h]; exact ⟨λz=>⟨h,z⟩,λz=>z.2⟩
theorem au {H H':Hp} {M M':Addr->Prop} (e:ai H H') (m:∀ b,M' b->M b):ai (hd H M) (hd H' M'):=λb _ h=>aj.mpr ⟨λz=>(aj.mp h).1 (m b z),e b _ (aj.mp h).2⟩
theorem aM {H:Hp} {M:Addr->Prop}:ai (hd H M) H:=λ_ _ h=>(aj.mp h).2
inductive Nd where
 | d (x:D) | l (xs:List Nd) | t (xs:List Nd)
inductive Sl where
 | un | d (x:D) | o (xs:List D) | n (t:Nd)
mutual
inductive aU (K:PySem.W.Frag) (G H:Hp):V->List Addr->Nd->Prop where
 | d {u:V} {x:D} (h:Den K G u x):aU K G H u [] (.d x)
 | l {a:Addr} {vs:List V} {bs:List Addr} {xs:List Nd} (h:H a=some (.lst vs)) (r:ay K G H vs bs xs):aU K G H (.ref a) (a :: bs) (.l xs)
 | t {a:Addr} {vs:List V} {bs:List Addr} {xs:List Nd} (h:H a=some (.tup vs)) (r:ay K G H vs bs xs):aU K G H (.ref a) (a :: bs) (.t xs)
inductive ay (K:PySem.W.Frag) (G H:Hp):List V->List Addr->List Nd->Prop where
 | nil:ay K G H [] [] []
 | cons {v:V} {vs:List V} {b1 b2:List Addr} {s:Nd} {ss:List Nd} (h:aU K G H v b1 s) (r:ay K G H vs b2 ss):ay K G H (v :: vs) (b1++b2) (s :: ss)
end
noncomputable def bq (K:PySem.W.Frag) (G H:Hp) (v:Option V) (bs:List Addr):Sl->Prop
 | .un=>bs=[]
 | .d x=>bs=[]/\∃ u,v=some u/\Den K G u x
 | .o xs=>∃ a vs,bs=[a]/\v=some (.ref a)/\H a=some (.lst vs)/\aA K G vs xs
 | .n t=>bs.Nodup/\∃ u,v=some u/\aU K G H u bs t
section
variable {K:PySem.W.Frag} {G G' H H':Hp}
mutual
theorem aU.frame (g:ai G G'):∀ {u:V} {bs:List Addr} {t:Nd},(∀ b ∈ bs,H' b=H b)->aU K G H u bs t->aU K G' H' u bs t
 | _,_,_,_,.d h=>.d (h.mono g)
 | _,_,_,e,.l h r=>.l (by rw [e _ (List.mem_cons_self ..)]; exact h) (ay.frame g (λb hb=>e b (List.mem_cons_of_mem _ hb)) r)
 | _,_,_,e,.t h r=>.t (by rw [e _ (List.mem_cons_self ..)]; exact h) (ay.frame g (λb hb=>e b (List.mem_cons_of_mem _ hb)) r)
theorem ay.frame (g:ai G G'):∀ {vs:List V} {bs:List Addr} {xs:List Nd},(∀ b ∈ bs,H' b=H b)->ay K G H vs bs xs->ay K G' H' vs bs xs
 | _,_,_,_,.nil=>.nil
 | _,_,_,e,.cons h r=>.cons (aU.frame g (λb hb=>e b (List.mem_append_left _ hb)) h) (ay.frame g (λb hb=>e b (List.mem_append_right _ hb)) r)
end
mutual
theorem aU.some_of:∀ {u:V} {bs:List Addr} {t:Nd},aU K G H u bs t->∀ b ∈ bs,∃ o,H b=some o
 | _,_,_,.d _,_,z=>nomatch z
 | _,_,_,.l h r,b,z=>(List.mem_cons.mp z).elim (λe=>e ▸ ⟨_,h⟩) λz=>ay.some_of r b z
 | _,_,_,.t h r,b,z=>(List.mem_cons.mp z).elim (λe=>e ▸ ⟨_,h⟩) λz=>ay.some_of r b z
theorem ay.some_of:∀ {vs:List V} {bs:List Addr} {xs:List Nd},ay K G H vs bs xs->∀ b ∈ bs,∃ o,H b=some o
 | _,_,_,.nil,_,z=>nomatch z
 | _,_,_,.cons h r,b,z=>(List.mem_append.mp z).elim (λz=>aU.some_of h b z) λz=>ay.some_of r b z
end
theorem aU.mono (g:ai G G') (e:ai H H') {u:V} {bs:List Addr} {t:Nd} (h:aU K G H u bs t):aU K G' H' u bs t:=h.frame g λb hb=>by
 obtain ⟨o,q⟩:=h.some_of b hb
 rw [q,e b o q]
theorem bq.mono (g:ai G G') (e:ai H H') {v:Option V} {bs:List Addr}:∀ {s:Sl},bq K G H v bs s->bq K G' H' v bs s
 | .un,h=>h
 | .d _,⟨h,u,e1,h2⟩=>⟨h,u,e1,h2.mono g⟩
 | .o _,⟨a,vs,h1,h2,h3,h4⟩=>⟨a,vs,h1,h2,e _ _ h3,h4.mono g⟩
 | .n _,⟨h0,u,h1,h2⟩=>⟨h0,u,h1,h2.mono g e⟩
end
noncomputable def own (A:Addr->Prop) (B:Nat->List Addr) (b:Addr):Prop:=A b\/∃ i,b ∈ B i
noncomputable def vw (C:Bool) (A:Addr->Prop) (B:Nat->List Addr):Addr->Prop:=match C with
 | true=>own A B
 | false=>A
structure Sta (K:PySem.W.Frag) (A:Addr->Prop) (H₀:Hp) (τ:List Sl) (B:Nat->List Addr) (σ:L2.St) (H:Hp):Prop where
 same:ai H₀ H
 len:σ.length=τ.length
 sl:∀ i s,τ[i]?=some s->bq K (hd H (own A B)) H (σ[i]?).join (B i) s
 fr:∀ i b,b ∈ B i->H₀ b=none
 uq:∀ i j b,b ∈ B i->b ∈ B j->i=j
 ad:∀ b,A b->∃ o,H₀ b=some o
 bd:∀ i b,b ∈ B i->∃ o,H b=some o
noncomputable def upB (B:Nat->List Addr) (i:Nat) (bs:List Addr):Nat->List Addr:=λj=>if j=i then bs else B j
section
variable {K:PySem.W.Frag} {A:Addr->Prop} {H₀ H H':Hp} {τ:List Sl} {B:Nat->List Addr} {σ:L2.St}
theorem Sta.dm (S:Sta K A H₀ τ B σ H) (b:Addr) (h:own A B b):∃ o,H b=some o:=h.elim (λz=>let ⟨o,q⟩:=S.ad b z; ⟨o,S.same _ _ q⟩) λ⟨i,z⟩=>S.bd i b z
theorem Sta.mono (S:Sta K A H₀ τ B σ H) (e:ai H H'):Sta K A H₀ τ B σ H' where
 same:=S.same.trans e
 len:=S.len
 sl:=λi s h=>(S.sl i s h).mono (au e λ_ z=>z) e
 fr:=S.fr
 uq:=S.uq
 ad:=S.ad
 bd:=λi b h=>let ⟨o,q⟩:=S.bd i b h; ⟨o,e _ _ q⟩
theorem aO {i j:Nat} {bs:List Addr} {b:Addr} (h:b ∈ upB B i bs j):(j=i/\b ∈ bs)\/(j ≠ i/\b ∈ B j):=by
 unfold upB at h
 by_cases e:j=i
 · rw [if_pos e] at h; exact .inl ⟨e,h⟩
 · rw [if_neg e] at h; exact .inr ⟨e,h⟩
theorem Sta.set (S:Sta K A H₀ τ B σ H) (e:ai H H') {i:Nat} {v:V} {s:Sl} {bs:List Addr} (hf:∀ b ∈ bs,H b=none/\∃ o,H' b=some o) (h:bq K (hd H' λb=>own A B b\/b ∈ bs) H' (some v) bs s) :
   Sta K A H₀ (τ.set i s) (upB B i bs) (σ.set i (some v)) H':=by
 have sub:∀ b,own A (upB B i bs) b->own A B b\/b ∈ bs:=λb z=>z.elim (λz=>.inl (.inl z)) λ⟨j,z⟩=>(aO z).elim (λz=>.inr z.2) λz=>.inl (.inr ⟨j,z.2⟩)
 have some_of:∀ b j,b ∈ B j->∃ o,H b=some o:=λb j z=>S.dm b (.inr ⟨j,z⟩)
 refine ⟨S.same.trans e,by rw [List.length_set,List.length_set,S.len],λj t hj=>?_,λj b hb=>?_,λj k b h1 h2=>?_,S.ad,λj b hb=>?_⟩
 · by_cases ej:j=i
   · subst ej
     have hl:j < τ.length:=by
       have:=(List.getElem?_eq_some_iff.mp hj).1
       rwa [List.length_set] at this
     rw [List.getElem?_set_self hl] at hj
     cases hj
     rw [List.getElem?_set_self (by rw [S.len]; exact hl)]
     unfold upB
     rw [if_pos rfl]
     exact h.mono (au (ai.refl _) sub) (ai.refl _)
   · rw [List.getElem?_set_ne (λz=>ej z.symm)] at hj
     rw [List.getElem?_set_ne (λz=>ej z.symm)]
     unfold upB
     rw [if_neg ej]
     have q:=S.sl j t hj
     refine q.mono (λb o z=>?_) e
     obtain ⟨z1,z2⟩:=aj.mp z
     refine aj.mpr ⟨λy=>?_,e _ _ z2⟩
     rcases sub b y with y | y
     · exact z1 y
     · rw [(hf b y).1] at z2; cases z2
 · rcases aO hb with ⟨_,z⟩ | ⟨_,z⟩
   · exact S.same.free (hf b z).1
   · exact S.fr j b z
 · rcases aO h1 with ⟨e1,z1⟩ | ⟨e1,z1⟩ <;> rcases aO h2 with ⟨e2,z2⟩ | ⟨e2,z2⟩
   · exact e1.trans e2.symm
   · obtain ⟨o,q⟩:=some_of b k z2; rw [(hf b z1).1] at q; cases q
   · obtain ⟨o,q⟩:=some_of b j z1; rw [(hf b z2).1] at q; cases q
   · exact S.uq j k b z1 z2
 · rcases aO hb with ⟨_,z⟩ | ⟨_,z⟩
   · exact (hf b z).2
   · obtain ⟨o,q⟩:=S.bd j b z; exact ⟨o,e _ _ q⟩
theorem Sta.less (S:Sta K A H₀ τ B σ H) {i:Nat} {s:Sl} {bs:List Addr} (hb:∀ b ∈ bs,b ∈ B i) (h:∀ G:Hp,ai (hd H (own A B)) G->(∀ b o,b ∈ B i->b ∉ bs->H b=some o->G b=some o)->bq K G H (σ[i]?).join bs s):Sta K A H₀ (τ.set i s) (upB B i bs) σ H:=by
 have sub:∀ b,own A (upB B i bs) b->own A B b:=λb z=>z.elim .inl λ⟨j,z⟩=>(aO z).elim (λz=>.inr ⟨i,hb b z.2⟩) λz=>.inr ⟨j,z.2⟩
 refine ⟨S.same,by rw [List.length_set,S.len],λj t hj=>?_,λj b h=>?_,λj k b h1 h2=>?_,S.ad,λj b h=>(aO h).elim (λz=>S.bd i b (hb b z.2)) λz=>S.bd j b z.2⟩
 · by_cases ej:j=i
   · subst ej
     have hl:j < τ.length:=by
       have:=(List.getElem?_eq_some_iff.mp hj).1
       rwa [List.length_set] at this
     rw [List.getElem?_set_self hl] at hj
     cases hj
     unfold upB
     rw [if_pos rfl]
     refine h _ (au (ai.refl _) sub) λb o z1 z2 z3=>aj.mpr ⟨λy=>?_,z3⟩
     rcases y with y | ⟨m,y⟩
     · obtain ⟨_,q⟩:=S.ad b y
       rw [S.fr j b z1] at q; cases q
     · rcases aO y with ⟨e,y⟩ | ⟨e,y⟩
       · exact z2 y
       · exact e (S.uq m j b y z1)
   · rw [List.getElem?_set_ne (λz=>ej z.symm)] at hj
     unfold upB
     rw [if_neg ej]
     exact (S.sl j t hj).mono (au (ai.refl _) sub) (ai.refl _)
 · rcases aO h with ⟨e,z⟩ | ⟨_,z⟩
   · exact S.fr i b (hb b z)
   · exact S.fr j b z
 · rcases aO h1 with ⟨e1,z1⟩ | ⟨e1,z1⟩ <;> rcases aO h2 with ⟨e2,z2⟩ | ⟨e2,z2⟩
   · exact e1.trans e2.symm
   · exact absurd (S.uq k i b z2 (hb b z1)) e2
   · exact absurd (S.uq j i b z1 (hb b z2)) e1
   · exact S.uq j k b z1 z2
end
end Hy
namespace Hy
open PySem PySem.Spec PyProof.Rows L2
open Ev (D Den aA aH aL az a6 aD)
noncomputable def Fr (H H':Hp) (bs:List Addr):Prop:=∀ b ∈ bs,H b=none/\∃ o,H' b=some o
noncomputable def dE (K:PySem.W.Frag) (C:Bool) (τ:List Sl) (s:Sl):TE:=λσ H Q=>∃ A H₀ B,Sta K A H₀ τ B σ H /\
 ∀ v H' bs,ai H H'->Fr H H' bs->bq K (hd H' λb=>vw C A B b\/b ∈ bs) H' (some v) bs s->Q v H'
noncomputable def dA (K:PySem.W.Frag) (C:Bool) (τ:List Sl) (ds:List D):TA:=λσ H Q=>∃ A H₀ B,Sta K A H₀ τ B σ H /\
 ∀ vs H',ai H H'->aA K (hd H' (vw C A B)) vs ds->Q vs H'
noncomputable def dT (K:PySem.W.Frag) (τ:List Sl) (c:Bool):TT:=λσ H Q=>∃ A H₀ B,Sta K A H₀ τ B σ H/\∀ H',ai H H'->Q c H'
structure Po where
 nx:List Sl->Prop
 rt:Sl->Prop
 bk:List Sl->Prop:=λ_=>False
 ct:List Sl->Prop:=λ_=>False
structure Meets (K:PySem.W.Frag) (A:Addr->Prop) (H₀:Hp) (N:Po) (D:Ends):Prop where
 nx:∀ τ B σ H,N.nx τ->Sta K A H₀ τ B σ H->D.nx σ H
 bk:∀ τ B σ H,N.bk τ->Sta K A H₀ τ B σ H->D.bk σ H
 ct:∀ τ B σ H,N.ct τ->Sta K A H₀ τ B σ H->D.ct σ H
 rt:∀ v H bs s,N.rt s->ai H₀ H->Fr H₀ H bs->bq K (hd H λb=>A b\/b ∈ bs) H (some v) bs s->D.rt v H
noncomputable def dS (K:PySem.W.Frag) (τ:List Sl) (N:Po):TS:=λD σ H=>∃ A H₀ B,Sta K A H₀ τ B σ H/\Meets K A H₀ N D
theorem peW {X:Cx} {e:Expr} {t t':TE} (h:PE X e t) (f:∀ σ H Q,t' σ H Q->t σ H Q):PE X e t':=λpins s σ H Q I q=>h pins s σ H Q I (f σ H Q q)
theorem ptW {X:Cx} {e:Expr} {t t':TT} (h:PT X e t) (f:∀ σ H Q,t' σ H Q->t σ H Q):PT X e t':=λpins s σ H Q I q=>h pins s σ H Q I (f σ H Q q)
theorem pwW {X:Cx} {e:Expr} {t t':TT} (h:PW X e t) (f:∀ σ H Q,t' σ H Q->t σ H Q):PW X e t':=λwh pins s σ H Q I q=>h wh pins s σ H Q I (f σ H Q q)
theorem paW {X:Cx} {e:List Expr} {t t':TA} (h:PA X e t) (f:∀ σ H Q,t' σ H Q->t σ H Q):PA X e t':=λp pins s σ H Q I q=>h p pins s σ H Q I (f σ H Q q)
theorem psW {X:Cx} {e:Stmt} {t t':TS} (h:PS X e t) (f:∀ D σ H,t' D σ H->t D σ H):PS X e t':=λpins s σ H D I q=>h pins s σ H D I (f D σ H q)
theorem jm {X:Cx} {e:List Stmt} {t t':TS} (h:PSs X e t) (f:∀ D σ H,t' D σ H->t D σ H):PSs X e t':=λpins s σ H D I q=>h pins s σ H D I (f D σ H q)
section
variable {K:PySem.W.Frag} {C:Bool} {τ:List Sl} {A:Addr->Prop} {H₀ H H':Hp} {B:Nat->List Addr} {σ:L2.St} {x y z:D} {Q:VK}
theorem fV {b:Addr} (h:vw C A B b):own A B b:=by
 cases C with
 | true=>exact h
 | false=>exact .inl h
theorem Sta.vd (S:Sta K A H₀ τ B σ H) (b:Addr) (h:vw C A B b):∃ o,H b=some o:=S.dm b (fV h)
theorem aT (S:Sta K A H₀ τ B σ H) (k:∀ v H',ai H H'->Den K (hd H' (vw C A B)) v x->Q v H'):dE K C τ (.d x) σ H Q:=
 ⟨A,H₀,B,S,λv H' bs e _ ⟨hb,u,eu,h⟩=>by
   cases eu
   exact k v H' e (h.mono (au (ai.refl _) λ_ z=>.inl z))⟩
theorem eF (h:dE K C τ (.d x) σ H Q):∃ A H₀ B,Sta K A H₀ τ B σ H/\∀ v H',ai H H'->Den K (hd H' (vw C A B)) v x->Q v H':=by
 obtain ⟨A,H₀,B,S,k⟩:=h
 exact ⟨A,H₀,B,S,λv H' e d=>k v H' [] e (λ_ z=>nomatch z) ⟨rfl,v,rfl,d.mono (au (ai.refl _) λ_ z=>z.elim id λz=>nomatch z)⟩⟩
theorem dU {ds:List D} {Q:List V->Hp->Prop} (S:Sta K A H₀ τ B σ H) (k:∀ vs H',ai H H'->aA K (hd H' (vw C A B)) vs ds->Q vs H'):dA K C τ ds σ H Q:=⟨A,H₀,B,S,k⟩
theorem jw {M:Addr->Prop} {p:Addr} {o:HO} (hM:∀ b,M b->∃ o,H b=some o) (hp:H p=none):hd (upd H p o) M p=some o:=
 aj.mpr ⟨λz=>(by obtain ⟨o,q⟩:=hM p z; rw [hp] at q; cases q),aF⟩
mutual
noncomputable def ndD:Nd->D
 | .d x=>x
 | .l xs=>.lst (gd xs)
 | .t xs=>.tup (gd xs)
noncomputable def gd:List Nd->List D
 | []=>[]
 | x :: xs=>ndD x :: gd xs
end
noncomputable def fzD:Sl->Option D
 | .un=>none
 | .d x=>some x
 | .o xs=>some (.lst xs)
 | .n t=>some (ndD t)
mutual
theorem aU.den {G G':Hp} (g:ai G G'):∀ {u:V} {bs:List Addr} {t:Nd},(∀ b ∈ bs,∀ o,H b=some o->G' b=some o)->aU K G H u bs t->Den K G' u (ndD t)
 | _,_,_,_,.d h=>h.mono g
 | _,_,_,e,.l h r=>.lst (SqL.of (e _ (List.mem_cons_self ..) _ h)) (ay.den g (λb hb=>e b (List.mem_cons_of_mem _ hb)) r)
 | _,_,_,e,.t h r=>.tup (SqT.of (e _ (List.mem_cons_self ..) _ h)) (ay.den g (λb hb=>e b (List.mem_cons_of_mem _ hb)) r)
theorem ay.den {G G':Hp} (g:ai G G'):∀ {vs:List V} {bs:List Addr} {xs:List Nd},(∀ b ∈ bs,∀ o,H b=some o->G' b=some o)->ay K G H vs bs xs->aA K G' vs (gd xs)
 | _,_,_,_,.nil=>.nil
 | _,_,_,e,.cons h r=>.cons (aU.den g (λb hb=>e b (List.mem_append_left _ hb)) h) (ay.den g (λb hb=>e b (List.mem_append_right _ hb)) r)
end
theorem bq.den {G G':Hp} {v:Option V} {bs:List Addr} {s:Sl} (h:bq K G H v bs s) (g:ai G G') (hv:∀ b ∈ bs,∀ o,H b=some o->G' b=some o) (e:fzD s=some x):∃ u,v=some u/\Den K G' u x:=by
 cases s with
 | un=>cases e
 | d y=>cases e; obtain ⟨_,u,e,q⟩:=h; exact ⟨u,e,q.mono g⟩
 | o xs=>
   cases e
   obtain ⟨a,vs,rfl,h2,h3,h4⟩:=h
   exact ⟨_,h2,.lst (SqL.of (hv a (List.mem_cons_self ..) _ h3)) (h4.mono g)⟩
 | n t=>
   cases e
   obtain ⟨_,u,e,q⟩:=h
   exact ⟨u,e,q.den g hv⟩
theorem slot_of {i:Nat} {u:V} (h:(σ[i]?).join=some u):σ[i]?=some (some u):=by
 cases e:σ[i]? with
 | none=>rw [e] at h; cases h
 | some o=>rw [e] at h; exact congrArg some h
end
section
variable {X:Cx} {C:Bool} {τ:List Sl} {x y z:D} {a b e:Expr} {es:List Expr} {pos:Pos}
theorem aa (i:Nat) {n:Str} {x:D} (h:τ[i]?=some (.d x):=by rfl) (hN:X.N[i]?=some n:=by rfl) (hv:Vis X.env.scope n:=by first | exact Or.inl rfl | exact Or.inr (Or.inl rfl) | exact Or.inr (Or.inr rfl))
   (hd:(n == ("__debug__" : Str))=false:=by decide) (hcd:(n == ("__classdict__" : Str))=false:=by decide):PE X (.Name n pos) (dE X.K C τ (.d x)):=peW (bP hN hv hd hcd) λσ H Q q=>by
 obtain ⟨A,H₀,B,S,k⟩:=eF q
 obtain ⟨_,u,e,d⟩:=S.sl i _ h
 exact ⟨u,slot_of e,k u H (ai.refl _) (d.mono (au (ai.refl _) λ_ z=>fV z))⟩
theorem fo (i:Nat) {n:Str} {s:Sl} {x:D} (h:τ[i]?=some s:=by rfl) (hx:fzD s=some x:=by rfl) (hN:X.N[i]?=some n:=by rfl) (hv:Vis X.env.scope n:=by first | exact Or.inl rfl | exact Or.inr (Or.inl rfl) | exact Or.inr (Or.inr rfl))
   (hd:(n == ("__debug__" : Str))=false:=by decide) (hcd:(n == ("__classdict__" : Str))=false:=by decide):PE X (.Name n pos) (dE X.K false τ (.d x)):=peW (bP hN hv hd hcd) λσ H Q q=>by
 obtain ⟨A,H₀,B,S,k⟩:=eF q
 obtain ⟨u,e,d⟩:=(S.sl i _ h).den (G':=Hy.hd H A) (au (ai.refl _) λ_ z=>.inl z) (λb hb o ho=>aj.mpr ⟨λz=>(by obtain ⟨_,q⟩:=S.ad b z; rw [S.fr i b hb] at q; cases q),ho⟩) hx
 exact ⟨u,slot_of e,k u H (ai.refl _) d⟩
theorem jP {v:V} (h:PE X e (tC v)) (d:∀ H,Den X.K H v x):PE X e (dE X.K C τ (.d x)):=peW h λσ H Q q=>by
 obtain ⟨A,H₀,B,S,k⟩:=eF q
 exact k v H (ai.refl _) (d _)
theorem ae {i j}:PE X (.Constant (.int i) j pos) (dE X.K C τ (.d (.int i))):=jP pF λ_=>.int
theorem mM {b j}:PE X (.Constant (.bool b) j pos) (dE X.K C τ (.d (.bl b))):=jP qI λ_=>.bl
theorem bc {s j}:PE X (.Constant (.str s) j pos) (dE X.K C τ (.d (.str s))):=jP oo λ_=>.str
theorem kX {n:Str} {i:Int} (hm:∃ t,X.mg n=some (.int i t)) (hg:Gl X n:=by rfl) (hd:(n == ("__debug__" : Str))=false:=by decide):PE X (.Name n pos) (dE X.K C τ (.d (.int i))):=by
 obtain ⟨t,hm⟩:=hm
 exact jP (m9 (v:=.int i) hg hm ⟨t,rfl⟩ hd) λ_=>.int
theorem bC {s:Sl} (h:PE X e (dE X.K C τ s)) (hx:fzD s=some x:=by rfl):PE X e (dE X.K C τ (.d x)):=peW h λσ H Q q=>by
 obtain ⟨A,H₀,B,S,k⟩:=eF q
 refine ⟨A,H₀,B,S,λv H' bs e hf q=>?_⟩
 have vd:=S.vd (C:=C)
 obtain ⟨u,e1,d⟩:=q.den (G':=Hy.hd H' (vw C A B)) (au (ai.refl _) λ_ z=>.inl z) (λb hb o ho=>aj.mpr ⟨λz=>(by obtain ⟨_,q⟩:=vd b z; rw [(hf b hb).1] at q; cases q),ho⟩) hx
 cases e1
 exact k v H' e d
noncomputable def flat:D->Bool
 | .tup _=>false
 | .lst _=>false
 | _=>true
theorem iR {K:PySem.W.Frag} {G G':Hp} {v:V} (h:Den K G v x) (f:flat x=true):Den K G' v x:=by
 cases h with
 | non=>exact .non
 | bl=>exact .bl
 | int=>exact .int
 | str=>exact .str
 | tup _ _=>cases f
 | lst _ _=>cases f
noncomputable def bR (X:Cx) (f:Value->Value->Sem Value) (x y z:D):Prop:=∃ r:R2,OpR X f r /\
 ∀ (M:Addr->Prop) (v w:V) (H:Hp) (Q:VK),(∀ b,M b->∃ o,H b=some o)->Den X.K (hd H M) v x->Den X.K (hd H M) w y->(∀ u H',ai H H'->Den X.K (hd H' M) u z->Q u H')->r v w H Q
theorem two {r:R2} (hr:∀ (M:Addr->Prop) (v w:V) (H:Hp) (Q:VK),(∀ b,M b->∃ o,H b=some o)->Den X.K (hd H M) v x->Den X.K (hd H M) w y->(∀ u H',ai H H'->Den X.K (hd H' M) u z->Q u H')->r v w H Q) :
   ∀ σ H Q,dE X.K C τ (.d z) σ H Q->tOp r (dE X.K C τ (.d x)) (dE X.K C τ (.d y)) σ H Q:=by
 intro σ H Q h
 obtain ⟨A,H₀,B,S,k⟩:=eF h
 refine aT S λv H1 e1 d1=>aT (S.mono e1) λw H2 e2 d2=>hr (vw C A B) v w H2 Q ((S.mono e1).mono e2).vd (d1.mono (au e2 λ_ z=>z)) d2 λu H' e3 d3=>k u H' (e1.trans (e2.trans e3)) d3
theorem aw {op:Operator} (ha:PE X a (dE X.K C τ (.d x))) (hb:PE X b (dE X.K C τ (.d y))) (ho:bR X (binaryOp op) x y z):PE X (.BinOp a op b pos) (dE X.K C τ (.d z)):=by
 obtain ⟨r,h1,h2⟩:=ho
 exact peW (l4 h1 ha hb) (two h2)
theorem fL {op:CmpOp} (ha:PE X a (dE X.K C τ (.d x))) (hb:PE X b (dE X.K C τ (.d y))) (ho:bR X (compareOp op) x y z) (hm:behindInMarks op b=false:=by first | exact lg _ | rfl):PE X (.Compare a [op] [b] pos) (dE X.K C τ (.d z)):=by
 obtain ⟨r,h1,h2⟩:=ho
 exact peW (ny h1 ha hb hm) (two h2)
theorem lp {t:TE} {c:Bool} (h:∀ σ H Q,dE X.K false τ (.d (.bl c)) σ H Q->t σ H Q):∀ σ H Q,dT X.K τ c σ H Q->t σ H λx H'=>∃ k,x=.bl k/\Q k H':=λσ H Q ⟨A,H₀,B,S,k⟩=>
 h σ H _ (aT S λv H' e d=>by cases d; exact ⟨c,rfl,k H' e⟩)
theorem aP {op:CmpOp} {c:Bool} (ha:PE X a (dE X.K false τ (.d x))) (hb:PE X b (dE X.K false τ (.d y))) (ho:bR X (compareOp op) x y (.bl c)) (hm:behindInMarks op b=false:=by first | exact lg _ | rfl):PT X (.Compare a [op] [b] pos) (dT X.K τ c):=by
 obtain ⟨r,h1,h2⟩:=ho
 exact ptW (mY h1 ha hb hm) (lp (two h2))
theorem a4 {c:Bool} (h:PE X e (dE X.K false τ (.d (.bl c)))) (he:∀ whole,isTrue e X.env whole=(do let v <- whole; standAt e.pos; holding [v] (truthy v)):=by intro _; rfl):PT X e (dT X.K τ c):=
 ptW (n8 h he) (lp λ_ _ _ q=>q)
theorem jX {g:Int->Int->V} {P:Int->Int->Prop} {i j:Int} (hc:P i j) (hz:∀ K H,Den K H (g i j) z):∀ (M:Addr->Prop) (v w:V) (H:Hp) (Q:VK),(∀ b,M b->∃ o,H b=some o)->Den X.K (hd H M) v (.int i)->Den X.K (hd H M) w (.int j) ->
   (∀ u H',ai H H'->Den X.K (hd H' M) u z->Q u H')->rI P g v w H Q:=λ_ v w H Q _ d1 d2 k=>by
 cases d1
 cases d2
 exact ⟨i,j,rfl,rfl,hc,k _ H (ai.refl _) (hz _ _)⟩
theorem gx {g:Int->Int->V} {i j:Int} (hz:∀ K H,Den K H (g i j) z):∀ (M:Addr->Prop) (v w:V) (H:Hp) (Q:VK),(∀ b,M b->∃ o,H b=some o)->Den X.K (hd H M) v (.int i)->Den X.K (hd H M) w (.int j) ->
   (∀ u H',ai H H'->Den X.K (hd H' M) u z->Q u H')->rI0 g v w H Q:=λ_ v w H Q _ d1 d2 k=>by
 cases d1
 cases d2
 exact ⟨i,j,rfl,rfl,k _ H (ai.refl _) (hz _ _)⟩
variable {i j:Int}
theorem aN:bR X (binaryOp .Add) (.int i) (.int j) (.int (i + j)):=⟨_,oN,gx λ_ _=>.int⟩
theorem i6:bR X (binaryOp .Sub) (.int i) (.int j) (.int (i - j)):=⟨_,pK,gx λ_ _=>.int⟩
theorem aH.ok' {i j:Int} (h:aH i j):IntMulOk i j:=by
 have b:∀ {k:Int} {n:Nat},k.natAbs.log2 < n->Builtin.Int.intBits k<=n:=λ{k n} q=>by
   unfold Builtin.Int.intBits
   split
   · exact Nat.zero_le _
   · exact q
 rcases h with h | h | ⟨h1,h2⟩
 · exact .of_left (b h)
 · exact .of_right (b h)
 · exact .of_bits (Nat.le_trans (b h1) (by decide)) (Nat.le_trans (b h2) (by decide))
theorem aR (h:aH i j):bR X (binaryOp .Mult) (.int i) (.int j) (.int (i * j)):=⟨rI aH λi j=>.int (i * j),opI λ_ _ _ _ _ _ _ hc q=>mul_int q (aH.ok' hc),jX h λ_ _=>.int⟩
theorem a8 (h:aL j):bR X (binaryOp .FloorDiv) (.int i) (.int j) (.int (i.fdiv j)):=⟨rI (λ_ j=>aL j) λi j=>.int (i.fdiv j),opI λ_ _ _ _ _ _ _ hc q=>floordiv_int hc.1 q (.inl (PyProof.noPylong_of_log2 hc.2)),jX h λ_ _=>.int⟩
theorem bg (h:j ≠ 0):bR X (binaryOp .Mod) (.int i) (.int j) (.int (i.fmod j)):=⟨_,ng,jX h λ_ _=>.int⟩
theorem qp (h:qP i j):bR X (binaryOp .Pow) (.int i) (.int j) (.int (i ^ j.toNat)):=⟨_,pB,jX h λ_ _=>.int⟩
theorem oH:bR X (compareOp .Lt) (.int i) (.int j) (.bl (decide (i < j))):=⟨_,qk,gx λ_ _=>.bl⟩
theorem pR:bR X (compareOp .LtE) (.int i) (.int j) (.bl (decide (i<=j))):=⟨_,qM,gx λ_ _=>.bl⟩
theorem pb:bR X (compareOp .Gt) (.int i) (.int j) (.bl (decide (j < i))):=⟨_,pZ,gx λ_ _=>.bl⟩
theorem pf:bR X (compareOp .GtE) (.int i) (.int j) (.bl (decide (j<=i))):=⟨_,pX,gx λ_ _=>.bl⟩
theorem gY:bR X (compareOp .Eq) (.int i) (.int j) (.bl (decide (i=j))):=⟨_,nM,λ_ v w H Q _ d1 d2 k=>by
 cases d1
 cases d2
 exact ⟨rfl,by rw [show decide (V.int i=V.int j)=decide (i=j) by simp]; exact k _ H (ai.refl _) .bl⟩⟩
theorem iL:bR X (compareOp .NotEq) (.int i) (.int j) (.bl (!decide (i=j))):=⟨_,nF,λ_ v w H Q _ d1 d2 k=>by
 cases d1
 cases d2
 exact ⟨rfl,by rw [show decide (V.int i=V.int j)=decide (i=j) by simp]; exact k _ H (ai.refl _) .bl⟩⟩
theorem ly {e:Expr}:PE X e λ_ _ _=>False:=λ_ _ _ _ _ _ h=>h.elim
theorem pw_no {e:Expr}:PW X e λ_ _ _=>False:=λ_ _ _ _ _ _ _ h=>h.elim
variable {p q:Bool} {c:Expr} {rest:List Expr}
theorem gE {op} {s:Sl} (h:PE X a (dE X.K C τ s)):PE X (.BoolOp op [a] pos) (dE X.K C τ s):=pA h
theorem gJ (ha:PE X a (dE X.K C τ (.d (.bl p)))) (hb:p=true->PE X (.BoolOp .And (b :: rest) pos) (dE X.K C τ (.d (.bl q)))):PE X (.BoolOp .And (a :: b :: rest) pos) (dE X.K C τ (.d (.bl (p && q)))):=by
 cases p with
 | false=>
   refine peW (mE ha ly) λσ H Q z=>?_
   obtain ⟨A,H₀,B,S,k⟩:=eF z
   exact aT S λv H' e d=>by cases d; exact ⟨_,rfl,k _ H' e .bl⟩
 | true=>
   refine peW (mE ha (hb rfl)) λσ H Q z=>?_
   obtain ⟨A,H₀,B,S,k⟩:=eF z
   exact aT S λv H' e d=>by cases d; exact ⟨_,rfl,aT (S.mono e) λv H2 e2 d2=>k v H2 (e.trans e2) d2⟩
theorem nK (ha:PE X a (dE X.K C τ (.d (.bl p)))):PE X (.UnaryOp .Not a pos) (dE X.K C τ (.d (.bl (!p)))):=peW (oh ha) λσ H Q z=>by
 obtain ⟨A,H₀,B,S,k⟩:=eF z
 exact aT S λv H' e d=>by cases d; exact ⟨_,rfl,k _ H' e .bl⟩
theorem oa (ha:PT X a (dT X.K τ p)):PW X (.BoolOp .And [a] pos) (dT X.K τ p):=pw_and1 ha
theorem cA (ha:PT X a (dT X.K τ p)):PW X (.BoolOp .Or [a] pos) (dT X.K τ p):=pw_or1 ha
theorem pQ (ha:PT X a (dT X.K τ p)) (hb:p=true->PW X (.BoolOp .And (b :: rest) pos) (dT X.K τ q)):PW X (.BoolOp .And (a :: b :: rest) pos) (dT X.K τ (p && q)):=by
 cases p with
 | false=>exact pwW (pw_and ha pw_no) λσ H Q ⟨A,H₀,B,S,k⟩=>⟨A,H₀,B,S,λH' e=>kM (k H' e)⟩
 | true=>exact pwW (pw_and ha (hb rfl)) λσ H Q ⟨A,H₀,B,S,k⟩=>⟨A,H₀,B,S,λH' e=>jA (⟨A,H₀,B,S.mono e,λH2 e2=>k H2 (e.trans e2)⟩)⟩
theorem cN (ha:PT X a (dT X.K τ p)) (hb:p=false->PW X (.BoolOp .Or (b :: rest) pos) (dT X.K τ q)):PW X (.BoolOp .Or (a :: b :: rest) pos) (dT X.K τ (p || q)):=by
 cases p with
 | true=>exact pwW (pw_or ha pw_no) λσ H Q ⟨A,H₀,B,S,k⟩=>⟨A,H₀,B,S,λH' e=>jA (k H' e)⟩
 | false=>exact pwW (pw_or ha (hb rfl)) λσ H Q ⟨A,H₀,B,S,k⟩=>⟨A,H₀,B,S,λH' e=>kM (⟨A,H₀,B,S.mono e,λH2 e2=>k H2 (e.trans e2)⟩)⟩
theorem a5 (ha:PT X a (dT X.K τ p)):PT X (.UnaryOp .Not a pos) (dT X.K τ (!p)):=ptW (oY ha) λσ H Q ⟨A,H₀,B,S,k⟩=>⟨A,H₀,B,S,λH' e=>k H' e⟩
theorem lr {s:Sl} (hc:PT X c (dT X.K τ p)) (ha:p=true->PE X a (dE X.K C τ s)) (hb:p=false->PE X b (dE X.K C τ s)):PE X (.IfExp c a b pos) (dE X.K C τ s):=by
 have fin:∀ {σ H H' Q} {A:Addr->Prop} {H₀ B},Sta X.K A H₀ τ B σ H->(∀ v H' bs,ai H H'->Fr H H' bs->bq X.K (hd H' λb=>vw C A B b\/b ∈ bs) H' (some v) bs s->Q v H')->ai H H'->dE X.K C τ s σ H' Q:=λS k e=>
   ⟨_,_,_,S.mono e,λv H2 bs e2 hf h=>k v H2 bs (e.trans e2) (λb hb=>⟨e.free (hf b hb).1,(hf b hb).2⟩) h⟩
 cases p with
 | true=>exact peW (i9 hc (ha rfl) ly) λσ H Q ⟨A,H₀,B,S,k⟩=>⟨A,H₀,B,S,λH' e=>jA (fin S k e)⟩
 | false=>exact peW (i9 hc ly (hb rfl)) λσ H Q ⟨A,H₀,B,S,k⟩=>⟨A,H₀,B,S,λH' e=>kM (fin S k e)⟩
theorem m8 {op op':CmpOp} (ha:PE X a (dE X.K C τ (.d x))) (hb:PE X b (dE X.K C τ (.d y))) (hc:PE X c (dE X.K C τ (.d z))) (h1:bR X (compareOp op) x y (.bl p)) (h2:bR X (compareOp op') y z (.bl q))
   (hm:lastMarks [op,op'] [b,c]=false:=by with_unfolding_all rfl):PE X (.Compare a [op,op'] [b,c] pos) (dE X.K C τ (.d (.bl (p && q))))/\(C=false->PT X (.Compare a [op,op'] [b,c] pos) (dT X.K τ (p && q))):=by
 obtain ⟨r,o1,k1⟩:=h1
 obtain ⟨r',o2,k2⟩:=h2
 have key:∀ σ H Q,dE X.K C τ (.d (.bl (p && q))) σ H Q->jF r r' (dE X.K C τ (.d x)) (dE X.K C τ (.d y)) (dE X.K C τ (.d z)) σ H Q:=λσ H Q h=>by
   obtain ⟨A,H₀,B,S,k⟩:=eF h
   refine aT S λv H1 e1 d1=>aT (S.mono e1) λw H2 e2 d2=>k1 (vw C A B) v w H2 _ ((S.mono e1).mono e2).vd (d1.mono (au e2 λ_ z=>z)) d2 λu H3 e3 d3=>?_
   cases d3
   refine ⟨p,rfl,?_⟩
   cases p with
   | false=>exact kM (k _ H3 (e1.trans (e2.trans e3)) .bl)
   | true=>exact jA (aT (((S.mono e1).mono e2).mono e3) λw' H4 e4 d4=>k2 (vw C A B) w w' H4 Q ((((S.mono e1).mono e2).mono e3).mono e4).vd (d2.mono (au (e3.trans e4) λ_ z=>z)) d4 λu H5 e5 d5=>k u H5 (e1.trans (e2.trans (e3.trans (e4.trans e5)))) d5)
 exact ⟨peW (lX o1 o2 ha hb hc hm) key,λhC=>by subst hC; exact ptW (lV o1 o2 ha hb hc hm) (lp key)⟩
theorem af:PA X [] (dA X.K C τ []):=paW eA λσ H Q ⟨A,H₀,B,S,k⟩=>k [] H (ai.refl _) .nil
theorem ab {ds:List D} (ha:PE X e (dE X.K C τ (.d x))) (hr:PA X es (dA X.K C τ ds)) (hs:starEach (e :: es) X.env=(false,eval e X.env) :: starEach es X.env:=by rfl):PA X (e :: es) (dA X.K C τ (x :: ds)):=paW (cq ha hr hs) λσ H Q ⟨A,H₀,B,S,k⟩=>
 aT S λv H1 e1 d1=>dU (S.mono e1) λvs H2 e2 d2=>k _ H2 (e1.trans e2) (.cons (d1.mono (au e2 λ_ z=>z)) d2)
theorem bz {ds:List D} {m} (h:PA X es (dA X.K C τ ds)) (hl:Nat.ble ds.length 1000=true:=by rfl):PE X (.Tuple es m pos) (dE X.K C τ (.d (.tup ds))):=peW (lC h) λσ H Q q=>by
 obtain ⟨A,H₀,B,S,k⟩:=eF q
 refine dU S λvs H1 e1 d1=>⟨by rw [d1.length]; exact Nat.le_of_lt (ek (Nat.le_of_ble_eq_true hl)),λp hp=>k _ _ (e1.trans (az hp _)) ?_⟩
 exact .tup (SqT.of (jw (S.mono e1).vd hp)) (d1.mono (au (az hp _) λ_ z=>z))
theorem cy {ds:List D} (h:PA X es (dA X.K C τ ds)) (hl:Nat.ble ds.length 1000=true:=by rfl):PE X (.List es pos) (dE X.K C τ (.o ds)):=peW (pL h) λσ H Q ⟨A,H₀,B,S,k⟩=>
 dU S λvs H1 e1 d1=>⟨by rw [d1.length]; exact Nat.le_of_lt (ek (Nat.le_of_ble_eq_true hl)),λp hp=>k _ _ [p] (e1.trans (az hp _)) (λb hb=>by
   obtain rfl:=List.mem_singleton.mp hb
   exact ⟨e1.free hp,_,aF⟩) ⟨p,vs,rfl,rfl,aF,d1.mono λb o z=>by
     obtain ⟨z1,z2⟩:=aj.mp z
     refine aj.mpr ⟨λy=>?_,az hp _ _ _ z2⟩
     rcases y with y | y
     · exact z1 y
     · rw [List.mem_singleton.mp y] at z2; rw [hp] at z2; cases z2⟩⟩
end
end Hy
namespace Hy
open PySem PySem.Spec PyProof.Rows L2
open Ev (D Den aA aH aL az a6 aD)
noncomputable def spD (K:PySem.W.Frag) (Φ:List D->Sl->Prop):Sp:=λvs H Q _=>∃ A ds s,(∀ b,A b->∃ o,H b=some o)/\aA K (hd H A) vs ds/\Φ ds s /\
 ∀ v H' bs,ai H H'->Fr H H' bs->bq K (hd H' λb=>A b\/b ∈ bs) H' (some v) bs s->Q v H'
noncomputable def Cal (P:Program) (w:World) (K:PySem.W.Frag) (mg:Str->Option Value) (base:Heap) (k:Nat) (n:Str) (Φ:List D->Sl->Prop):Prop:=
 ∃ f fd ps,aK P w K mg base CX0 k f fd ps (spD K Φ)/\mg n=some (.ref f)/\PySem.W.keepIn K (.ref f)=true/\Binds K fd ps []
theorem Cal.mono {P:Program} {w:World} {K:PySem.W.Frag} {mg:Str->Option Value} {base:Heap} {j k:Nat} {n:Str} {Φ:List D->Sl->Prop} (c:Cal P w K mg base j n Φ) (h:j<=k):Cal P w K mg base k n Φ:=
 let ⟨f,fd,ps,F,r⟩:=c; ⟨f,fd,ps,F.mono h,r⟩
noncomputable def ak:List Str:=["len","abs","max","min","int","bool","list","tuple","str","isinstance","range","enumerate","all","zip","sorted","sum","any","reversed"]
structure Bk (X:Cx) (k:Nat):Prop where
 room:cC k X.A
 calm:X.calm=true
 blt:∀ x ∈ ak,X.mg x=none
 po:PassesOwn (model X.prog X.w) X.A X.env X.xe
section
variable {X:Cx} {C:Bool} {τ:List Sl} {x y z:D} {a b e:Expr} {es:List Expr} {pos p:Pos} {k:Nat} {s:Sl} {ds:List D} {i j:Int}
theorem x_call {n:Str} {Φ:List D->Sl->Prop} (B:Bk X k) (c:Cal X.prog X.w X.K X.mg X.base k n Φ) (ha:PA X (e :: es) (dA X.K C τ ds)) (h:Φ ds s) (hg:Gl X n:=by rfl) (hdb:(n == ("__debug__" : Str))=false:=by decide)
   (he:starEach (e :: es) X.env=(false,eval e X.env) :: starEach es X.env:=by rfl) (hpl:(backTo pos (starEach es X.env)).any (·.1)=false:=by rfl):PE X (.Call (.Name n p) (e :: es) [] pos) (dE X.K C τ s):=by
 obtain ⟨f,fd,ps,F,hm,hk,hb⟩:=c
 refine peW (nq F B.room hg hm hk hb .nil pW ha hdb he hpl) λσ H Q ⟨A,H₀,B,S,q⟩=>dU S λvs H1 e1 d1=>?_
 rw [List.append_nil]
 exact ⟨vw C A B,ds,s,(S.mono e1).vd,d1,h,λv H' bs e2 hf h2=>q v H' bs (e1.trans e2) (λb hb=>⟨e1.free (hf b hb).1,(hf b hb).2⟩) h2⟩
noncomputable def iy (X:Cx) (f:Value) (ds:List D) (s:Sl):Prop:=∃ r:List V->Hp->VK->Prop,cZ X f r /\
 ∀ (M:Addr->Prop) (vs:List V) (H:Hp) (Q:VK),(∀ b,M b->∃ o,H b=some o)->aA X.K (hd H M) vs ds->(∀ u H' bs,ai H H'->Fr H H' bs->bq X.K (hd H' λb=>M b\/b ∈ bs) H' (some u) bs s->Q u H')->r vs H Q
theorem lh {r:List V->Hp->VK->Prop} (hr:∀ (M:Addr->Prop) (vs:List V) (H:Hp) (Q:VK),(∀ b,M b->∃ o,H b=some o)->aA X.K (hd H M) vs ds->(∀ u H' bs,ai H H'->Fr H H' bs->bq X.K (hd H' λb=>M b\/b ∈ bs) H' (some u) bs s->Q u H')->r vs H Q) :
   ∀ σ H Q,dE X.K C τ s σ H Q->tCB r (dA X.K C τ ds) σ H Q:=λσ H Q ⟨A,H₀,B,S,q⟩=>
 dU S λvs H1 e1 d1=>hr (vw C A B) vs H1 Q (S.mono e1).vd d1 λv H' bs e2 hf h2=>q v H' bs (e1.trans e2) (λb hb=>⟨e1.free (hf b hb).1,(hf b hb).2⟩) h2
theorem cB {n:Str} {id:String} (B:Bk X k) (ha:PA X (e :: es) (dA X.K C τ ds)) (c:iy X (.builtin id) ds s) (hn:n ∈ ak:=by decide) (hg:Gl X n:=by rfl) (hv:bootBuiltins n=some (.builtin id):=by decide +kernel) (h1:n ≠ "__name__":=by decide) (hdb:(n == ("__debug__" : Str))=false:=by decide)
   (he:starEach (e :: es) X.env=(false,eval e X.env) :: starEach es X.env:=by rfl) (hpl:(backTo pos (starEach es X.env)).any (·.1)=false:=by rfl):PE X (.Call (.Name n p) (e :: es) [] pos) (dE X.K C τ s):=by
 obtain ⟨r,h1,h2⟩:=c
 exact peW (je h1 hg (B.blt _ hn) hv ha (by assumption) hdb he hpl) (lh h2)
theorem ot {n:Str} {T:String} (B:Bk X k) (ha:PA X (e :: es) (dA X.K C τ ds)) (c:iy X (.type T) ds s) (hn:n ∈ ak:=by decide) (hg:Gl X n:=by rfl) (hv:bootBuiltins n=some (.type T):=by decide +kernel) (h1:n ≠ "__name__":=by decide) (hdb:(n == ("__debug__" : Str))=false:=by decide)
   (he:starEach (e :: es) X.env=(false,eval e X.env) :: starEach es X.env:=by rfl) (hpl:(backTo pos (starEach es X.env)).any (·.1)=false:=by rfl):PE X (.Call (.Name n p) (e :: es) [] pos) (dE X.K C τ s):=by
 obtain ⟨r,h1,h2⟩:=c
 exact peW (kI h1 hg (B.blt _ hn) hv ha (by assumption) hdb he hpl) (lh h2)
theorem fj {K:PySem.W.Frag} {H:Hp} {M:Addr->Prop} {v:V} (h:Den K (hd H M) v x):bq K (hd H λb=>M b\/b ∈ ([]:List Addr)) H (some v) [] (.d x):=⟨rfl,v,rfl,h.mono (au (ai.refl _) λ_ z=>z.elim id λz=>nomatch z)⟩
theorem cD {H H':Hp}:Fr H H' []:=λ_ z=>nomatch z
theorem fH {xs:List D}:iy X (.builtin "len") [.lst xs] (.d (.int xs.length)):=⟨_,dY,λM vs H Q _ d q=>by
 cases d with
 | cons d r=>
   cases r
   cases d with
   | lst h r=>
     refine ⟨_,_,rfl,.inl (aD aM h),?_⟩
     rw [r.length]
     exact q _ H [] (ai.refl _) cD (fj .int)⟩
theorem hW {xs:List D}:iy X (.builtin "len") [.tup xs] (.d (.int xs.length)):=⟨_,dY,λM vs H Q _ d q=>by
 cases d with
 | cons d r=>
   cases r
   cases d with
   | tup h r=>
     refine ⟨_,_,rfl,.inr (a6 aM h),?_⟩
     rw [r.length]
     exact q _ H [] (ai.refl _) cD (fj .int)⟩
noncomputable def m6 (i:Int):Int:=if i < 0 then -i else i
theorem iY:iy X (.builtin "abs") [.int i] (.d (.int (m6 i))):=⟨_,mj,λM vs H Q _ d q=>by
 cases d with
 | cons d r=>
   cases r
   cases d
   exact ⟨_,rfl,q _ H [] (ai.refl _) cD (fj .int)⟩⟩
theorem pP (hc:X.calm=true):iy X (.builtin "max") [.int i,.int j] (.d (.int (if j > i then j else i))):=⟨_,kK hc,λM vs H Q _ d q=>by
 cases d with
 | cons d r=>
   cases r with
   | cons d' r=>
     cases r
     cases d
     cases d'
     exact ⟨_,_,rfl,q _ H [] (ai.refl _) cD (fj .int)⟩⟩
theorem nQ {c:Bool}:iy X (.type "int") [.bl c] (.d (.int (if c then 1 else 0))):=⟨_,kB,λM vs H Q _ d q=>by
 cases d with
 | cons d r=>
   cases r
   cases d
   exact .inr ⟨_,rfl,q _ H [] (ai.refl _) cD (fj .int)⟩⟩
theorem il {K:PySem.W.Frag} {H:Hp} {M:Addr->Prop} {p:Addr} {vs:List V} {xs:List D} (hp:H p=none) (d:aA K (hd H M) vs xs) :
   ai H (upd H p (.lst vs))/\Fr H (upd H p (.lst vs)) [p]/\bq K (hd (upd H p (.lst vs)) λb=>M b\/b ∈ [p]) (upd H p (.lst vs)) (some (.ref p)) [p] (.o xs):=
 ⟨az hp _,λb hb=>by
   obtain rfl:=List.mem_singleton.mp hb
   exact ⟨hp,_,aF⟩,p,vs,rfl,rfl,aF,d.mono λb o z=>by
     obtain ⟨z1,z2⟩:=aj.mp z
     refine aj.mpr ⟨λy=>?_,az hp _ _ _ z2⟩
     rcases y with y | y
     · exact z1 y
     · rw [List.mem_singleton.mp y] at z2; rw [hp] at z2; cases z2⟩
theorem nZ {xs:List D}:iy X (.type "list") [.lst xs] (.o xs):=⟨_,gN,λM vs H Q _ d q=>by
 cases d with
 | cons d r=>
   cases r
   cases d with
   | lst h r=>
     refine ⟨_,_,rfl,.inl (aD aM h),λp hp=>?_⟩
     obtain ⟨z1,z2,z3⟩:=il (K:=X.K) (M:=M) hp r
     exact q _ _ [p] z1 z2 z3⟩
theorem jr {K:PySem.W.Frag} {H:Hp} {vs:List V} {ds:List D} {i:Int} {d:D} (r:aA K H vs ds) (h:atI ds i=some d):∃ v,atI vs i=some v/\Den K H v d:=by
 unfold atI at h ⊢
 rw [r.length]
 cases e:ixN ds.length i with
 | none=>rw [e] at h; cases h
 | some j=>rw [e] at h; exact r.get h
noncomputable def ou (X:Cx) (x y z:D):Prop:=∃ r:R2,IxR X r /\
 ∀ (M:Addr->Prop) (v w:V) (H:Hp) (Q:VK),(∀ b,M b->∃ o,H b=some o)->Den X.K (hd H M) v x->Den X.K (hd H M) w y->(∀ u H',ai H H'->Den X.K (hd H' M) u z->Q u H')->r v w H Q
theorem av (ha:PE X a (dE X.K C τ (.d x))) (hb:PE X b (dE X.K C τ (.d y))) (ho:ou X x y z) (hs:dN b:=by exact λ_ _=>rfl):PE X (.Subscript a b pos) (dE X.K C τ (.d z)):=by
 obtain ⟨r,h1,h2⟩:=ho
 exact peW (jS h1 ha hb hs) (two h2)
theorem aV {xs:List D} (h:atI xs i=some z):ou X (.lst xs) (.int i) z:=⟨_,iE,λM v w H Q _ d1 d2 q=>by
 cases d2
 cases d1 with
 | lst hs r=>
   obtain ⟨v,e,d⟩:=jr r h
   exact ⟨_,_,_,_,rfl,rfl,aD aM hs,e,q _ H (ai.refl _) d⟩⟩
theorem aq {xs:List D} (h:atI xs i=some z):ou X (.tup xs) (.int i) z:=⟨_,mJ,λM v w H Q _ d1 d2 q=>by
 cases d2
 cases d1 with
 | tup hs r=>
   obtain ⟨v,e,d⟩:=jr r h
   exact ⟨_,_,_,_,rfl,rfl,a6 aM hs,e,q _ H (ai.refl _) d⟩⟩
theorem eL (n:Nat) {nm:Str} {xs:List D} (hb:PE X b (dE X.K false τ (.d (.int i)))) (hz:atI xs i=some z) (h:τ[n]?=some (.o xs):=by rfl) (hs:dN b:=by exact λ_ _=>rfl) (hN:X.N[n]?=some nm:=by rfl)
   (hv:Vis X.env.scope nm:=by first | exact Or.inl rfl | exact Or.inr (Or.inl rfl) | exact Or.inr (Or.inr rfl)) (hd:(nm == ("__debug__" : Str))=false:=by decide) (hcd:(nm == ("__classdict__" : Str))=false:=by decide):PE X (.Subscript (.Name nm p) b pos) (dE X.K C τ (.d z)):=
 peW (jS iE (bP (i:=n) hN hv hd hcd) hb hs) λσ H Q q=>by
   obtain ⟨A,H₀,B,S,k⟩:=eF q
   obtain ⟨l,vs,hb,e1,e2,d⟩:=S.sl n _ h
   refine ⟨_,slot_of e1,aT S λw H1 e3 d1=>?_⟩
   cases d1
   obtain ⟨v,e4,d4⟩:=jr d hz
   exact ⟨l,vs,i,v,rfl,rfl,SqL.of (e3 _ _ e2),e4,k v H1 e3 (d4.mono (au e3 λ_ z=>fV z))⟩
noncomputable def dO (K:PySem.W.Frag) (τ:List Sl) (c:Option Int):TO:=λσ H Q=>∃ A H₀ B,Sta K A H₀ τ B σ H/\∀ H',ai H H'->Q c H'
theorem pO {e:Option Expr} {t t':TO} (h:PO X e t) (f:∀ σ H Q,t' σ H Q->t σ H Q):PO X e t':=λpins s σ H Q I q=>h pins s σ H Q I (f σ H Q q)
theorem l6:PO X none (dO X.K τ none):=pO nh λσ H Q ⟨A,H₀,B,S,k⟩=>k H (ai.refl _)
theorem gO (h:PE X e (dE X.K false τ (.d (.int i)))):PO X (some e) (dO X.K τ (some i)):=pO (mP h) λσ H Q ⟨A,H₀,B,S,k⟩=>aT S λv H1 e1 d1=>by
 cases d1
 exact ⟨_,rfl,k H1 e1⟩
noncomputable def cutD (xs:List D) (lo hi:Option Int):List D:=(xs.drop (HT.sIx xs.length 0 lo)).take (HT.sIx xs.length xs.length hi - HT.sIx xs.length 0 lo)
theorem pJ {lo hi:Option Expr} {l u:Option Int} {xs:List D} {p2:Pos} (ha:PE X a (dE X.K C τ (.d (.lst xs)))) (hl:PO X lo (dO X.K τ l)) (hu:PO X hi (dO X.K τ u)):PE X (.Subscript a (.Slice lo hi none p2) pos) (dE X.K C τ (.o (cutD xs l u))):=
 peW (lb nk ha hl hu) λσ H Q ⟨A,H₀,B,S,k⟩=>aT S λv H1 e1 d1=>⟨A,H₀,B,S.mono e1,λH2 e2=>⟨A,H₀,B,(S.mono e1).mono e2,λH3 e3=>by
   cases d1 with
   | @lst _ ws _ h r=>
     have h:=aD (e2.trans e3) (aD aM h)
     refine ⟨_,_,rfl,h,λp hp=>?_⟩
     have r:=r.mono (au (e2.trans e3) λ_ z=>z)
     have r':aA X.K (hd H3 (vw C A B)) (ky ws l u) (cutD xs l u):=by
       unfold ky cutD
       rw [r.length]
       exact (r.drop _).take _
     obtain ⟨z1,z2,z3⟩:=il (K:=X.K) hp r'
     exact k _ _ [p] (e1.trans (e2.trans (e3.trans z1))) (λb hb=>⟨(e1.trans (e2.trans e3)).free (z2 b hb).1,(z2 b hb).2⟩) z3⟩⟩
inductive Ty where
 | int | bool | str | list | tuple
noncomputable def tyN:Ty->String
 | .int=>"int" | .bool=>"bool" | .str=>"str" | .list=>"list" | .tuple=>"tuple"
noncomputable def qF:D->String
 | .non=>"NoneType" | .bl _=>"bool" | .int _=>"int" | .str _=>"str" | .tup _=>"tuple" | .lst _=>"list"
noncomputable def gj:Ty->D->Bool
 | .int,.int _=>true
 | .int,.bl _=>true
 | .bool,.bl _=>true
 | .str,.str _=>true
 | .list,.lst _=>true
 | .tuple,.tup _=>true
 | _,_=>false
theorem oB (K:PySem.W.Frag) (d:D) (t:Ty):PySem.W.kitOne K (.type (qF d)) (.type (tyN t))=some (gj t d):=by
 cases d <;> cases t <;> (show PySem.W.kitOne K (.type _) (.type _)=some _) <;> with_unfolding_all rfl
theorem oZ (t:Ty):cZ X (.builtin "isinstance") (λxs H Q=>∃ G x d,ai G H/\xs=[x,.ty (tyN t)]/\Den X.K G x d/\Q (.bl (gj t d)) H):=by
 intro pins s σ H xs us Q I r q
 obtain ⟨G,x,d,sg,rfl,dx,q⟩:=q
 obtain ⟨u,w,rfl,rx,rt⟩:∃ u w,us=[u,w]/\RelV x u/\RelV (.ty (tyN t)) w:=by
   cases r with
   | cons r1 r=>cases r with
     | cons r2 r=>cases r; exact ⟨_,_,rfl,r1,r2⟩
 cases (show w=Value.type (tyN t) from rt)
 have kt:=oB X.K d t
 have fin:∀ tk,EP X pins σ Q (.bool (gj t d)) { s with toks:=tk }:=λtk=>⟨.bl _,H,I.tok _,rfl,q⟩
 cases dx with
 | non=>cases (show u=Value.none from rx); exact PySem.W.kia_one PySem.W.kitx_none I.kIn True.intro kt (λz=>nomatch z) fin
 | bl=>cases (show u=Value.bool _ from rx); exact PySem.W.kia_one PySem.W.kitx_bool I.kIn True.intro kt (λz=>nomatch z) fin
 | int=>obtain ⟨t',z⟩:=(show ∃ t,u=Value.int _ t from rx); cases z; exact PySem.W.kia_one PySem.W.kitx_int I.kIn True.intro kt (λz=>nomatch z) fin
 | str=>obtain ⟨t',z⟩:=(show ∃ t,u=Value.str _ t from rx); cases z; exact PySem.W.kia_one PySem.W.kitx_str I.kIn True.intro kt (λz=>nomatch z) fin
 | tup h r1=>
   cases (show u=Value.ref _ from rx)
   obtain ⟨its,_,⟨o,h1,h2,_⟩,_⟩:=I.tuple (a6 sg h)
   exact PySem.W.kia_one PySem.W.kitx_tuple I.kIn ⟨o,h1,h2⟩ kt (λz=>nomatch z) fin
 | lst h r1=>
   cases (show u=Value.ref _ from rx)
   obtain ⟨its,_,⟨o,n,h1,h2,_⟩,_⟩:=I.list (aD sg h)
   exact PySem.W.kia_one PySem.W.kitx_list I.kIn ⟨o,h1,h2⟩ kt (λz=>nomatch z) fin
theorem cw {n:Str} {q:Pos} (t:Ty) (B:Bk X k) (ha:PE X a (dE X.K false τ (.d x))) (hn:n ∈ ak:=by decide) (ht:bootBuiltins n=some (.type (tyN t)):=by decide +kernel) (hg:Gl X "isinstance":=by rfl) (hg':Gl X n:=by rfl) (h1:n ≠ "__name__":=by decide) (hdb:(n == ("__debug__" : Str))=false:=by decide)
   (he:starEach [a,.Name n q] X.env=(false,eval a X.env) :: starEach [.Name n q] X.env:=by rfl) (hpl:(backTo pos (starEach [.Name n q] X.env)).any (·.1)=false:=by rfl):PE X (.Call (.Name "isinstance" p) [a,.Name n q] [] pos) (dE X.K C τ (.d (.bl (gj t x)))):=by
 refine peW (je (oZ t) hg (B.blt _ (by decide)) (by decide +kernel) (cq ha (cq (mR (v:=.ty (tyN t)) hg' (B.blt _ hn) ht rfl h1 hdb) eA) he) (by decide) (by decide) he hpl) λσ H Q q=>?_
 obtain ⟨A,H₀,B,S,k⟩:=eF q
 exact aT S λv H1 e1 d1=>⟨_,v,x,aM,rfl,d1,k _ H1 e1 .bl⟩
end
end Hy
namespace Hy
open PySem PySem.Spec PyProof.Rows L2
open Ev (D Den aA aH aL az a6 aD)
section
variable {K:PySem.W.Frag} {A:Addr->Prop} {H₀ H H':Hp} {τ:List Sl} {B:Nat->List Addr} {σ:L2.St}
theorem Sta.put (S:Sta K A H₀ τ B σ H) {i:Nat} {a:Addr} {xs ys:List D} {vs:List V} (hi:τ[i]?=some (.o xs)) (hB:B i=[a]) (d:aA K (hd H (own A B)) vs ys):Sta K A H₀ (τ.set i (.o ys)) B σ (upd H a (.lst vs)):=by
 have ha:own A B a:=.inr ⟨i,by rw [hB]; exact List.mem_singleton.mpr rfl⟩
 have ne:∀ b,b ≠ a->upd H a (.lst vs) b=H b:=λb h=>ao h
 have sm:ai (hd H (own A B)) (hd (upd H a (.lst vs)) (own A B)):=λb o z=>by
   obtain ⟨z1,z2⟩:=aj.mp z
   exact aj.mpr ⟨z1,by rw [ne b (λe=>z1 (e ▸ ha))]; exact z2⟩
 have f0:H₀ a=none:=S.fr i a (by rw [hB]; exact List.mem_singleton.mpr rfl)
 have hs:ai H₀ (upd H a (.lst vs)):=λb o z=>by rw [ne b (λe=>by rw [e,f0] at z; cases z)]; exact S.same b o z
 refine ⟨hs,by rw [List.length_set,S.len],λj t hj=>?_,S.fr,S.uq,S.ad,λj b hb=>?_⟩
 · by_cases ej:j=i
   · subst ej
     have hl:=(List.getElem?_eq_some_iff.mp hi).1
     rw [List.getElem?_set_self hl] at hj
     cases hj
     obtain ⟨a',vs',e1,e2,_,_⟩:=S.sl j _ hi
     rw [hB] at e1
     cases e1
     exact ⟨a,vs,hB,e2,aF,d.mono sm⟩
   · rw [List.getElem?_set_ne (λz=>ej z.symm)] at hj
     have q:=S.sl j t hj
     have off:∀ b ∈ B j,b ≠ a:=λb hb e=>ej (S.uq j i a (e ▸ hb) (by rw [hB]; exact List.mem_singleton.mpr rfl))
     cases t with
     | un=>exact q
     | d x=>obtain ⟨z,u,e,d⟩:=q; exact ⟨z,u,e,d.mono sm⟩
     | o zs=>
       obtain ⟨c,ws,z1,z2,z3,z4⟩:=q
       exact ⟨c,ws,z1,z2,by rw [ne c (off c (by rw [z1]; exact List.mem_singleton.mpr rfl))]; exact z3,z4.mono sm⟩
     | n t=>
       obtain ⟨z0,u,z1,z2⟩:=q
       exact ⟨z0,u,z1,z2.frame sm λb hb=>ne b (off b hb)⟩
 · by_cases e:b=a
   · subst e; exact ⟨_,aF⟩
   · rw [ne b e]; exact S.bd j b hb
theorem Sta.fz (S:Sta K A H₀ τ B σ H) {i:Nat} {s:Sl} {x:D} (hi:τ[i]?=some s) (hx:fzD s=some x):Sta K A H₀ (τ.set i (.d x)) (upB B i []) σ H:=
 S.less (λ_ z=>nomatch z) λG g hv=>by
   obtain ⟨u,e,d⟩:=(S.sl i s hi).den (G':=G) g (λb hb o ho=>hv b o hb (λz=>nomatch z) ho) hx
   exact ⟨rfl,u,e,d⟩
theorem Sta.un (S:Sta K A H₀ τ B σ H) (i:Nat):Sta K A H₀ (τ.set i .un) (upB B i []) σ H:=S.less (λ_ z=>nomatch z) λG g hv=>rfl
end
section
variable {X:Cx} {C:Bool} {τ:List Sl} {x y z:D} {a b e c:Expr} {es:List Expr} {pos p:Pos} {k:Nat} {s:Sl} {ds:List D} {N:Po} {st:Stmt} {rest body els:List Stmt}
theorem aS (h:N.nx τ):PSs X [] (dS X.K τ N):=jm km λD σ H ⟨A,H₀,B,S,M⟩=>M.nx τ B σ H h S
theorem a7 {M:List Sl->Prop} (h1:PS X st (dS X.K τ { N with nx:=M })) (h2:∀ τ',M τ'->PSs X rest (dS X.K τ' N)):PSs X (st :: rest) (dS X.K τ N):=by
 have h:PSs X rest λD σ H=>∃ τ',M τ'/\dS X.K τ' N D σ H:=λpins s σ H D I ⟨τ',m,q⟩=>h2 τ' m pins s σ H D I q
 exact jm (i8 h1 h) λD σ H ⟨A,H₀,B,S,Me⟩=>⟨A,H₀,B,S,λτ' B' σ' H' m S'=>⟨τ',m,A,H₀,B',S',Me⟩,Me.bk,Me.ct,Me.rt⟩
theorem jJ (i:Nat) {s:Sl} {x:D} (h:PSs X rest (dS X.K (τ.set i (.d x)) N)) (hi:τ[i]?=some s:=by rfl) (hx:fzD s=some x:=by rfl):PSs X rest (dS X.K τ N):=jm h λD σ H ⟨A,H₀,B,S,Me⟩=>⟨A,H₀,_,S.fz hi hx,Me⟩
theorem aC (i:Nat) {n:Str} {p:Pos} (hN:X.N.Nodup) (he:PE X e (dE X.K true τ s)) (hr:PSs X rest (dS X.K (τ.set i s) N)) (hi:X.N[i]?=some n:=by rfl) (hx:Loc X.env.scope n:=by first | exact .inl rfl | exact .inr rfl) (hs:swapsWith e (some (.Name n p)) pos.line X.env=pure false:=by rfl)
   (hf:X.fn n=true\/X.env.scope.names.lookup n=some .local:=by first | exact .inl rfl | exact .inr rfl | assumption):PSs X (.Assign [.Name n p] e pos :: rest) (dS X.K τ N):=
 a7 (M:=(·=τ.set i s)) (psW (k4 hN hi hx he hs hf) λD σ H ⟨A,H₀,B,S,Me⟩=>⟨A,H₀,B,S,λv H' bs e hf h=>Me.nx _ _ _ _ rfl (S.set e hf h)⟩) λ_ e=>e ▸ hr
theorem pH (he:PE X e (dE X.K true τ s)) (hr:PSs X rest (dS X.K τ N)) (hs:swapsWith e none pos.line X.env=pure false:=by rfl):PSs X (.Expr e pos :: rest) (dS X.K τ N):=
 a7 (M:=(·=τ)) (psW (eV he hs) λD σ H ⟨A,H₀,B,S,Me⟩=>⟨A,H₀,B,S,λv H' bs e hf h=>Me.nx _ _ _ _ rfl (S.mono e)⟩) λ_ e=>e ▸ hr
theorem aE (he:PE X e (dE X.K false τ s)) (h:N.rt s):PSs X (.Return (some e) pos :: rest) (dS X.K τ N):=
 a7 (M:=λ_=>False) (psW (k7 he) λD σ H ⟨A,H₀,B,S,Me⟩=>⟨A,H₀,B,S,λv H' bs e hf q=>Me.rt v H' bs s h (S.same.trans e) (λb hb=>⟨S.same.free (hf b hb).1,(hf b hb).2⟩) q⟩) λ_ e=>e.elim
theorem mL (i:Nat) {n:Str} (h:N.rt s) (hi:τ[i]?=some s:=by rfl) (h0:s ≠ .un:=by exact nofun) (hN:X.N[i]?=some n:=by rfl) (hv:Vis X.env.scope n:=by first | exact Or.inl rfl | exact Or.inr (Or.inl rfl) | exact Or.inr (Or.inr rfl))
   (hd:(n == ("__debug__" : Str))=false:=by decide) (hcd:(n == ("__classdict__" : Str))=false:=by decide):PSs X (.Return (some (.Name n p)) pos :: rest) (dS X.K τ N):=
 a7 (M:=λ_=>False) (psW (k7 (bP hN hv hd hcd)) λD σ H ⟨A,H₀,B,S,Me⟩=>by
   have q:=S.sl i s hi
   obtain ⟨u,e⟩:∃ u,(σ[i]?).join=some u:=by
     cases s with
     | un=>exact absurd rfl h0
     | d x=>obtain ⟨_,u,e,_⟩:=q; exact ⟨u,e⟩
     | o xs=>obtain ⟨_,_,_,e,_⟩:=q; exact ⟨_,e⟩
     | n t=>obtain ⟨_,u,e,_⟩:=q; exact ⟨u,e⟩
   rw [e] at q
   exact ⟨u,slot_of e,Me.rt u H (B i) s h S.same (λb hb=>⟨S.fr i b hb,S.bd i b hb⟩) (q.mono (au (ai.refl _) λb z=>z.elim .inl λz=>.inr ⟨i,z⟩) (ai.refl _))⟩) λ_ e=>e.elim
theorem nJ {H H':Hp} {σ:L2.St} {D:Ends} {A:Addr->Prop} {H₀:Hp} {B:Nat->List Addr} (S:Sta X.K A H₀ τ B σ H) (Me:Meets X.K A H₀ N D) (e:ai H H'):dS X.K τ N D σ H':=⟨A,H₀,B,S.mono e,Me⟩
theorem q0 {t:Bool} (hc:PT X c (dT X.K τ t)) (ha:t=true->PSs X body (dS X.K τ N)) (hb:t=false->PSs X els (dS X.K τ N)):PS X (.If c body els pos) (dS X.K τ N):=by
 cases t with
 | true=>exact psW (nH hc (ha rfl) gB) λD σ H ⟨A,H₀,B,S,Me⟩=>⟨A,H₀,B,S,λH' e=>jA (nJ S Me e)⟩
 | false=>exact psW (nH hc gB (hb rfl)) λD σ H ⟨A,H₀,B,S,Me⟩=>⟨A,H₀,B,S,λH' e=>kM (nJ S Me e)⟩
theorem gR {t:Bool} {M:List Sl->Prop} (hc:PT X c (dT X.K τ t)) (ha:t=true->PSs X body (dS X.K τ { N with nx:=M })) (hb:t=false->PSs X els (dS X.K τ { N with nx:=M })) (hr:∀ τ',M τ'->PSs X rest (dS X.K τ' N)):PSs X (.If c body els pos :: rest) (dS X.K τ N):=
 a7 (q0 hc ha hb) hr
theorem d0 {t:Bool} (hc:PT X c (dT X.K τ t)) (ha:t=true->PSs X body (dS X.K τ { N with nx:=λ_=>False })) (hr:t=false->PSs X rest (dS X.K τ N)):PSs X (.If c body [] pos :: rest) (dS X.K τ N):=by
 cases t with
 | true=>exact gR (M:=λ_=>False) hc ha (λz=>nomatch z) λ_ z=>z.elim
 | false=>exact gR (M:=(·=τ)) hc (λz=>nomatch z) (λ_=>aS rfl) λ_ e=>e ▸ hr rfl
theorem bH {t:Bool} (hc:PT X c (dT X.K τ t)) (ht:t=false) (hr:PSs X rest (dS X.K τ N)):PSs X (.If c body [] pos :: rest) (dS X.K τ N):=d0 hc (λz=>by rw [ht] at z; cases z) λ_=>hr
theorem jZ (i:Nat) {n:Str} {xs:List D} {ap cp:Pos} (he:PE X e (dE X.K true τ (.d x))) (hl:xs.length < 1000000) (hr:PSs X rest (dS X.K (τ.set i (.o (xs++[x]))) N)) (hi:τ[i]?=some (.o xs):=by rfl) (hN:X.N[i]?=some n:=by rfl)
   (hv:Vis X.env.scope n:=by first | exact Or.inl rfl | exact Or.inr (Or.inl rfl) | exact Or.inr (Or.inr rfl)) (hd:(n == ("__debug__" : Str))=false:=by decide) (hcd:(n == ("__classdict__" : Str))=false:=by decide)
   (hfew:((backTo cp (starEach [e] X.env)).all (λx=>!x.1) && (backToKw cp (keywordEach [] X.env)).all (λx=>x.1.isSome) && decide (([e]:List Expr).length + ([]:List Keyword).length + (if ([]:List Keyword).isEmpty then 0 else 1) < 30))=true:=by rfl)
   (hline:(ap.endLine == cp.line)=true:=by rfl) (hst:starEach [e] X.env=(false,eval e X.env) :: starEach [] X.env:=by rfl) (hpl:(backTo cp (starEach [] X.env)).any (·.1)=false:=by rfl)
   (hs:swapsWith (.Call (.Attribute (.Name n p) "append" ap) [e] [] cp) none pos.line X.env=pure false:=by rfl) (hbase:attributeBase (.Name n p) "append" X.env (eval (.Name n p) X.env)=eval (.Name n p) X.env:=by rfl) :
   PSs X (.Expr (.Call (.Attribute (.Name n p) "append" ap) [e] [] cp) pos :: rest) (dS X.K τ N):=
 a7 (M:=(·=τ.set i (.o (xs++[x])))) (psW (eV (lB PySem.F.plainAttrs_list PySem.F.slot_list_append PySem.F.type_list_append bZ (bP hN hv hd hcd) (cq he eA hst) hbase hfew hline hst hpl) hs) λD σ H ⟨A,H₀,B,S,Me⟩=>by
   obtain ⟨l,vs,hb,e1,e2,d⟩:=S.sl i _ hi
   refine ⟨_,slot_of e1,.inl ⟨rfl,_,SqL.of e2⟩,aT S λv H1 e3 d1=>⟨l,vs,v,rfl,rfl,e3 _ _ e2,by rw [d.length]; exact Nat.lt_trans hl (by decide),?_⟩⟩
   exact Me.nx _ _ _ _ rfl ((S.mono e3).put hi hb ((d.mono (au e3 λ_ z=>z)).append (.cons d1 .nil)))) λ_ e=>e ▸ hr
theorem j6 {K:PySem.W.Frag} {H:Hp}:∀ {vs:List V} {ds:List D} {v:V} {d:D} (j:Nat),aA K H vs ds->Den K H v d->aA K H (vs.set j v) (ds.set j d)
 | _,_,_,_,_,.nil,_=>.nil
 | _,_,_,_,0,.cons _ r,h=>.cons h r
 | _,_,_,_,j + 1,.cons h' r,h=>.cons h' (j6 j r h)
theorem iH (i:Nat) {n:Str} {xs:List D} {m:Int} {j:Nat} {ix:Expr} {sp:Pos} (hx:PE X ix (dE X.K false τ (.d (.int m)))) (he:PE X e (dE X.K true τ (.d x))) (hj:ixN xs.length m=some j) (hr:PSs X rest (dS X.K (τ.set i (.o (xs.set j x))) N)) (hi:τ[i]?=some (.o xs):=by rfl) (hN:X.N[i]?=some n:=by rfl)
   (hv:Vis X.env.scope n:=by first | exact Or.inl rfl | exact Or.inr (Or.inl rfl) | exact Or.inr (Or.inr rfl)) (hd:(n == ("__debug__" : Str))=false:=by decide) (hcd:(n == ("__classdict__" : Str))=false:=by decide)
   (hs:swapsWithSole [.Subscript (.Name n p) ix sp] e pos.line X.env=pure false:=by rfl) (hw:swappedStores [.Subscript (.Name n p) ix sp] e X.env=pure none:=by rfl) (h1:(assignEach [.Subscript (.Name n p) ix sp] X.env).map (·.2)=[assign (.Subscript (.Name n p) ix sp) X.env]:=by rfl)
   (ha:∀ v,assign (.Subscript (.Name n p) ix sp) X.env v=(do
     let ov <- holding [v] (eval (.Name n p) X.env)
     let iv <- holding [v,ov] (eval ix X.env)
     standAt sp
     holding [v,ov,iv] (setItem ov iv v)
     release [v,ov,iv] []):=by intro _; rfl) :
   PSs X (.Assign [.Subscript (.Name n p) ix sp] e pos :: rest) (dS X.K τ N):=
 a7 (M:=(·=τ.set i (.o (xs.set j x)))) (psW (kY he (oq (bP hN hv hd hcd) hx set_list ha) hs hw h1) λD σ H ⟨A,H₀,B,S,Me⟩=>aT S λv H1 e1 d1=>by
   obtain ⟨l,vs,hb,f1,f2,d⟩:=(S.mono e1).sl i _ hi
   refine ⟨_,slot_of f1,aT (S.mono e1) λw H2 e2 d2=>?_⟩
   cases d2
   refine ⟨l,vs,m,j,rfl,rfl,e2 _ _ f2,by rw [d.length]; exact hj,?_⟩
   exact Me.nx _ _ _ _ rfl (((S.mono e1).mono e2).put hi hb (j6 j (d.mono (au e2 λ_ z=>z)) (d1.mono (au e2 λ_ z=>z))))) λ_ e=>e ▸ hr
end
end Hy
namespace Hy
open PySem PySem.Spec PyProof.Rows L2
open Ev (D Den aA az a6 aD Ite Itz Itv qQ pC pg kl jq jl ax cW cx PTs cc cX)
noncomputable def Yl (K:PySem.W.Frag) (J:L2.It) (xs:List D) (G:Hp):Prop:=∀ H,ai G H->(∀ i,xs.length<=i->J.stop i H)/\∀ (i:Nat) (h:i < xs.length),J.go i H /\
 ∀ x H',J.yld i H x H'->ai H H'/\∀ M:Addr->Prop,(∀ b,M b->∃ o,H b=some o)->ai G (hd H M)->Den K (hd H' M) x xs[i]
noncomputable def dI (K:PySem.W.Frag) (τ:List Sl) (xs:List D):TI:=λσ H R=>∃ A H₀ B,Sta K A H₀ τ B σ H/\∀ J H',ai H H'->Yl K J xs (hd H' (own A B))->R J H'
noncomputable def dG (K:PySem.W.Frag) (τ:List Sl) (x:D) (τ':List Sl):TG:=λv σ H Q=>∃ A H₀ B,Sta K A H₀ τ B σ H/\Den K (hd H (own A B)) v x/\∀ σ' B',Sta K A H₀ τ' B' σ' H->Q σ' H
theorem piW {X:Cx} {tg e:Expr} {t t':TI} (h:PI X tg e t) (f:∀ σ H Q,t' σ H Q->t σ H Q):PI X tg e t':=λpins s σ H Q I q=>h pins s σ H Q I (f σ H Q q)
theorem pgW {X:Cx} {e:Expr} {t t':TG} (h:PG X e t) (f:∀ v σ H Q,t' v σ H Q->t v σ H Q):PG X e t':=λpins s σ H v u Q I r q=>h pins s σ H v u Q I r (f v σ H Q q)
section
variable {K:PySem.W.Frag} {G:Hp} {a:Addr} {vs:List V} {xs:List D}
theorem mQ (h:SqL K G a vs) (r:aA K G vs xs):Yl K (Itl K a) xs G:=by
 intro H sg
 have hl:=r.length
 refine ⟨λi hi=>⟨vs,aD sg h,by omega⟩,λi hi=>?_⟩
 obtain ⟨v,hv,dv⟩:=r.get (List.getElem?_eq_getElem hi)
 refine ⟨⟨vs,v,aD sg h,hv⟩,λx H' ⟨e1,e2⟩=>?_⟩
 subst e1
 have ex:x=v:=by have:=e2 vs (aD sg h); rw [hv] at this; exact (Option.some.inj this).symm
 subst ex
 exact ⟨ai.refl _,λM _ sv=>dv.mono sv⟩
noncomputable def eQ (lo:Int) (n:Nat):List D:=(List.range n).map λk=>D.int (lo + (k:Nat))
theorem aI (lo:Int) (n:Nat):(eQ lo n).length=n:=by simp [eQ]
theorem kq (lo:Int) (n i:Nat) (h:i < (eQ lo n).length):(eQ lo n)[i]=.int (lo + (i:Nat)):=by simp [eQ]
theorem px (lo:Int) (n:Nat):Yl K (Itr lo n) (eQ lo n) G:=by
 intro H sg
 refine ⟨λi hi=>by rw [aI] at hi; exact hi,λi hi=>?_⟩
 have hi':i < n:=by rw [aI] at hi; exact hi
 refine ⟨hi',λx H' ⟨e1,e2⟩=>?_⟩
 subst e1 e2
 refine ⟨ai.refl _,λM _ sv=>?_⟩
 rw [kq]
 exact .int
noncomputable def gS (xs:List D):List D:=(List.range xs.length).map λi=>D.tup [.int (i:Nat),xs.getD i .non]
theorem dz (xs:List D):(gS xs).length=xs.length:=by simp [gS]
theorem j3 (xs:List D) (i:Nat) (h:i < (gS xs).length):(gS xs)[i]=.tup [.int (i:Nat),xs.getD i .non]:=by simp [gS]
theorem pq (h:SqL K G a vs) (r:aA K G vs xs):Yl K (Ite K a) (gS xs) G:=by
 intro H sg
 have hl:=r.length
 have el:=dz xs
 refine ⟨λi hi=>⟨vs,aD sg h,by omega⟩,λi hi=>?_⟩
 have hi':i < xs.length:=by omega
 obtain ⟨v,hv,dv⟩:=r.get (List.getElem?_eq_getElem hi')
 refine ⟨⟨vs,v,aD sg h,hv⟩,λy H' ⟨p,x,hp,e0,e1,e2⟩=>?_⟩
 subst e0 e1
 have ex:x=v:=by have:=e2 vs (aD sg h); rw [hv] at this; exact (Option.some.inj this).symm
 subst ex
 refine ⟨az hp _,λM hM sv=>?_⟩
 rw [j3,show xs.getD i .non=xs[i] by simp [List.getD,hi']]
 exact .tup (SqT.of (jw hM hp)) (.cons .int (.cons (dv.mono (sv.trans (au (az hp _) λ_ z=>z))) .nil))
end
section
variable {X:Cx} {C:Bool} {τ:List Sl} {x y z:D} {a b e c tg it:Expr} {es:List Expr} {pos p q:Pos} {k:Nat} {s:Sl} {xs:List D} {N:Po} {st:Stmt} {rest body els:List Stmt}
theorem bU (h:PE X it (dE X.K true τ (.d (.lst xs)))):PI X tg it (dI X.K τ xs):=piW (j9 h) λσ H R ⟨A,H₀,B,S,k⟩=>aT S λv H1 e1 d1=>by
 cases d1 with
 | lst h r=>exact ⟨_,rfl,⟨_,aD aM h⟩,k _ H1 e1 (mQ h r)⟩
theorem eN {n:Int} (B:Bk X k) (h:PE X a (dE X.K false τ (.d (.int n)))) (h1:-(2 ^ 62)<=n) (h2:n < 2 ^ 62) (hg:Gl X "range":=by rfl) (hs:starEach [a] X.env=[(false,eval a X.env)]:=by rfl):PI X tg (.Call (.Name "range" p) [a] [] pos) (dI X.K τ (eQ 0 n.toNat)):=
 piW (kJ hg (B.blt _ (by decide)) (ab h af hs) hs) λσ H R ⟨A,H₀,B,S,k⟩=>dU S λvs H1 e1 d1=>by
   cases d1 with
   | cons d r=>
     cases r
     cases d
     exact ⟨n,rfl,h1,h2,k _ H1 e1 (px 0 _)⟩
theorem nW {ts:List Expr} {m:Nat} {tp:Pos} (B:Bk X k) (h:PE X a (dE X.K true τ (.d (.lst xs)))) (hg:Gl X "enumerate":=by rfl) (hs:starEach [a] X.env=[(false,eval a X.env)]:=by rfl):PI X (.Tuple ts m tp) (.Call (.Name "enumerate" p) [a] [] pos) (dI X.K τ (gS xs)):=
 piW (kl hg (B.blt _ (by decide)) (ab h af hs) hs) λσ H R ⟨A,H₀,B,S,k⟩=>dU S λvs H1 e1 d1=>by
   cases d1 with
   | cons d r=>
     cases r
     cases d with
     | lst h r=>exact ⟨_,rfl,⟨_,aD aM h⟩,k _ H1 e1 (pq h r)⟩
theorem oR (i:Nat) {n:Str} (hN:X.N.Nodup) (hi:X.N[i]?=some n:=by rfl) (hx:Loc X.env.scope n:=by first | exact .inl rfl | exact .inr rfl) (hf:X.fn n=true\/X.env.scope.names.lookup n=some .local:=by first | exact .inl rfl | exact .inr rfl | assumption):PG X (.Name n p) (dG X.K τ x (τ.set i (.d x))):=
 pgW (cS (i:=i) hN hi hx hf) λv σ H Q ⟨A,H₀,B,S,d,k⟩=>k _ _ (S.set (ai.refl _) (bs:=[]) (λ_ z=>nomatch z) (fj d))
theorem nR (i j:Nat) {n m:Str} {p2 pt:Pos} {md:Nat} (hc:X.calm=true) (hN:X.N.Nodup) (hi:X.N[i]?=some n:=by rfl) (hj:X.N[j]?=some m:=by rfl) (hx:Loc X.env.scope n:=by first | exact .inl rfl | exact .inr rfl) (hy:Loc X.env.scope m:=by first | exact .inl rfl | exact .inr rfl)
   (hf:X.fn n=true\/X.env.scope.names.lookup n=some .local:=by first | exact .inl rfl | exact .inr rfl | assumption) (hf':X.fn m=true\/X.env.scope.names.lookup m=some .local:=by first | exact .inl rfl | exact .inr rfl | assumption) :
   PG X (.Tuple [.Name n p,.Name m p2] md pt) (dG X.K τ (.tup [x,y]) ((τ.set i (.d x)).set j (.d y))):=by
 refine pgW (mh hc (fT (cS (i:=i) hN hi hx hf) (fT (cS (i:=j) hN hj hy hf') jO))) λv σ H Q ⟨A,H₀,B,S,d,k⟩=>?_
 cases d with
 | tup h r=>
   cases r with
   | cons d1 r=>
     cases r with
     | cons d2 r=>
       cases r
       have S1:=S.set (i:=i) (ai.refl _) (bs:=[]) (λ_ z=>nomatch z) (fj d1)
       have sub:∀ b,own A (upB B i []) b->own A B b:=λb z=>z.elim .inl λ⟨j,z⟩=>(aO z).elim (λz=>nomatch z.2) λz=>.inr ⟨j,z.2⟩
       exact ⟨_,_,rfl,a6 aM h,rfl,_,_,rfl,_,_,rfl,rfl,k _ _ (S1.set (i:=j) (ai.refl _) (bs:=[]) (λ_ z=>nomatch z) (fj (d2.mono (au (ai.refl _) sub))))⟩
theorem Sta.base {K:PySem.W.Frag} {A:Addr->Prop} {H₀ H:Hp} {τ:List Sl} {B:Nat->List Addr} {σ:L2.St} (S:Sta K A H₀ τ B σ H):ai H₀ (hd H λb=>∃ i,b ∈ B i)/\Sta K A (hd H λb=>∃ i,b ∈ B i) τ B σ H:=by
 have s0:ai H₀ (hd H λb=>∃ i,b ∈ B i):=λb o h=>aj.mpr ⟨λ⟨i,z⟩=>(by rw [S.fr i b z] at h; cases h),S.same _ _ h⟩
 exact ⟨s0,aM,S.len,S.sl,λi b hb=>by
   cases e:hd H (λb=>∃ i,b ∈ B i) b with
   | none=>rfl
   | some o=>exact absurd ⟨i,hb⟩ (aj.mp e).1,S.uq,λb hb=>let ⟨o,q⟩:=S.ad b hb; ⟨o,s0 _ _ q⟩,S.bd⟩
theorem Sta.back {K:PySem.W.Frag} {A:Addr->Prop} {H₀ G H:Hp} {τ:List Sl} {B:Nat->List Addr} {σ:L2.St} (S:Sta K A G τ B σ H) (s:ai H₀ G) (ad:∀ b,A b->∃ o,H₀ b=some o):Sta K A H₀ τ B σ H:=
 ⟨s.trans S.same,S.len,S.sl,λi b hb=>s.free (S.fr i b hb),S.uq,ad,S.bd⟩
theorem mw {M:Nat->List Sl->Prop} {T:Nat->List Sl->List Sl} (B:Bk X k) (hi:PI X tg it (dI X.K τ xs)) (h0:M 0 τ) (hg:∀ i (h:i < xs.length) τ',M i τ'->PG X tg (dG X.K τ' xs[i] (T i τ')))
   (hb:∀ i,i < xs.length->∀ τ',M i τ'->PSs X body (dS X.K (T i τ') { N with nx:=M (i + 1),ct:=M (i + 1),bk:=N.nx })) (hn:∀ τ',M xs.length τ'->N.nx τ')
   (hs:∀ x,foldedSetIterable it X.env x=pure x:=by intro _; rfl):PS X (.For tg it body [] pos) (dS X.K τ N):=by
 have hg':PG X tg λv σ H Q=>∃ (i:Nat) (h:i < xs.length) (τ':List Sl),M i τ'/\dG X.K τ' xs[i] (T i τ') v σ H Q:=λpins s σ H v u Q I r ⟨i,h,τ',m,q⟩=>hg i h τ' m pins s σ H v u Q I r q
 have hb':PSs X body λD σ H=>∃ i τ',i < xs.length/\M i τ'/\dS X.K (T i τ') { N with nx:=M (i + 1),ct:=M (i + 1),bk:=N.nx } D σ H:=λpins s σ H D I ⟨i,τ',h,m,q⟩=>hb i h τ' m pins s σ H D I q
 refine psW (mK B.po B.calm hi hg' hb' hs) λD σ H ⟨A,H₀,B,S,Me⟩=>⟨A,H₀,B,S,λJ H1 e1 yl=>?_⟩
 obtain ⟨s0,S1⟩:=(S.mono e1).base
 have sub:∀ {H'},ai (hd H1 λb=>∃ i,b ∈ B i) H'->ai (hd H1 (own A B)) H':=λe=>(au (ai.refl _) λ_ z=>.inr z).trans e
 refine ⟨λi m σ' H'=>m=xs.length - i/\i<=xs.length/\∃ τ' B',M i τ'/\Sta X.K A (hd H1 λb=>∃ i,b ∈ B i) τ' B' σ' H',⟨xs.length,rfl,Nat.zero_le _,τ,B,h0,S1⟩,?_⟩
 rintro i m σ' H' ⟨rfl,hi,τ',B',hM,S'⟩
 obtain ⟨y1,y2⟩:=yl H' (sub S'.same)
 by_cases hlt:i < xs.length
 · obtain ⟨g,y⟩:=y2 i hlt
   refine .inr ⟨g,λσ2 H2=>∃ τ2 B2,M (i + 1) τ2/\Sta X.K A (hd H1 λb=>∃ i,b ∈ B i) τ2 B2 σ2 H2,λσ2 H2 q=>⟨xs.length - (i + 1),by omega,rfl,hlt,q⟩,λx H2 hy=>?_⟩
   obtain ⟨e2,dx⟩:=y x H2 hy
   have S2:=S'.mono e2
   refine ⟨i,hlt,τ',hM,A,_,B',S2,dx (own A B') S'.dm ?_,λσ3 B3 S3=>⟨i,τ',hlt,hM,A,_,B3,S3,?_⟩⟩
   · intro b o z
     obtain ⟨z1,z2⟩:=aj.mp z
     have z3:hd H1 (λb=>∃ i,b ∈ B i) b=some o:=aj.mpr ⟨λy=>z1 (.inr y),z2⟩
     refine aj.mpr ⟨λy=>?_,S'.same _ _ z3⟩
     rcases y with y | ⟨l,y⟩
     · exact z1 (.inl y)
     · rw [S'.fr l b y] at z3; cases z3
   · exact ⟨λτ3 B3 σ3 H3 m S3=>⟨τ3,B3,m,S3⟩,λτ3 B3 σ3 H3 m S3=>Me.nx τ3 B3 σ3 H3 m (S3.back s0 S.ad),λτ3 B3 σ3 H3 m S3=>⟨τ3,B3,m,S3⟩,
       λv H3 bs s3 hr e3 hf q=>Me.rt v H3 bs s3 hr (s0.trans e3) (λb hb=>⟨s0.free (hf b hb).1,(hf b hb).2⟩) q⟩
 · have e:i=xs.length:=by omega
   subst e
   exact .inl ⟨y1 _ (Nat.le_refl _),Me.nx τ' B' σ' H' (hn τ' hM) (S'.back s0 S.ad)⟩
theorem gz (j:Nat) {n:Str} (M:Nat->List Sl->Prop) {g:Nat->D} (B:Bk X k) (hN:X.N.Nodup) (hi:PI X (.Name n p) it (dI X.K τ xs)) (hx:∀ i (h:i < xs.length),xs[i]=g i) (h0:M 0 τ)
   (hb:∀ i,i < xs.length->∀ τ',M i τ'->PSs X body (dS X.K (τ'.set j (.d (g i))) { N with nx:=M (i + 1),ct:=M (i + 1),bk:=λ_=>False }))
   (hr:∀ τ',M xs.length τ'->PSs X rest (dS X.K τ' N)) (hs:∀ x,foldedSetIterable it X.env x=pure x:=by intro _; rfl) (hi':X.N[j]?=some n:=by rfl) (hl:Loc X.env.scope n:=by first | exact .inl rfl | exact .inr rfl)
   (hf:X.fn n=true\/X.env.scope.names.lookup n=some .local:=by first | exact .inl rfl | exact .inr rfl | assumption):PSs X (.For (.Name n p) it body [] pos :: rest) (dS X.K τ N):=
 a7 (M:=M xs.length) (mw (M:=M) (T:=λi τ'=>τ'.set j (.d (g i))) B hi h0 (λi h τ' m=>by rw [hx i h]; exact oR j hN hi' hl hf)
   (λi h τ' m=>jm (hb i h τ' m) λD σ H ⟨A,H₀,B,S,Me⟩=>⟨A,H₀,B,S,Me.nx,λ_ _ _ _ z=>z.elim,Me.ct,Me.rt⟩) (λ_ m=>m) hs) hr
theorem iB (j l:Nat) {n m:Str} {p2 pt:Pos} {md:Nat} (M:Nat->List Sl->Prop) {g g':Nat->D} (B:Bk X k) (hN:X.N.Nodup) (hi:PI X (.Tuple [.Name n p,.Name m p2] md pt) it (dI X.K τ xs)) (hx:∀ i (h:i < xs.length),xs[i]=.tup [g i,g' i]) (h0:M 0 τ)
   (hb:∀ i,i < xs.length->∀ τ',M i τ'->PSs X body (dS X.K ((τ'.set j (.d (g i))).set l (.d (g' i))) { N with nx:=M (i + 1),ct:=M (i + 1),bk:=λ_=>False }))
   (hr:∀ τ',M xs.length τ'->PSs X rest (dS X.K τ' N)) (hs:∀ x,foldedSetIterable it X.env x=pure x:=by intro _; rfl) (hi':X.N[j]?=some n:=by rfl) (hj':X.N[l]?=some m:=by rfl) (hl:Loc X.env.scope n:=by first | exact .inl rfl | exact .inr rfl) (hl':Loc X.env.scope m:=by first | exact .inl rfl | exact .inr rfl)
   (hf:X.fn n=true\/X.env.scope.names.lookup n=some .local:=by first | exact .inl rfl | exact .inr rfl | assumption) (hf':X.fn m=true\/X.env.scope.names.lookup m=some .local:=by first | exact .inl rfl | exact .inr rfl | assumption):PSs X (.For (.Tuple [.Name n p,.Name m p2] md pt) it body [] pos :: rest) (dS X.K τ N):=
 a7 (M:=M xs.length) (mw (M:=M) (T:=λi τ'=>(τ'.set j (.d (g i))).set l (.d (g' i))) B hi h0 (λi h τ' m=>by rw [hx i h]; exact nR j l B.calm hN hi' hj' hl hl' hf hf')
   (λi h τ' m=>jm (hb i h τ' m) λD σ H ⟨A,H₀,B,S,Me⟩=>⟨A,H₀,B,S,Me.nx,λ_ _ _ _ z=>z.elim,Me.ct,Me.rt⟩) (λ_ m=>m) hs) hr
theorem eG {n:Nat} (i:Nat) (h:i < (eQ 0 n).length):(eQ 0 n)[i]=.int (i:Nat):=by rw [kq,Int.zero_add]
theorem iQ {bs:List Int} (i:Nat) (h:i < (bs.map D.int).length):(bs.map D.int)[i]=.int (bs.getD i 0):=by
 have:i < bs.length:=by simpa using h
 simp [this]
theorem nS {bs:List Int} (i:Nat) (h:i < (gS (bs.map D.int)).length):(gS (bs.map D.int))[i]=.tup [.int (i:Nat),.int (bs.getD i 0)]:=by
 have:i < bs.length:=by rw [dz] at h; simpa using h
 rw [j3]
 simp [this]
end
end Hy
namespace Hy
open PySem PySem.Spec PyProof.Rows L2
open Ev (D Den aA az a6 aD ax cW cx PTs cc cX i5)
noncomputable def slot:List Str->Str->Option Nat
 | [],_=>none
 | y :: r,x=>if x=y then some 0 else (slot r x).map (· + 1)
theorem slot_get:∀ {N:List Str} {x:Str} {i:Nat},slot N x=some i->N[i]?=some x
 | [],_,_,h=>by cases h
 | y :: r,x,i,h=>by
   unfold slot at h
   split at h
   · cases h; rename_i e; rw [e]; rfl
   · cases e:slot r x with
     | none=>rw [e] at h; cases h
     | some j=>rw [e] at h; cases h; simpa using slot_get e
noncomputable def kZ (scope sc:Scope):Scope:={ scope with names:=scope.names.map λ(n,k)=>if (k == .free && sc.kind == .function && sc.names.lookup n == some .cell) then (n,.cell) else (n,k) }
noncomputable def bNm (scope:Scope):List Str:=(scope.names.filter λp=>(p.2 == .local || p.2 == .cell || p.2 == .free) && p.1 != (".0" : Str)).map (·.1)
noncomputable def bCp (No:List Str) (scope:Scope):List (Option Nat):=(bNm scope).map λx=>if (x,NameKind.free) ∈ scope.names then slot No x else none
noncomputable def bOk (sc scope:Scope):Bool:=
 scope.kind == .function && scope.names.all (λp=>p.2 != .local || scope.names.lookup p.1 == some .local) && scope.names.all (λp=>p.2 != .free || sc.names.lookup p.1 == some .cell)
   && scope.names.all (λp=>p.2 != .free || (!decide ((p.1,NameKind.cell) ∈ scope.names) && !decide ((p.1,NameKind.local) ∈ scope.names))) && decide (bNm scope++[("#" : Str)]).Nodup
   && (kZ scope sc).names.all (λp=>p.1 != ("#" : Str))
theorem lj {a b:Bool} (h:(a && b)=true):a=true/\b=true:=by rw [Bool.and_eq_true] at h; exact h
theorem l7 {x:Str} {q:NameKind}:∀ {names:List (Str × NameKind)},names.lookup x=some q->(x,q) ∈ names
 | (y,k) :: r,h=>by
   rw [List.lookup_cons] at h
   split at h
   · rename_i e; cases h; rw [eq_of_beq e]; exact List.mem_cons_self ..
   · exact List.mem_cons_of_mem _ (l7 h)
theorem dZ {X:Cx} {scope:Scope} (h:bOk X.env.scope scope=true):cx X scope (bNm scope++[("#" : Str)]) (bCp X.N scope)/\(bNm scope++[("#" : Str)]).Nodup:=by
 unfold bOk at h
 obtain ⟨h,h6⟩:=lj h
 obtain ⟨h,h5⟩:=lj h
 obtain ⟨h,h4⟩:=lj h
 obtain ⟨h,h3⟩:=lj h
 obtain ⟨h1,h2⟩:=lj h
 rw [List.all_eq_true] at h2 h3 h4 h6
 refine ⟨⟨eq_of_beq h1,λx hx hk=>?_,λx hx hk=>?_,λx hx hm=>?_,λx hx hm=>?_,?_,λj i hj=>?_,?_⟩,of_decide_eq_true h5⟩
 · have:=h2 x hx; rw [hk] at this; simpa using this
 · have:=h3 x hx; rw [hk] at this; show X.env.scope.names.lookup x.1=_; simpa using this
 · have:=h4 _ hx; simp [hm] at this
 · have:=h4 _ hx; simp [hm] at this
 · unfold bCp; rw [List.length_append,List.length_map]; rfl
 · unfold bCp at hj
   rw [List.getElem?_map] at hj
   cases e:(bNm scope)[j]? with
   | none=>rw [e] at hj; cases hj
   | some x=>
     rw [e] at hj
     simp only [Option.map_some,Option.some.injEq] at hj
     split at hj
     · exact ⟨x,by rw [List.getElem?_append_left (List.getElem?_eq_some_iff.mp e).1]; exact e,slot_get hj,by assumption⟩
     · cases hj
 · refine ⟨("#" : Str),?_,λhv=>?_⟩
   · unfold bCp; rw [List.length_map,List.getElem?_append_right (Nat.le_refl _),Nat.sub_self]; rfl
   · have key:∀ q,(kZ scope X.env.scope).names.lookup ("#" : Str) ≠ some q:=λq hq=>by
       have:=h6 _ (l7 hq)
       simp at this
     rcases hv with hv | hv | hv <;> exact key _ hv
noncomputable abbrev cpX (X:Cx) (s:Shared) (H:Hp) (scope:Scope) (fp:List Addr):Cx:=ax X s H scope (bNm scope++[("#" : Str)]) fp
theorem Bk.comp {X:Cx} {k:Nat} (B:Bk X k) (s:Shared) (H:Hp) (scope:Scope) (fp:List Addr):Bk (cpX X s H scope fp) k:=⟨B.room,B.calm,B.blt,PassesOwn.never⟩
noncomputable def aX (τ:List Sl) (caps:List (Option Nat)):List Sl:=caps.map λo=>match o with
 | some i=>match τ[i]? with
   | some (.d x)=>.d x
   | _=>.un
 | none=>.un
theorem ib {X:Cx}:PTs X [] λ_ H Q=>Q true H:=λpins s σ H Q I q=>by
 show wpAny _ _ (pure true) _ _ _
 exact wpAny_pure ⟨H,I,q⟩
section
variable {X:Cx} {C:Bool} {τ:List Sl} {x y z:D} {a b e c tg it elt:Expr} {es ifs:List Expr} {pos p q:Pos} {k:Nat} {xs:List D} {scope:Scope}
structure Cmp (X:Cx) (elt tg it:Expr) (ifs:List Expr) (scope:Scope) (τ:List Sl) (ys:List D):Prop where
 ex:∃ (In:TG->TT->TE->Prop) (caps:List (Option Nat)) (N:List Str) (wi:TI),cx X scope N caps/\PI X tg it wi/\(∀ g tt te,In g tt te->∀ s H fp,PG (ax X s H scope N fp) tg g/\PTs (ax X s H scope N fp) ifs tt/\PE (ax X s H scope N fp) elt te) /\
   ∀ C σ H Q,dE X.K C τ (.o ys) σ H Q->cX In caps wi σ H Q
 hs:∀ x,foldedSetIterable it X.env x=pure x
 hc:X.calm=true
theorem fI {ys:List D} (h:Cmp X elt tg it ifs scope τ ys):PE X (.ListComp elt [⟨tg,it,ifs,0⟩] scope pos) (dE X.K C τ (.o ys)):=by
 obtain ⟨In,caps,N,wi,h1,h2,h3,h4⟩:=h.ex
 exact peW (cc h.hc h1 h2 h.hs h3) (h4 C)
theorem jy (i:Nat) {n:Str} {p spos:Pos} {rest:List Stmt} {N:Po} {ys:List D} {s:Sl} (hN:X.N.Nodup) (h:Cmp X elt tg it ifs scope τ ys) (hz:s=.o ys\/s=.d (.lst ys)) (hr:PSs X rest (dS X.K (τ.set i s) N)) (hi:X.N[i]?=some n:=by rfl) (hx:Loc X.env.scope n:=by first | exact .inl rfl | exact .inr rfl)
   (hsw:swapsWith (.ListComp elt [⟨tg,it,ifs,0⟩] scope pos) (some (.Name n p)) spos.line X.env=pure true:=by rfl) (hf:X.fn n=true\/X.env.scope.names.lookup n=some .local:=by first | exact .inl rfl | exact .inr rfl | assumption) :
   PSs X (.Assign [.Name n p] (.ListComp elt [⟨tg,it,ifs,0⟩] scope pos) spos :: rest) (dS X.K τ N):=by
 obtain ⟨In,caps,N',wi,h1,h2,h3,h4⟩:=h.ex
 have h5:∀ σ H Q,dE X.K true τ s σ H Q->cX In caps wi σ H Q:=by
   rcases hz with rfl | rfl
   · exact h4 true
   · intro σ H Q q
     obtain ⟨A,H₀,B,S,k⟩:=eF q
     refine h4 true σ H Q ⟨A,H₀,B,S,λv H' bs e hf q=>?_⟩
     obtain ⟨u,e1,d⟩:=q.den (G':=Hy.hd H' (vw true A B)) (au (ai.refl _) λ_ z=>.inl z) (λb hb o ho=>aj.mpr ⟨λz=>(by obtain ⟨_,q⟩:=S.vd (C:=true) b z; rw [(hf b hb).1] at q; cases q),ho⟩) rfl
     cases e1
     exact k v H' e d
 exact a7 (M:=(·=τ.set i s)) (psW (i5 (cS (i:=i) hN hi hx hf) h.hc h1 h2 h.hs h3 hsw) λD σ H ⟨A,H₀,B,S,Me⟩=>h5 _ _ _ ⟨A,H₀,B,S,λv H' bs e hf h=>Me.nx _ _ _ _ rfl (S.set e hf h)⟩) λ_ e=>e ▸ hr
theorem lG {T:Nat->List Sl} {t:Nat->Bool} {f:Nat->D} (B:Bk X k) (hc:bOk X.env.scope scope=true) (hi:PI X tg it (dI X.K τ xs)) (hT:∀ i,(T i).length=(aX τ (bCp X.N scope)++[Sl.un]).length/\∀ (l:Nat) (x:D),(aX τ (bCp X.N scope)++[Sl.un])[l]?=some (.d x)->(T i)[l]?=some (.d x))
   (hg:∀ i (h:i < xs.length) s H fp,PG (cpX X s H scope fp) tg (dG X.K (aX τ (bCp X.N scope)++[Sl.un]) xs[i] (T i)))
   (ht:∀ i,i < xs.length->∀ s H fp,PTs (cpX X s H scope fp) ifs (dT X.K (T i) (t i)))
   (he:∀ i,i < xs.length->t i=true->∀ s H fp,PE (cpX X s H scope fp) elt (dE X.K true (T i) (.d (f i)))) (hl:xs.length < 1000000) (hs:∀ x,foldedSetIterable it X.env x=pure x:=by intro _; rfl) :
   Cmp X elt tg it ifs scope τ (((List.range xs.length).filter t).map f):=by
 obtain ⟨cap,_⟩:=dZ hc
 generalize hτ:aX τ (bCp X.N scope)++[Sl.un]=τb at *
 refine ⟨⟨λg tt te=>g=(λv σ H Q=>∃ (i:Nat) (h:i < xs.length),dG X.K τb xs[i] (T i) v σ H Q)/\tt=(λσ H Q=>∃ i,i < xs.length/\dT X.K (T i) (t i) σ H Q)/\te=(λσ H Q=>∃ i,i < xs.length/\t i=true/\dE X.K true (T i) (.d (f i)) σ H Q),_,_,_,cap,hi,?_,?_⟩,hs,B.calm⟩
 · rintro g tt te ⟨rfl,rfl,rfl⟩ s H fp
   exact ⟨λpins s' σ H' v u Q I r ⟨i,h,q⟩=>hg i h s H fp pins s' σ H' v u Q I r q,λpins s' σ H' Q I ⟨i,h,q⟩=>ht i h s H fp pins s' σ H' Q I q,λpins s' σ H' Q I ⟨i,h,h',q⟩=>he i h h' s H fp pins s' σ H' Q I q⟩
 rintro C σ H Q ⟨A,H₀,B,S,kk⟩
 refine ⟨A,H₀,B,S,λJ H1 e1 yl=>⟨_,_,_,⟨rfl,rfl,rfl⟩,λD hD=>?_⟩⟩
 have S1:=S.mono e1
 have nD:¬ own A B D:=λz=>by obtain ⟨o,q⟩:=S1.dm D z; rw [hD] at q; cases q
 have noN:∀ (l:Nat) (t:Nd),τb[l]?=some (.n t)->0 ≠ 0:=λl t h=>by
   exfalso
   rw [<- hτ] at h
   have:=List.mem_of_getElem? h
   rcases List.mem_append.mp this with z | z
   · unfold aX at z
     obtain ⟨o,_,ho⟩:=List.mem_map.mp z
     split at ho
     · split at ho <;> cases ho
     · cases ho
   · cases List.mem_singleton.mp z
 have slots:∀ {σ':L2.St} {H':Hp},ai H1 H'->(∃ o,H' D=some o)->σ'.length=τb.length->(∀ (l:Nat) (s:Sl),τb[l]?=some s->bq X.K (hd H' λb=>own A B b\/b=D) H' (σ'[l]?).join [] s)->Sta X.K (λb=>own A B b\/b=D) H' τb (λ_=>[]) σ' H':=λ{σ' H'} e1 e2 e3 e4=>
   ⟨ai.refl _,e3,λl s h=>(e4 l s h).mono (au (ai.refl _) λ_ z=>z.elim id λ⟨_,z⟩=>(nomatch z)) (ai.refl _),λ_ _ z=>(nomatch z),λ_ _ _ z=>(nomatch z),λb z=>z.elim (λz=>let ⟨o,q⟩:=S1.dm b z; ⟨o,e1 _ _ q⟩) λz=>z ▸ e2,λ_ _ z=>(nomatch z)⟩
 refine ⟨λi m σ' H'=>m=xs.length - i/\i<=xs.length/\ai H1 H'/\(∃ vs,H' D=some (.lst vs)/\vs.length<=i/\aA X.K (hd H' λb=>own A B b\/b=D) vs (((List.range i).filter t).map f)) /\
   σ'.length=τb.length/\∀ (l:Nat) (s:Sl),τb[l]?=some s->bq X.K (hd H' λb=>own A B b\/b=D) H' (σ'[l]?).join [] s,⟨xs.length,rfl,Nat.zero_le _,az hD _,⟨[],aF,Nat.le_refl _,.nil⟩,?_,λl s h=>?_⟩,?_⟩
 · rw [<- hτ]; unfold cW aX; rw [List.length_append,List.length_append,List.length_map,List.length_map]; rfl
 · have hv:ai (hd H (own A B)) (hd (upd H1 D (.lst [])) λb=>own A B b\/b=D):=λb o z=>by
     obtain ⟨z1,z2⟩:=aj.mp z
     have z2:=e1 _ _ z2
     have ne:b ≠ D:=λz=>by rw [z,hD] at z2; cases z2
     exact aj.mpr ⟨λy=>y.elim z1 ne,by rw [ao ne]; exact z2⟩
   cases s with
   | un=>rfl
   | d x=>
     rw [<- hτ] at h
     have hlt:l < (bCp X.N scope).length:=by
       rcases Nat.lt_or_ge l (bCp X.N scope).length with h' | h'
       · exact h'
       · exfalso
         rw [List.getElem?_append_right (by unfold aX; rw [List.length_map]; exact h')] at h
         cases e:l - (aX τ (bCp X.N scope)).length with
         | zero=>rw [e] at h; cases h
         | succ n=>rw [e] at h; cases h
     rw [List.getElem?_append_left (by unfold aX; rw [List.length_map]; exact hlt)] at h
     rw [List.getElem?_append_left (by unfold cW; rw [List.length_map]; exact hlt)]
     unfold aX at h
     unfold cW
     rw [List.getElem?_map] at h ⊢
     cases e:(bCp X.N scope)[l]? with
     | none=>rw [e] at h; cases h
     | some o=>
       rw [e] at h
       cases o with
       | none=>cases h
       | some i=>
         simp only [Option.map_some,Option.some.injEq] at h
         split at h
         · rename_i x' hx'
           cases h
           obtain ⟨_,u,eu,d⟩:=S.sl i _ hx'
           exact ⟨rfl,u,by simpa using eu,d.mono hv⟩
         · cases h
   | o xs'=>
     exfalso
     rw [<- hτ] at h
     have:=List.mem_of_getElem? h
     rcases List.mem_append.mp this with z | z
     · unfold aX at z
       obtain ⟨o,_,ho⟩:=List.mem_map.mp z
       split at ho
       · split at ho <;> cases ho
       · cases ho
     · cases List.mem_singleton.mp z
   | n t'=>
     exfalso
     rw [<- hτ] at h
     have:=List.mem_of_getElem? h
     rcases List.mem_append.mp this with z | z
     · unfold aX at z
       obtain ⟨o,_,ho⟩:=List.mem_map.mp z
       split at ho
       · split at ho <;> cases ho
       · cases ho
     · cases List.mem_singleton.mp z
 rintro i m σ' H' ⟨rfl,hi,e2,⟨vs,hv1,hv2,hv3⟩,hlen,hsl⟩
 obtain ⟨y1,y2⟩:=yl H' (aM.trans e2)
 by_cases hlt:i < xs.length
 · obtain ⟨g,y⟩:=y2 i hlt
   refine .inr ⟨g,λx H2 hy=>?_⟩
   obtain ⟨e3,dx⟩:=y x H2 hy
   have S2:Sta X.K (λb=>own A B b\/b=D) H' τb (λ_=>[]) σ' H':=slots e2 ⟨_,hv1⟩ hlen hsl
   have o0:∀ b,own (λb=>own A B b\/b=D) (λ_=>([]:List Addr)) b->own A B b\/b=D:=λb z=>z.elim id λ⟨_,z⟩=>(nomatch z)
   have dx':=dx _ S2.dm (λb o z=>by
     obtain ⟨z1,z2⟩:=aj.mp z
     exact aj.mpr ⟨λy=>(o0 b y).elim z1 λy=>(by rw [y,hD] at z2; cases z2),e2 _ _ z2⟩)
   refine ⟨i,hlt,_,_,_,S2.mono e3,dx',λσ2 B2 S3=>?_⟩
   have hB2:∀ j b,b ∈ B2 j->b ≠ D:=λj b hb z=>by
     have:=S3.fr j b hb
     rw [z,hv1] at this
     cases this
   have back:∀ {H5:Hp},ai H2 H5->σ2.length=τb.length/\∀ (l:Nat) (s:Sl),τb[l]?=some s->bq X.K (hd H5 λb=>own A B b\/b=D) H5 (σ2[l]?).join [] s:=λ{H5} e5=>by
     refine ⟨S3.len.trans (hT i).1,λl s h=>?_⟩
     cases s with
     | un=>rfl
     | d x=>
       obtain ⟨_,u,eu,d⟩:=S3.sl l _ ((hT i).2 l x h)
       exact ⟨rfl,u,eu,d.mono (au e5 λ_ z=>.inl z)⟩
     | o xs'=>exact absurd (hsl l _ h) (λ⟨_,_,z,_⟩=>(nomatch z))
     | n t'=>exact absurd rfl (noN l t' h)
   refine ⟨i,hlt,_,_,_,S3,λH4 e4=>?_⟩
   cases ht:t i with
   | false=>
     rw [if_neg Bool.false_ne_true]
     obtain ⟨b1,b2⟩:=back e4
     refine ⟨xs.length - (i + 1),by omega,rfl,hlt,e2.trans (e3.trans e4),⟨vs,e4 _ _ (e3 _ _ hv1),by omega,?_⟩,b1,b2⟩
     rw [List.range_succ,List.filter_append,List.map_append,List.filter_cons,ht]
     simpa using hv3.mono (au (e3.trans e4) λ_ z=>z)
   | true=>
     rw [if_pos rfl]
     refine ⟨i,hlt,ht,aT (S3.mono e4) λv H5 e5 d5=>?_⟩
     have e6:=e3.trans (e4.trans e5)
     have hv5:=e6 _ _ hv1
     refine ⟨vs,xs.length - (i + 1),hv5,Nat.lt_trans (Nat.lt_of_le_of_lt hv2 (Nat.lt_trans hlt hl)) (by decide),by omega,rfl,hlt,?_,?_⟩
     · intro b o z
       have ne:b ≠ D:=λy=>by rw [y,hD] at z; cases z
       rw [ao ne]
       exact e6 _ _ (e2 _ _ z)
     have sm:ai (hd H5 λb=>own A B b\/b=D) (hd (upd H5 D (.lst (vs++[v]))) λb=>own A B b\/b=D):=λb o z=>by
       obtain ⟨z1,z2⟩:=aj.mp z
       exact aj.mpr ⟨z1,by rw [ao λy=>z1 (.inr y)]; exact z2⟩
     obtain ⟨b1,b2⟩:=back (e4.trans e5)
     refine ⟨⟨vs++[v],aF,by rw [List.length_append]; exact Nat.succ_le_succ hv2,?_⟩,b1,λl s h=>?_⟩
     · rw [List.range_succ,List.filter_append,List.map_append,List.filter_cons,ht,if_pos rfl]
       refine aA.append (hv3.mono ((au e6 λ_ z=>z).trans sm)) (.cons (d5.mono ((au (ai.refl _) λ_ z=>.inl z).trans sm)) .nil)
     · cases s with
       | un=>rfl
       | d x=>obtain ⟨z1,u,eu,d⟩:=b2 l _ h; exact ⟨z1,u,eu,d.mono sm⟩
       | o xs'=>exact absurd (hsl l _ h) (λ⟨_,_,z,_⟩=>(nomatch z))
       | n t'=>exact absurd rfl (noN l t' h)
 · have e:i=xs.length:=by omega
   subst e
   refine .inl ⟨y1 _ (Nat.le_refl _),kk _ _ [D] (e1.trans e2) (λb hb=>?_) ⟨D,vs,rfl,rfl,hv1,hv3.mono (au (ai.refl _) λb z=>z.elim (λz=>.inl (fV z)) λz=>.inr (List.mem_singleton.mp z))⟩⟩
   obtain rfl:=List.mem_singleton.mp hb
   exact ⟨e1.free hD,_,hv1⟩
theorem cmp (j:Nat) {n:Str} {g f:Nat->D} (B:Bk X k) (hi:PI X (.Name n p) it (dI X.K τ xs)) (hx:∀ i (h:i < xs.length),xs[i]=g i) (hl:xs.length < 1000000)
   (he:∀ i,i < xs.length->∀ s H fp,PE (cpX X s H scope fp) elt (dE X.K true ((aX τ (bCp X.N scope)++[Sl.un]).set j (.d (g i))) (.d (f i))))
   (hc:bOk X.env.scope scope=true:=by kernel_rfl) (hu:(aX τ (bCp X.N scope)++[Sl.un])[j]?=some .un:=by rfl) (hN:(bNm scope++[("#" : Str)])[j]?=some n:=by rfl) (hv:∀ s H fp,Loc (cpX X s H scope fp).env.scope n:=by intro _ _ _; first | exact .inl rfl | exact .inr rfl)
   (hf:∀ s H fp,(cpX X s H scope fp).fn n=true\/(cpX X s H scope fp).env.scope.names.lookup n=some .local:=by intro _ _ _; first | exact .inr rfl | exact .inl rfl) (hs:∀ x,foldedSetIterable it X.env x=pure x:=by intro _; rfl) :
   Cmp X elt (.Name n p) it [] scope τ ((List.range xs.length).map f):=by
 have h:=lG (T:=λi=>(aX τ (bCp X.N scope)++[Sl.un]).set j (.d (g i))) (t:=λ_=>true) (f:=f) (elt:=elt) (ifs:=[]) B hc hi (λi=>⟨List.length_set,λl x h=>?_⟩) (λi h s H fp=>?_) (λi h s H fp=>?_) (λi h _ s H fp=>he i h s H fp) hl hs
 · rwa [List.filter_eq_self.mpr λ_ _=>rfl] at h
 · rw [List.getElem?_set_ne (λz=>by rw [<- z,hu] at h; cases h)]
   exact h
 · rw [hx i h]
   exact oR j (dZ hc).2 hN (hv s H fp) (hf s H fp)
 · exact λpins s' σ H' Q I ⟨A,H₀,B,S,q⟩=>ib pins s' σ H' Q I (q H' (ai.refl _))
end
section
variable {P:Program} {w:World} {K:PySem.W.Frag} {mg:Str->Option Value} {base:Heap}
noncomputable def pw (N:List Str) (ds:List D):List Sl:=ds.map .d++List.replicate (N.length - ds.length) .un
noncomputable abbrev Xc (P:Program) (w:World) (K:PySem.W.Frag) (mg:Str->Option Value) (base:Heap) (N:List Str) (qual:Str) (st:Stmt) (f:Addr) (cdv:Value) (A:Around) (outer:List Env) (s:Shared) (H:Hp) (E:XK):Cx:=(jz CX0 P w K mg base N qual (ah st) f cdv A outer s H E).nox
theorem fnD {x qual:Str} {st:Stmt} {f:Addr} {fd:FuncData} {N ps:List Str} {k:Nat} {Φ:List D->Sl->Prop} (F:Fun K x qual st f fd) (S:ar N ps (ah st)) (hb:∀ x ∈ ak,mg x=none) (len:∀ ds r,Φ ds r->ds.length=ps.length)
   (body:∀ ds r,Φ ds r->∀ cdv A outer s H E,Bk (Xc P w K mg base N qual st f cdv A outer s H E) k->PSs (Xc P w K mg base N qual st f cdv A outer s H E) (ba st) (dS K (pw N ds) { nx:=λ_=>r=.d .non,rt:=λr'=>r'=r })) :
   aK P w K mg base CX0 (k + 1) f fd ps (spD K Φ):=by
 refine F.ok S (λvs H Q E ⟨A,ds,r,_,d,h,_⟩=>d.length.trans (len ds r h)) λcdv A outer s H vs Q E hr ⟨A',ds,r,ha,d,h,q⟩=>⟨_,body ds r h cdv A outer s H E ⟨hr,rfl,hb,PassesOwn.never⟩,A',H,λ_=>[],⟨ai.refl _,?_,λi s hi=>?_,λ_ _ z=>(nomatch z),λ_ _ _ z=>(nomatch z),ha,λ_ _ z=>(nomatch z)⟩,λτ B σ H' h S=>?_,λ_ _ _ _ h=>h.elim,λ_ _ _ _ h=>h.elim,λv H' bs s h e hf z=>?_⟩
 · unfold L2.start pw
   simp [d.length]
 · have hl:=d.length
   unfold pw at hi
   unfold L2.start
   by_cases hlt:i < ds.length
   · rw [List.getElem?_append_left (by simpa using hlt),List.getElem?_map,List.getElem?_eq_getElem hlt] at hi
     cases hi
     obtain ⟨v,e,dv⟩:=d.get (List.getElem?_eq_getElem hlt)
     refine ⟨rfl,v,?_,dv.mono (au (ai.refl _) λ_ z=>z.elim id λ⟨_,z⟩=>(nomatch z))⟩
     rw [List.getElem?_append_left (by simpa [hl] using hlt),List.getElem?_map,e]
     rfl
   · rw [List.getElem?_append_right (by simpa using hlt),List.getElem?_replicate] at hi
     split at hi
     · cases hi; rfl
     · cases hi
 · obtain rfl:=(h:r=_)
   exact q .non H' [] S.same cD (fj .non)
 · obtain rfl:=(h:s=r)
   exact q v H' bs e hf z
theorem nc {K:PySem.W.Frag} {Φ:List D->Sl->Prop} (hΦ:∀ ns:List Int,ns.length<=63->Φ [.lst (ns.map .int)] (.d (.bl true))) (H:Hp) (a:Addr) (ns:List Int) (hl:ns.length<=63) (hS:SqL K H a (ns.map V.int)):spD K Φ [.ref a] H (λv _=>v=.bl true) λ_ _ _=>False:=by
 have hh:hd H (λ_=>False)=H:=by funext b; unfold hd; rw [if_neg id]
 refine ⟨λ_=>False,_,_,λ_ z=>z.elim,.cons (.lst (vs:=ns.map V.int) (by rw [hh]; exact hS) ?_) .nil,hΦ ns hl,λv H' bs _ _ h=>?_⟩
 · clear hl hS
   induction ns with
   | nil=>exact .nil
   | cons n ns ih=>exact .cons .int ih
 · obtain ⟨_,u,e,d⟩:=h
   cases e
   cases d
   rfl
end
end Hy
namespace Hy
open PySem PySem.Spec PyProof.Rows L2
open Ev (D Den aA aH aL az a6 aD)
section
variable {X:Cx} {C:Bool} {τ:List Sl} {x y z:D} {a b e:Expr} {es:List Expr} {pos p:Pos} {k:Nat} {s:Sl} {ds:List D} {i j:Int}
theorem nC:OpR X (binaryOp .Add) (λx y H Q=>∃ l b xs zs,x=.ref l/\y=.ref b/\SqL X.K H l xs/\SqL X.K H b zs/\xs.length + zs.length<=sizeLine/\∀ p,H p=none->Q (.ref p) (upd H p (.lst (xs++zs)))):=by
 intro pins s σ H x y v u Q I rx ry h
 obtain ⟨l,b,xs,zs,rfl,rfl,hH,hB,hz,q⟩:=h
 cases rx
 cases ry
 obtain ⟨its,r,pl,_⟩:=I.list hH
 obtain ⟨its2,r2,pl2,_⟩:=I.list hB
 have hl:=r.length
 have hl2:=r2.length
 obtain ⟨⟨cls,dd,data,sl⟩,ho,hc,n,hd⟩:=pl.isList
 obtain ⟨⟨cls2,dd2,data2,sl2⟩,ho2,hc2,n2,hd2⟩:=pl2.isList
 simp only at hc hd hc2 hd2
 subst hc hd hc2 hd2
 have e:its.toArray++its2.toArray=(its++its2).toArray:=by simp
 refine concat_meets ⟨_,ho,rfl⟩ ⟨_,ho2,rfl⟩ noFill_list_add seq_list_add PySem.F.slot_list_add PySem.F.entry_list_add (PySem.F.args_list_add_2 _ _) (list_addW l b its.toArray its2.toArray n n2 dd dd2 sl sl2 (by rw [List.size_toArray,List.size_toArray]; omega)) ⟨ho,ho2,?_⟩
 rw [e]
 exact ⟨.ref _,_,I.qK (t':=s.toks) (r.append r2) (by rw [List.length_append]; omega),rfl,q _ I.fresh⟩
theorem pY {xs ys:List D} (ha:PE X a (dE X.K C τ (.d (.lst xs)))) (hb:PE X b (dE X.K C τ (.d (.lst ys)))) (hl:xs.length + ys.length < 1000000):PE X (.BinOp a .Add b pos) (dE X.K C τ (.o (xs++ys))):=peW (l4 nC ha hb) λσ H Q ⟨A,H₀,B,S,k⟩=>
 aT S λv H1 e1 d1=>aT (S.mono e1) λw H2 e2 d2=>by
   cases d1 with
   | lst h1 r1=>cases d2 with
     | lst h2 r2=>
       refine ⟨_,_,_,_,rfl,rfl,aD (aM.trans e2) h1,aD aM h2,by rw [r1.length,r2.length]; exact Nat.le_of_lt (Nat.lt_trans hl (by decide)),λp hp=>?_⟩
       obtain ⟨z1,z2,z3⟩:=il (K:=X.K) hp ((r1.mono (au e2 λ_ z=>z)).append r2)
       exact k _ _ [p] (e1.trans (e2.trans z1)) (λb hb=>⟨(e1.trans e2).free (z2 b hb).1,(z2 b hb).2⟩) z3
theorem mkL (h:i.natAbs < 2 ^ 60):aH i j:=.inl (by
 rcases Nat.eq_zero_or_pos i.natAbs with z | z
 · rw [z]; decide
 · exact Nat.lt_trans ((Nat.log2_lt (by omega)).mpr h) (by decide))
theorem mkR (h:j.natAbs < 2 ^ 60):aH i j:=.inr (.inl (by
 rcases Nat.eq_zero_or_pos j.natAbs with z | z
 · rw [z]; decide
 · exact Nat.lt_trans ((Nat.log2_lt (by omega)).mpr h) (by decide)))
theorem mkD (h0:j ≠ 0) (h:j.natAbs < 2 ^ 62):aL j:=⟨h0,Nat.lt_trans ((Nat.log2_lt (by omega)).mpr h) (by decide)⟩
end
theorem ag {α:Type} {xs:List α} {i:Nat} {x:α} (h:xs[i]?=some x):atI xs (i:Int)=some x:=by
 unfold atI ixN
 have:=(List.getElem?_eq_some_iff.mp h).1
 rw [if_pos (by omega),if_pos (by omega)]
 simpa using h
theorem aY {ns:List Int} {i:Int} (h0:0<=i) (h:i.toNat < ns.length):atI (ns.map D.int) i=some (.int (ns.getD i.toNat 0)):=by
 obtain ⟨n,rfl⟩:=Int.eq_ofNat_of_zero_le h0
 exact ag (by
   have h:n < ns.length:=h
   simp [h])
theorem iD {xs:List D} (n:Nat):cutD xs none (some (n:Int))=xs.take n:=by
 unfold cutD
 rw [HT.iA,HT.mC,List.drop_zero,Nat.sub_zero]
 rcases Nat.le_total n xs.length with h | h
 · rw [Nat.min_eq_left h]
 · rw [Nat.min_eq_right h,List.take_of_length_le (Nat.le_refl _),List.take_of_length_le h]
theorem jN {xs:List D} (m n:Nat):cutD xs (some (m:Int)) (some (n:Int))=(xs.take n).drop m:=by
 unfold cutD
 rw [HT.iA,HT.iA]
 rw [<- List.drop_take]
 rcases Nat.le_total n xs.length with h | h
 · rw [Nat.min_eq_left h]
   rcases Nat.le_total m xs.length with h' | h'
   · rw [Nat.min_eq_left h']
   · rw [Nat.min_eq_right h',List.drop_eq_nil_of_le (by simp; omega),List.drop_eq_nil_of_le (by simp; omega)]
 · rw [Nat.min_eq_right h,List.take_of_length_le (Nat.le_refl _),List.take_of_length_le h]
   rcases Nat.le_total m xs.length with h' | h'
   · rw [Nat.min_eq_left h']
   · rw [Nat.min_eq_right h',List.drop_eq_nil_of_le (Nat.le_refl _),List.drop_eq_nil_of_le h']
theorem getD_none {α:Type} {xs:List α} {i:Nat} {d:α} (h:xs.length<=i):xs.getD i d=d:=by simp [List.getD,h]
theorem ex1 {α:Type} {p:α->Prop} {a:α} (h:p a):∃ a,p a:=⟨a,h⟩
theorem ex3 {α:Type} {p:α->α->α->Prop} {a b c:α} (h:p a b c):∃ a b c,p a b c:=⟨a,b,c,h⟩
end Hy
namespace Hy
open PySem PySem.Spec PyProof.Rows L2
open Ev (D Den aA)
noncomputable def Dfn (K:PySem.W.Frag) (x:Str) (st:Stmt) (f:Addr):Prop:=PySem.W.nsIn K mainGlobals x=some (some (.ref f))/\(∃ oc od kV dc pm an cd ct sl,K.lookup f=some ⟨oc,od,.func (PySem.W.fnOf x x (bo st) (ba st) (ah st) .none kV dc pm an cd ct),sl⟩/\PySem.W.codeIn K cd x=true)/\PySem.W.keepIn K (.ref f)=true
noncomputable def BdA (x:Str) (st:Stmt) (ps:List Str):Prop:=∀ (kV dc pm:Value) (an:Option Addr) (cd ct:Value) (us:List Value),us.length=ps.length->bindArgs (PySem.W.fnOf x x (bo st) (ba st) (ah st) .none kV dc pm an cd ct) ⟨us,[]⟩=pure (ps.zip us)
noncomputable def nsL (K:PySem.W.Frag):List Str->Prop
 | []=>True
 | x :: r=>PySem.W.nsIn K mainGlobals x=some none/\nsL K r
section
variable {P:Program} {w:World} {K:PySem.W.Frag} {h:Heap} {mg:Str->Option Value} {base:Heap} {x:Str} {st:Stmt} {f:Addr} {ps:List Str} {k:Nat} {Φ:List D->Sl->Prop}
theorem Dfn.of {oc:Value} {od an:Option Addr} {kV dc pm cd ct:Value} {sl:Array (Option Value)} (a:PySem.W.nsIn K mainGlobals x=some (some (.ref f))) (l:K.lookup f=some ⟨oc,od,.func (PySem.W.fnOf x x (bo st) (ba st) (ah st) .none kV dc pm an cd ct),sl⟩) (c:PySem.W.codeIn K cd x=true) (k:PySem.W.keepIn K (.ref f)=true):Dfn K x st f:=⟨a,⟨_,_,_,_,_,_,_,_,_,l,c⟩,k⟩
theorem nsL.none (X:K.In h) (G:h.Ns mainGlobals mg):∀ {l:List Str},nsL K l->∀ x ∈ l,mg x=none
 | _ :: _,z,x,m=>by
   rcases List.mem_cons.mp m with rfl | m
   · exact PySem.W.mg_none_of X G z.1
   · exact nsL.none X G z.2 x m
theorem Dfn.fn (d:Dfn K x st f) (X:K.In h) (G:h.Ns mainGlobals mg) (b:BdA x st ps):∃ fd,Fun K x x st f fd/\mg x=some (.ref f)/\PySem.W.keepIn K (.ref f)=true/\Binds K fd ps []:=by
 obtain ⟨a,⟨oc,od,kV,dc,pm,an,cd,ct,sl,l,c'⟩,q⟩:=d
 have F:=jH l c' q
 exact ⟨_,F,PySem.W.mg_of X G a,q,F.binds (b kV dc pm an cd ct)⟩
theorem Dfn.cal (d:Dfn K x st f) (X:K.In h) (G:h.Ns mainGlobals mg) (b:BdA x st ps) (o:∀ fd,Fun K x x st f fd->aK P w K mg base CX0 k f fd ps (spD K Φ)):Cal P w K mg base k x Φ:=by
 obtain ⟨fd,F,h1,h2,h3⟩:=d.fn X G b
 exact ⟨f,fd,ps,o fd F,h1,h2,h3⟩
end
theorem bd1 {Q:List Value->Prop} (h:∀ a,Q [a]):∀ us:List Value,us.length=1->Q us:=λus e=>match us,e with | [a],_=>h a
theorem bd2 {Q:List Value->Prop} (h:∀ a b,Q [a,b]):∀ us:List Value,us.length=2->Q us:=λus e=>match us,e with | [a,b],_=>h a b
theorem bd3 {Q:List Value->Prop} (h:∀ a b c,Q [a,b,c]):∀ us:List Value,us.length=3->Q us:=λus e=>match us,e with | [a,b,c],_=>h a b c
theorem bd4 {Q:List Value->Prop} (h:∀ a b c d,Q [a,b,c,d]):∀ us:List Value,us.length=4->Q us:=λus e=>match us,e with | [a,b,c,d],_=>h a b c d
theorem bd6 {Q:List Value->Prop} (h:∀ a b c d e f,Q [a,b,c,d,e,f]):∀ us:List Value,us.length=6->Q us:=λus e=>match us,e with | [a,b,c,d,f,g],_=>h a b c d f g
end Hy
namespace Hy
open PySem PySem.Spec PyProof.Rows L2
open Ev (D Den aA az a6 aD)
noncomputable def eP:List Nat->Nd->Option Nd
 | [],t=>some t
 | i :: p,.l xs=>(xs[i]?).bind (eP p)
 | i :: p,.t xs=>(xs[i]?).bind (eP p)
 | _ :: _,.d _=>none
noncomputable def cL:List Nat->Nd->Nd->Nd
 | [],_,n=>n
 | i :: p,.l xs,n=>.l (xs.set i (cL p (xs.getD i (.d .non)) n))
 | i :: p,.t xs,n=>.t (xs.set i (cL p (xs.getD i (.d .non)) n))
 | _ :: _,.d x,_=>.d x
noncomputable def bE (H:Hp):List Nat->V->V->Prop
 | [],u,v=>v=u
 | i :: p,u,v=>∃ a vs w,u=.ref a/\(H a=some (.lst vs)\/H a=some (.tup vs))/\vs[i]?=some w/\bE H p w v
theorem bE.mono {H H':Hp} (e:ai H H'):∀ {p:List Nat} {u v:V},bE H p u v->bE H' p u v
 | [],_,_,h=>h
 | _ :: _,_,_,⟨a,vs,w,h1,h2,h3,h4⟩=>⟨a,vs,w,h1,h2.elim (λz=>.inl (e _ _ z)) (λz=>.inr (e _ _ z)),h3,h4.mono e⟩
theorem bE.snoc {H:Hp} {i:Nat} {a:Addr} {vs:List V} {w:V}:∀ {p:List Nat} {u:V},bE H p u (.ref a)->(H a=some (.lst vs)\/H a=some (.tup vs))->vs[i]?=some w->bE H (p++[i]) u w
 | [],_,h,h1,h2=>⟨a,vs,w,h.symm,h1,h2,rfl⟩
 | _ :: _,_,⟨b,us,x,z1,z2,z3,z4⟩,h1,h2=>⟨b,us,x,z1,z2,z3,z4.snoc h1 h2⟩
section
variable {K:PySem.W.Frag} {G H:Hp}
theorem ay.length:∀ {vs:List V} {bs:List Addr} {xs:List Nd},ay K G H vs bs xs->vs.length=xs.length
 | _,_,_,.nil=>rfl
 | _,_,_,.cons _ r=>congrArg (· + 1) r.length
theorem ay.part:∀ {vs:List V} {bs:List Addr} {xs:List Nd} {i:Nat} {c:Nd},ay K G H vs bs xs->xs[i]?=some c->∃ v l m r,vs[i]?=some v/\bs=l++(m++r)/\aU K G H v m c /\
   ∀ {G' H':Hp} {m':List Addr} {c':Nd},ai G G'->(∀ b,b ∈ l\/b ∈ r->H' b=H b)->aU K G' H' v m' c'->ay K G' H' vs (l++(m'++r)) (xs.set i c')
 | _,_,_,_,_,.nil,e=>by cases e
 | _,_,_,0,_,.cons (b1:=b1) (b2:=b2) h r,e=>by
   cases e
   exact ⟨_,[],b1,b2,rfl,rfl,h,λg e h'=>by rw [List.nil_append]; exact .cons h' (r.frame g λb hb=>e b (.inr hb))⟩
 | _,_,_,i + 1,c,.cons (b1:=b1) h r,e=>by
   obtain ⟨v,l,m,q,h1,h2,h3,h4⟩:=ay.part (i:=i) (c:=c) r (by simpa using e)
   refine ⟨v,b1++l,m,q,by simpa using h1,by rw [h2,List.append_assoc],h3,λ{G' H' m' c'} g e h'=>?_⟩
   rw [List.append_assoc]
   exact .cons (h.frame g λb hb=>e b (.inl (List.mem_append_left _ hb))) (h4 g (λb hb=>e b (hb.elim (λz=>.inl (List.mem_append_right _ z)) .inr)) h')
theorem aU.focus:∀ (p:List Nat) {u:V} {bs:List Addr} {t c:Nd},aU K G H u bs t->eP p t=some c->∃ v l m r,bE H p u v/\bs=l++(m++r)/\aU K G H v m c /\
   ∀ {G' H':Hp} {m':List Addr} {c':Nd},ai G G'->(∀ b,b ∈ l\/b ∈ r->H' b=H b)->aU K G' H' v m' c'->aU K G' H' u (l++(m'++r)) (cL p t c')
 | [],u,bs,tr,c,h,e=>by
   cases e
   exact ⟨u,[],bs,[],rfl,by simp,h,λg _ h'=>by simpa [cL] using h'⟩
 | i :: p,_,_,.l xs,c,.l (a:=a) (bs:=bs) hH r,e=>by
   rw [eP] at e
   cases ei:xs[i]? with
   | none=>rw [ei] at e; cases e
   | some x=>
     rw [ei] at e
     obtain ⟨v,l,m,q,h1,h2,h3,h4⟩:=r.part ei
     obtain ⟨w,l',m',q',g1,g2,g3,g4⟩:=aU.focus p h3 e
     refine ⟨w,a :: (l++l'),m',q'++q,⟨a,_,v,rfl,.inl hH,h1,g1⟩,by rw [h2,g2]; simp,g3,λ{G' H' m2 c2} g e2 h'=>?_⟩
     have k1:=g4 g (λb hb=>e2 b (hb.elim (λz=>.inl (List.mem_cons_of_mem _ (List.mem_append_right _ z))) λz=>.inr (List.mem_append_left _ z))) h'
     have k2:=h4 g (λb hb=>e2 b (hb.elim (λz=>.inl (List.mem_cons_of_mem _ (List.mem_append_left _ z))) λz=>.inr (List.mem_append_right _ z))) k1
     rw [cL,show xs.getD i (.d .non)=x by simp [List.getD,ei]]
     have k3:=aU.l (G:=G') (K:=K) (a:=a) (by rw [e2 a (.inl (List.mem_cons_self ..))]; exact hH) k2
     simpa using k3
 | i :: p,_,_,.t xs,c,.t (a:=a) (bs:=bs) hH r,e=>by
   rw [eP] at e
   cases ei:xs[i]? with
   | none=>rw [ei] at e; cases e
   | some x=>
     rw [ei] at e
     obtain ⟨v,l,m,q,h1,h2,h3,h4⟩:=r.part ei
     obtain ⟨w,l',m',q',g1,g2,g3,g4⟩:=aU.focus p h3 e
     refine ⟨w,a :: (l++l'),m',q'++q,⟨a,_,v,rfl,.inr hH,h1,g1⟩,by rw [h2,g2]; simp,g3,λ{G' H' m2 c2} g e2 h'=>?_⟩
     have k1:=g4 g (λb hb=>e2 b (hb.elim (λz=>.inl (List.mem_cons_of_mem _ (List.mem_append_right _ z))) λz=>.inr (List.mem_append_left _ z))) h'
     have k2:=h4 g (λb hb=>e2 b (hb.elim (λz=>.inl (List.mem_cons_of_mem _ (List.mem_append_left _ z))) λz=>.inr (List.mem_append_right _ z))) k1
     rw [cL,show xs.getD i (.d .non)=x by simp [List.getD,ei]]
     have k3:=aU.t (G:=G') (K:=K) (a:=a) (by rw [e2 a (.inl (List.mem_cons_self ..))]; exact hH) k2
     simpa using k3
theorem bE.det:∀ {p:List Nat} {u v w:V},bE H p u v->bE H p u w->v=w
 | [],_,_,_,h,h'=>h.trans h'.symm
 | _ :: _,_,_,_,⟨a,vs,x,h1,h2,h3,h4⟩,⟨b,us,y,g1,g2,g3,g4⟩=>by
   rw [h1] at g1
   cases g1
   have e:vs=us:=by
     rcases h2 with h2 | h2 <;> rcases g2 with g2 | g2 <;> rw [h2] at g2 <;> cases g2 <;> rfl
   subst e
   rw [h3] at g3
   cases g3
   exact h4.det g4
theorem bq.frame {G' H':Hp} (g:ai G G') {v:Option V} {bs:List Addr}:∀ {s:Sl},(∀ b ∈ bs,H' b=H b)->bq K G H v bs s->bq K G' H' v bs s
 | .un,_,h=>h
 | .d _,_,⟨h,u,e1,h2⟩=>⟨h,u,e1,h2.mono g⟩
 | .o _,e,⟨a,vs,h1,h2,h3,h4⟩=>⟨a,vs,h1,h2,by rw [e a (by rw [h1]; exact List.mem_cons_self ..)]; exact h3,h4.mono g⟩
 | .n _,e,⟨h0,u,h1,h2⟩=>⟨h0,u,h1,h2.frame g e⟩
theorem jI {l r b0 b1:List Addr} {a:Addr} (h:(l++((a :: b0)++r)).Nodup) (h1:b1.Nodup) (hb:∀ b ∈ b1,b ∈ b0\/(b ∉ l/\b ≠ a/\b ∉ r)):(l++((a :: b1)++r)).Nodup:=by
 obtain ⟨z1,z2,z3⟩:=List.nodup_append.mp h
 rw [List.cons_append] at z2
 obtain ⟨z4,z5⟩:=List.nodup_cons.mp z2
 obtain ⟨z6,z7,z8⟩:=List.nodup_append.mp z5
 refine List.nodup_append.mpr ⟨z1,?_,λx hx y hy=>?_⟩
 · rw [List.cons_append]
   refine List.nodup_cons.mpr ⟨λz=>?_,List.nodup_append.mpr ⟨h1,z7,λx hx y hy=>?_⟩⟩
   · rcases List.mem_append.mp z with z | z
     · rcases hb a z with q | q
       · exact z4 (List.mem_append_left _ q)
       · exact q.2.1 rfl
     · exact z4 (List.mem_append_right _ z)
   · rcases hb x hx with q | q
     · exact z8 x q y hy
     · exact λe=>q.2.2 (e ▸ hy)
 · rw [List.cons_append] at hy
   rcases List.mem_cons.mp hy with q | q
   · exact z3 x hx y (by rw [q]; exact List.mem_append_left _ (List.mem_cons_self ..))
   · rcases List.mem_append.mp q with q | q
     · rcases hb y q with q | q
       · exact z3 x hx y (List.mem_append_left _ (List.mem_cons_of_mem _ q))
       · exact λe=>q.1 (e ▸ hx)
     · exact z3 x hx y (List.mem_append_right _ q)
theorem Sta.putN {A:Addr->Prop} {H₀:Hp} {τ:List Sl} {B:Nat->List Addr} {σ:L2.St} {i:Nat} {t:Nd} {p:List Nat} {xs:List Nd} (S:Sta K A H₀ τ B σ H) (hi:τ[i]?=some (.n t)) (hp:eP p t=some (.l xs)) :
   ∃ u a vs bs0,(σ[i]?).join=some u/\bE H p u (.ref a)/\H a=some (.lst vs)/\ay K (hd H (own A B)) H vs bs0 xs/\bs0.Nodup/\own A B a/\(∀ b ∈ bs0,own A B b/\b ≠ a) /\
     ∀ {H1:Hp} {vs':List V} {bs1:List Addr} {xs':List Nd},ai H H1->bs1.Nodup->(∀ b ∈ bs1,b ∈ bs0\/(H b=none/\∃ o,H1 b=some o))->ay K (hd (upd H1 a (.lst vs')) λb=>own A B b\/b ∈ bs1) (upd H1 a (.lst vs')) vs' bs1 xs' ->
       ∃ B',Sta K A H₀ (τ.set i (.n (cL p t (.l xs')))) B' σ (upd H1 a (.lst vs')):=by
 obtain ⟨nd,u,eu,ok⟩:=S.sl i _ hi
 obtain ⟨v,l,m,r,pv,hbs,okc,back⟩:=ok.focus p hp
 cases okc with
 | @l a vs bs0 _ hH r0=>
   have mem:∀ b,b ∈ l\/b=a\/b ∈ bs0\/b ∈ r->b ∈ B i:=λb hb=>by
     rw [hbs]
     rcases hb with z | z | z | z
     · exact List.mem_append_left _ z
     · exact List.mem_append_right _ (by rw [z]; exact List.mem_append_left _ (List.mem_cons_self ..))
     · exact List.mem_append_right _ (List.mem_append_left _ (List.mem_cons_of_mem _ z))
     · exact List.mem_append_right _ (List.mem_append_right _ z)
   have nd':=nd
   rw [hbs] at nd'
   obtain ⟨n1,n2,n3⟩:=List.nodup_append.mp nd'
   rw [List.cons_append] at n2
   obtain ⟨n4,n5⟩:=List.nodup_cons.mp n2
   obtain ⟨n6,_,_⟩:=List.nodup_append.mp n5
   have ha:own A B a:=.inr ⟨i,mem a (.inr (.inl rfl))⟩
   refine ⟨u,a,vs,bs0,eu,pv,hH,r0,n6,ha,λb hb=>⟨.inr ⟨i,mem b (.inr (.inr (.inl hb)))⟩,λz=>n4 (z ▸ List.mem_append_left _ hb)⟩,λ{H1 vs' bs1 xs'} e h1 hb hx=>?_⟩
   have keep:∀ b o,b ≠ a->H b=some o->upd H1 a (.lst vs') b=H b:=λb o ne h=>by rw [ao ne,e _ _ h,h]
   have la:∀ b,b ∈ l\/b ∈ r->b ≠ a:=λb hb z=>by
     rcases hb with q | q
     · exact n3 b q a (List.mem_append_left _ (List.mem_cons_self ..)) z
     · exact n4 (z ▸ List.mem_append_right _ q)
   have fresh:∀ b ∈ bs1,b ∈ bs0\/(b ∉ l/\b ≠ a/\b ∉ r):=λb hb1=>by
     rcases hb b hb1 with q | ⟨q,_⟩
     · exact .inl q
     · have no:∀ c,c ∈ B i->b ≠ c:=λc hc z=>by obtain ⟨o,hc⟩:=S.bd i c hc; rw [<- z,q] at hc; cases hc
       exact .inr ⟨λz=>no b (mem b (.inl z)) rfl,no a (mem a (.inr (.inl rfl))),λz=>no b (mem b (.inr (.inr (.inr z)))) rfl⟩
   have sub:∀ b,own A (upB B i (l++((a :: bs1)++r))) b->own A B b\/b ∈ bs1:=λb z=>by
     rcases z with z | ⟨j,z⟩
     · exact .inl (.inl z)
     · rcases aO z with ⟨_,z⟩ | ⟨_,z⟩
       · rcases List.mem_append.mp z with z | z
         · exact .inl (.inr ⟨i,mem b (.inl z)⟩)
         · rw [List.cons_append] at z
           rcases List.mem_cons.mp z with z | z
           · exact .inl (z ▸ ha)
           · rcases List.mem_append.mp z with z | z
             · exact .inr z
             · exact .inl (.inr ⟨i,mem b (.inr (.inr (.inr z)))⟩)
       · exact .inl (.inr ⟨j,z⟩)
   have sm:ai (hd H (own A B)) (hd (upd H1 a (.lst vs')) (own A (upB B i (l++((a :: bs1)++r))))):=λb o z=>by
     obtain ⟨z1,z2⟩:=aj.mp z
     refine aj.mpr ⟨λy=>?_,by rw [keep b o (λq=>z1 (q ▸ ha)) z2]; exact z2⟩
     rcases sub b y with y | y
     · exact z1 y
     · rcases hb b y with q | ⟨q,_⟩
       · exact z1 (.inr ⟨i,mem b (.inr (.inr (.inl q)))⟩)
       · rw [q] at z2; cases z2
   have hs:ai H₀ (upd H1 a (.lst vs')):=λb o z=>by
     have f0:=S.fr i a (mem a (.inr (.inl rfl)))
     rw [ao (λq=>by rw [q,f0] at z; cases z)]
     exact e _ _ (S.same _ _ z)
   refine ⟨upB B i (l++((a :: bs1)++r)),hs,by rw [List.length_set,S.len],λj s hj=>?_,λj b z=>?_,λj k b z1 z2=>?_,S.ad,λj b z=>?_⟩
   · by_cases ej:j=i
     · subst ej
       have hl:=(List.getElem?_eq_some_iff.mp hi).1
       rw [List.getElem?_set_self hl] at hj
       cases hj
       unfold upB
       rw [if_pos rfl]
       refine ⟨jI nd' h1 fresh,u,eu,back sm (λb hb=>?_) (.l aF (hx.frame (au (ai.refl _) sub) λ_ _=>rfl))⟩
       obtain ⟨o,q⟩:=S.bd j b (mem b (hb.elim .inl λz=>.inr (.inr (.inr z))))
       exact keep b o (la b hb) q
     · rw [List.getElem?_set_ne (λz=>ej z.symm)] at hj
       unfold upB
       rw [if_neg ej]
       refine (S.sl j s hj).frame sm λb hb=>?_
       obtain ⟨o,q⟩:=S.bd j b hb
       exact keep b o (λz=>ej (S.uq j i a (z ▸ hb) (mem a (.inr (.inl rfl))))) q
   · rcases aO z with ⟨_,z⟩ | ⟨_,z⟩
     · rcases sub b (.inr ⟨i,by unfold upB; rw [if_pos rfl]; exact z⟩) with y | y
       · rcases List.mem_append.mp z with z | z
         · exact S.fr i b (mem b (.inl z))
         · rw [List.cons_append] at z
           rcases List.mem_cons.mp z with z | z
           · exact S.fr i b (mem b (.inr (.inl z)))
           · rcases List.mem_append.mp z with z | z
             · rcases hb b z with q | ⟨q,_⟩
               · exact S.fr i b (mem b (.inr (.inr (.inl q))))
               · exact S.same.free q
             · exact S.fr i b (mem b (.inr (.inr (.inr z))))
       · rcases hb b y with q | ⟨q,_⟩
         · exact S.fr i b (mem b (.inr (.inr (.inl q))))
         · exact S.same.free q
     · exact S.fr j b z
   · have inB:∀ {c},c ∈ l++((a :: bs1)++r)->c ∈ B i\/H c=none:=λ{c} z=>by
       rcases List.mem_append.mp z with z | z
       · exact .inl (mem c (.inl z))
       · rw [List.cons_append] at z
         rcases List.mem_cons.mp z with z | z
         · exact .inl (mem c (.inr (.inl z)))
         · rcases List.mem_append.mp z with z | z
           · rcases hb c z with q | ⟨q,_⟩
             · exact .inl (mem c (.inr (.inr (.inl q))))
             · exact .inr q
           · exact .inl (mem c (.inr (.inr (.inr z))))
     have cross:∀ {j},j ≠ i->b ∈ B j->b ∈ l++((a :: bs1)++r)->False:=λ{j} nj y1 y2=>by
       rcases inB y2 with q | q
       · exact nj (S.uq j i b y1 q)
       · obtain ⟨o,w⟩:=S.bd j b y1; rw [q] at w; cases w
     rcases aO z1 with ⟨e1,y1⟩ | ⟨e1,y1⟩ <;> rcases aO z2 with ⟨e2,y2⟩ | ⟨e2,y2⟩
     · exact e1.trans e2.symm
     · exact (cross e2 y2 y1).elim
     · exact (cross e1 y1 y2).elim
     · exact S.uq j k b y1 y2
   · rcases aO z with ⟨_,z⟩ | ⟨_,z⟩
     · by_cases e':b=a
       · exact ⟨_,by rw [e']; exact aF⟩
       · rw [ao e']
         have old:b ∈ B i->∃ o,H1 b=some o:=λq=>let ⟨o,w⟩:=S.bd i b q; ⟨o,e _ _ w⟩
         rcases List.mem_append.mp z with z | z
         · exact old (mem b (.inl z))
         · rw [List.cons_append] at z
           rcases List.mem_cons.mp z with z | z
           · exact absurd z e'
           · rcases List.mem_append.mp z with z | z
             · rcases hb b z with q | ⟨_,q⟩
               · exact old (mem b (.inr (.inr (.inl q))))
               · exact q
             · exact old (mem b (.inr (.inr (.inr z))))
     · by_cases e':b=a
       · exact ⟨_,by rw [e']; exact aF⟩
       · rw [ao e']
         obtain ⟨o,w⟩:=S.bd j b z
         exact ⟨o,e _ _ w⟩
end
end Hy
namespace Hy
open PySem PySem.Spec PyProof.Rows L2
open Ev (D Den aA az a6 aD)
noncomputable def dP (K:PySem.W.Frag) (τ:List Sl) (i:Nat) (p:List Nat):TE:=λσ H Q=>∃ A H₀ B,Sta K A H₀ τ B σ H/\∀ u v H',(σ[i]?).join=some u->ai H H'->bE H' p u v->Q v H'
noncomputable def kA:Sl->Option Nd
 | .un=>none
 | .d x=>some (.d x)
 | .o xs=>some (.l (xs.map .d))
 | .n t=>some t
section
variable {K:PySem.W.Frag} {G H:Hp}
theorem lY:∀ {vs:List V} {xs:List D},aA K G vs xs->ay K G H vs [] (xs.map .d)
 | _,_,.nil=>.nil
 | _,_,.cons h r=>.cons (b1:=[]) (b2:=[]) (.d h) (lY r)
theorem bq.nd {v:V} {bs:List Addr} {s:Sl} {c:Nd} (h:bq K G H (some v) bs s) (e:kA s=some c):aU K G H v bs c/\bs.Nodup:=by
 cases s with
 | un=>cases e
 | d x=>cases e; obtain ⟨rfl,u,eu,d⟩:=h; cases eu; exact ⟨.d d,List.nodup_nil⟩
 | o xs=>cases e; obtain ⟨a,vs,rfl,e2,h3,h4⟩:=h; cases e2; exact ⟨.l h3 (lY h4),by simp⟩
 | n t=>cases e; obtain ⟨h0,u,eu,h2⟩:=h; cases eu; exact ⟨h2,h0⟩
theorem ay.snoc {v:V} {c:Nd} {b2:List Addr} (h:aU K G H v b2 c):∀ {vs:List V} {bs:List Addr} {xs:List Nd},ay K G H vs bs xs->ay K G H (vs++[v]) (bs++b2) (xs++[c])
 | _,_,_,.nil=>by have:=ay.cons h .nil; rw [List.append_nil] at this; exact this
 | _,_,_,.cons h1 r=>by rw [List.append_assoc]; exact .cons h1 (ay.snoc h r)
theorem ay.put {v:V} {c:Nd} {b2:List Addr} (h:aU K G H v b2 c):∀ {vs:List V} {bs:List Addr} {xs:List Nd} (j:Nat),j < xs.length->ay K G H vs bs xs->∃ l r,(∀ b,b ∈ l\/b ∈ r->b ∈ bs)/\(bs.Nodup->(l++r).Nodup)/\ay K G H (vs.set j v) (l++(b2++r)) (xs.set j c)
 | _,_,_,_,hj,.nil=>absurd hj (Nat.not_lt_zero _)
 | _,_,_,0,_,.cons (b1:=b1) (b2:=b3) h1 r=>⟨[],b3,λb hb=>List.mem_append_right _ (hb.elim (λz=>nomatch z) id),λn=>(List.nodup_append.mp n).2.1,by rw [List.nil_append]; exact .cons h r⟩
 | _,_,_,j + 1,hj,.cons (b1:=b1) (b2:=b3) h1 r=>by
   obtain ⟨l,q,z1,z2,z3⟩:=ay.put h j (by simpa using hj) r
   refine ⟨b1++l,q,λb hb=>?_,λn=>?_,by rw [List.append_assoc]; exact .cons h1 z3⟩
   · rcases hb with hb | hb
     · exact (List.mem_append.mp hb).elim (List.mem_append_left _) λz=>List.mem_append_right _ (z1 b (.inl z))
     · exact List.mem_append_right _ (z1 b (.inr hb))
   · obtain ⟨n1,n2,n3⟩:=List.nodup_append.mp n
     rw [List.append_assoc]
     refine List.nodup_append.mpr ⟨n1,z2 n2,λx hx y hy=>n3 x hx y (z1 y ?_)⟩
     exact (List.mem_append.mp hy)
theorem Sta.nd {A:Addr->Prop} {H₀:Hp} {τ:List Sl} {B:Nat->List Addr} {σ:L2.St} (S:Sta K A H₀ τ B σ H) {i:Nat} {s:Sl} {c:Nd} (hi:τ[i]?=some s) (hc:kA s=some c):Sta K A H₀ (τ.set i (.n c)) (upB B i (B i)) σ H:=
 S.less (λ_ z=>z) λG' g _=>by
   have q:=S.sl i s hi
   obtain ⟨u,e⟩:∃ u,(σ[i]?).join=some u:=by
     cases s with
     | un=>cases hc
     | d x=>obtain ⟨_,u,e,_⟩:=q; exact ⟨u,e⟩
     | o xs=>obtain ⟨_,_,_,e,_⟩:=q; exact ⟨_,e⟩
     | n t=>obtain ⟨_,u,e,_⟩:=q; exact ⟨u,e⟩
   rw [e] at q ⊢
   obtain ⟨q1,q2⟩:=q.nd hc
   exact ⟨q2,u,rfl,q1.frame g λ_ _=>rfl⟩
end
section
variable {X:Cx} {C:Bool} {τ:List Sl} {x y z:D} {a b e o ix:Expr} {es:List Expr} {pos p q:Pos} {k:Nat} {s:Sl} {N:Po} {rest:List Stmt} {i:Nat} {t c:Nd} {pt:List Nat} {xs:List Nd} {j:Int} {m:Nat}
theorem mF (i:Nat) {n:Str} {t:Nd} (h:τ[i]?=some (.n t):=by rfl) (hN:X.N[i]?=some n:=by rfl) (hv:Vis X.env.scope n:=by first | exact Or.inl rfl | exact Or.inr (Or.inl rfl) | exact Or.inr (Or.inr rfl))
   (hd:(n == ("__debug__" : Str))=false:=by decide) (hcd:(n == ("__classdict__" : Str))=false:=by decide):PE X (.Name n pos) (dP X.K τ i []):=peW (bP hN hv hd hcd) λσ H Q ⟨A,H₀,B,S,k⟩=>by
 obtain ⟨_,u,e,_⟩:=S.sl i _ h
 exact ⟨u,slot_of e,k u u H e (ai.refl _) rfl⟩
theorem Sta.at {K:PySem.W.Frag} {A:Addr->Prop} {H₀ H:Hp} {τ:List Sl} {B:Nat->List Addr} {σ:L2.St} (S:Sta K A H₀ τ B σ H) (hi:τ[i]?=some (.n t)) (hp:eP pt t=some c):∃ u v m,(σ[i]?).join=some u/\bE H pt u v/\aU K (hd H (own A B)) H v m c/\∀ b ∈ m,b ∈ B i:=by
 obtain ⟨_,u,e,ok⟩:=S.sl i _ hi
 obtain ⟨v,l,m,r,h1,h2,h3,_⟩:=ok.focus pt hp
 exact ⟨u,v,m,e,h1,h3,λb hb=>by rw [h2]; exact List.mem_append_right _ (List.mem_append_left _ hb)⟩
theorem ke {K:PySem.W.Frag} {G H:Hp} {vs:List V} {bs:List Addr} {m:Nat} (r:ay K G H vs bs xs) (hm:m < xs.length):∃ v,vs[m]?=some v:=⟨vs[m]'(by rw [r.length]; exact hm),List.getElem?_eq_getElem _⟩
theorem mi {n m:Nat} {j:Int} (h:ixN n j=some m):m < n:=by
 unfold ixN at h
 split at h
 · split at h
   · cases h; omega
   · cases h
 · split at h
   · cases h; omega
   · cases h
theorem rE (ha:PE X a (dP X.K τ i pt)) (hb:PE X b (dE X.K false τ (.d (.int j)))) (hi:τ[i]?=some (.n t)) (hp:eP pt t=some (.l xs)) (hj:ixN xs.length j=some m) (hs:dN b:=by exact λ_ _=>rfl):PE X (.Subscript a b pos) (dP X.K τ i (pt++[m])):=
 peW (jS iE ha hb hs) λσ H Q ⟨A,H₀,B,S,k⟩=>⟨A,H₀,B,S,λu v H1 eu e1 pv=>aT (S.mono e1) λw H2 e2 d2=>by
   cases d2
   obtain ⟨u',v',m',eu',pv',ok,_⟩:=((S.mono e1).mono e2).at hi hp
   rw [eu] at eu'
   cases eu'
   obtain rfl:=(pv.mono e2).det pv'
   cases ok with
   | @l ad vs _ _ hH r=>
     obtain ⟨x,hx⟩:=ke r (mi hj)
     exact ⟨ad,vs,j,x,rfl,rfl,SqL.of hH,by unfold atI; rw [r.length,hj]; exact hx,k u x H2 eu (e1.trans e2) (pv'.snoc (.inl hH) hx)⟩⟩
theorem oO (ha:PE X a (dP X.K τ i pt)) (hb:PE X b (dE X.K false τ (.d (.int j)))) (hi:τ[i]?=some (.n t)) (hp:eP pt t=some (.t xs)) (hj:ixN xs.length j=some m) (hs:dN b:=by exact λ_ _=>rfl):PE X (.Subscript a b pos) (dP X.K τ i (pt++[m])):=
 peW (jS mJ ha hb hs) λσ H Q ⟨A,H₀,B,S,k⟩=>⟨A,H₀,B,S,λu v H1 eu e1 pv=>aT (S.mono e1) λw H2 e2 d2=>by
   cases d2
   obtain ⟨u',v',m',eu',pv',ok,_⟩:=((S.mono e1).mono e2).at hi hp
   rw [eu] at eu'
   cases eu'
   obtain rfl:=(pv.mono e2).det pv'
   cases ok with
   | @t ad vs _ _ hH r=>
     obtain ⟨x,hx⟩:=ke r (mi hj)
     exact ⟨ad,vs,j,x,rfl,rfl,SqT.of hH,by unfold atI; rw [r.length,hj]; exact hx,k u x H2 eu (e1.trans e2) (pv'.snoc (.inr hH) hx)⟩⟩
theorem lD {ap cp:Pos} (ho:PE X o (dP X.K τ i pt)) (he:PE X e (dE X.K true τ s)) (hi:τ[i]?=some (.n t)) (hp:eP pt t=some (.l xs)) (hc:kA s=some c) (hl:xs.length < 1000000) (hr:PSs X rest (dS X.K (τ.set i (.n (cL pt t (.l (xs++[c]))))) N))
   (hfew:((backTo cp (starEach [e] X.env)).all (λx=>!x.1) && (backToKw cp (keywordEach [] X.env)).all (λx=>x.1.isSome) && decide (([e]:List Expr).length + ([]:List Keyword).length + (if ([]:List Keyword).isEmpty then 0 else 1) < 30))=true:=by rfl)
   (hline:(ap.endLine == cp.line)=true:=by rfl) (hst:starEach [e] X.env=(false,eval e X.env) :: starEach [] X.env:=by rfl) (hpl:(backTo cp (starEach [] X.env)).any (·.1)=false:=by rfl)
   (hs:swapsWith (.Call (.Attribute o "append" ap) [e] [] cp) none pos.line X.env=pure false:=by rfl) (hbase:attributeBase o "append" X.env (eval o X.env)=eval o X.env:=by rfl) :
   PSs X (.Expr (.Call (.Attribute o "append" ap) [e] [] cp) pos :: rest) (dS X.K τ N):=
 a7 (M:=(·=τ.set i (.n (cL pt t (.l (xs++[c])))))) (psW (eV (lB PySem.F.plainAttrs_list PySem.F.slot_list_append PySem.F.type_list_append bZ ho (cq he eA hst) hbase hfew hline hst hpl) hs) λD σ H ⟨A,H₀,B,S,Me⟩=>by
   refine ⟨A,H₀,B,S,λu v H1 eu e1 pv=>?_⟩
   have S1:=S.mono e1
   obtain ⟨u',l,vs,bs0,eu',pv',hH,r0,nd0,hal,hown,put⟩:=S1.putN hi hp
   rw [eu] at eu'
   cases eu'
   obtain rfl:=pv.det pv'
   refine ⟨.inl ⟨rfl,_,SqL.of hH⟩,A,H₀,B,S1,λw H2 bs e2 hf hw=>⟨l,vs,w,rfl,rfl,e2 _ _ hH,by rw [r0.length]; exact Nat.lt_trans hl (by decide),?_⟩⟩
   obtain ⟨nw,ndw⟩:=hw.nd hc
   have off:∀ b ∈ bs,b ≠ l:=λb hb z=>by rw [z] at hb; rw [(hf l hb).1] at hH; cases hH
   have sm:ai (hd H2 λb=>own A B b\/b ∈ bs) (hd (upd H2 l (.lst (vs++[w]))) λb=>own A B b\/b ∈ bs0++bs):=λb o z=>by
     obtain ⟨z1,z2⟩:=aj.mp z
     refine aj.mpr ⟨λy=>z1 ?_,by rw [ao (λy:b=l=>z1 (.inl (by rw [y]; exact hal)))]; exact z2⟩
     rcases y with y | y
     · exact .inl y
     · exact (List.mem_append.mp y).elim (λz=>.inl (hown b z).1) .inr
   have sm0:ai (hd H1 (own A B)) (hd (upd H2 l (.lst (vs++[w]))) λb=>own A B b\/b ∈ bs0++bs):=λb o z=>by
     obtain ⟨z1,z2⟩:=aj.mp z
     refine aj.mpr ⟨λy=>?_,by rw [ao (λy:b=l=>z1 (by rw [y]; exact hal))]; exact e2 _ _ z2⟩
     rcases y with y | y
     · exact z1 y
     · rcases List.mem_append.mp y with y | y
       · exact z1 (hown b y).1
       · rw [(hf b y).1] at z2; cases z2
   obtain ⟨B',S'⟩:=put (H1:=H2) (vs':=vs++[w]) (bs1:=bs0++bs) (xs':=xs++[c]) e2 (List.nodup_append.mpr ⟨nd0,ndw,λx hx y hy z=>by
       obtain ⟨o,q⟩:=r0.some_of x hx
       rw [z,(hf y hy).1] at q; cases q⟩)
     (λb hb=>(List.mem_append.mp hb).elim .inl λz=>.inr (hf b z))
     (ay.snoc (nw.frame sm λb hb=>ao (off b hb)) (r0.frame sm0 λb hb=>by
       obtain ⟨o,q⟩:=r0.some_of b hb
       rw [ao (hown b hb).2,e2 _ _ q,q]))
   exact Me.nx _ B' _ _ rfl S') λ_ e=>e ▸ hr
end
end Hy
namespace Ev
open PySem PySem.Spec PyProof.Rows L2
mutual
noncomputable def eqD:D->D->Bool
 | .non,.non=>true
 | .bl a,.bl b=>a == b
 | .bl a,.int j=>(if a then 1 else 0) == j
 | .int i,.bl b=>i == (if b then 1 else 0)
 | .int a,.int b=>a == b
 | .str a,.str b=>a == b
 | .tup xs,.tup ys=>fZ xs ys
 | .lst xs,.lst ys=>fZ xs ys
 | .non,.bl _ | .non,.int _ | .non,.str _ | .non,.tup _ | .non,.lst _=>false
 | .bl _,.non | .bl _,.str _ | .bl _,.tup _ | .bl _,.lst _=>false
 | .int _,.non | .int _,.str _ | .int _,.tup _ | .int _,.lst _=>false
 | .str _,.non | .str _,.bl _ | .str _,.int _ | .str _,.tup _ | .str _,.lst _=>false
 | .tup _,.non | .tup _,.bl _ | .tup _,.int _ | .tup _,.str _ | .tup _,.lst _=>false
 | .lst _,.non | .lst _,.bl _ | .lst _,.int _ | .lst _,.str _ | .lst _,.tup _=>false
noncomputable def fZ:List D->List D->Bool
 | [],[]=>true
 | x :: xs,y :: ys=>eqD x y && fZ xs ys
 | [],_ :: _=>false
 | _ :: _,[]=>false
end
mutual
noncomputable def toP:D->PyData
 | .non=>.none
 | .bl b=>.bool b
 | .int i=>.int i
 | .str x=>.str x
 | .tup xs=>.tuple (cV xs)
 | .lst xs=>.list (cV xs)
noncomputable def cV:List D->List PyData
 | []=>[]
 | x :: xs=>toP x :: cV xs
end
mutual
noncomputable def cln:D->Bool
 | .str x=>PyData.strOk x
 | .tup xs=>fK xs
 | .lst xs=>fK xs
 | .non | .bl _ | .int _=>true
noncomputable def fK:List D->Bool
 | []=>true
 | x :: xs=>cln x && fK xs
end
mutual
noncomputable def dep:D->Nat
 | .tup xs=>fS xs + 1
 | .lst xs=>fS xs + 1
 | .non | .bl _ | .int _ | .str _=>0
noncomputable def fS:List D->Nat
 | []=>0
 | x :: xs=>max (dep x) (fS xs)
end
noncomputable def iG (x:D):Prop:=cln x=true/\dep x<=64
noncomputable instance (x:D):Decidable (iG x):=inferInstanceAs (Decidable (_/\_))
mutual
theorem gQ:∀ x y:D,PyData.eqv (toP x) (toP y)=eqD x y
 | .non,y=>by cases y <;> simp [toP,PyData.eqv,eqD]
 | .bl a,y=>by cases y <;> simp [toP,PyData.eqv,eqD]
 | .int a,y=>by cases y <;> simp [toP,PyData.eqv,eqD]
 | .str a,y=>by cases y <;> simp [toP,PyData.eqv,eqD]
 | .tup xs,.tup ys=>by simp only [toP,PyData.eqv,eqD]; exact fG xs ys
 | .lst xs,.lst ys=>by simp only [toP,PyData.eqv,eqD]; exact fG xs ys
 | .tup xs,.non=>by simp [toP,PyData.eqv,eqD]
 | .tup xs,.bl _=>by simp [toP,PyData.eqv,eqD]
 | .tup xs,.int _=>by simp [toP,PyData.eqv,eqD]
 | .tup xs,.str _=>by simp [toP,PyData.eqv,eqD]
 | .tup xs,.lst _=>by simp [toP,PyData.eqv,eqD]
 | .lst xs,.non=>by simp [toP,PyData.eqv,eqD]
 | .lst xs,.bl _=>by simp [toP,PyData.eqv,eqD]
 | .lst xs,.int _=>by simp [toP,PyData.eqv,eqD]
 | .lst xs,.str _=>by simp [toP,PyData.eqv,eqD]
 | .lst xs,.tup _=>by simp [toP,PyData.eqv,eqD]
theorem fG:∀ xs ys:List D,PyData.eqvAll (cV xs) (cV ys)=fZ xs ys
 | [],[]=>by simp [cV,PyData.eqvAll,fZ]
 | [],_ :: _=>by simp [cV,PyData.eqvAll,fZ]
 | _ :: _,[]=>by simp [cV,PyData.eqvAll,fZ]
 | x :: xs,y :: ys=>by simp only [cV,PyData.eqvAll,fZ]; rw [gQ x y,fG xs ys]
end
mutual
theorem j8:∀ x:D,(toP x).canLay0=cln x
 | .non=>by simp [toP,PyData.canLay0,cln]
 | .bl _=>by simp [toP,PyData.canLay0,cln]
 | .int _=>by simp [toP,PyData.canLay0,cln]
 | .str _=>by simp [toP,PyData.canLay0,cln]
 | .tup xs=>by simp only [toP,PyData.canLay0,cln]; exact fY xs
 | .lst xs=>by simp only [toP,PyData.canLay0,cln]; exact fY xs
theorem fY:∀ xs:List D,PyData.canLayAll0 (cV xs)=fK xs
 | []=>by simp [cV,PyData.canLayAll0,fK]
 | x :: xs=>by simp only [cV,PyData.canLayAll0,fK]; rw [j8 x,fY xs]
end
mutual
theorem kh:∀ x:D,(toP x).depth=dep x
 | .non=>by simp [toP,PyData.depth,dep]
 | .bl _=>by simp [toP,PyData.depth,dep]
 | .int _=>by simp [toP,PyData.depth,dep]
 | .str _=>by simp [toP,PyData.depth,dep]
 | .tup xs=>by simp only [toP,PyData.depth,dep]; rw [fP xs]
 | .lst xs=>by simp only [toP,PyData.depth,dep]; rw [fP xs]
theorem fP:∀ xs:List D,PyData.depthAll (cV xs)=fS xs
 | []=>by simp [cV,PyData.depthAll,fS]
 | x :: xs=>by simp only [cV,PyData.depthAll,fS]; rw [kh x,fP xs]
end
theorem di {x:D} (h:iG x):SeqAt.shaped (toP x)=true:=by
 unfold SeqAt.shaped
 rw [j8,kh,h.1,Bool.true_and]
 exact decide_eq_true h.2
section
variable {X:Cx} {pins:List (Addr × Obj)} {σ:L2.St} {H G:Hp} {s:Shared}
mutual
theorem d8 (I:Inv X pins σ H s) (e:ai G H):∀ {v:V} {d:D} {u:Value},Den X.K G v d->RelV v u->∃ as,Reads s.heap u (toP d) as
 | _,_,_,.non,r=>by cases r; exact ⟨_,.none⟩
 | _,_,_,.bl,r=>by cases r; exact ⟨_,.bool _⟩
 | _,_,_,.int,r=>by obtain ⟨t,rfl⟩:=r; exact ⟨_,.int _ _⟩
 | _,_,_,.str,r=>by obtain ⟨t,rfl⟩:=r; exact ⟨_,.str _ _⟩
 | _,_,_,.tup h q,r=>by
   cases r
   obtain ⟨its,rv,⟨o,h1,h2,n,h3⟩,_⟩:=I.tuple (a6 e h)
   obtain ⟨as,z⟩:=en I e q rv
   exact ⟨_,.tuple h1 h2 h3 (by simpa using z)⟩
 | _,_,_,.lst h q,r=>by
   cases r
   obtain ⟨its,rv,⟨o,n,h1,h2,_,h3⟩,_⟩:=I.list (aD e h)
   obtain ⟨as,z⟩:=en I e q rv
   exact ⟨_,.list h1 h2 h3 (by simpa using z)⟩
theorem en (I:Inv X pins σ H s) (e:ai G H):∀ {vs:List V} {ds:List D} {us:List Value},aA X.K G vs ds->Vals vs us->∃ as,ReadsAll s.heap us (cV ds) as
 | _,_,_,.nil,.nil=>⟨_,.nil⟩
 | _,_,_,.cons h q,.cons r rs=>by
   obtain ⟨as,z⟩:=d8 I e h r
   obtain ⟨bs,z'⟩:=en I e q rs
   exact ⟨_,.cons z z'⟩
end
end
end Ev
namespace Hy
open PySem PySem.Spec PyProof.Rows L2
open Ev (D Den aA az a6 aD Itz Itv pC pg jq jl eqD iG d8 di gQ)
section
variable {X:Cx} {C:Bool} {τ:List Sl} {x y z:D} {a b e c tg it elt:Expr} {es ifs:List Expr} {pos p q:Pos} {k:Nat} {s:Sl} {N:Po} {rest body:List Stmt} {ds xs ys:List D} {i j:Int} {scope:Scope}
theorem jQ (M:Nat->Bool->List Sl->Prop) (B:Bk X k) (h0:∃ n t,M n t τ) (hc:∀ n t τ',M n t τ'->PT X c (dT X.K τ' t)) (hb:∀ n τ',M n true τ'->PSs X body (dS X.K τ' { N with nx:=λτ2=>∃ m t,m < n/\M m t τ2,ct:=λτ2=>∃ m t,m < n/\M m t τ2,bk:=λ_=>False }))
   (hr:∀ n τ',M n false τ'->PSs X rest (dS X.K τ' N)):PSs X (.While c body [] pos :: rest) (dS X.K τ N):=by
 have hc':PT X c λσ H Q=>∃ n t τ',M n t τ'/\dT X.K τ' t σ H Q:=λpins s σ H Q I ⟨n,t,τ',m,q⟩=>hc n t τ' m pins s σ H Q I q
 have hb':PSs X body λD σ H=>∃ n τ',M n true τ'/\dS X.K τ' { N with nx:=λτ2=>∃ m t,m < n/\M m t τ2,ct:=λτ2=>∃ m t,m < n/\M m t τ2,bk:=λ_=>False } D σ H:=λpins s σ H D I ⟨n,τ',m,q⟩=>hb n τ' m pins s σ H D I q
 refine a7 (M:=λτ'=>∃ n,M n false τ') (psW (mr B.po hc' hb') λD σ H ⟨A,H₀,B,S,Me⟩=>⟨λm σ' H'=>∃ t τ' B',M m t τ'/\Sta X.K A H₀ τ' B' σ' H',?_,?_⟩) λτ' h=>let ⟨n,h⟩:=h; hr n τ' h
 · obtain ⟨n,t,h0⟩:=h0
   exact ⟨n,t,τ,B,h0,S⟩
 rintro m σ' H' ⟨t,τ',B',hM,S'⟩
 refine ⟨m,t,τ',hM,A,H₀,B',S',λH1 e1=>?_⟩
 cases t with
 | false=>exact kM (Me.nx τ' B' σ' H1 ⟨m,hM⟩ (S'.mono e1))
 | true=>
   refine jA ⟨λσ2 H2=>∃ τ2 B2,(∃ n t,n < m/\M n t τ2)/\Sta X.K A H₀ τ2 B2 σ2 H2,λσ2 H2 ⟨τ2,B2,⟨n,t,l,q⟩,S2⟩=>⟨n,l,t,τ2,B2,q,S2⟩,m,τ',hM,A,H₀,B',S'.mono e1,?_⟩
   exact ⟨λτ2 B2 σ2 H2 m S2=>⟨τ2,B2,m,S2⟩,λ_ _ _ _ z=>z.elim,λτ2 B2 σ2 H2 m S2=>⟨τ2,B2,m,S2⟩,Me.rt⟩
noncomputable def dn (xs ys:List D):List D:=(xs.zip ys).map λp=>.tup [p.1,p.2]
theorem a9:(dn xs ys).length=min xs.length ys.length:=by simp [dn]
theorem eY (i:Nat) (h:i < (dn xs ys).length):(dn xs ys)[i]=.tup [xs.getD i .non,ys.getD i .non]:=by
 rw [a9] at h
 simp [dn,show i < xs.length by omega,show i < ys.length by omega]
theorem ph {K:PySem.W.Frag} {G:Hp} {a b:Addr} {vs ws:List V} (h:SqL K G a vs) (r:aA K G vs xs) (h':SqL K G b ws) (r':aA K G ws ys):Yl K (Itz K a b) (dn xs ys) G:=by
 intro H sg
 have hl:=r.length
 have hl':=r'.length
 refine ⟨λi hi=>⟨vs,ws,aD sg h,aD sg h',by rw [a9] at hi; omega⟩,λi hi=>?_⟩
 have hi':=hi
 rw [a9] at hi'
 obtain ⟨v,hv,dv⟩:=r.get (List.getElem?_eq_getElem (show i < xs.length by omega))
 obtain ⟨w,hw,dw⟩:=r'.get (List.getElem?_eq_getElem (show i < ys.length by omega))
 refine ⟨⟨vs,ws,v,w,aD sg h,aD sg h',hv,hw⟩,λy H' ⟨p,x1,x2,hp,e0,e1,e2,e3⟩=>?_⟩
 subst e0 e1
 have ex:x1=v:=by have:=e2 vs (aD sg h); rw [hv] at this; exact (Option.some.inj this).symm
 have ey:x2=w:=by have:=e3 ws (aD sg h'); rw [hw] at this; exact (Option.some.inj this).symm
 subst ex ey
 refine ⟨az hp _,λM hM sv=>?_⟩
 rw [eY,show xs.getD i .non=xs[i] by simp [show i < xs.length by omega],show ys.getD i .non=ys[i] by simp [show i < ys.length by omega]]
 have up:=sv.trans (au (az hp (.tup [x1,x2])) λ_ z=>z)
 exact .tup (SqT.of (jw hM hp)) (.cons (dv.mono up) (.cons (dw.mono up) .nil))
theorem jg {ts:List Expr} {m:Nat} {tp:Pos} (B:Bk X k) (h:PE X a (dE X.K true τ (.d (.lst xs)))) (h':PE X b (dE X.K true τ (.d (.lst ys)))) (hg:Gl X "zip":=by rfl) (hs:starEach [a,b] X.env=(false,eval a X.env) :: starEach [b] X.env:=by rfl) (hs2:starEach [b] X.env=[(false,eval b X.env)]:=by rfl) :
   PI X (.Tuple ts m tp) (.Call (.Name "zip" p) [a,b] [] pos) (dI X.K τ (dn xs ys)):=
 piW (jq hg (B.blt _ (by decide)) (ab h (ab h' af hs2) hs) hs hs2) λσ H R ⟨A,H₀,B,S,k⟩=>dU S λvs H1 e1 d1=>by
   cases d1 with
   | cons d r=>
     cases r with
     | cons d' r=>
       cases r
       cases d with
       | lst h r=>cases d' with
         | lst h' r'=>exact ⟨_,_,rfl,⟨_,aD aM h⟩,⟨_,aD aM h'⟩,k _ H1 e1 (ph h r h' r')⟩
theorem oz {K:PySem.W.Frag} {G:Hp} {a:Addr} {vs:List V} (h:SqL K G a vs) (r:aA K G vs xs):Yl K (Itv K a vs.length) xs.reverse G:=by
 intro H sg
 have hl:=r.length
 refine ⟨λi hi=>by rw [List.length_reverse] at hi; show vs.length<=i; omega,λi hi=>?_⟩
 rw [List.length_reverse] at hi
 obtain ⟨v,hv,dv⟩:=r.get (List.getElem?_eq_getElem (show xs.length - 1 - i < xs.length by omega))
 rw [<- hl] at hv
 refine ⟨⟨by omega,vs,v,aD sg h,hv⟩,λx H' ⟨e1,e2⟩=>?_⟩
 subst e1
 have ex:x=v:=by have:=e2 vs (aD sg h); rw [hv] at this; exact (Option.some.inj this).symm
 subst ex
 refine ⟨ai.refl _,λM _ sv=>?_⟩
 rw [List.getElem_reverse]
 exact dv.mono sv
theorem qg (B:Bk X k) (h:PE X a (dE X.K true τ (.d (.lst xs)))) (hg:Gl X "reversed":=by rfl) (hs:starEach [a] X.env=[(false,eval a X.env)]:=by rfl):PI X tg (.Call (.Name "reversed" p) [a] [] pos) (dI X.K τ xs.reverse):=
 piW (jl hg (B.blt _ (by decide)) (ab h af hs) hs) λσ H R ⟨A,H₀,B,S,k⟩=>dU S λvs H1 e1 d1=>by
   cases d1 with
   | cons d r=>
     cases r
     cases d with
     | lst h r=>exact ⟨_,_,rfl,aD aM h,k _ H1 e1 (oz h r)⟩
theorem oV (hu:X.A.units + 64 < cLine):OpR X (compareOp .NotEq) (λx y H Q=>∃ G d e,ai G H/\Den X.K G x d/\Den X.K G y e/\iG d/\iG e/\Q (.bl (!eqD d e)) H):=by
 intro pins s σ H x y v u Q I rx ry ⟨G,d,e,sg,dx,dy,o1,o2,q⟩
 obtain ⟨as,r1⟩:=d8 I sg dx rx
 obtain ⟨bs,r2⟩:=d8 I sg dy ry
 exact ne_dataH r1 r2 (di o1) (di o2) hu ⟨.bl _,H,I,by rw [gQ]; rfl,q⟩
theorem qO (B:Bk X k) (h1:iG x) (h2:iG y):bR X (compareOp .NotEq) x y (.bl (!eqD x y)):=⟨_,oV B.room.units,λM v w H Q _ d1 d2 q=>⟨_,x,y,aM,d1,d2,h1,h2,q _ H (ai.refl _) .bl⟩⟩
variable {u v:Str}
theorem gD:bR X (compareOp .Eq) (.str u) (.str v) (.bl (decide (u=v))):=⟨_,nM,λ_ v' w H Q _ d1 d2 k=>by
 cases d1
 cases d2
 exact ⟨rfl,by rw [show decide (V.str u=V.str v)=decide (u=v) by simp]; exact k _ H (ai.refl _) .bl⟩⟩
theorem lA:bR X (compareOp .NotEq) (.str u) (.str v) (.bl (!decide (u=v))):=⟨_,nF,λ_ v' w H Q _ d1 d2 k=>by
 cases d1
 cases d2
 exact ⟨rfl,by rw [show decide (V.str u=V.str v)=decide (u=v) by simp]; exact k _ H (ai.refl _) .bl⟩⟩
theorem qD {us:List Str}:bR X (compareOp .In) (.str u) (.tup (us.map .str)) (.bl (us.any λw=>decide (w=u))):=⟨_,kv,λM x' y' H Q _ d1 d2 q=>by
 cases d1
 cases d2 with
 | @tup ad vs _ h r=>
   have ev:vs=us.map V.str:=by
     clear h q
     induction us generalizing vs with
     | nil=>cases r; rfl
     | cons w ws ih=>
       cases r with
       | cons d r=>cases d; rw [ih r]; rfl
   subst ev
   refine ⟨_,_,rfl,.inr (a6 aM h),rfl,?_,?_⟩
   · rw [List.all_map,List.all_eq_true]; intro _ _; rfl
   · rw [if_neg Bool.false_ne_true]
     unfold inV
     rw [List.any_map]
     exact q _ H (ai.refl _) (by
       have e:(us.any λw=>decide (w=u))=us.any ((λy=>eqV y (V.str u)) ∘ V.str):=by
         congr 1
       rw [e]; exact .bl)⟩
theorem eK:∀ {bs:List Bool} {us:List Value},Vals (bs.map V.bl) us->us=bs.map Value.bool
 | [],_,h=>by cases h; rfl
 | b :: bs,_,h=>by
   cases h with
   | cons rv rs=>rw [eK rs,show _=Value.bool b from rv]; rfl
theorem mD (hc:X.calm=true):cZ X (.builtin "all") (λxs H Q=>∃ (p:Addr) (bs:List Bool),xs=[.ref p]/\SqL X.K H p (bs.map V.bl)/\Q (.bl (bs.all id)) H):=by
 intro pins s σ H xs us Q I r q
 obtain ⟨p,bs,rfl,h,q⟩:=q
 obtain ⟨u,rfl,ru⟩:∃ u,us=[u]/\RelV (.ref p) u:=by
   cases r with
   | cons r1 r=>cases r; exact ⟨_,rfl,r1⟩
 cases (show u=Value.ref _ from ru)
 obtain ⟨its,rv,pl,hz⟩:=I.list h
 obtain rfl:=eK rv
 have lt:∀ a,s.heap.IsList a (bs.map Value.bool).toArray->a ≠ s.heap.objs.size:=λa ⟨o,z,_⟩=>Nat.ne_of_lt (Heap.lt_size z)
 refine call_all_walk (wpAny_pyIter_list pl.isList ⟨_,_,_,_,_,_,λi=>(bs.map Value.bool)[i]? == some (Value.bool true),rfl,Walks.list (A:=X.A.in1) (I.ok.hd hc) _ _ (lt _ pl.isList) (bs.map Value.bool).toArray,⟨⟨_,Heap.get?_push_size _ rfl,rfl,rfl⟩,?_⟩,λi v s' Q' E' hP hQ=>?_,λh' tk hk=>?_⟩)
 · obtain ⟨o,z1,z2⟩:=pl.isList
   exact ⟨o,Heap.get?_push_of_some _ z1,z2⟩
 · have hP':(bs.map Value.bool)[i]?=some v:=by simpa using hP
   obtain ⟨c,_,rfl⟩:=List.mem_map.mp (List.mem_of_getElem? hP')
   refine wpAny_truthy_bool ?_
   have hQ:Q' ((bs.map Value.bool)[i]? == some (Value.bool true)) s':=hQ
   rw [hP'] at hQ
   cases c
   · exact hQ
   · exact hQ
 · refine ⟨.bl (bs.all id),H,I.kept (t':=tk) λb' o z=>?_,?_,q⟩
   · refine hk b' o (λhm=>?_) (Heap.get?_push_of_some _ z)
     have:b'=s.heap.objs.size:=by simpa using hm
     exact absurd (Heap.lt_size z) (by rw [this]; exact Nat.lt_irrefl _)
   · have e:∀ bs:List Bool,bs.all id=(List.range (bs.map Value.bool).toArray.size).all λi=>(bs.map Value.bool)[i]? == some (Value.bool true):=λbs=>by
       rw [List.size_toArray,List.length_map]
       induction bs with
       | nil=>rfl
       | cons b bs ih=>
         rw [List.all_cons,ih,List.length_cons,List.range_succ_eq_map,List.all_cons,List.all_map]
         congr 1
         cases b <;> rfl
     rw [e]; rfl
theorem jV {K:PySem.W.Frag} {H:Hp}:∀ {vs:List V} {bs:List Bool},aA K H vs (bs.map .bl)->vs=bs.map V.bl
 | _,[],h=>by cases h; rfl
 | _,_ :: _,h=>by
   cases h with
   | cons d r=>cases d; rw [jV r]; rfl
theorem qi (hc:X.calm=true) (bs:List Bool) (hx:xs=bs.map .bl):iy X (.builtin "all") [.lst xs] (.d (.bl (bs.all id))):=⟨_,mD hc,λM vs H Q _ d q=>by
 subst hx
 cases d with
 | cons d r=>
   cases r
   cases d with
   | lst h r=>
     cases jV r
     exact ⟨_,_,rfl,aD aM h,q _ H [] (ai.refl _) cD (fj .bl)⟩⟩
end
end Hy
namespace Hy
open PySem PySem.Spec PyProof.Rows L2
open Ev (D Den aA az a6 aD ax cW cx PTs cc cX)
section
variable {X:Cx} {C:Bool} {τ:List Sl} {x y z:D} {a b e c tg it elt o:Expr} {es ifs:List Expr} {pos p q:Pos} {k:Nat} {s:Sl} {N:Po} {rest body:List Stmt} {ds xs ys:List D} {i j:Int} {scope:Scope}
theorem m4:OpR X (binaryOp .Mult) (λx y H Q=>∃ l k xs,x=.ref l/\y=.int k/\SqL X.K H l xs/\0<=k/\k < 100000/\xs.length * k.toNat<=sizeLine/\∀ p,H p=none->Q (.ref p) (upd H p (.lst (List.replicate k.toNat xs).flatten))):=by
 intro pins s σ H x y v u Q I rx ry h
 obtain ⟨l,k,xs,rfl,rfl,hH,h1,h2,hz,q⟩:=h
 cases rx
 obtain ⟨t,rfl⟩:=ry
 obtain ⟨its,r,pl,_⟩:=I.list hH
 have hl:=r.length
 obtain ⟨⟨cls,dd,data,sl⟩,e,hc,n,hd⟩:=pl.isList
 simp only at hc hd
 subst hc hd
 have hlen:its.toArray.size * k.toNat<=sizeLine:=by rw [List.size_toArray,<- hl]; exact hz
 have hcap:¬ its.toArray.size * k.toNat > (2 ^ 63 - 1) / 8:=by
   have:(sizeLine:Nat)<=(2 ^ 63 - 1) / 8:=by decide
   omega
 have hfit:¬ (!Builtin.List.listFitsIndex k)=true:=by
   rw [fitsIndex_both (by omega) (by omega)]
   exact Bool.false_ne_true
 have hlong:¬ Builtin.List.listTooLong (its.toArray.size * k.toNat)=true:=by
   rw [lO hlen]
   exact Bool.false_ne_true
 have hnew:List.foldl (λx1 x2=>x1++x2) #[] (List.replicate (if its.toArray.isEmpty=true then 0 else k.toNat) its.toArray)=(List.replicate k.toNat its).flatten.toArray:=by
   have f0:∀ m:Nat,List.foldl (λx1 x2=>x1++x2) #[] (List.replicate m its.toArray)=(List.replicate m its).flatten.toArray:=λm=>by
     have:=foldl_rep its m []
     rw [List.nil_append] at this
     exact this
   rw [f0]
   cases its with
   | nil=>simp
   | cons a r'=>rw [if_neg (by simp)]
 refine wpAny_binaryOp_repeat_ref (T:="list") (U:="int") (by decide) ⟨_,e,rfl⟩ (λs'=>typeIs_int s' k t) noFill_list_mul F.fills_int_mul F.slot_int_rmul repeat_list F.slot_int_index.lookup
   (call_meets F.slot_int_rmul (typeIs_int s k t) F.entry_int_rmul (F.args_int_rmul_2 _ _) (lm_int_rmul_list_any k t l its.toArray n dd sl)
     ⟨e,rfl,⟨_,e,rfl⟩,call_meets F.slot_list_mul ⟨_,e,rfl⟩ F.entry_list_mul (F.args_list_mul_2 _ _) (lm_list_mul_any l its.toArray n dd sl k t hfit hcap hlong) ⟨e,?_⟩⟩)
 rw [hnew]
 exact ⟨.ref _,_,I.qK (t':=s.toks) (r.rep k.toNat) (by rw [len_rep,Nat.mul_comm]; exact hz),rfl,q _ I.fresh⟩
theorem kn {K:PySem.W.Frag} {H:Hp} {vs:List V} (h:aA K H vs xs):∀ k:Nat,aA K H (List.replicate k vs).flatten (List.replicate k xs).flatten
 | 0=>.nil
 | k + 1=>by rw [List.replicate_succ,List.replicate_succ,List.flatten_cons,List.flatten_cons]; exact h.append (kn h k)
theorem nE (ha:PE X a (dE X.K C τ (.d (.lst xs)))) (hb:PE X b (dE X.K C τ (.d (.int j)))) (h0:0<=j) (h1:j < 100000) (hl:xs.length * j.toNat < 1000000):PE X (.BinOp a .Mult b pos) (dE X.K C τ (.o (List.replicate j.toNat xs).flatten)):=peW (l4 m4 ha hb) λσ H Q ⟨A,H₀,B,S,k⟩=>
 aT S λv H1 e1 d1=>aT (S.mono e1) λw H2 e2 d2=>by
   cases d2
   cases d1 with
   | lst h1' r1=>
     refine ⟨_,j,_,rfl,rfl,aD (aM.trans e2) h1',h0,h1,by rw [r1.length]; exact Nat.le_of_lt (Nat.lt_trans hl (by decide)),λp hp=>?_⟩
     obtain ⟨z1,z2,z3⟩:=il (K:=X.K) hp (kn (r1.mono (au e2 λ_ z=>z)) j.toNat)
     exact k _ _ [p] (e1.trans (e2.trans z1)) (λb hb=>⟨(e1.trans e2).free (z2 b hb).1,(z2 b hb).2⟩) z3
noncomputable def dN' (K:PySem.W.Frag) (C:Bool) (τ:List Sl) (ns:List Nd):TA:=λσ H Q=>∃ A H₀ B,Sta K A H₀ τ B σ H/\∀ vs H' bs,ai H H'->Fr H H' bs->bs.Nodup->ay K (hd H' λb=>vw C A B b\/b ∈ bs) H' vs bs ns->Q vs H'
theorem p7:PA X [] (dN' X.K C τ []):=paW eA λσ H Q ⟨A,H₀,B,S,k⟩=>k [] H [] (ai.refl _) cD List.nodup_nil .nil
theorem Sta.hide {K:PySem.W.Frag} {A:Addr->Prop} {H₀ H H1:Hp} {B:Nat->List Addr} {σ:L2.St} {b1:List Addr} (S:Sta K A H₀ τ B σ H) (e:ai H H1) (f:Fr H H1 b1):Sta K (λb=>A b\/b ∈ b1) (hd H1 λb=>∃ i,b ∈ B i) τ B σ H1 where
 same:=aM
 len:=S.len
 sl:=λi s h=>(S.sl i s h).mono (λb o z=>by
   obtain ⟨z1,z2⟩:=aj.mp z
   refine aj.mpr ⟨λw=>?_,e _ _ z2⟩
   rcases w with (w | w) | w
   · exact z1 (.inl w)
   · rw [(f b w).1] at z2; cases z2
   · exact z1 (.inr w)) e
 fr:=λi b hb=>by
   cases q:hd H1 (λb=>∃ i,b ∈ B i) b with
   | none=>rfl
   | some o=>exact absurd ⟨i,hb⟩ (aj.mp q).1
 uq:=S.uq
 ad:=λb hb=>by
   rcases hb with z | z
   · obtain ⟨o,q⟩:=S.ad b z
     exact ⟨o,aj.mpr ⟨λ⟨i,w⟩=>(by rw [S.fr i b w] at q; cases q),e _ _ (S.same _ _ q)⟩⟩
   · obtain ⟨w1,o,w2⟩:=f b z
     exact ⟨o,aj.mpr ⟨λ⟨i,w⟩=>(by obtain ⟨o',q⟩:=S.bd i b w; rw [w1] at q; cases q),w2⟩⟩
 bd:=λi b hb=>let ⟨o,q⟩:=S.bd i b hb; ⟨o,e _ _ q⟩
theorem j4 {A:Addr->Prop} {B:Nat->List Addr} {b1:List Addr} {b:Addr} (h:vw C A B b\/b ∈ b1):vw C (λb=>A b\/b ∈ b1) B b:=by
 cases C with
 | true=>
   rcases h with (h | h) | h
   · exact .inl (.inl h)
   · exact .inr h
   · exact .inl (.inr h)
 | false=>exact h
theorem iC {n:Nd} {ns:List Nd} (ha:PE X e (dE X.K C τ s)) (hn:kA s=some n) (hr:PA X es (dN' X.K C τ ns)) (hs:starEach (e :: es) X.env=(false,eval e X.env) :: starEach es X.env:=by rfl):PA X (e :: es) (dN' X.K C τ (n :: ns)):=paW (cq ha hr hs) λσ H Q ⟨A,H₀,B,S,k⟩=>
 ⟨A,H₀,B,S,λv H1 b1 e1 f1 h1=>⟨_,_,B,S.hide e1 f1,λvs H2 b2 e2 f2 n2 h2=>by
   obtain ⟨q1,n1⟩:=h1.nd hn
   refine k _ H2 (b1++b2) (e1.trans e2) (λb hb=>?_) (List.nodup_append.mpr ⟨n1,n2,λx hx y hy z=>?_⟩) (.cons (q1.frame ?_ λb hb=>?_) (h2.frame ?_ λ_ _=>rfl))
   · rcases List.mem_append.mp hb with z | z
     · obtain ⟨w1,o,w2⟩:=f1 b z; exact ⟨w1,o,e2 _ _ w2⟩
     · exact ⟨e1.free (f2 b z).1,(f2 b z).2⟩
   · obtain ⟨_,o,w⟩:=f1 x hx; rw [z,(f2 y hy).1] at w; cases w
   · intro b o z
     obtain ⟨z1,z2⟩:=aj.mp z
     refine aj.mpr ⟨λw=>?_,e2 _ _ z2⟩
     rcases w with w | w
     · exact z1 (.inl w)
     · rcases List.mem_append.mp w with w | w
       · exact z1 (.inr w)
       · rw [(f2 b w).1] at z2; cases z2
   · obtain ⟨_,o,w⟩:=f1 b hb
     rw [w,e2 _ _ w]
   · refine au (ai.refl _) λb w=>?_
     rcases w with w | w
     · exact .inl (j4 (.inl w))
     · rcases List.mem_append.mp w with w | w
       · exact .inl (j4 (.inr w))
       · exact .inr w⟩⟩
theorem pI {K:PySem.W.Frag} {H:Hp} {M:Addr->Prop} {p:Addr} {o:HO} {vs:List V} {bs:List Addr} {ns:List Nd} (hp:H p=none) (d:ay K (hd H λb=>M b\/b ∈ bs) H vs bs ns) (nd:bs.Nodup) :
   ay K (hd (upd H p o) λb=>M b\/b ∈ p :: bs) (upd H p o) vs bs ns/\(p :: bs).Nodup:=by
 have off:∀ b ∈ bs,b ≠ p:=λb hb z=>by obtain ⟨w,q⟩:=d.some_of b hb; rw [z,hp] at q; cases q
 refine ⟨d.frame (λb w z=>?_) λb hb=>ao (off b hb),List.nodup_cons.mpr ⟨λz=>off p z rfl,nd⟩⟩
 obtain ⟨z1,z2⟩:=aj.mp z
 have ne:b ≠ p:=λy=>by rw [y,hp] at z2; cases z2
 refine aj.mpr ⟨λy=>?_,by rw [ao ne]; exact z2⟩
 rcases y with y | y
 · exact z1 (.inl y)
 · rcases List.mem_cons.mp y with y | y
   · exact ne y
   · exact z1 (.inr y)
theorem nX {ns:List Nd} {m} (h:PA X es (dN' X.K C τ ns)) (hl:Nat.ble ns.length 1000=true:=by rfl):PE X (.Tuple es m pos) (dE X.K C τ (.n (.t ns))):=peW (lC h) λσ H Q ⟨A,H₀,B,S,k⟩=>
 ⟨A,H₀,B,S,λvs H1 bs e1 f1 n1 h1=>⟨by rw [h1.length]; exact Nat.le_of_lt (ek (Nat.le_of_ble_eq_true hl)),λp hp=>by
   obtain ⟨z1,z2⟩:=pI (o:=.tup vs) hp h1 n1
   exact k _ _ (p :: bs) (e1.trans (az hp _)) (λb hb=>by
     rcases List.mem_cons.mp hb with w | w
     · subst w; exact ⟨e1.free hp,_,aF⟩
     · obtain ⟨w1,o,w2⟩:=f1 b w; exact ⟨w1,o,az hp _ _ _ w2⟩) ⟨z2,_,rfl,.t aF z1⟩⟩⟩
end
end Hy
namespace Hy
open PySem PySem.Spec PyProof.Rows L2
open Ev (D Den aA az a6 aD ax cW cx PTs cc cX)
section
variable {X:Cx} {C:Bool} {τ τ':List Sl} {x y z:D} {a b e c tg it elt o ix:Expr} {es ifs:List Expr} {pos p q:Pos} {k:Nat} {s:Sl} {N:Po} {rest body:List Stmt} {ds xs ys:List D} {i:Nat} {j:Int} {scope:Scope}
noncomputable def dGs (K:PySem.W.Frag) (τ:List Sl) (xs:List D) (τ':List Sl):TGs:=λvs σ H Q=>∃ A H₀ B,Sta K A H₀ τ B σ H/\aA K (hd H (own A B)) vs xs/\∀ σ' B',Sta K A H₀ τ' B' σ' H->Q σ' H
theorem p6 {es:List Expr} {t t':TGs} (h:PGs X es t) (f:∀ v σ H Q,t' v σ H Q->t v σ H Q):PGs X es t':=λpins s σ H v u Q I r q=>h pins s σ H v u Q I r (f v σ H Q q)
theorem mm:PGs X [] (dGs X.K τ [] τ):=p6 jO λv σ H Q ⟨A,H₀,B,S,d,k⟩=>by
 cases d
 exact ⟨rfl,k σ B S⟩
theorem cj (i:Nat) {n:Str} (hN:X.N.Nodup) (h:PGs X es (dGs X.K (τ.set i (.d x)) xs τ')) (hi:X.N[i]?=some n:=by rfl) (hx:Loc X.env.scope n:=by first | exact .inl rfl | exact .inr rfl) (hf:X.fn n=true\/X.env.scope.names.lookup n=some .local:=by first | exact .inl rfl | exact .inr rfl | assumption):PGs X (.Name n p :: es) (dGs X.K τ (x :: xs) τ'):=
 p6 (fT (cS (i:=i) hN hi hx hf) h) λv σ H Q ⟨A,H₀,B,S,d,k⟩=>by
   cases d with
   | cons d r=>
     have sub:∀ b,own A (upB B i []) b->own A B b:=λb z=>z.elim .inl λ⟨j,z⟩=>(aO z).elim (λz=>nomatch z.2) λz=>.inr ⟨j,z.2⟩
     exact ⟨_,_,rfl,A,H₀,_,S.set (ai.refl _) (bs:=[]) (λ_ z=>nomatch z) (fj d),r.mono (au (ai.refl _) sub),k⟩
theorem nG {m:Nat} (hc:X.calm=true) (h:PGs X es (dGs X.K τ xs τ')) (hl:(assignEach es X.env).length=xs.length:=by rfl) (hst:(assignEach es X.env).findIdx? (·.1)=none:=by rfl):PG X (.Tuple es m pos) (dG X.K τ (.tup xs) τ'):=
 pgW (mh (n:=xs.length) hc h hl hst) λv σ H Q ⟨A,H₀,B,S,d,k⟩=>by
   cases d with
   | tup h r=>exact ⟨_,_,rfl,a6 aM h,r.length,A,H₀,B,S,r,k⟩
theorem oj {m:Nat} (he:PE X e (dE X.K true τ (.d x))) (hg:PG X (.Tuple es m p) (dG X.K τ x τ')) (hr:PSs X rest (dS X.K τ' N)) (hs:swapsWithSole [.Tuple es m p] e pos.line X.env=pure false:=by rfl) (hw:swappedStores [.Tuple es m p] e X.env=pure none:=by rfl)
   (h1:(assignEach [.Tuple es m p] X.env).map (·.2)=[assign (.Tuple es m p) X.env]:=by rfl):PSs X (.Assign [.Tuple es m p] e pos :: rest) (dS X.K τ N):=
 a7 (M:=(·=τ')) (psW (kY he hg hs hw h1) λD σ H ⟨A,H₀,B,S,Me⟩=>aT S λv H1 e1 d1=>⟨A,H₀,B,S.mono e1,d1,λσ' B' S'=>Me.nx _ _ _ _ rfl S'⟩) λ_ e=>e ▸ hr
theorem oi (M:Nat->List Sl->Prop) (T:Nat->List Sl->List Sl) (B:Bk X k) (hi:PI X tg it (dI X.K τ xs)) (hg:∀ i (h:i < xs.length) τ',M i τ'->PG X tg (dG X.K τ' xs[i] (T i τ'))) (h0:M 0 τ)
   (hb:∀ i,i < xs.length->∀ τ',M i τ'->PSs X body (dS X.K (T i τ') { N with nx:=M (i + 1),ct:=M (i + 1),bk:=λ_=>False }))
   (hr:∀ τ',M xs.length τ'->PSs X rest (dS X.K τ' N)) (hs:∀ x,foldedSetIterable it X.env x=pure x:=by intro _; rfl):PSs X (.For tg it body [] pos :: rest) (dS X.K τ N):=
 a7 (M:=M xs.length) (mw (M:=M) (T:=T) B hi h0 hg (λi h τ' m=>jm (hb i h τ' m) λD σ H ⟨A,H₀,B,S,Me⟩=>⟨A,H₀,B,S,Me.nx,λ_ _ _ _ z=>z.elim,Me.ct,Me.rt⟩) (λ_ m=>m) hs) hr
theorem rj (T:Nat->List Sl) {f:Nat->D} (B:Bk X k) (hi:PI X tg it (dI X.K τ xs)) (hl:xs.length < 1000000) (hT:∀ i,(T i).length=(aX τ (bCp X.N scope)++[Sl.un]).length/\∀ (l:Nat) (x:D),(aX τ (bCp X.N scope)++[Sl.un])[l]?=some (.d x)->(T i)[l]?=some (.d x))
   (hg:∀ i (h:i < xs.length) s H fp,PG (cpX X s H scope fp) tg (dG X.K (aX τ (bCp X.N scope)++[.un]) xs[i] (T i)))
   (he:∀ i,i < xs.length->∀ s H fp,PE (cpX X s H scope fp) elt (dE X.K true (T i) (.d (f i)))) (hc:bOk X.env.scope scope=true:=by kernel_rfl) (hs:∀ x,foldedSetIterable it X.env x=pure x:=by intro _; rfl) :
   Cmp X elt tg it [] scope τ ((List.range xs.length).map f):=by
 have h:=lG (T:=T) (t:=λ_=>true) (f:=f) (elt:=elt) (ifs:=[]) B hc hi hT hg (λi h s H fp=>λpins s' σ H' Q I ⟨A,H₀,B,S,q⟩=>ib pins s' σ H' Q I (q H' (ai.refl _))) (λi h _ s H fp=>he i h s H fp) hl hs
 rwa [List.filter_eq_self.mpr λ_ _=>rfl] at h
structure o8 (X:Cx) (elt tg it:Expr) (ifs:List Expr) (scope:Scope) (τ:List Sl) (ns:List Nd):Prop where
 ex:∃ (In:TG->TT->TE->Prop) (caps:List (Option Nat)) (N:List Str) (wi:TI),cx X scope N caps/\PI X tg it wi/\(∀ g tt te,In g tt te->∀ s H fp,PG (ax X s H scope N fp) tg g/\PTs (ax X s H scope N fp) ifs tt/\PE (ax X s H scope N fp) elt te) /\
   ∀ C σ H Q,dE X.K C τ (.n (.l ns)) σ H Q->cX In caps wi σ H Q
 hs:∀ x,foldedSetIterable it X.env x=pure x
 hc:X.calm=true
theorem qd {ns:List Nd} (h:o8 X elt tg it ifs scope τ ns):PE X (.ListComp elt [⟨tg,it,ifs,0⟩] scope pos) (dE X.K C τ (.n (.l ns))):=by
 obtain ⟨In,caps,N,wi,h1,h2,h3,h4⟩:=h.ex
 exact peW (cc h.hc h1 h2 h.hs h3) (h4 C)
theorem mZ {T:Nat->List Sl} {f:Nat->Nd} {S':Nat->Sl} (B:Bk X k) (hc:bOk X.env.scope scope=true) (hi:PI X tg it (dI X.K τ xs)) (hT:∀ i,(T i).length=(aX τ (bCp X.N scope)++[Sl.un]).length/\∀ (l:Nat) (x:D),(aX τ (bCp X.N scope)++[Sl.un])[l]?=some (.d x)->(T i)[l]?=some (.d x))
   (hg:∀ i (h:i < xs.length) s H fp,PG (cpX X s H scope fp) tg (dG X.K (aX τ (bCp X.N scope)++[.un]) xs[i] (T i)))
   (he:∀ i,i < xs.length->∀ s H fp,PE (cpX X s H scope fp) elt (dE X.K true (T i) (S' i))) (hn:∀ i,i < xs.length->kA (S' i)=some (f i)) (hl:xs.length < 1000000) (hs:∀ x,foldedSetIterable it X.env x=pure x:=by intro _; rfl) :
   o8 X elt tg it [] scope τ ((List.range xs.length).map f):=by
 obtain ⟨cap,_⟩:=dZ hc
 generalize hτ:aX τ (bCp X.N scope)++[Sl.un]=τb at *
 refine ⟨⟨λg tt te=>g=(λv σ H Q=>∃ (i:Nat) (h:i < xs.length),dG X.K τb xs[i] (T i) v σ H Q)/\tt=(λσ H Q=>Q true H)/\te=(λσ H Q=>∃ i,i < xs.length/\dE X.K true (T i) (S' i) σ H Q),_,_,_,cap,hi,?_,?_⟩,hs,B.calm⟩
 · rintro g tt te ⟨rfl,rfl,rfl⟩ s H fp
   exact ⟨λpins s' σ H' v u Q I r ⟨i,h,q⟩=>hg i h s H fp pins s' σ H' v u Q I r q,ib,λpins s' σ H' Q I ⟨i,h,q⟩=>he i h s H fp pins s' σ H' Q I q⟩
 rintro C σ H Q ⟨A,H₀,B,S,kk⟩
 refine ⟨A,H₀,B,S,λJ H1 e1 yl=>⟨_,_,_,⟨rfl,rfl,rfl⟩,λD hD=>?_⟩⟩
 have S1:=S.mono e1
 have flat:∀ (l:Nat) (s:Sl),τb[l]?=some s->s=.un\/∃ x,s=.d x:=λl s h=>by
   rw [<- hτ] at h
   rcases List.mem_append.mp (List.mem_of_getElem? h) with z | z
   · unfold aX at z
     obtain ⟨o,_,ho⟩:=List.mem_map.mp z
     split at ho
     · split at ho
       · exact .inr ⟨_,ho.symm⟩
       · exact .inl ho.symm
     · exact .inl ho.symm
   · exact .inl (List.mem_singleton.mp z)
 have slots:∀ {σ':L2.St} {H':Hp} {rs:List Addr},ai H1 H'->(∃ o,H' D=some o)->(∀ b ∈ rs,∃ o,H' b=some o)->σ'.length=τb.length->(∀ (l:Nat) (s:Sl),τb[l]?=some s->bq X.K (hd H' λb=>own A B b\/b=D\/b ∈ rs) H' (σ'[l]?).join [] s)->Sta X.K (λb=>own A B b\/b=D\/b ∈ rs) H' τb (λ_=>[]) σ' H':=λ{σ' H' rs} e1 e2 e5 e3 e4=>
   ⟨ai.refl _,e3,λl s h=>(e4 l s h).mono (au (ai.refl _) λ_ z=>z.elim id λ⟨_,z⟩=>(nomatch z)) (ai.refl _),λ_ _ z=>(nomatch z),λ_ _ _ z=>(nomatch z),λb z=>z.elim (λz=>let ⟨o,q⟩:=S1.dm b z; ⟨o,e1 _ _ q⟩) λz=>z.elim (λz=>z ▸ e2) (e5 b),λ_ _ z=>(nomatch z)⟩
 refine ⟨λi m σ' H'=>m=xs.length - i/\i<=xs.length/\ai H1 H'/\(∃ vs rs,H' D=some (.lst vs)/\vs.length<=i/\ay X.K (hd H' λb=>own A B b\/b=D\/b ∈ rs) H' vs rs ((List.range i).map f)/\(D :: rs).Nodup/\(∀ b ∈ rs,H1 b=none) /\
   σ'.length=τb.length/\∀ (l:Nat) (s:Sl),τb[l]?=some s->bq X.K (hd H' λb=>own A B b\/b=D\/b ∈ rs) H' (σ'[l]?).join [] s),⟨xs.length,rfl,Nat.zero_le _,az hD _,[],[],aF,Nat.le_refl _,.nil,by simp,λ_ z=>(nomatch z),?_,λl s h=>?_⟩,?_⟩
 · rw [<- hτ]; unfold cW aX; rw [List.length_append,List.length_append,List.length_map,List.length_map]; rfl
 · have hv:ai (hd H (own A B)) (hd (upd H1 D (.lst [])) λb=>own A B b\/b=D\/b ∈ ([]:List Addr)):=λb o z=>by
     obtain ⟨z1,z2⟩:=aj.mp z
     have z2:=e1 _ _ z2
     have ne:b ≠ D:=λz=>by rw [z,hD] at z2; cases z2
     exact aj.mpr ⟨λy=>y.elim z1 λy=>y.elim ne λy=>(nomatch y),by rw [ao ne]; exact z2⟩
   rcases flat l s h with rfl | ⟨x,rfl⟩
   · rfl
   · rw [<- hτ] at h
     have hlt:l < (bCp X.N scope).length:=by
       rcases Nat.lt_or_ge l (bCp X.N scope).length with h' | h'
       · exact h'
       · exfalso
         rw [List.getElem?_append_right (by unfold aX; rw [List.length_map]; exact h')] at h
         cases e:l - (aX τ (bCp X.N scope)).length with
         | zero=>rw [e] at h; cases h
         | succ n=>rw [e] at h; cases h
     rw [List.getElem?_append_left (by unfold aX; rw [List.length_map]; exact hlt)] at h
     rw [List.getElem?_append_left (by unfold cW; rw [List.length_map]; exact hlt)]
     unfold aX at h
     unfold cW
     rw [List.getElem?_map] at h ⊢
     cases e:(bCp X.N scope)[l]? with
     | none=>rw [e] at h; cases h
     | some o=>
       rw [e] at h
       cases o with
       | none=>cases h
       | some i=>
         simp only [Option.map_some,Option.some.injEq] at h
         split at h
         · rename_i x' hx'
           cases h
           obtain ⟨_,u,eu,d⟩:=S.sl i _ hx'
           exact ⟨rfl,u,by simpa using eu,d.mono hv⟩
         · cases h
 rintro i m σ' H' ⟨rfl,hi,e2,vs,rs,hv1,hv2,hv3,hnd,hfr,hlen,hsl⟩
 obtain ⟨y1,y2⟩:=yl H' (aM.trans e2)
 have rsd:∀ b ∈ rs,∃ o,H' b=some o:=hv3.some_of
 by_cases hlt:i < xs.length
 · obtain ⟨g,y⟩:=y2 i hlt
   refine .inr ⟨g,λx H2 hy=>?_⟩
   obtain ⟨e3,dx⟩:=y x H2 hy
   have S2:=slots e2 ⟨_,hv1⟩ rsd hlen hsl
   have o0:∀ b,own (λb=>own A B b\/b=D\/b ∈ rs) (λ_=>([]:List Addr)) b->own A B b\/b=D\/b ∈ rs:=λb z=>z.elim id λ⟨_,z⟩=>(nomatch z)
   have dx':=dx _ S2.dm (λb o z=>by
     obtain ⟨z1,z2⟩:=aj.mp z
     exact aj.mpr ⟨λy=>(o0 b y).elim z1 λy=>y.elim (λy=>(by rw [y,hD] at z2; cases z2)) λy=>(by rw [hfr b y] at z2; cases z2),e2 _ _ z2⟩)
   refine ⟨i,hlt,_,_,_,S2.mono e3,dx',λσ2 B2 S3=>?_⟩
   refine jA ⟨i,hlt,_,_,_,S3,λv H5 bs e5 hf5 d5=>?_⟩
   obtain ⟨nv,ndv⟩:=d5.nd (hn i hlt)
   have e6:=e3.trans e5
   have hv5:=e6 _ _ hv1
   have bsD:∀ b ∈ bs,b ≠ D:=λb hb z=>by have:=(hf5 b hb).1; rw [z,e3 _ _ hv1] at this; cases this
   have bsR:∀ b ∈ bs,b ∉ rs:=λb hb z=>by obtain ⟨o,q⟩:=rsd b z; have:=(hf5 b hb).1; rw [e3 _ _ q] at this; cases this
   refine ⟨vs,xs.length - (i + 1),hv5,Nat.lt_trans (Nat.lt_of_le_of_lt hv2 (Nat.lt_trans hlt hl)) (by decide),by omega,rfl,hlt,?_,vs++[v],rs++bs,aF,by rw [List.length_append]; exact Nat.succ_le_succ hv2,?_,?_,?_,S3.len.trans (hT i).1,λl s h=>?_⟩
   · intro b o z
     have ne:b ≠ D:=λy=>by rw [y,hD] at z; cases z
     rw [ao ne]
     exact e6 _ _ (e2 _ _ z)
   · rw [List.range_succ,List.map_append]
     have sm1:ai (hd H5 λb=>vw true (λb=>own A B b\/b=D\/b ∈ rs) B2 b\/b ∈ bs) (hd (upd H5 D (.lst (vs++[v]))) λb=>own A B b\/b=D\/b ∈ rs++bs):=λb o z=>by
       obtain ⟨z1,z2⟩:=aj.mp z
       refine aj.mpr ⟨λy=>z1 ?_,by rw [ao (λy:b=D=>z1 (.inl (.inl (.inr (.inl y)))))]; exact z2⟩
       rcases y with y | y | y
       · exact .inl (.inl (.inl y))
       · exact .inl (.inl (.inr (.inl y)))
       · exact (List.mem_append.mp y).elim (λy=>.inl (.inl (.inr (.inr y)))) .inr
     have sm2:ai (hd H' λb=>own A B b\/b=D\/b ∈ rs) (hd (upd H5 D (.lst (vs++[v]))) λb=>own A B b\/b=D\/b ∈ rs++bs):=λb o z=>by
       obtain ⟨z1,z2⟩:=aj.mp z
       refine aj.mpr ⟨λy=>?_,by rw [ao (λy:b=D=>z1 (.inr (.inl y)))]; exact e6 _ _ z2⟩
       rcases y with y | y | y
       · exact z1 (.inl y)
       · exact z1 (.inr (.inl y))
       · rcases List.mem_append.mp y with y | y
         · exact z1 (.inr (.inr y))
         · have:=(hf5 b y).1; rw [e3 _ _ z2] at this; cases this
     refine ay.snoc (nv.frame sm1 λb hb=>ao (bsD b hb)) (hv3.frame sm2 λb hb=>?_)
     obtain ⟨o,q⟩:=rsd b hb
     rw [ao (λz:b=D=>(List.nodup_cons.mp hnd).1 (by rw [<- z]; exact hb)),e6 _ _ q,q]
   · obtain ⟨n1,n2⟩:=List.nodup_cons.mp hnd
     refine List.nodup_cons.mpr ⟨λz=>?_,List.nodup_append.mpr ⟨n2,ndv,λx hx y hy z=>bsR y hy (z ▸ hx)⟩⟩
     exact (List.mem_append.mp z).elim n1 λz=>bsD D z rfl
   · intro b hb
     rcases List.mem_append.mp hb with z | z
     · exact hfr b z
     · exact (e2.trans e3).free (hf5 b z).1
   · rcases flat l s h with rfl | ⟨x,rfl⟩
     · rfl
     · obtain ⟨_,u,eu,d⟩:=S3.sl l _ ((hT i).2 l x h)
       refine ⟨rfl,u,eu,d.mono λb o z=>?_⟩
       obtain ⟨z1,z2⟩:=aj.mp z
       refine aj.mpr ⟨λy=>?_,by rw [ao (λy:b=D=>z1 (.inl (.inr (.inl y))))]; exact e5 _ _ z2⟩
       rcases y with y | y | y
       · exact z1 (.inl (.inl y))
       · exact z1 (.inl (.inr (.inl y)))
       · rcases List.mem_append.mp y with y | y
         · exact z1 (.inl (.inr (.inr y)))
         · rw [(hf5 b y).1] at z2; cases z2
 · have e:i=xs.length:=by omega
   subst e
   refine .inl ⟨y1 _ (Nat.le_refl _),kk _ _ (D :: rs) (e1.trans e2) (λb hb=>?_) ⟨hnd,_,rfl,.l hv1 (hv3.frame (au (ai.refl _) λb z=>?_) λ_ _=>rfl)⟩⟩
   · rcases List.mem_cons.mp hb with rfl | z
     · exact ⟨e1.free hD,_,hv1⟩
     · exact ⟨e1.free (hfr b z),rsd b z⟩
   · rcases z with z | z
     · exact .inl (fV z)
     · exact .inr ((List.mem_cons.mp z).elim .inl .inr)
theorem qR (j:Nat) {n:Str} {g:Nat->D} {f:Nat->Nd} {S':Nat->Sl} (B:Bk X k) (hi:PI X (.Name n p) it (dI X.K τ xs)) (hx:∀ i (h:i < xs.length),xs[i]=g i) (hl:xs.length < 1000000)
   (he:∀ i,i < xs.length->∀ s H fp,PE (cpX X s H scope fp) elt (dE X.K true ((aX τ (bCp X.N scope)++[Sl.un]).set j (.d (g i))) (S' i))) (hn:∀ i,i < xs.length->kA (S' i)=some (f i))
   (hc:bOk X.env.scope scope=true:=by kernel_rfl) (hu:(aX τ (bCp X.N scope)++[Sl.un])[j]?=some .un:=by rfl) (hN:(bNm scope++[("#" : Str)])[j]?=some n:=by rfl) (hv:∀ s H fp,Loc (cpX X s H scope fp).env.scope n:=by intro _ _ _; first | exact .inl rfl | exact .inr rfl)
   (hf:∀ s H fp,(cpX X s H scope fp).fn n=true\/(cpX X s H scope fp).env.scope.names.lookup n=some .local:=by intro _ _ _; first | exact .inr rfl | exact .inl rfl) (hs:∀ x,foldedSetIterable it X.env x=pure x:=by intro _; rfl) :
   o8 X elt (.Name n p) it [] scope τ ((List.range xs.length).map f):=by
 refine mZ (T:=λi=>(aX τ (bCp X.N scope)++[Sl.un]).set j (.d (g i))) B hc hi (λi=>⟨List.length_set,λl x h=>?_⟩) (λi h s H fp=>?_) he hn hl hs
 · rw [List.getElem?_set_ne (λz=>by rw [<- z,hu] at h; cases h)]
   exact h
 · rw [hx i h]
   exact oR j (dZ hc).2 hN (hv s H fp) (hf s H fp)
end
end Hy
namespace Hy
open PySem PySem.Spec PyProof.Rows L2
open Ev (D Den aA az a6 aD ax cW cx PTs cc cX)
section
variable {X:Cx} {C:Bool} {τ τ':List Sl} {x y z:D} {a b e c tg it elt o ix:Expr} {es ifs:List Expr} {pos p q:Pos} {k:Nat} {s:Sl} {N:Po} {rest body:List Stmt} {ds xs ys:List D} {i:Nat} {scope:Scope}
theorem oT (j l:Nat) {n m:Str} {p2 pt:Pos} {md:Nat} {g g' f:Nat->D} (B:Bk X k) (hi:PI X (.Tuple [.Name n p,.Name m p2] md pt) it (dI X.K τ xs)) (hx:∀ i (h:i < xs.length),xs[i]=.tup [g i,g' i]) (hl:xs.length < 1000000)
   (he:∀ i,i < xs.length->∀ s H fp,PE (cpX X s H scope fp) elt (dE X.K true (((aX τ (bCp X.N scope)++[Sl.un]).set j (.d (g i))).set l (.d (g' i))) (.d (f i))))
   (hc:bOk X.env.scope scope=true:=by kernel_rfl) (hu:(aX τ (bCp X.N scope)++[Sl.un])[j]?=some .un:=by rfl) (hu':(aX τ (bCp X.N scope)++[Sl.un])[l]?=some .un:=by rfl) (hN:(bNm scope++[("#" : Str)])[j]?=some n:=by rfl) (hN':(bNm scope++[("#" : Str)])[l]?=some m:=by rfl) (hv:∀ s H fp,Loc (cpX X s H scope fp).env.scope n:=by intro _ _ _; first | exact .inl rfl | exact .inr rfl) (hv':∀ s H fp,Loc (cpX X s H scope fp).env.scope m:=by intro _ _ _; first | exact .inl rfl | exact .inr rfl)
   (hf:∀ s H fp,(cpX X s H scope fp).fn n=true\/(cpX X s H scope fp).env.scope.names.lookup n=some .local:=by intro _ _ _; first | exact .inr rfl | exact .inl rfl) (hf':∀ s H fp,(cpX X s H scope fp).fn m=true\/(cpX X s H scope fp).env.scope.names.lookup m=some .local:=by intro _ _ _; first | exact .inr rfl | exact .inl rfl) (hs:∀ x,foldedSetIterable it X.env x=pure x:=by intro _; rfl) :
   Cmp X elt (.Tuple [.Name n p,.Name m p2] md pt) it [] scope τ ((List.range xs.length).map f):=
 rj (λi=>((aX τ (bCp X.N scope)++[Sl.un]).set j (.d (g i))).set l (.d (g' i))) B hi hl (λi=>⟨by rw [List.length_set,List.length_set],λr x h=>by
     rw [List.getElem?_set_ne (λz=>by rw [<- z,hu'] at h; cases h),List.getElem?_set_ne (λz=>by rw [<- z,hu] at h; cases h)]
     exact h⟩)
   (λi h s H fp=>by rw [hx i h]; exact nR j l (B.comp s H scope fp).calm (dZ hc).2 hN hN' (hv s H fp) (hv' s H fp) (hf s H fp) (hf' s H fp)) he hc hs
theorem qL {ns ms:List Int} (i:Nat) (h:i < (dn (ns.map D.int) (ms.map D.int)).length):(dn (ns.map D.int) (ms.map D.int))[i]=.tup [.int (ns.getD i 0),.int (ms.getD i 0)]:=by
 rw [eY]
 rw [a9,List.length_map,List.length_map] at h
 simp [show i < ns.length by omega,show i < ms.length by omega]
end
end Hy
namespace Hy
open PySem PySem.Spec PyProof.Rows L2
open Ev (D Den aA az a6 aD)
section
variable {X:Cx} {C:Bool} {τ:List Sl} {x y z:D} {a b e o ix:Expr} {es:List Expr} {pos p q:Pos} {k:Nat} {s:Sl} {N:Po} {rest:List Stmt} {i j:Nat} {t c:Nd} {pt:List Nat} {xs:List Nd} {m:Nat}
noncomputable def oM (K:PySem.W.Frag) (τ:List Sl) (i j:Nat) (pt:List Nat) (t':Nd):TS:=λD σ H=>∃ A H₀ B,Sta K A H₀ τ B σ H/\(∃ u v,(σ[i]?).join=some u/\σ[j]?=some (some v)/\bE H pt u v)/\∀ B' H',Sta K A H₀ (τ.set i (.n t')) B' σ H'->D.nx σ H'
theorem oU {n:Str} {ap cp np:Pos} (ho:PE X (.Name n np) (oI j)) (he:PE X e (dE X.K true τ (.d x))) (hi:τ[i]?=some (.n t)) (hp:eP pt t=some (.l xs)) (hl:xs.length < 1000000)
   (hfew:((backTo cp (starEach [e] X.env)).all (λx=>!x.1) && (backToKw cp (keywordEach [] X.env)).all (λx=>x.1.isSome) && decide (([e]:List Expr).length + ([]:List Keyword).length + (if ([]:List Keyword).isEmpty then 0 else 1) < 30))=true)
   (hline:(ap.endLine == cp.line)=true) (hst:starEach [e] X.env=(false,eval e X.env) :: starEach [] X.env) (hpl:(backTo cp (starEach [] X.env)).any (·.1)=false)
   (hs:swapsWith (.Call (.Attribute (.Name n np) "append" ap) [e] [] cp) none pos.line X.env=pure false) (hbase:attributeBase (.Name n np) "append" X.env (eval (.Name n np) X.env)=eval (.Name n np) X.env) :
   PS X (.Expr (.Call (.Attribute (.Name n np) "append" ap) [e] [] cp) pos) (oM X.K τ i j pt (cL pt t (.l (xs++[.d x])))):=
 psW (eV (lB PySem.F.plainAttrs_list PySem.F.slot_list_append PySem.F.type_list_append bZ ho (cq he eA hst) hbase hfew hline hst hpl) hs) λD σ H ⟨A,H₀,B,S1,⟨u,v,eu,ev,pv⟩,fin⟩=>by
   refine ⟨v,ev,?_⟩
   obtain ⟨u',l,vs,bs0,eu',pv',hH,r0,nd0,hal,hown,put⟩:=S1.putN hi hp
   rw [eu] at eu'
   cases eu'
   obtain rfl:=pv.det pv'
   refine ⟨.inl ⟨rfl,_,SqL.of hH⟩,A,H₀,B,S1,λw H2 bs e2 hf hw=>⟨l,vs,w,rfl,rfl,e2 _ _ hH,by rw [r0.length]; exact Nat.lt_trans hl (by decide),?_⟩⟩
   obtain ⟨nw,ndw⟩:=hw.nd (c:=.d x) rfl
   have off:∀ b ∈ bs,b ≠ l:=λb hb z=>by rw [z] at hb; rw [(hf l hb).1] at hH; cases hH
   have sm:ai (hd H2 λb=>own A B b\/b ∈ bs) (hd (upd H2 l (.lst (vs++[w]))) λb=>own A B b\/b ∈ bs0++bs):=λb o z=>by
     obtain ⟨z1,z2⟩:=aj.mp z
     refine aj.mpr ⟨λy=>z1 ?_,by rw [ao (λy:b=l=>z1 (.inl (by rw [y]; exact hal)))]; exact z2⟩
     rcases y with y | y
     · exact .inl y
     · exact (List.mem_append.mp y).elim (λz=>.inl (hown b z).1) .inr
   have sm0:ai (hd H (own A B)) (hd (upd H2 l (.lst (vs++[w]))) λb=>own A B b\/b ∈ bs0++bs):=λb o z=>by
     obtain ⟨z1,z2⟩:=aj.mp z
     refine aj.mpr ⟨λy=>?_,by rw [ao (λy:b=l=>z1 (by rw [y]; exact hal))]; exact e2 _ _ z2⟩
     rcases y with y | y
     · exact z1 y
     · rcases List.mem_append.mp y with y | y
       · exact z1 (hown b y).1
       · rw [(hf b y).1] at z2; cases z2
   obtain ⟨B',S'⟩:=put (H1:=H2) (vs':=vs++[w]) (bs1:=bs0++bs) (xs':=xs++[.d x]) e2 (List.nodup_append.mpr ⟨nd0,ndw,λx hx y hy z=>by
       obtain ⟨o,q⟩:=r0.some_of x hx
       rw [z,(hf y hy).1] at q; cases q⟩)
     (λb hb=>(List.mem_append.mp hb).elim .inl λz=>.inr (hf b z))
     (ay.snoc (nw.frame sm λb hb=>ao (off b hb)) (r0.frame sm0 λb hb=>by
       obtain ⟨o,q⟩:=r0.some_of b hb
       rw [ao (hown b hb).2,e2 _ _ q,q]))
   exact fin B' _ S'
noncomputable def aW (x:D) (rows:List (List Nd)) (k:Nat):List Nd:=(rows.take k).map (λr=>Nd.l (r++[.d x]))++(rows.drop k).map Nd.l
theorem kE (rows:List (List Nd)) (k:Nat):(aW x rows k).length=rows.length:=by unfold aW; simp; omega
theorem lM {rows:List (List Nd)} {k:Nat} (h:k < rows.length):(aW x rows k)[k]?=some (.l rows[k]):=by
 unfold aW
 rw [List.getElem?_append_right (by simp; omega)]
 simp [Nat.min_eq_left (Nat.le_of_lt h),h]
theorem jt {rows:List (List Nd)} {k:Nat} (h:k < rows.length):(aW x rows k).set k (.l (rows[k]++[.d x]))=aW x rows (k + 1):=by
 unfold aW
 have hm:((rows.take k).map λr=>Nd.l (r++[.d x])).length=k:=by simp; omega
 rw [List.set_append_right _ _ (by omega),hm,Nat.sub_self,List.drop_eq_getElem_cons h,List.map_cons,List.set_cons_zero,List.take_add_one,List.getElem?_eq_getElem h,List.map_append,List.append_assoc]
 rfl
theorem set_same {α:Type} {xs:List α} {i:Nat} {y:α} (h:xs[i]?=some y):xs.set i y=xs:=by
 obtain ⟨h1,h2⟩:=List.getElem?_eq_some_iff.mp h
 rw [<- h2]
 exact List.set_getElem_self h1
theorem oS (i j:Nat) {n v:Str} {ap cp np ip tp bp:Pos} (rows:List (List Nd)) (Bk:Bk X k) (hN:X.N.Nodup) (hi:τ[i]?=some (.n (.l (rows.map .l)))) (he:∀ r,PE X e (dE X.K true (τ.set i (.n (.l r))) (.d x))) (hl:∀ r ∈ rows,r.length < 1000000)
   (hr:PSs X rest (dS X.K (τ.set i (.n (.l (rows.map λr=>.l (r++[.d x]))))) N)) (hj:τ[j]?=some .un:=by rfl) (hij:i ≠ j:=by decide) (hNi:X.N[i]?=some v:=by rfl) (hNj:X.N[j]?=some n:=by rfl)
   (hvi:Vis X.env.scope v:=by first | exact Or.inl rfl | exact Or.inr (Or.inl rfl) | exact Or.inr (Or.inr rfl)) (hvj:Vis X.env.scope n:=by first | exact Or.inl rfl | exact Or.inr (Or.inl rfl) | exact Or.inr (Or.inr rfl)) (hlj:Loc X.env.scope n:=by first | exact .inl rfl | exact .inr rfl)
   (hf:X.fn n=true\/X.env.scope.names.lookup n=some .local:=by first | exact .inl rfl | exact .inr rfl | assumption)
   (hd1:(v == ("__debug__" : Str))=false:=by decide) (hd2:(v == ("__classdict__" : Str))=false:=by decide) (hd3:(n == ("__debug__" : Str))=false:=by decide) (hd4:(n == ("__classdict__" : Str))=false:=by decide)
   (hfew:((backTo cp (starEach [e] X.env)).all (λx=>!x.1) && (backToKw cp (keywordEach [] X.env)).all (λx=>x.1.isSome) && decide (([e]:List Expr).length + ([]:List Keyword).length + (if ([]:List Keyword).isEmpty then 0 else 1) < 30))=true:=by rfl)
   (hline:(ap.endLine == cp.line)=true:=by rfl) (hst:starEach [e] X.env=(false,eval e X.env) :: starEach [] X.env:=by rfl) (hpl:(backTo cp (starEach [] X.env)).any (·.1)=false:=by rfl)
   (hsw:swapsWith (.Call (.Attribute (.Name n np) "append" ap) [e] [] cp) none bp.line X.env=pure false:=by rfl) (hbase:attributeBase (.Name n np) "append" X.env (eval (.Name n np) X.env)=eval (.Name n np) X.env:=by rfl)
   (hs:∀ x,foldedSetIterable (.Name v ip) X.env x=pure x:=by intro _; rfl) :
   PSs X (.For (.Name n tp) (.Name v ip) [.Expr (.Call (.Attribute (.Name n np) "append" ap) [e] [] cp) bp] [] pos :: rest) (dS X.K τ N):=by
 have hlen:i < τ.length:=(List.getElem?_eq_some_iff.mp hi).1
 have tk:∀ k,(τ.set i (.n (.l (aW x rows k))))[i]?=some (.n (.l (aW x rows k))):=λk=>List.getElem?_set_self hlen
 have tj:∀ k,(τ.set i (.n (.l (aW x rows k))))[j]?=some .un:=λk=>by rw [List.getElem?_set_ne hij]; exact hj
 have body:PSs X [.Expr (.Call (.Attribute (.Name n np) "append" ap) [e] [] cp) bp] λD σ H=>∃ kk,kk < rows.length/\oM X.K (τ.set i (.n (.l (aW x rows kk)))) i j [kk] (.l (aW x rows (kk + 1))) D σ H:=by
   refine jm (i8 (t:=λD σ H=>∃ kk,kk < rows.length/\oM X.K (τ.set i (.n (.l (aW x rows kk)))) i j [kk] (.l (aW x rows (kk + 1))) D σ H) ?_ km) λD σ H h=>h
   rintro pins s σ H D I ⟨kk,hk,h⟩
   have e1:cL [kk] (.l (aW x rows kk)) (.l (rows[kk]++[.d x]))=.l (aW x rows (kk + 1)):=by rw [<- jt hk]; rfl
   rw [<- e1] at h
   exact oU (bP hNj hvj hd3 hd4) (he _) (tk kk) (by unfold eP; rw [lM hk]; rfl) (hl _ (List.getElem_mem hk)) hfew hline hst hpl hsw hbase pins s σ H D I h
 have e0:aW x rows 0=rows.map .l:=by simp [aW]
 have eE:aW x rows rows.length=rows.map λr=>.l (r++[.d x]):=by simp [aW]
 refine a7 (M:=(·=τ.set i (.n (.l (aW x rows rows.length))))) (psW (mK Bk.po Bk.calm (j9 (bP hNi hvi hd1 hd2)) (cS hN hNj hlj hf) body hs) λD σ H ⟨A,H₀,B,S,Me⟩=>?_) λ_ e=>by rw [e,eE]; exact hr
 obtain ⟨_,u,eu,ok⟩:=S.sl i _ hi
 generalize B i=bi at ok
 cases ok with
 | @l a vs bs0 _ hH r0=>
   refine ⟨_,slot_of eu,a,rfl,⟨_,SqL.of hH⟩,λk m σ' H'=>m=rows.length - k/\k<=rows.length/\(σ'[i]?).join=some (.ref a)/\∃ B',Sta X.K A H₀ (τ.set i (.n (.l (aW x rows k)))) B' σ' H',⟨_,rfl,Nat.zero_le _,eu,B,by rw [e0,set_same hi]; exact S⟩,?_⟩
   rintro k m σ' H' ⟨rfl,hk,ea,B',S'⟩
   obtain ⟨_,u',eu',ok'⟩:=S'.sl i _ (tk k)
   rw [ea] at eu'
   cases eu'
   generalize B' i=bi' at ok'
   cases ok' with
   | @l _ vs' bs1 _ hH' r1=>
     have hlv:vs'.length=rows.length:=by rw [r1.length,kE]
     by_cases hlt:k < rows.length
     · refine .inr ⟨⟨vs',vs'[k],SqL.of hH',List.getElem?_eq_getElem (by omega)⟩,λσ2 H2=>(σ2[i]?).join=some (.ref a)/\∃ B',Sta X.K A H₀ (τ.set i (.n (.l (aW x rows (k + 1))))) B' σ2 H2,λσ2 H2 ⟨z1,z2⟩=>⟨rows.length - (k + 1),by omega,rfl,hlt,z1,z2⟩,λy H2 ⟨e1,e2⟩=>?_⟩
       subst e1
       have ey:=e2 vs' (SqL.of hH')
       have S2:=S'.set (ai.refl _) (i:=j) (v:=y) (s:=.un) (bs:=[]) (λ_ z=>nomatch z) rfl
       rw [set_same (tj k)] at S2
       have hjl:j < σ'.length:=by rw [S'.len,List.length_set]; exact (List.getElem?_eq_some_iff.mp hj).1
       have ei:((σ'.set j (some y))[i]?).join=some (.ref a):=by rw [List.getElem?_set_ne (Ne.symm hij)]; exact ea
       refine ⟨k,hlt,A,H₀,_,S2,⟨.ref a,y,ei,List.getElem?_set_self hjl,a,vs',y,rfl,.inl hH',ey,rfl⟩,λB3 H3 S3=>⟨ei,B3,?_⟩⟩
       rw [List.set_set] at S3
       exact S3
     · obtain rfl:k=rows.length:=by omega
       exact .inl ⟨⟨vs',SqL.of hH',by omega⟩,Me.nx _ _ _ _ rfl S'⟩
end
end Hy
namespace Hy
open PySem PySem.Spec PyProof.Rows L2
open Ev (D Den aA az a6 aD)
noncomputable def par:D->Bool
 | .tup [x,y]=>flat x && flat y
 | _=>false
mutual
noncomputable def dX:Nd->Bool
 | .d x=>par x
 | .l xs=>bD xs
 | .t xs=>bD xs
noncomputable def bD:List Nd->Bool
 | []=>true
 | x :: xs=>dX x && bD xs
end
mutual
noncomputable def dJ:Nd->Bool
 | .d _=>true
 | .l xs=>b9 xs
 | .t xs=>(xs.length != 2) && b9 xs
noncomputable def b9:List Nd->Bool
 | []=>true
 | x :: xs=>dJ x && b9 xs
end
noncomputable def Odd (H:Hp) (b:Addr):Prop:=(∃ vs,H b=some (.lst vs))\/∃ vs,H b=some (.tup vs)/\vs.length ≠ 2
section
variable {K:PySem.W.Frag} {G H:Hp}
mutual
theorem aU.odd:∀ {u:V} {bs:List Addr} {t:Nd},aU K G H u bs t->dJ t=true->∀ b ∈ bs,Odd H b
 | _,_,_,.d _,_,_,h=>nomatch h
 | _,_,_,.l h r,n,b,hb=>by
   rw [dJ] at n
   rcases List.mem_cons.mp hb with rfl | hb
   · exact .inl ⟨_,h⟩
   · exact ay.odd r n b hb
 | _,_,_,.t (xs:=xs) h r,n,b,hb=>by
   rw [dJ,Bool.and_eq_true] at n
   rcases List.mem_cons.mp hb with rfl | hb
   · exact .inr ⟨_,h,λz=>by rw [r.length] at z; simp [z] at n⟩
   · exact ay.odd r n.2 b hb
theorem ay.odd:∀ {vs:List V} {bs:List Addr} {ts:List Nd},ay K G H vs bs ts->b9 ts=true->∀ b ∈ bs,Odd H b
 | _,_,_,.nil,_,_,h=>nomatch h
 | _,_,_,.cons h r,n,b,hb=>by
   rw [b9,Bool.and_eq_true] at n
   exact (List.mem_append.mp hb).elim (aU.odd h n.1 b) (ay.odd r n.2 b)
end
theorem mV {M M':Addr->Prop} {v:V} {x:D} (hM:∀ b,M' b->M b\/Odd H b) (h:Den K (hd H M) v x) (f:par x=true):Den K (hd H M') v x:=by
 cases h with
 | non=>cases f
 | bl=>cases f
 | int=>cases f
 | str=>cases f
 | lst _ _=>cases f
 | @tup a vs ds h r=>
   cases r with
   | nil=>cases f
   | cons d1 r=>
     cases r with
     | nil=>cases f
     | cons d2 r=>
       cases r with
       | cons _ _=>cases f
       | nil=>
         rw [par,Bool.and_eq_true] at f
         refine .tup ?_ (.cons (iR d1 f.1) (.cons (iR d2 f.2) .nil))
         rcases h with (h | ⟨o,h⟩) | h
         · obtain ⟨h1,h2⟩:=aj.mp h
           refine .inl (.inl (aj.mpr ⟨λz=>?_,h2⟩))
           rcases hM a z with z | ⟨ws,z⟩ | ⟨ws,z,l⟩
           · exact h1 z
           · rw [h2] at z; cases z
           · rw [h2] at z; cases z; exact l rfl
         · obtain ⟨h1,h2⟩:=aj.mp h
           refine .inl (.inr ⟨o,aj.mpr ⟨λz=>?_,h2⟩⟩)
           rcases hM a z with z | ⟨ws,z⟩ | ⟨ws,z,l⟩
           · exact h1 z
           · rw [h2] at z; cases z
           · rw [h2] at z; cases z
         · exact .inr h
mutual
theorem aU.par {M M':Addr->Prop} (hM:∀ b,M' b->M b\/Odd H b):∀ {u:V} {bs:List Addr} {t:Nd},aU K (hd H M) H u bs t->dX t=true->aU K (hd H M') H u bs t
 | _,_,_,.d h,f=>by rw [dX] at f; exact .d (mV hM h f)
 | _,_,_,.l h r,f=>by rw [dX] at f; exact .l h (ay.par hM r f)
 | _,_,_,.t h r,f=>by rw [dX] at f; exact .t h (ay.par hM r f)
theorem ay.par {M M':Addr->Prop} (hM:∀ b,M' b->M b\/Odd H b):∀ {vs:List V} {bs:List Addr} {ts:List Nd},ay K (hd H M) H vs bs ts->bD ts=true->ay K (hd H M') H vs bs ts
 | _,_,_,.nil,_=>.nil
 | _,_,_,.cons h r,f=>by rw [bD,Bool.and_eq_true] at f; exact .cons (aU.par hM h f.1) (ay.par hM r f.2)
end
noncomputable def l9 (τ:List Sl) (B:Nat->List Addr):Nat->List Addr:=λi=>if i < τ.length then B i else []
theorem b6 {τ:List Sl} {B:Nat->List Addr} {i:Nat} {b:Addr} (h:b ∈ l9 τ B i):i < τ.length/\b ∈ B i:=by
 unfold l9 at h
 split at h
 · rename_i z; exact ⟨z,h⟩
 · cases h
theorem Sta.cut {A:Addr->Prop} {H₀:Hp} {τ:List Sl} {B:Nat->List Addr} {σ:L2.St} (S:Sta K A H₀ τ B σ H):Sta K A H₀ τ (l9 τ B) σ H where
 same:=S.same
 len:=S.len
 sl:=λi s h=>by
   have hl:=(List.getElem?_eq_some_iff.mp h).1
   rw [show l9 τ B i=B i from if_pos hl]
   exact (S.sl i s h).mono (au (ai.refl _) λb z=>z.elim .inl λ⟨j,z⟩=>.inr ⟨j,(b6 z).2⟩) (ai.refl _)
 fr:=λi b h=>S.fr i b (b6 h).2
 uq:=λi j b h g=>S.uq i j b (b6 h).2 (b6 g).2
 ad:=S.ad
 bd:=λi b h=>S.bd i b (b6 h).2
theorem Sta.odd {A:Addr->Prop} {H₀:Hp} {τ:List Sl} {B:Nat->List Addr} {σ:L2.St} (S:Sta K A H₀ τ B σ H) (hn:∀ (i:Nat) (t:Nd),τ[i]?=some (Sl.n t)->dJ t=true) (b:Addr) (h:own A (l9 τ B) b):A b\/Odd H b:=by
 rcases h with h | ⟨i,h⟩
 · exact .inl h
 · obtain ⟨hl,hb⟩:=b6 h
   have q:=S.sl i _ (List.getElem?_eq_getElem hl)
   have hn:=hn i
   rw [List.getElem?_eq_getElem hl] at hn
   generalize τ[i]=s at q hn
   cases s with
   | un=>rw [show B i=[] from q] at hb; cases hb
   | d x=>rw [q.1] at hb; cases hb
   | o xs=>
     obtain ⟨a,vs,e1,_,e3,_⟩:=q
     rw [e1] at hb
     rw [List.mem_singleton.mp hb]
     exact .inr (.inl ⟨_,e3⟩)
   | n t=>
     obtain ⟨_,u,_,ok⟩:=q
     exact .inr (ok.odd (hn t rfl) b hb)
end
section
variable {X:Cx} {τ:List Sl} {e:Expr} {pos:Pos} {N:Po} {rest:List Stmt}
theorem oX (i:Nat) {n:Str} {p:Pos} {t:Nd} (hN:X.N.Nodup) (he:PE X e (dE X.K false τ (.n t))) (hp:dX t=true) (h2:∀ (i:Nat) (t:Nd),τ[i]?=some (Sl.n t)->dJ t=true) (hr:PSs X rest (dS X.K (τ.set i (.n t)) N)) (hi:X.N[i]?=some n:=by rfl) (hx:Loc X.env.scope n:=by first | exact .inl rfl | exact .inr rfl) (hs:swapsWith e (some (.Name n p)) pos.line X.env=pure false:=by rfl)
   (hf:X.fn n=true\/X.env.scope.names.lookup n=some .local:=by first | exact .inl rfl | exact .inr rfl | assumption):PSs X (.Assign [.Name n p] e pos :: rest) (dS X.K τ N):=
 a7 (M:=(·=τ.set i (.n t))) (psW (k4 hN hi hx he hs hf) λD σ H ⟨A,H₀,B,S,Me⟩=>⟨A,H₀,B,S,λv H' bs e hf h=>Me.nx _ _ _ _ rfl (S.cut.set e hf (by
   obtain ⟨h0,u,eu,ok⟩:=h
   refine ⟨h0,u,eu,ok.par (λb z=>?_) hp⟩
   rcases z with z | z
   · rcases (S.mono e).odd h2 b z with z | z
     · exact .inl (.inl z)
     · exact .inr z
   · exact .inl (.inr z)))⟩) λ_ e=>e ▸ hr
end
end Hy
namespace Hy
open PySem PySem.Spec PyProof.Rows L2
open Ev (D Den aA)
theorem _root_.L2.Fun.oJ {K:PySem.W.Frag} {x qual:Str} {st:Stmt} {f T:Addr} {fd:FuncData} {ps:List Str} {c:Value} {d:Option Addr} {items:Array Value} {n:Nat} {sl:Array (Option Value)} (_:L2.Fun K x qual st f fd) (hd:fd.defaults=.ref T) (lT:K.lookup T=some ⟨c,d,.seq items n,sl⟩)
   (h:∀ us:List Value,us.length=ps.length->∃ k,bindArgs fd ⟨us,[]⟩=seqItems? fd.defaults >>= k/\k (some items)=pure (ps.zip us)):L2.Binds K fd ps []:=λs us X hl=>by
 rw [List.append_nil] at hl ⊢
 obtain ⟨k,h1,h2⟩:=h us hl
 exact .of_defaults hd (X _ _ lT) rfl h1 h2
noncomputable def lq (K:PySem.W.Frag) (x:Str) (st:Stmt) (f:Addr) (i:Int):Prop:=PySem.W.nsIn K mainGlobals x=some (some (.ref f))/\(∃ oc od kV dc pm an cd ct sl T td tl tc tt tn,K.lookup f=some ⟨oc,od,.func (PySem.W.fnOf x x (bo st) (ba st) (ah st) (.ref T) kV dc pm an cd ct),sl⟩/\PySem.W.codeIn K cd x=true/\K.lookup T=some ⟨tc,td,.seq #[.int i tt] tn,tl⟩)/\PySem.W.keepIn K (.ref f)=true
section
variable {P:Program} {w:World} {K:PySem.W.Frag} {h:Heap} {mg:Str->Option Value} {base:Heap} {x:Str} {st:Stmt} {f:Addr} {ps:List Str} {k:Nat} {Φ:List D->Sl->Prop} {i:Int}
theorem lq.of {oc tc:Value} {od an td:Option Addr} {kV dc pm cd ct:Value} {sl tl:Array (Option Value)} {T:Addr} {tt:Tok} {tn:Nat} (a:PySem.W.nsIn K mainGlobals x=some (some (.ref f))) (l:K.lookup f=some ⟨oc,od,.func (PySem.W.fnOf x x (bo st) (ba st) (ah st) (.ref T) kV dc pm an cd ct),sl⟩) (c:PySem.W.codeIn K cd x=true) (d:K.lookup T=some ⟨tc,td,.seq #[.int i tt] tn,tl⟩) (k:PySem.W.keepIn K (.ref f)=true):lq K x st f i:=⟨a,⟨_,_,_,_,_,_,_,_,_,_,_,_,_,_,_,l,c,d⟩,k⟩
theorem lq.cal (d:lq K x st f i) (X:K.In h) (G:h.Ns mainGlobals mg) (b:∀ (T:Addr) (tt:Tok) (kV dc pm:Value) (an:Option Addr) (cd ct:Value) (us:List Value),us.length=ps.length->∃ k,bindArgs (PySem.W.fnOf x x (bo st) (ba st) (ah st) (.ref T) kV dc pm an cd ct) ⟨us,[]⟩=seqItems? (.ref T) >>= k/\k (some #[.int i tt])=pure (ps.zip us))
   (o:∀ fd,Fun K x x st f fd->aK P w K mg base CX0 k f fd ps (spD K Φ)):Cal P w K mg base k x Φ:=by
 obtain ⟨a,⟨oc,od,kV,dc,pm,an,cd,ct,sl,T,td,tl,tc,tt,tn,l,c',dt⟩,q⟩:=d
 have F:=jH l c' q
 exact ⟨f,_,ps,o _ F,PySem.W.mg_of X G a,q,F.oJ rfl dt (b T tt kV dc pm an cd ct)⟩
end
end Hy
namespace K20
open PySem PySem.Spec PyProof.Rows L2 Hy
noncomputable def top (i:Nat):Stmt:=PySem.Challenge.pw_signsmooth_k20_tables_of_ladders.main.body.getD i (.Pass ⟨0,0,0,0⟩)
theorem du:ar ["_law_one","_law_other","_law_rest"] ["_law_one","_law_other"] (ah (top 33)):=⟨rfl,rfl,rfl,by decide +kernel,rfl,by decide +kernel,by decide +kernel⟩
theorem gH:ar ["_law_top","_law_bottom","_law_common"] ["_law_top","_law_bottom"] (ah (top 34)):=⟨rfl,rfl,rfl,by decide +kernel,rfl,by decide +kernel,by decide +kernel⟩
theorem jL:ar ["_law_one","_law_other"] ["_law_one","_law_other"] (ah (top 41)):=⟨rfl,rfl,rfl,by decide +kernel,rfl,by decide +kernel,by decide +kernel⟩
theorem kG:ar ["_law_one","_law_other"] ["_law_one","_law_other"] (ah (top 40)):=⟨rfl,rfl,rfl,by decide +kernel,rfl,by decide +kernel,by decide +kernel⟩
theorem bG:ar ["_law_ladder_here","_law_tracks","_law_rows","_law_columns","_law_steps","_law_lines","_law_word","_law_k","_law_weight_here"] ["_law_ladder_here"] (ah (top 42)):=⟨rfl,rfl,rfl,by decide +kernel,rfl,by decide +kernel,by decide +kernel⟩
theorem iV:ar ["_law_ladder_here"] ["_law_ladder_here"] (ah (top 45)):=⟨rfl,rfl,rfl,by decide +kernel,rfl,by decide +kernel,by decide +kernel⟩
theorem iU:ar ["thing"] ["thing"] (ah (top 5)):=⟨rfl,rfl,rfl,by decide +kernel,rfl,by decide +kernel,by decide +kernel⟩
theorem gq:ar ["thing","least","most"] ["thing","least","most"] (ah (top 6)):=⟨rfl,rfl,rfl,by decide +kernel,rfl,by decide +kernel,by decide +kernel⟩
theorem bO:ar ["one","other","greater","lesser","rest"] ["one","other"] (ah (top 8)):=⟨rfl,rfl,rfl,by decide +kernel,rfl,by decide +kernel,by decide +kernel⟩
theorem fR:ar ["thing"] ["thing"] (ah (top 7)):=⟨rfl,rfl,rfl,by decide +kernel,rfl,by decide +kernel,by decide +kernel⟩
theorem ic:ar ["thing"] ["thing"] (ah (top 18)):=⟨rfl,rfl,rfl,by decide +kernel,rfl,by decide +kernel,by decide +kernel⟩
theorem jB:ar ["thing","tracks"] ["thing","tracks"] (ah (top 19)):=⟨rfl,rfl,rfl,by decide +kernel,rfl,by decide +kernel,by decide +kernel⟩
theorem iq:ar ["thing"] ["thing"] (ah (top 20)):=⟨rfl,rfl,rfl,by decide +kernel,rfl,by decide +kernel,by decide +kernel⟩
theorem fg:ar ["thing"] ["thing"] (ah (top 21)):=⟨rfl,rfl,rfl,by decide +kernel,rfl,by decide +kernel,by decide +kernel⟩
theorem gX:ar ["table","j"] ["table","j"] (ah (top 15)):=⟨rfl,rfl,rfl,by decide +kernel,rfl,by decide +kernel,by decide +kernel⟩
theorem gu:ar ["table"] ["table"] (ah (top 14)):=⟨rfl,rfl,rfl,by decide +kernel,rfl,by decide +kernel,by decide +kernel⟩
theorem gf:ar ["track","rows"] ["track","rows"] (ah (top 25)):=⟨rfl,rfl,rfl,by decide +kernel,rfl,by decide +kernel,by decide +kernel⟩
theorem bM:ar ["number","others","found","other"] ["number","others"] (ah (top 9)):=⟨rfl,rfl,rfl,by decide +kernel,rfl,by decide +kernel,by decide +kernel⟩
theorem cv:ar ["sums","weight","above","below","factor"] ["sums","weight"] (ah (top 27)):=⟨rfl,rfl,rfl,by decide +kernel,rfl,by decide +kernel,by decide +kernel⟩
theorem cY:ar ["one","other","shared","one_factor","other_factor","tops","divisor"] ["one","other"] (ah (top 28)):=⟨rfl,rfl,rfl,by decide +kernel,rfl,by decide +kernel,by decide +kernel⟩
theorem bI:ar ["top","bottom","divisor"] ["top","bottom"] (ah (top 10)):=⟨rfl,rfl,rfl,by decide +kernel,rfl,by decide +kernel,by decide +kernel⟩
theorem jh:ar ["top","bottom"] ["top","bottom"] (ah (top 11)):=⟨rfl,rfl,rfl,by decide +kernel,rfl,by decide +kernel,by decide +kernel⟩
theorem hJ:ar ["sums"] ["sums"] (ah (top 26)):=⟨rfl,rfl,rfl,by decide +kernel,rfl,by decide +kernel,by decide +kernel⟩
theorem jc:ar ["step"] ["step"] (ah (top 23)):=⟨rfl,rfl,rfl,by decide +kernel,rfl,by decide +kernel,by decide +kernel⟩
theorem gk:ar ["step"] ["step"] (ah (top 22)):=⟨rfl,rfl,rfl,by decide +kernel,rfl,by decide +kernel,by decide +kernel⟩
theorem eH:ar ["ladder","tracks","step","carried"] ["ladder"] (ah (top 24)):=⟨rfl,rfl,rfl,by decide +kernel,rfl,by decide +kernel,by decide +kernel⟩
theorem ju:ar ["_law_thing"] ["_law_thing"] (ah (top 35)):=⟨rfl,rfl,rfl,by decide +kernel,rfl,by decide +kernel,by decide +kernel⟩
theorem fQ:ar ["_law_found","_law_top","_law_bottom"] ["_law_found","_law_top","_law_bottom"] (ah (top 36)):=⟨rfl,rfl,rfl,by decide +kernel,rfl,by decide +kernel,by decide +kernel⟩
theorem dD:ar ["_law_found","_law_due","_law_row","_law_other","_law_one","_law_two"] ["_law_found","_law_due"] (ah (top 37)):=⟨rfl,rfl,rfl,by decide +kernel,rfl,by decide +kernel,by decide +kernel⟩
theorem fU:ar ["_law_ladder_here","_law_due","_law_handed","_law_found","_law_row"] ["_law_ladder_here"] (ah (top 47)):=⟨rfl,rfl,rfl,by decide +kernel,rfl,by decide +kernel,by decide +kernel⟩
theorem kT:ar ["_law_script","_law_k"] ["_law_script","_law_k"] (ah (top 31)):=⟨rfl,rfl,rfl,by decide +kernel,rfl,by decide +kernel,by decide +kernel⟩
theorem dC:ar ["_law_cell_here","_law_bases","_law_row","_law_base","_law_k","_law_mixed"] ["_law_cell_here","_law_bases"] (ah (top 32)):=⟨rfl,rfl,rfl,by decide +kernel,rfl,by decide +kernel,by decide +kernel⟩
theorem gI:ar ["_law_cell_here","_law_parts","_law_tracks","_law_some","_law_steps","_law_k","_law_word","_law_at"] ["_law_cell_here"] (ah (top 46)):=⟨rfl,rfl,rfl,by decide +kernel,rfl,by decide +kernel,by decide +kernel⟩
theorem e8:ar ["_law_cell_here","_law_most","_law_parts","_law_tracks"] ["_law_cell_here","_law_most"] (ah (top 43)):=⟨rfl,rfl,rfl,by decide +kernel,rfl,by decide +kernel,by decide +kernel⟩
theorem iW:ar ["_law_many","_law_number","_law_k"] ["_law_many"] (ah (top 30)):=⟨rfl,rfl,rfl,by decide +kernel,rfl,by decide +kernel,by decide +kernel⟩
theorem eO:ar ["_law_part","_law_figures","_law_ten_here"] ["_law_part","_law_figures"] (ah (top 38)):=⟨rfl,rfl,rfl,by decide +kernel,rfl,by decide +kernel,by decide +kernel⟩
theorem eI:ar ["_law_cell_here","_law_tracks","_law_rows","_law_columns","_law_many","_law_figures","_law_parts","_law_steps","_law_k","_law_word","_law_at"] ["_law_cell_here","_law_tracks","_law_rows","_law_columns","_law_many","_law_figures"] (ah (top 39)):=⟨rfl,rfl,rfl,by decide +kernel,rfl,by decide +kernel,by decide +kernel⟩
theorem fh:ar ["_law_one","_law_other","_law_most","_law_figures","_law_sizes_here"] ["_law_one","_law_other","_law_most","_law_figures"] (ah (top 44)):=⟨rfl,rfl,rfl,by decide +kernel,rfl,by decide +kernel,by decide +kernel⟩
theorem mv:ar ["_law_script","_law_k","_law_cell_here"] ["_law_script"] (ah (top 48)):=⟨rfl,rfl,rfl,by decide +kernel,rfl,by decide +kernel,by decide +kernel⟩
end K20
namespace K20
open PySem PySem.Spec PyProof.Rows L2 Hy
open Ev (D Den aA aH aL)
noncomputable def frD (q:Rat):D:=.tup [.int q.num,.int (q.den:Nat)]
theorem cR (x:Rat):x * (((x.den:Nat):Int):Rat)=(x.num:Rat):=by
 have h:mkRat x.num x.den=x:=by rw [<- Rat.normalize_eq_mkRat x.den_nz]; exact Rat.normalize_self x
 rw [Rat.mkRat_eq_div] at h
 have hd:((x.den:Nat):Rat) ≠ 0:=λz=>x.den_nz (Rat.natCast_eq_zero_iff.mp z)
 rw [Rat.intCast_natCast]
 conv=>lhs; lhs; rw [<- h]
 exact Rat.div_mul_cancel hd
theorem cH {t b:Int} {x:Rat} (hb:0 < b) (h:(t:Rat)=x * (b:Rat)):x.num=t / (Int.gcd t b:Int)/\((x.den:Nat):Int)=b / (Int.gcd t b:Int):=by
 have hb0:((b.toNat:Nat):Rat) ≠ 0:=λz=>by have:=Rat.natCast_eq_zero_iff.mp z; omega
 have hbb:((b:Int):Rat)=((b.toNat:Nat):Rat):=by rw [<- Rat.intCast_natCast,Int.toNat_of_nonneg (by omega)]
 have e:x=mkRat t b.toNat:=by
   rw [Rat.mkRat_eq_div,h,hbb,Rat.mul_div_cancel hb0]
 have g:b.toNat.gcd t.natAbs=Int.gcd t b:=by
   rw [Int.gcd,Nat.gcd_comm,show b.natAbs=b.toNat by omega]
 have nz:¬ b.toNat=0:=by omega
 constructor
 · rw [e,Rat.num_mkRat,if_neg nz,g]
 · rw [e,Rat.den_mkRat,if_neg nz,g,Int.natCast_ediv,Int.toNat_of_nonneg (by omega)]
theorem den_pos (q:Rat):0 < ((q.den:Nat):Int):=by have:=q.den_pos; omega
theorem hZ {b:Int} (hb:0 < b):(b:Rat) ≠ 0:=λz=>by have:=Rat.intCast_eq_zero_iff.mp z; omega
noncomputable def Bd (n:Nat) (i:Int):Prop:=i.natAbs < 2 ^ n
theorem Bd.mono {m n:Nat} {i:Int} (h:Bd m i) (hm:m<=n):Bd n i:=Nat.lt_of_lt_of_le h (Nat.pow_le_pow_right (by decide) hm)
theorem Bd.log {n:Nat} {i:Int} (h:Bd n i) (hn:0 < n):i.natAbs.log2 < n:=by
 rcases Nat.eq_zero_or_pos i.natAbs with z | z
 · rw [z]; exact hn
 · exact (Nat.log2_lt (by omega)).mpr h
theorem Bd.mul {m n:Nat} {i j:Int} (h:Bd m i) (g:Bd n j):Bd (m + n) (i * j):=by
 unfold Bd at *
 rw [Int.natAbs_mul,Nat.pow_add]
 rcases Nat.eq_zero_or_pos j.natAbs with z | z
 · rw [z,Nat.mul_zero]; exact Nat.mul_pos (Nat.two_pow_pos m) (Nat.two_pow_pos n)
 · exact Nat.lt_of_lt_of_le (Nat.mul_lt_mul_of_pos_right h z) (Nat.mul_le_mul_left _ (Nat.le_of_lt g))
theorem Bd.add {n:Nat} {i j:Int} (h:Bd n i) (g:Bd n j):Bd (n + 1) (i + j):=by
 unfold Bd at *
 rw [Nat.pow_succ]
 omega
theorem Bd.neg {n:Nat} {i:Int} (h:Bd n i):Bd n (-i):=by unfold Bd at *; rwa [Int.natAbs_neg]
theorem Bd.sub {n:Nat} {i j:Int} (h:Bd n i) (g:Bd n j):Bd (n + 1) (i - j):=by rw [Int.sub_eq_add_neg]; exact h.add g.neg
theorem Bd.aH {m n:Nat} {i j:Int} (h:Bd m i) (g:Bd n j) (hm:m<=1000000) (hn:n<=1000000):aH i j:=
 .inr (.inr ⟨(h.mono (Nat.le_succ_of_le hm)).log (by omega) |> λz=>by
   rcases Nat.eq_zero_or_pos i.natAbs with q | q
   · rw [q]; decide
   · exact Nat.lt_of_lt_of_le ((Nat.log2_lt (by omega)).mpr h) hm,by
   rcases Nat.eq_zero_or_pos j.natAbs with q | q
   · rw [q]; decide
   · exact Nat.lt_of_lt_of_le ((Nat.log2_lt (by omega)).mpr g) hn⟩)
theorem Bd.aL {n:Nat} {j:Int} (h:Bd n j) (h0:j ≠ 0) (hn:n<=9000):aL j:=⟨h0,Nat.lt_of_lt_of_le ((Nat.log2_lt (by omega)).mpr h) hn⟩
theorem Bd.of_dvd {n:Nat} {i j:Int} (h:Bd n j) (hd:i ∣ j) (h0:j ≠ 0):Bd n i:=Nat.lt_of_le_of_lt (Nat.le_of_dvd (by omega) (Int.natAbs_dvd_natAbs.mpr hd)) h
theorem Bd.ediv {n:Nat} {i:Int} (h:Bd n i) (j:Int):Bd n (i / j):=Nat.lt_of_le_of_lt (Int.natAbs_ediv_le_natAbs i j) h
theorem Bd.gcd {n:Nat} {i j:Int} (h:Bd n j) (h0:j ≠ 0):Bd n (Int.gcd i j:Int):=h.of_dvd (Int.gcd_dvd_right ..) h0
theorem jD {i j:Int} (h0:j ≠ 0):(Int.gcd i j:Int) ≠ 0:=λz=>h0 (by have:=Int.gcd_eq_zero_iff.mp (Int.ofNat_eq_zero.mp z); exact this.2)
theorem dM {i j:Int} (t:Int):t.fdiv (Int.gcd i j:Int)=t / (Int.gcd i j:Int):=Int.fdiv_eq_ediv_of_nonneg _ (Int.natCast_nonneg _)
structure Sq (n:Nat) (q:Rat):Prop where
 num:Bd n q.num
 den:Bd n (q.den:Nat)
theorem Sq.mono {m n:Nat} {q:Rat} (h:Sq m q) (hm:m<=n):Sq n q:=⟨h.num.mono hm,h.den.mono hm⟩
theorem Sq.cH {n:Nat} {t b:Int} {x:Rat} (hb:0 < b) (h:(t:Rat)=x * (b:Rat)) (h1:Bd n t) (h2:Bd n b):Sq n x:=by
 obtain ⟨e1,e2⟩:=K20.cH hb h
 exact ⟨by rw [e1]; exact h1.ediv _,by rw [e2]; exact h2.ediv _⟩
noncomputable def whl (x:D):Bool:=gj .int x && !gj .bool x
noncomputable def bK (ds:List D) (r:Sl):Prop:=∃ x,ds=[x]/\r=.d (.bl (whl x))
noncomputable def whw (x:D):Bool:=gj .int x && !gj .bool x
noncomputable def ed (ds:List D) (r:Sl):Prop:=∃ x,ds=[x]/\r=.d (.bl (whw x))
noncomputable def bA (ds:List D) (r:Sl):Prop:=∃ i l m:Int,ds=[.int i,.int l,.int m]/\r=.d (.bl (decide (l<=i) && decide (i<=m)))
noncomputable def aJ (ds:List D) (r:Sl):Prop:=∃ a b:Int,ds=[.int a,.int b]/\r=.d (.int (Int.gcd a b:Int))
theorem dQ (i:Int):m6 i=(i.natAbs:Int):=by unfold m6; omega
noncomputable def bN (ds:List D) (r:Sl):Prop:=∃ a b:Int,ds=[.int a,.int b]/\r=.d (.int (Int.gcd a b:Int))
noncomputable def kx:D->Bool
 | .tup [.int a,.int b]=>decide (1<=b) && decide ((Int.gcd a b:Int)=1)
 | _=>false
theorem mW (q:Rat):kx (frD q)=true:=by
 have h1:=den_pos q
 have h2:Int.gcd q.num (q.den:Nat)=1:=q.reduced
 show (decide ((1:Int)<=(q.den:Nat)) && decide ((Int.gcd q.num (q.den:Nat):Int)=1))=true
 rw [h2,decide_eq_true (show (1:Int)<=(q.den:Nat) by omega)]
 rfl
theorem mG {xs:List D} (h:xs.length ≠ 2):kx (.tup xs)=false:=by
 unfold kx
 split
 · rename_i e; cases e; exact absurd rfl h
 · rfl
noncomputable def bV (ds:List D) (r:Sl):Prop:=∃ x,ds=[x]/\r=.d (.bl (kx x))
noncomputable def bf (ds:List D) (r:Sl):Prop:=∃ (t b:Int) (q:Rat),ds=[.int t,.int b]/\0 < b/\Bd 8999 b/\(t:Rat)=q * (b:Rat)/\r=.d (frD q)
noncomputable def c0 (ds:List D) (r:Sl):Prop:=∃ (t b:Int) (q:Rat),ds=[.int t,.int b]/\0 < b/\Bd 8999 b/\(t:Rat)=q * (b:Rat)/\r=.d (frD q)
noncomputable def cM (ds:List D) (r:Sl):Prop:=∃ (t b:Int) (q:Rat),ds=[.int t,.int b]/\0 < b/\Bd 8999 b/\(t:Rat)=q * (b:Rat)/\r=.d (frD q)
noncomputable def eo (ds:List D) (r:Sl):Prop:=∃ (m n:Nat) (p q:Rat),ds=[frD p,frD q]/\Sq m p/\Sq n q/\m + n<=8999/\r=.d (frD (p * q))
theorem i3 (p q:Rat):((p.num * q.num:Int):Rat)=p * q * (((p.den:Nat):Int) * ((q.den:Nat):Int):Int):=by
 rw [Rat.intCast_mul,Rat.intCast_mul,<- cR p,<- cR q]
 grind
theorem iF {a b:Int} (h:0 < a) (g:0 < b):0 < a * b:=Int.mul_pos h g
theorem Sq.mul {m n:Nat} {p q:Rat} (h:Sq m p) (g:Sq n q):Sq (m + n) (p * q):=Sq.cH (iF (den_pos p) (den_pos q)) (i3 p q) (h.num.mul g.num) (h.den.mul g.den)
noncomputable def gb (ds:List D) (r:Sl):Prop:=∃ (m n:Nat) (p q:Rat),ds=[frD p,frD q]/\Sq m p/\Sq n q/\m + n<=8999/\r=.d (frD (p + q))
theorem lW (p q:Rat):((p.num * ((q.den:Nat):Int) + q.num * ((p.den:Nat):Int):Int):Rat)=(p + q) * (((p.den:Nat):Int) * ((q.den:Nat):Int):Int):=by
 rw [Rat.intCast_add,Rat.intCast_mul,Rat.intCast_mul,Rat.intCast_mul,<- cR p,<- cR q]
 grind
section
variable {P:Program} {w:World} {K:PySem.W.Frag} {mg:Str->Option Value} {base:Heap} {k:Nat} {f:Addr} {fd:FuncData} {qual:Str}
theorem i0 (F:Fun K "is_whole" qual (top 5) f fd) (hb:∀ x ∈ ak,mg x=none):aK P w K mg base CX0 (k + 1) f fd ["thing"] (spD K bK):=by
 refine fnD F iU hb (by rintro _ _ ⟨_,rfl,_⟩; rfl) ?_
 rintro _ _ ⟨x,rfl,rfl⟩ cdv A outer s H E b
 exact aE (gJ (cw .int b (aa 0)) λh=>(gE (nK (cw .bool b (aa 0))))) rfl
theorem jo (F:Fun K "_law_whole" qual (top 35) f fd) (hb:∀ x ∈ ak,mg x=none):aK P w K mg base CX0 (k + 1) f fd ["_law_thing"] (spD K ed):=by
 refine fnD F ju hb (by rintro _ _ ⟨_,rfl,_⟩; rfl) ?_
 rintro _ _ ⟨x,rfl,rfl⟩ cdv A outer s H E b
 exact aE (gJ (cw .int b (aa 0)) λh=>(gE (nK (cw .bool b (aa 0))))) rfl
theorem gn (F:Fun K "is_between" qual (top 6) f fd) (hb:∀ x ∈ ak,mg x=none) (c_is_whole:Cal P w K mg base k "is_whole" bK):aK P w K mg base CX0 (k + 1) f fd ["thing","least","most"] (spD K bA):=by
 refine fnD F gq hb (by rintro _ _ ⟨_,_,_,rfl,_⟩; rfl) ?_
 rintro _ _ ⟨i,l,m,rfl,rfl⟩ cdv A outer s H E b
 exact aE (gJ (x_call b c_is_whole (ab (aa 0) af) ⟨_,rfl,rfl⟩) λh=>(gE (m8 (aa 1) (aa 0) (aa 2) pR pR).1)) rfl
theorem dR (F:Fun K "common_divisor" qual (top 8) f fd) (hb:∀ x ∈ ak,mg x=none):aK P w K mg base CX0 (k + 1) f fd ["one","other"] (spD K aJ):=by
 refine fnD F bO hb (by rintro _ _ ⟨_,_,rfl,_⟩; rfl) ?_
 rintro _ _ ⟨x,y,rfl,rfl⟩ cdv A outer s H E b
 have nd:=bO.nd
 refine aC 2 nd (cB b (ab (aa 0) af) iY) (aC 3 nd (cB b (ab (aa 1) af) iY) ?_)
 rw [dQ,dQ]
 refine jQ (λn t τ=>∃ (g:Nat) (s4:Sl),Nat.gcd g n=Int.gcd x y/\t=(!decide ((n:Int)=0))/\τ=[.d (.int x),.d (.int y),.d (.int g),.d (.int n),s4]) b ⟨_,_,_,_,rfl,rfl,rfl⟩ (λn t τ h=>?_) (λn τ h=>?_) λn τ h=>?_
 · obtain ⟨g,s4,_,rfl,rfl⟩:=h
   exact aP (aa 3) ae iL
 · obtain ⟨g,s4,hg,ht,rfl⟩:=h
   have hl:n ≠ 0:=λz=>by simp [z] at ht
   have e:(g:Int).fmod n=((g % n:Nat):Int):=by rw [Int.fmod_eq_emod_of_nonneg _ (by omega)]; rfl
   refine aC 4 nd (aw (aa 2) (aa 3) (bg (by omega))) ?_
   rw [e]
   refine aC 2 nd (aa 3) (aC 3 nd (aa 4) (aS ⟨g % n,_,Nat.mod_lt g (Nat.pos_of_ne_zero hl),n,_,?_,rfl,rfl⟩))
   rw [<- hg,Nat.gcd_comm n,<- Nat.gcd_rec,Nat.gcd_comm]
 · obtain ⟨g,s4,hg,ht,rfl⟩:=h
   have hl:n=0:=by simpa using ht
   refine aE (aa 2) ?_
   rw [<- hg,hl,Nat.gcd_zero_right]
theorem ir (F:Fun K "_law_divisor" qual (top 33) f fd) (hb:∀ x ∈ ak,mg x=none):aK P w K mg base CX0 (k + 1) f fd ["_law_one","_law_other"] (spD K bN):=by
 refine fnD F du hb (by rintro _ _ ⟨_,_,rfl,_⟩; rfl) ?_
 rintro _ _ ⟨x,y,rfl,rfl⟩ cdv A outer s H E b
 have nd:=du.nd
 refine aC 0 nd (cB b (ab (aa 0) af) iY) (aC 1 nd (cB b (ab (aa 1) af) iY) ?_)
 rw [dQ,dQ]
 refine jQ (λn t τ=>∃ (g:Nat) (s2:Sl),Nat.gcd g n=Int.gcd x y/\t=(decide ((0:Int) < n))/\τ=[.d (.int g),.d (.int n),s2]) b ⟨_,_,_,_,rfl,rfl,rfl⟩ (λn t τ h=>?_) (λn τ h=>?_) λn τ h=>?_
 · obtain ⟨g,s2,_,rfl,rfl⟩:=h
   exact aP (aa 1) ae pb
 · obtain ⟨g,s2,hg,ht,rfl⟩:=h
   have hl:n ≠ 0:=λz=>by simp [z] at ht
   have e:(g:Int).fmod n=((g % n:Nat):Int):=by rw [Int.fmod_eq_emod_of_nonneg _ (by omega)]; rfl
   refine aC 2 nd (aw (aa 0) (aa 1) (bg (by omega))) ?_
   rw [e]
   refine aC 0 nd (aa 1) (aC 1 nd (aa 2) (aS ⟨g % n,_,Nat.mod_lt g (Nat.pos_of_ne_zero hl),n,_,?_,rfl,rfl⟩))
   rw [<- hg,Nat.gcd_comm n,<- Nat.gcd_rec,Nat.gcd_comm]
 · obtain ⟨g,s2,hg,ht,rfl⟩:=h
   have hl:n=0:=by have:=of_decide_eq_false ht.symm; omega
   refine aE (aa 0) ?_
   rw [<- hg,hl,Nat.gcd_zero_right]
theorem fw (F:Fun K "is_fraction" qual (top 7) f fd) (hb:∀ x ∈ ak,mg x=none) (c_is_whole:Cal P w K mg base k "is_whole" bK) (c_common_divisor:Cal P w K mg base k "common_divisor" aJ):aK P w K mg base CX0 (k + 1) f fd ["thing"] (spD K bV):=by
 refine fnD F fR hb (by rintro _ _ ⟨_,rfl,_⟩; rfl) ?_
 rintro _ _ ⟨x,rfl,rfl⟩ cdv A outer s H E b
 by_cases ht:gj .tuple x=true
 · obtain ⟨xs,rfl⟩:∃ xs,x=.tup xs:=by cases x <;> first | exact ⟨_,rfl⟩ | cases ht
   refine d0 (PW.pt (cN (a5 (a4 (cw .tuple b (aa 0)))) λh=>(cA (aP (cB b (ab (aa 0) af) hW) ae iL)))) (λh=>?_) λh=>?_
   · refine aE mM ?_
     have h:(!decide ((xs.length:Int)=2))=true:=h
     have:xs.length ≠ 2:=λz=>by rw [z] at h; cases h
     rw [mG this]
   · have h:(!decide ((xs.length:Int)=2))=false:=h
     have h2:xs.length=2:=by simp at h; omega
     obtain ⟨u,v,rfl⟩:∃ u v,xs=[u,v]:=by
       match xs,h2 with
       | [u,v],_=>exact ⟨u,v,rfl⟩
     refine d0 (PW.pt (cN (a5 (a4 (x_call b c_is_whole (ab (av (aa 0) ae (aq (ag (i:=0) rfl))) af) ⟨_,rfl,rfl⟩))) λh=>(cA (a5 (a4 (x_call b c_is_whole (ab (av (aa 0) ae (aq (ag (i:=1) rfl))) af) ⟨_,rfl,rfl⟩)))))) (λh=>?_) λh=>?_
     · refine aE mM ?_
       have:kx (.tup [u,v])=false:=by cases u <;> cases v <;> first | rfl | cases h
       rw [this]
     · obtain ⟨i,j,rfl,rfl⟩:∃ i j,u=.int i/\v=.int j:=by cases u <;> cases v <;> first | exact ⟨_,_,rfl,rfl⟩ | cases h
       exact aE (gJ (fL (av (aa 0) ae (aq (ag (i:=1) rfl))) ae pf) λh=>(gE (fL (x_call b c_common_divisor (ab (av (aa 0) ae (aq (ag (i:=0) rfl))) (ab (av (aa 0) ae (aq (ag (i:=1) rfl))) af)) ⟨_,_,rfl,rfl⟩) ae gY))) rfl
 · have e:gj .tuple x=false:=by simpa using ht
   have ef:kx x=false:=by cases x <;> first | rfl | cases e
   refine d0 (PW.pt (cN (q:=true) (a5 (a4 (cw .tuple b (aa 0)))) λh=>(by rw [e] at h; cases h))) (λh=>?_) λh=>?_
   · refine aE mM ?_
     rw [ef]
   · rw [Bool.or_true] at h; cases h
theorem df (F:Fun K "in_lowest_terms" qual (top 10) f fd) (hb:∀ x ∈ ak,mg x=none) (c_common_divisor:Cal P w K mg base k "common_divisor" aJ):aK P w K mg base CX0 (k + 1) f fd ["top","bottom"] (spD K bf):=by
 refine fnD F bI hb (by rintro _ _ ⟨_,_,_,rfl,_⟩; rfl) ?_
 rintro _ _ ⟨t,c,q,rfl,h0,h1,hq,rfl⟩ cdv A outer s H E b
 have nd:=bI.nd
 refine aC 2 nd (x_call b c_common_divisor (ab (aa 0) (ab (aa 1) af)) ⟨_,_,rfl,rfl⟩) ?_
 have dv:aL (Int.gcd t c:Int):=(h1.gcd (by omega)).aL (jD (by omega)) (by decide)
 obtain ⟨e1,e2⟩:=cH h0 hq
 refine bH (aP (aa 1) ae oH) (decide_eq_false (by omega)) (aE (bz (ab (aw (aa 0) (aa 2) (a8 dv)) (ab (aw (aa 1) (aa 2) (a8 dv)) af))) ?_)
 rw [dM,dM,<- e1,<- e2]
 rfl
theorem iO (F:Fun K "fraction" qual (top 11) f fd) (hb:∀ x ∈ ak,mg x=none) (c_in_lowest_terms:Cal P w K mg base k "in_lowest_terms" bf) (c_is_whole:Cal P w K mg base k "is_whole" bK):aK P w K mg base CX0 (k + 1) f fd ["top","bottom"] (spD K c0):=by
 refine fnD F jh hb (by rintro _ _ ⟨_,_,_,rfl,_⟩; rfl) ?_
 rintro _ _ ⟨t,c,q,rfl,h0,h1,hq,rfl⟩ cdv A outer s H E b
 refine bH (PW.pt (cN (a5 (a4 (x_call b c_is_whole (ab (aa 0) af) ⟨_,rfl,rfl⟩))) λh=>(cA (a5 (a4 (x_call b c_is_whole (ab (aa 1) af) ⟨_,rfl,rfl⟩)))))) rfl ?_
 refine bH (aP (aa 1) ae gY) (decide_eq_false (by omega)) ?_
 exact aE (x_call b c_in_lowest_terms (ab (aa 0) (ab (aa 1) af)) ⟨t,c,q,rfl,h0,h1,hq,rfl⟩) rfl
theorem kD (F:Fun K "_law_made" qual (top 34) f fd) (hb:∀ x ∈ ak,mg x=none) (c_l_divisor:Cal P w K mg base k "_law_divisor" bN):aK P w K mg base CX0 (k + 1) f fd ["_law_top","_law_bottom"] (spD K cM):=by
 refine fnD F gH hb (by rintro _ _ ⟨_,_,_,rfl,_⟩; rfl) ?_
 rintro _ _ ⟨t,c,q,rfl,h0,h1,hq,rfl⟩ cdv A outer s H E b
 have nd:=gH.nd
 have dv:aL (Int.gcd t c:Int):=(h1.gcd (by omega)).aL (jD (by omega)) (by decide)
 obtain ⟨e1,e2⟩:=cH h0 hq
 refine aC 2 nd (x_call b c_l_divisor (ab (aa 0) (ab (aa 1) af)) ⟨_,_,rfl,rfl⟩) (aE (bz (ab (aw (aa 0) (aa 2) (a8 dv)) (ab (aw (aa 1) (aa 2) (a8 dv)) af))) ?_)
 rw [dM,dM,<- e1,<- e2]
 rfl
theorem jC (F:Fun K "_law_times" qual (top 41) f fd) (hb:∀ x ∈ ak,mg x=none) (c_l_made:Cal P w K mg base k "_law_made" cM):aK P w K mg base CX0 (k + 1) f fd ["_law_one","_law_other"] (spD K eo):=by
 refine fnD F jL hb (by rintro _ _ ⟨_,_,_,_,rfl,_⟩; rfl) ?_
 rintro _ _ ⟨m,n,p,q,rfl,h1,h2,hl,rfl⟩ cdv A outer s H E b
 exact aE (x_call b c_l_made (ab (aw (av (aa 0) ae (aq (ag (i:=0) rfl))) (av (aa 1) ae (aq (ag (i:=0) rfl))) (aR (h1.num.aH h2.num (by omega) (by omega)))) (ab (aw (av (aa 0) ae (aq (ag (i:=1) rfl))) (av (aa 1) ae (aq (ag (i:=1) rfl))) (aR (h1.den.aH h2.den (by omega) (by omega)))) af)) ⟨_,_,_,rfl,iF (den_pos p) (den_pos q),(h1.den.mul h2.den).mono hl,i3 p q,rfl⟩) rfl
theorem kS (F:Fun K "_law_plus" qual (top 40) f fd) (hb:∀ x ∈ ak,mg x=none) (c_l_made:Cal P w K mg base k "_law_made" cM):aK P w K mg base CX0 (k + 1) f fd ["_law_one","_law_other"] (spD K gb):=by
 refine fnD F kG hb (by rintro _ _ ⟨_,_,_,_,rfl,_⟩; rfl) ?_
 rintro _ _ ⟨m,n,p,q,rfl,h1,h2,hl,rfl⟩ cdv A outer s H E b
 exact aE (x_call b c_l_made (ab (aw (aw (av (aa 0) ae (aq (ag (i:=0) rfl))) (av (aa 1) ae (aq (ag (i:=1) rfl))) (aR (h1.num.aH h2.den (by omega) (by omega)))) (aw (av (aa 1) ae (aq (ag (i:=0) rfl))) (av (aa 0) ae (aq (ag (i:=1) rfl))) (aR (h2.num.aH h1.den (by omega) (by omega)))) aN) (ab (aw (av (aa 0) ae (aq (ag (i:=1) rfl))) (av (aa 1) ae (aq (ag (i:=1) rfl))) (aR (h1.den.aH h2.den (by omega) (by omega)))) af)) ⟨_,_,_,rfl,iF (den_pos p) (den_pos q),(h1.den.mul h2.den).mono hl,lW p q,rfl⟩) rfl
end
end K20
namespace K20
open PySem PySem.Spec PyProof.Rows L2 Hy
open Ev (D Den aA aH aL)
noncomputable def cI (ds:List D) (r:Sl):Prop:=∃ q:Rat,ds=[frD q]/\0<=q.num/\r=.d (.bl true)
noncomputable abbrev Stp:=Str × Nat × Rat
noncomputable def stD (s:Stp):D:=.tup [.str s.1,.int (s.2.1:Nat),frD s.2.2]
noncomputable def okS (T:Nat) (s:Stp):Prop:=0<=s.2.2.num/\((s.1 = "weigh" /\ s.2.1 < T)\/((s.1 = "down" \/ s.1 = "up")/\s.2.1 + 1 < T))
noncomputable def eB (ds:List D) (r:Sl):Prop:=∃ (T:Nat) (s:Stp),ds=[stD s,.int T]/\okS T s/\r=.d (.bl true)
noncomputable def bX (T R C:Nat) (ss:List Stp):D:=.tup [.int T,.int R,.int C,.lst (ss.map stD)]
structure okL (T R C:Nat) (ss:List Stp):Prop where
 t1:1<=T
 t7:T<=7
 r1:1<=R
 rT:R<=T
 c1:1<=C
 cT:C<=T
 len:ss.length<=400
 st:∀ i,i < ss.length->okS T (ss.getD i ("weigh",0,0))
theorem qC {ss:List Stp} (i:Nat) (h:i < (ss.map stD).length):(ss.map stD)[i]=stD (ss.getD i ("weigh",0,0)):=by
 have:i < ss.length:=by simpa using h
 simp [this]
noncomputable def cE (ds:List D) (r:Sl):Prop:=∃ (T R C:Nat) (ss:List Stp),ds=[bX T R C ss]/\okL T R C ss/\r=.d (.bl true)
noncomputable def bQ (ds:List D) (r:Sl):Prop:=∃ (T R C:Nat) (ss:List Stp),ds=[bX T R C ss]/\okL T R C ss/\r=.d .non
noncomputable def rgS (s:Stp):Nat:=if s.1 = "down" then s.2.1 else s.2.1 + 1
noncomputable def ck (ds:List D) (r:Sl):Prop:=∃ s:Stp,ds=[stD s]/\r=.d (.int (rgS s:Nat))
noncomputable def rgE (s:Stp):Nat:=if s.1 = "down" then s.2.1 + 1 else s.2.1
noncomputable def c3 (ds:List D) (r:Sl):Prop:=∃ s:Stp,ds=[stD s]/\r=.d (.int (rgE s:Nat))
section
variable {P:Program} {w:World} {K:PySem.W.Frag} {mg:Str->Option Value} {base:Heap} {k:Nat} {f:Addr} {fd:FuncData} {qual:Str}
theorem ia (F:Fun K "is_weight" qual (top 18) f fd) (hb:∀ x ∈ ak,mg x=none) (c_is_fraction:Cal P w K mg base k "is_fraction" bV):aK P w K mg base CX0 (k + 1) f fd ["thing"] (spD K cI):=by
 refine fnD F ic hb (by rintro _ _ ⟨_,rfl,_⟩; rfl) ?_
 rintro _ _ ⟨q,rfl,h0,rfl⟩ cdv A outer s H E b
 refine aE (gJ (x_call b c_is_fraction (ab (aa 0) af) ⟨_,rfl,rfl⟩) λh=>(gE (fL (av (aa 0) ae (aq (ag (i:=0) rfl))) ae pf))) ?_
 rw [mW,decide_eq_true h0]
 rfl
theorem jM (F:Fun K "is_step" qual (top 19) f fd) (hb:∀ x ∈ ak,mg x=none) (c_is_between:Cal P w K mg base k "is_between" bA) (c_is_weight:Cal P w K mg base k "is_weight" cI):aK P w K mg base CX0 (k + 1) f fd ["thing","tracks"] (spD K eB):=by
 refine fnD F jB hb (by rintro _ _ ⟨_,_,rfl,_⟩; rfl) ?_
 rintro _ _ ⟨T,⟨u,n,q⟩,rfl,⟨h0,h1⟩,rfl⟩ cdv A outer s H E b
 refine bH (PW.pt (cN (a5 (a4 (cw .tuple b (aa 0)))) λh=>(cN (aP (cB b (ab (aa 0) af) hW) ae iL) λh=>(cA (a5 (a4 (x_call b c_is_weight (ab (av (aa 0) ae (aq (ag (i:=2) rfl))) af) ⟨q,rfl,h0,rfl⟩))))))) rfl ?_
 refine d0 (aP (av (aa 0) ae (aq (ag (i:=0) rfl))) bc gD) (λh=>?_) λh=>?_
 · refine aE (x_call b c_is_between (ab (av (aa 0) ae (aq (ag (i:=1) rfl))) (ab ae (ab (aw (aa 1) ae i6) af))) ⟨_,_,_,rfl,rfl⟩) ?_
   have e:=of_decide_eq_true h
   have hn:n < T:=by
     rcases h1 with h1 | h1
     · exact h1.2
     · have:=h1.2; simp only at this; omega
   rw [decide_eq_true (show (0:Int)<=n by omega),decide_eq_true (show (n:Int)<=(T:Int) - 1 by omega)]
   rfl
 · have e:=of_decide_eq_false h
   obtain ⟨e1,e2⟩:(u = "down" \/ u = "up")/\n + 1 < T:=by
     rcases h1 with h1 | h1
     · exact absurd h1.1 e
     · exact h1
   refine aE (gJ (fL (av (aa 0) ae (aq (ag (i:=0) rfl))) (bz (ab bc (ab bc af))) (qD (us:=["down","up"]))) λh=>(gE (x_call b c_is_between (ab (av (aa 0) ae (aq (ag (i:=1) rfl))) (ab ae (ab (aw (aa 1) ae i6) af))) ⟨_,_,_,rfl,rfl⟩))) ?_
   rw [decide_eq_true (show (0:Int)<=n by omega),decide_eq_true (show (n:Int)<=(T:Int) - 2 by omega)]
   have:(([("down" : Str),"up"]:List Str).any λw=>decide (w=u))=true:=by
     clear h e h1 h0
     rcases e1 with rfl | rfl <;> decide +kernel
   show Sl.d (.bl ((([("down" : Str),"up"]:List Str).any λw=>decide (w=u)) && _))=_
   rw [this]
   rfl
theorem ie (F:Fun K "is_ladder" qual (top 20) f fd) (hb:∀ x ∈ ak,mg x=none) (y_MOST:∃ t,mg "MOST" = some (.int 7 t)) (y_MOST_STEPS:∃ t,mg "MOST_STEPS" = some (.int 400 t)) (c_is_between:Cal P w K mg base k "is_between" bA) (c_is_step:Cal P w K mg base k "is_step" eB):aK P w K mg base CX0 (k + 1) f fd ["thing"] (spD K cE):=by
 refine fnD F iq hb (by rintro _ _ ⟨_,_,_,_,rfl,_⟩; rfl) ?_
 rintro _ _ ⟨T,R,C,ss,rfl,h,rfl⟩ cdv A outer s H E b
 have ht:decide ((1:Int)<=T)=true/\decide ((T:Int)<=7)=true:=⟨decide_eq_true (by have:=h.t1; omega),decide_eq_true (by have:=h.t7; omega)⟩
 have hr:decide ((1:Int)<=R)=true/\decide ((R:Int)<=T)=true:=⟨decide_eq_true (by have:=h.r1; omega),decide_eq_true (by have:=h.rT; omega)⟩
 have hc:decide ((1:Int)<=C)=true/\decide ((C:Int)<=T)=true:=⟨decide_eq_true (by have:=h.c1; omega),decide_eq_true (by have:=h.cT; omega)⟩
 have hl:(ss.map stD).length=ss.length:=List.length_map ..
 have hlen:=h.len
 refine bH (PW.pt (cN (a5 (a4 (cw .tuple b (aa 0)))) λh=>(cN (aP (cB b (ab (aa 0) af) hW) ae iL) λh=>(cA (a5 (a4 (x_call b c_is_between (ab (av (aa 0) ae (aq (ag (i:=0) rfl))) (ab ae (ab (kX y_MOST) af))) ⟨_,_,_,rfl,rfl⟩))))))) ?_ ?_
 · rw [ht.1,ht.2]; rfl
 refine bH (PW.pt (cN (a5 (a4 (x_call b c_is_between (ab (av (aa 0) ae (aq (ag (i:=1) rfl))) (ab ae (ab (av (aa 0) ae (aq (ag (i:=0) rfl))) af))) ⟨_,_,_,rfl,rfl⟩))) λh=>(cA (a5 (a4 (x_call b c_is_between (ab (av (aa 0) ae (aq (ag (i:=2) rfl))) (ab ae (ab (av (aa 0) ae (aq (ag (i:=0) rfl))) af))) ⟨_,_,_,rfl,rfl⟩)))))) ?_ ?_
 · rw [hr.1,hr.2,hc.1,hc.2]; rfl
 refine bH (PW.pt (cN (a5 (a4 (cw .list b (av (aa 0) ae (aq (ag (i:=3) rfl)))))) λh=>(cA (aP (cB b (ab (av (aa 0) ae (aq (ag (i:=3) rfl))) af) fH) (kX y_MOST_STEPS) pb)))) ?_ ?_
 · rw [hl,decide_eq_false (show ¬ (400:Int) < ss.length by omega)]; rfl
 refine aE (cB b (ab (bC (fI (cmp 0 (f:=λ_=>.bl true) b (bU (av (aa 0) ae (aq (ag (i:=3) rfl)))) qC ?_ λi hi s0 H0 fp=>(x_call (b.comp s0 H0 _ fp) c_is_step (ab (aa 0) (ab (av (aa 1) ae (aq (ag (i:=0) rfl))) af)) ⟨T,_,rfl,h.st i (by omega),rfl⟩)))) af) (qi b.calm ((List.range (ss.map stD).length).map λ_=>true) (by rw [List.map_map]; rfl))) ?_
 · omega
 · have:((List.range (ss.map stD).length).map λ_=>true).all id=true:=by rw [List.all_map,List.all_eq_true]; intro _ _; rfl
   rw [this]
theorem ft (F:Fun K "look_ladder" qual (top 21) f fd) (hb:∀ x ∈ ak,mg x=none) (c_is_ladder:Cal P w K mg base k "is_ladder" cE):aK P w K mg base CX0 (k + 1) f fd ["thing"] (spD K bQ):=by
 refine fnD F fg hb (by rintro _ _ ⟨_,_,_,_,rfl,_⟩; rfl) ?_
 rintro _ _ ⟨T,R,C,ss,rfl,h,rfl⟩ cdv A outer s H E b
 exact bH (a5 (a4 (x_call b c_is_ladder (ab (aa 0) af) ⟨T,R,C,ss,rfl,h,rfl⟩))) rfl (aS rfl)
theorem gm (F:Fun K "rung_start" qual (top 22) f fd) (hb:∀ x ∈ ak,mg x=none):aK P w K mg base CX0 (k + 1) f fd ["step"] (spD K ck):=by
 refine fnD F gk hb (by rintro _ _ ⟨_,rfl,_⟩; rfl) ?_
 rintro _ _ ⟨⟨u,n,q⟩,rfl,rfl⟩ cdv A outer s H E b
 refine aE (s:=.d (.int (rgS (u,n,q):Nat))) (lr (aP (av (aa 0) ae (aq (ag (i:=0) rfl))) bc gD) (λh=>?_) λh=>?_) rfl
 · rw [show rgS (u,n,q)=n from if_pos (of_decide_eq_true h)]
   exact av (aa 0) ae (aq (ag (i:=1) rfl))
 · rw [show rgS (u,n,q)=n + 1 from if_neg (of_decide_eq_false h)]
   exact aw (av (aa 0) ae (aq (ag (i:=1) rfl))) ae aN
theorem iX (F:Fun K "rung_end" qual (top 23) f fd) (hb:∀ x ∈ ak,mg x=none):aK P w K mg base CX0 (k + 1) f fd ["step"] (spD K c3):=by
 refine fnD F jc hb (by rintro _ _ ⟨_,rfl,_⟩; rfl) ?_
 rintro _ _ ⟨⟨u,n,q⟩,rfl,rfl⟩ cdv A outer s H E b
 refine aE (s:=.d (.int (rgE (u,n,q):Nat))) (lr (aP (av (aa 0) ae (aq (ag (i:=0) rfl))) bc gD) (λh=>?_) λh=>?_) rfl
 · rw [show rgE (u,n,q)=n + 1 from if_pos (of_decide_eq_true h)]
   exact aw (av (aa 0) ae (aq (ag (i:=1) rfl))) ae aN
 · rw [show rgE (u,n,q)=n from if_neg (of_decide_eq_false h)]
   exact av (aa 0) ae (aq (ag (i:=1) rfl))
end
end K20
namespace K20
open PySem PySem.Spec PyProof.Rows L2 Hy
open Ev (D Den aA aH aL)
noncomputable def fb:Int->List Int->List Int
 | _,[]=>[]
 | c,b :: r=>c.fmod b :: fb (c.fdiv b) r
noncomputable def mX (c:Int) (bs:List Int):Int:=bs.foldl (λc b=>c.fdiv b) c
noncomputable def og (c:Int) (k:Nat) (b:Int):Int:=(((((c * 48271 + (k:Int) * k * 69621 + (k:Int) * 16807 + 11).fmod 2147483647) * 40692 + c + 31 * (k:Int)).fmod 2147483399).fdiv 7).fmod b
noncomputable def mS (c:Int) (bs:List Int):List Int:=(List.range bs.length).map λk=>og c k (bs.getD k 0)
noncomputable def nums (c:Int) (bs:List Int):List Int:=if (10:Int) ^ (18:Int).toNat<=m6 c then fb c bs else mS c bs
theorem gK:∀ (bs:List Int) (c b:Int),fb c (bs++[b])=fb c bs++[(mX c bs).fmod b]
 | [],_,_=>rfl
 | a :: bs,c,b=>by rw [List.cons_append,fb,fb,gK bs]; rfl
theorem fF:∀ (bs:List Int) (c:Int),(fb c bs).length=bs.length
 | [],_=>rfl
 | _ :: bs,c=>congrArg (· + 1) (fF bs _)
theorem dr (c:Int) (bs:List Int):(nums c bs).length=bs.length:=by
 unfold nums
 split
 · exact fF bs c
 · simp [mS]
theorem jR:∀ (bs:List Int) (c:Int),(∀ b ∈ bs,0 < b)->∀ (i:Nat),i < bs.length->0<=(fb c bs).getD i 0/\(fb c bs).getD i 0 < bs.getD i 0
 | b :: bs,c,h,0,_=>by
   have:=h b (List.mem_cons_self ..)
   exact ⟨Int.fmod_nonneg_of_pos c this,Int.fmod_lt_of_pos c this⟩
 | b :: bs,c,h,i + 1,hi=>by
   have:=jR bs (c.fdiv b) (λx hx=>h x (List.mem_cons_of_mem _ hx)) i (by simpa using hi)
   simpa [fb] using this
theorem bB {c:Int} {bs:List Int} (h:∀ b ∈ bs,0 < b) {i:Nat} (hi:i < bs.length):0<=(nums c bs).getD i 0/\(nums c bs).getD i 0 < bs.getD i 0:=by
 unfold nums
 split
 · exact jR bs c h i hi
 · have hp:0 < bs.getD i 0:=h _ (by simp [hi])
   have e:(mS c bs).getD i 0=og c i (bs.getD i 0):=by simp [mS,hi]
   rw [e]
   exact ⟨Int.fmod_nonneg_of_pos _ hp,Int.fmod_lt_of_pos _ hp⟩
theorem take_snoc {α:Type} {xs:List α} {i:Nat} (d:α) (h:i < xs.length):xs.take (i + 1)=xs.take i++[xs.getD i d]:=by
 rw [List.take_add_one,List.getElem?_eq_getElem h]
 simp [h]
noncomputable def br (ds:List D) (r:Sl):Prop:=∃ (c:Int) (bs:List Int),ds=[.int c,.lst (bs.map .int)]/\bs.length<=10000/\(∀ b ∈ bs,0 < b/\b < 2 ^ 60)/\r=.o ((nums c bs).map .int)
noncomputable def dF (t:List (List Rat)):D:=.lst (t.map λr=>.lst (r.map frD))
theorem qA {t:List (List Rat)} (i:Nat) (h:i < (t.map λr=>D.lst (r.map frD)).length):(t.map λr=>D.lst (r.map frD))[i]=.lst ((t.getD i []).map frD):=by
 have:i < t.length:=by simpa using h
 simp [this]
theorem pV {r:List Rat} {i:Int} (h0:0<=i) (h:i.toNat < r.length):atI (r.map frD) i=some (frD (r.getD i.toNat 0)):=by
 obtain ⟨n,rfl⟩:=Int.eq_ofNat_of_zero_le h0
 exact ag (by
   have h:n < r.length:=h
   simp [h])
theorem qr {t:List (List Rat)} {i:Int} (h0:0<=i) (h:i.toNat < t.length):atI (t.map λr=>D.lst (r.map frD)) i=some (.lst ((t.getD i.toNat []).map frD)):=by
 obtain ⟨n,rfl⟩:=Int.eq_ofNat_of_zero_le h0
 exact ag (by
   have h:n < t.length:=h
   simp [h])
noncomputable def k6 (t:List (List Rat)) (j:Nat):List Rat:=(List.range t.length).map λi=>(t.getD i []).getD j 0
noncomputable def cJ (ds:List D) (r:Sl):Prop:=∃ (t:List (List Rat)) (j:Nat),ds=[dF t,.int j]/\t.length<=1000/\(∀ i,i < t.length->j < (t.getD i []).length)/\r=.o ((k6 t j).map frD)
noncomputable def kc (t:List (List Rat)) (n:Nat):List (List Rat):=(List.range n).map (k6 t)
noncomputable def kC (t:List (List Rat)):Nd:=.l (t.map λr=>.l ((r.map frD).map .d))
noncomputable def cu (ds:List D) (r:Sl):Prop:=∃ (t:List (List Rat)) (n:Nat),ds=[dF t]/\1<=t.length/\t.length<=1000/\n<=1000/\(∀ i,i < t.length->(t.getD i []).length=n)/\r=.n (kC (kc t n))
noncomputable def smD (s:List Int × Int):D:=.tup [.lst (s.1.map .int),.int s.2]
noncomputable def fE (k R:Nat):List Int × Int:=((List.range R).map λi=>if i=k then 1 else 0,1)
noncomputable def cm (ds:List D) (r:Sl):Prop:=∃ k R:Nat,ds=[.int k,.int R]/\R<=7/\r=.d (smD (fE k R))
noncomputable def bW (n:Int) (ns:List Int):Int:=ns.foldl (λf o=>(Int.gcd o f:Int)) n
noncomputable def aZ (ds:List D) (r:Sl):Prop:=∃ (n:Int) (ns:List Int),ds=[.int n,.lst (ns.map .int)]/\r=.d (.int (bW n ns))
structure qo (s:List Int × Int) (v:List Rat):Prop where
 len:s.1.length=v.length
 pos:0 < s.2
 val:∀ i,i < v.length->((s.1.getD i 0:Int):Rat)=v.getD i 0 * (s.2:Rat)
noncomputable def cQ (ds:List D) (r:Sl):Prop:=∃ (s:List Int × Int) (v:List Rat),ds=[smD s]/\qo s v/\v.length<=1000/\Bd 8999 s.2/\r=.o (v.map frD)
section
variable {P:Program} {w:World} {K:PySem.W.Frag} {mg:Str->Option Value} {base:Heap} {k:Nat} {f:Addr} {fd:FuncData} {qual:Str}
theorem ij (F:Fun K "_law_numbers" qual (top 32) f fd) (hb:∀ x ∈ ak,mg x=none):aK P w K mg base CX0 (k + 1) f fd ["_law_cell_here","_law_bases"] (spD K br):=by
 refine fnD F dC hb (by rintro _ _ ⟨_,_,rfl,_⟩; rfl) ?_
 rintro _ _ ⟨c,bs,rfl,hl,hbs,rfl⟩ cdv A outer s H E b
 have nd:=dC.nd
 have hp:∀ i,i < bs.length->0 < bs.getD i 0/\bs.getD i 0 < 2 ^ 60:=λi hi=>hbs _ (by simp [hi])
 refine aC 2 nd (cy af) ?_
 refine d0 (aP (cB b (ab (aa 0) af) iY) (aw ae ae (qp ⟨by decide,by decide,by decide⟩)) pf) (λh=>?_) λh=>?_
 · refine gz 3 (λi τ=>∃ s3,τ=[.d (.int (mX c (bs.take i))),.d (.lst (bs.map .int)),.o ((fb c (bs.take i)).map .int),s3,.un,.un]) b nd (bU (aa 1)) iQ ⟨_,rfl⟩ (λi hi τ h=>?_) λτ h=>?_
   · obtain ⟨s3,rfl⟩:=h
     have hi:i < bs.length:=by simpa using hi
     obtain ⟨p1,p2⟩:=hp i hi
     refine jZ 2 (aw (aa 0) (aa 3) (bg (by omega))) ?_ ?_
     · rw [List.length_map,fF,List.length_take]; omega
     refine aC 0 nd (aw (aa 0) (aa 3) (a8 (mkD (by omega) (by omega)))) (aS ?_)
     apply ex1
     show [Sl.d (.int ((mX c (bs.take i)).fdiv (bs.getD i 0))),_,Sl.o _,_,_,_]=_
     rw [take_snoc 0 hi,gK,List.map_append]
     unfold mX
     rw [List.foldl_append]
     rfl
   · obtain ⟨s3,rfl⟩:=h
     refine mL 2 ?_
     rw [List.length_map,List.take_of_length_le (Nat.le_refl _)]
     unfold nums
     rw [if_pos (of_decide_eq_true h)]
 · refine iB 4 3 (λi τ=>∃ s3 s4 s5,τ=[.d (.int c),.d (.lst (bs.map .int)),.o (((List.range i).map λk=>og c k (bs.getD k 0)).map .int),s3,s4,s5]) b nd (nW b (aa 1)) nS ⟨_,_,_,rfl⟩ (λi hi τ h=>?_) λτ h=>?_
   · obtain ⟨s3,s4,s5,rfl⟩:=h
     have hi:i < bs.length:=by rw [dz,List.length_map] at hi; exact hi
     obtain ⟨p1,p2⟩:=hp i hi
     refine aC 5 nd (aw (aw (aw (aw (aw (aa 0) ae (aR (mkR (by decide)))) (aw (aw (aa 4) (aa 4) (aR (mkL (by omega)))) ae (aR (mkR (by decide)))) aN) (aw (aa 4) ae (aR (mkR (by decide)))) aN) ae aN) ae (bg (by decide))) ?_
     refine jZ 2 (aw (aw (aw (aw (aw (aw (aa 5) ae (aR (mkR (by decide)))) (aa 0) aN) (aw ae (aa 4) (aR (mkL (by decide)))) aN) ae (bg (by decide))) ae (a8 (mkD (by decide) (by decide)))) (aa 3) (bg (by omega))) ?_ (aS ?_)
     · rw [List.length_map,List.length_map,List.length_range]; omega
     apply ex3
     rw [List.range_succ,List.map_append,List.map_append]
     rfl
   · obtain ⟨s3,s4,s5,rfl⟩:=h
     refine mL 2 ?_
     rw [dz,List.length_map]
     unfold nums
     rw [if_neg (of_decide_eq_false h)]
     rfl
theorem ig (F:Fun K "column_of" qual (top 15) f fd) (hb:∀ x ∈ ak,mg x=none):aK P w K mg base CX0 (k + 1) f fd ["table","j"] (spD K cJ):=by
 refine fnD F gX hb (by rintro _ _ ⟨_,_,rfl,_⟩; rfl) ?_
 rintro _ _ ⟨t,j,rfl,hl,hj,rfl⟩ cdv A outer s H E b
 refine aE (fI (cmp 0 (f:=λi=>frD ((t.getD i []).getD j 0)) b (bU (aa 0)) qA (by rw [List.length_map]; omega) λi hi s0 H0 fp=>(av (aa 0) (aa 1) (aV (pV (r:=t.getD i []) (i:=(j:Int)) (by omega) (hj i (by rw [List.length_map] at hi; exact hi))))))) ?_
 rw [List.length_map]
 unfold k6
 rw [List.map_map]
 rfl
theorem gr (F:Fun K "columns_of" qual (top 14) f fd) (hb:∀ x ∈ ak,mg x=none) (c_column_of:Cal P w K mg base k "column_of" cJ):aK P w K mg base CX0 (k + 1) f fd ["table"] (spD K cu):=by
 refine fnD F gu hb (by rintro _ _ ⟨_,_,rfl,_⟩; rfl) ?_
 rintro _ _ ⟨t,n,rfl,h1,hl,hn,hj,rfl⟩ cdv A outer s H E b
 have e0:((t.getD 0 []).map frD).length=n:=by rw [List.length_map]; exact hj 0 h1
 refine aE (qd (qR 0 (f:=λj=>.l (((k6 t j).map frD).map .d)) b (eN b (cB b (ab (av (aa 0) ae (aV (qr (i:=0) (by omega) (by omega)))) af) fH) ?_ ?_) eG ?_ (λj hjn s0 H0 fp=>(x_call (b.comp s0 H0 _ fp) c_column_of (ab (aa 1) (ab (aa 0) af)) ⟨t,j,rfl,hl,λi hi=>?_,rfl⟩)) λj _=>rfl)) ?_
 · omega
 · simp only [Int.toNat_zero,e0]; omega
 · rw [aI]; simp only [Int.toNat_zero,e0,Int.toNat_natCast]; omega
 · rw [aI] at hjn; simp only [Int.toNat_zero,e0,Int.toNat_natCast] at hjn; rw [hj i hi]; exact hjn
 · rw [aI]
   simp only [Int.toNat_zero,e0,Int.toNat_natCast]
   unfold kC kc
   rw [List.map_map]
   rfl
theorem gh (F:Fun K "first_sums" qual (top 25) f fd) (hb:∀ x ∈ ak,mg x=none):aK P w K mg base CX0 (k + 1) f fd ["track","rows"] (spD K cm):=by
 refine fnD F gf hb (by rintro _ _ ⟨_,_,rfl,_⟩; rfl) ?_
 rintro _ _ ⟨n,R,rfl,hR,rfl⟩ cdv A outer s H E b
 refine aE (bz (ab (bC (fI (cmp 0 (f:=λi=>.int (if i=n then 1 else 0)) b (eN b (aa 1) (by omega) (by omega)) eG (by rw [aI]; omega) λi hi s0 H0 fp=>(lr (aP (aa 0) (aa 1) gY) (λh=>?_) λh=>?_)))) (ab ae af))) ?_
 · have h:=of_decide_eq_true h
   rw [if_pos (by omega)]
   exact ae
 · have h:=of_decide_eq_false h
   rw [if_neg (by omega)]
   exact ae
 · rw [aI,Int.toNat_natCast]
   unfold smD fE
   rw [List.map_map]
   rfl
theorem dW (F:Fun K "shared_divisor" qual (top 9) f fd) (hb:∀ x ∈ ak,mg x=none) (c_common_divisor:Cal P w K mg base k "common_divisor" aJ):aK P w K mg base CX0 (k + 1) f fd ["number","others"] (spD K aZ):=by
 refine fnD F bM hb (by rintro _ _ ⟨_,_,rfl,_⟩; rfl) ?_
 rintro _ _ ⟨n,ns,rfl,rfl⟩ cdv A outer s H E b
 have nd:=bM.nd
 refine aC 2 nd (aa 0) ?_
 refine gz 3 (λi τ=>∃ s3,τ=[.d (.int n),.d (.lst (ns.map .int)),.d (.int (bW n (ns.take i))),s3]) b nd (bU (aa 1)) iQ ⟨_,rfl⟩ (λi hi τ h=>?_) λτ h=>?_
 · obtain ⟨s3,rfl⟩:=h
   rw [List.length_map] at hi
   refine aC 2 nd (x_call b c_common_divisor (ab (aa 3) (ab (aa 2) af)) ⟨_,_,rfl,rfl⟩) (aS ?_)
   apply ex1
   rw [take_snoc 0 hi]
   unfold bW
   rw [List.foldl_append]
   rfl
 · obtain ⟨s3,rfl⟩:=h
   refine aE (aa 2) ?_
   rw [List.length_map,List.take_of_length_le (Nat.le_refl _)]
theorem hU (F:Fun K "told_sums" qual (top 26) f fd) (hb:∀ x ∈ ak,mg x=none) (c_fraction:Cal P w K mg base k "fraction" c0):aK P w K mg base CX0 (k + 1) f fd ["sums"] (spD K cQ):=by
 refine fnD F hJ hb (by rintro _ _ ⟨_,_,rfl,_⟩; rfl) ?_
 rintro _ _ ⟨⟨ns,d⟩,v,rfl,h,hl,hd,rfl⟩ cdv A outer s H E b
 have hlen:ns.length=v.length:=h.len
 refine aE (fI (cmp 0 (f:=λi=>frD (v.getD i 0)) b (bU (av (aa 0) ae (aq (ag (i:=0) rfl)))) iQ (by simp only [List.length_map]; omega) λi hi s0 H0 fp=>(x_call (b.comp s0 H0 _ fp) c_fraction (ab (aa 0) (ab (av (aa 1) ae (aq (ag (i:=1) rfl))) af)) ⟨_,d,v.getD i 0,rfl,h.pos,hd,h.val i (by simp only [List.length_map] at hi; omega),rfl⟩))) ?_
 rw [List.length_map,hlen]
 congr 1
 refine List.ext_getElem (by simp) λi h1 h2=>?_
 have:i < v.length:=by simpa using h2
 simp [this]
end
end K20
namespace K20
open PySem PySem.Spec PyProof.Rows L2 Hy
open Ev (D Den aA aH aL)
theorem cK:∀ (ns:List Int) (n:Int),bW n ns ∣ n/\∀ x ∈ ns,bW n ns ∣ x
 | [],n=>⟨Int.dvd_refl n,λ_ z=>nomatch z⟩
 | y :: ns,n=>by
   obtain ⟨h1,h2⟩:=cK ns (Int.gcd y n:Int)
   refine ⟨Int.dvd_trans h1 (Int.gcd_dvd_right ..),λx hx=>?_⟩
   rcases List.mem_cons.mp hx with rfl | hx
   · exact Int.dvd_trans h1 (Int.gcd_dvd_left ..)
   · exact h2 x hx
theorem ji {i j:Int} (h:0 < j):0 < (Int.gcd i j:Int):=by
 have:=jD (i:=i) (j:=j) (by omega)
 omega
theorem cO:∀ (ns:List Int) (n:Int),0 < n->0 < bW n ns
 | [],_,h=>h
 | y :: ns,n,h=>cO ns (Int.gcd y n:Int) (ji h)
structure Sm (R:Nat) (P:Int) (s:List Int × Int) (v:Nat->Rat):Prop where
 len:s.1.length=R
 pos:0 < s.2
 dvd:s.2 ∣ P
 val:∀ i,i < R->((s.1.getD i 0:Int):Rat)=v i * (s.2:Rat)
theorem Sm.up {R:Nat} {P:Int} {s:List Int × Int} {v:Nat->Rat} (h:Sm R P s v) (c:Int):Sm R (P * c) s v:=⟨h.len,h.pos,Int.dvd_mul_of_dvd_left h.dvd,h.val⟩
noncomputable def wsm (s:List Int × Int) (q:Rat):List Int × Int:=(s.1.map λx=>x / bW (q.den:Nat) s.1 * (q.num / (Int.gcd q.num s.2:Int)),s.2 / (Int.gcd q.num s.2:Int) * (((q.den:Nat):Int) / bW (q.den:Nat) s.1))
theorem getD_map {f:Int->Int} {xs:List Int} {i:Nat} (h:i < xs.length):(xs.map f).getD i 0=f (xs.getD i 0):=by simp [h]
theorem getD_mem {xs:List Int} {i:Nat} (h:i < xs.length):xs.getD i 0 ∈ xs:=by simp [h]
theorem qN {a b c:Rat} (hc:c ≠ 0) (h:a * c=b * c):a=b:=by
 have:(a - b) * c=0:=by grind
 rcases Rat.mul_eq_zero.mp this with z | z
 · grind
 · exact absurd z hc
theorem my {a b:Int} (h:0 < a * b) (ha:0 < a):0 < b:=by
 rcases Int.lt_or_le 0 b with z | z
 · exact z
 · have:=Int.mul_le_mul_of_nonneg_left z (Int.le_of_lt ha)
   rw [Int.mul_zero] at this
   omega
theorem quo {a b:Int} (h0:0 < a) (h:a ∣ b):∃ c,b=a * c/\b / a=c:=by
 obtain ⟨c,rfl⟩:=h
 exact ⟨c,rfl,Int.mul_ediv_cancel_left _ (by omega)⟩
theorem fO {R:Nat} {P:Int} {s:List Int × Int} {v:Nat->Rat} {q:Rat} (h:Sm R P s v):Sm R (P * ((q.den:Nat):Int)) (wsm s q) λi=>q * v i:=by
 obtain ⟨ns,d⟩:=s
 have hd:0 < d:=h.pos
 have hB:=cO ns (q.den:Nat) (den_pos q)
 obtain ⟨b1,b2⟩:=cK ns (q.den:Nat)
 have hG:0 < (Int.gcd q.num d:Int):=ji hd
 obtain ⟨f,ef,qf⟩:=quo hG (Int.gcd_dvd_left q.num d)
 obtain ⟨a,ea,qa⟩:=quo hG (Int.gcd_dvd_right q.num d)
 obtain ⟨e,ee,qe⟩:=quo hB b1
 unfold wsm
 simp only
 rw [qf,qa,qe]
 generalize bW ((q.den:Nat):Int) ns=B at *
 generalize (Int.gcd q.num d:Int)=G at *
 have ap:0 < a:=my (by rw [<- ea]; exact hd) (by assumption)
 have ep:0 < e:=my (by rw [<- ee]; exact den_pos q) (by assumption)
 refine ⟨by rw [List.length_map]; exact h.len,Int.mul_pos ap ep,Int.mul_dvd_mul (Int.dvd_trans ⟨G,by rw [ea,Int.mul_comm]⟩ h.dvd) ⟨B,by rw [ee,Int.mul_comm]⟩,λi hi=>?_⟩
 have hi':i < ns.length:=by rw [show ns.length=R from h.len]; exact hi
 simp only
 rw [getD_map hi']
 obtain ⟨y,ey,qy⟩:=quo hB (b2 _ (getD_mem hi'))
 rw [qy]
 have hv:=h.val i hi
 simp only at hv
 rw [ey,ea] at hv
 have hq:=cR q
 rw [ef,ee] at hq
 refine qN (c:=(B:Rat) * (G:Rat)) (λz=>(Rat.mul_eq_zero.mp z).elim (hZ hB) (hZ hG)) ?_
 simp only [Rat.intCast_mul] at *
 grind
noncomputable def asm (s u:List Int × Int):List Int × Int:=
 let sh:Int:=(Int.gcd s.2 u.2:Int)
 let tops:=(List.range s.1.length).map λi=>s.1.getD i 0 * (u.2 / sh) + u.1.getD i 0 * (s.2 / sh)
 (tops.map λx=>x / bW sh tops,s.2 / sh * (u.2 / bW sh tops))
theorem oy {R:Nat} {P:Int} {s u:List Int × Int} {v w:Nat->Rat} (h:Sm R P s v) (g:Sm R P u w):Sm R P (asm s u) λi=>v i + w i:=by
 obtain ⟨ns,d⟩:=s
 obtain ⟨ms,e⟩:=u
 have hd:0 < d:=h.pos
 have he:0 < e:=g.pos
 have hS:0 < (Int.gcd d e:Int):=ji he
 obtain ⟨a,ea,qa⟩:=quo hS (Int.gcd_dvd_left d e)
 obtain ⟨b,eb,qb⟩:=quo hS (Int.gcd_dvd_right d e)
 have cop:Int.gcd a b=1:=by
   have h1:=Int.gcd_ediv (Int.gcd_dvd_left d e) (Int.gcd_dvd_right d e)
   rw [qa,qb,Int.natAbs_natCast,Nat.div_self (by omega)] at h1
   exact h1
 unfold asm
 simp only
 rw [qa,qb]
 generalize hT:((List.range ns.length).map λi=>ns.getD i 0 * b + ms.getD i 0 * a)=tops
 have tl:tops.length=R:=by rw [<- hT,List.length_map,List.length_range]; exact h.len
 obtain ⟨b1,b2⟩:=cK tops (Int.gcd d e:Int)
 have hV:=cO tops _ hS
 have hVe:bW (Int.gcd d e:Int) tops ∣ e:=Int.dvd_trans b1 (Int.gcd_dvd_right d e)
 obtain ⟨c,ec,qc⟩:=quo hV hVe
 rw [qc]
 generalize bW (Int.gcd d e:Int) tops=V at *
 generalize (Int.gcd d e:Int)=S at *
 have ap:0 < a:=my (by rw [<- ea]; exact hd) (by assumption)
 have cp:0 < c:=my (by rw [<- ec]; exact he) (by assumption)
 refine ⟨by rw [List.length_map]; exact tl,Int.mul_pos ap cp,?_,λi hi=>?_⟩
 · obtain ⟨p1,e1⟩:=h.dvd
   obtain ⟨p2,e2⟩:=g.dvd
   simp only at e1 e2
   have e3:a * p1=b * p2:=by
     have:S * (a * p1)=S * (b * p2):=by rw [<- Int.mul_assoc,<- Int.mul_assoc,<- ea,<- eb,<- e1,<- e2]
     exact Int.eq_of_mul_eq_mul_left (by omega) this
   have e4:a ∣ p2:=by
     have:=Int.dvd_gcd_mul_iff_dvd_mul.mpr (show a ∣ b * p2 from ⟨p1,e3.symm⟩)
     rwa [cop,Int.natCast_one,Int.one_mul] at this
   obtain ⟨p3,e5⟩:=e4
   exact ⟨V * p3,by simp only; rw [e2,e5,ec]; grind⟩
 · simp only
   rw [getD_map (by omega)]
   obtain ⟨z,ez,qz⟩:=quo hV (b2 _ (getD_mem (i:=i) (by omega)))
   rw [qz]
   have et:tops.getD i 0=ns.getD i 0 * b + ms.getD i 0 * a:=by
     rw [<- hT]
     have:i < ns.length:=by rw [show ns.length=R from h.len]; exact hi
     simp [this]
   have hv:=h.val i hi
   have hw:=g.val i hi
   simp only at hv hw
   have t1:((tops.getD i 0:Int):Rat)=((ns.getD i 0:Int):Rat) * (b:Rat) + ((ms.getD i 0:Int):Rat) * (a:Rat):=by rw [et,Rat.intCast_add,Rat.intCast_mul,Rat.intCast_mul]
   rw [ez,hv,hw] at t1
   have cd:(d:Rat)=(S:Rat) * (a:Rat):=by rw [ea,Rat.intCast_mul]
   have ce:(e:Rat)=(S:Rat) * (b:Rat):=by rw [eb,Rat.intCast_mul]
   have cf:(e:Rat)=(V:Rat) * (c:Rat):=by rw [ec,Rat.intCast_mul]
   refine qN (c:=(V:Rat)) (hZ hV) ?_
   rw [Rat.intCast_mul] at t1 ⊢
   grind
noncomputable def Zq (P:Int) (n:Nat) (v:Rat):Prop:=∃ z:Int,0<=z/\z<=2 ^ n/\(z:Rat)=v * (P:Rat)
structure Wq (e:Nat) (q:Rat):Prop where
 n0:0<=q.num
 sq:Sq e q
theorem p2 (m n:Nat):(2:Int) ^ (m + n)=2 ^ m * 2 ^ n:=Int.pow_add ..
theorem p0 (n:Nat):(0:Int)<=2 ^ n:=by
 have e:((2 ^ n:Nat):Int)=(2:Int) ^ n:=Int.natCast_pow ..
 rw [<- e]
 exact Int.natCast_nonneg _
theorem bd2 {n:Nat} {i:Int} (h:Bd n i):i<=2 ^ n:=by
 have h:i.natAbs < 2 ^ n:=h
 have e:((2 ^ n:Nat):Int)=(2:Int) ^ n:=Int.natCast_pow ..
 omega
theorem Zq.mul {P:Int} {n e:Nat} {v q:Rat} (h:Zq P n v) (g:Wq e q):Zq (P * ((q.den:Nat):Int)) (n + e) (q * v):=by
 obtain ⟨z,h0,h1,h2⟩:=h
 refine ⟨z * q.num,Int.mul_nonneg h0 g.n0,?_,?_⟩
 · rw [p2]; exact Int.mul_le_mul h1 (bd2 g.sq.num) g.n0 (p0 n)
 · have:=cR q
   rw [Rat.intCast_mul,Rat.intCast_mul]; grind
theorem Zq.up {P:Int} {n e:Nat} {v q:Rat} (h:Zq P n v) (g:Wq e q):Zq (P * ((q.den:Nat):Int)) (n + e) v:=by
 obtain ⟨z,h0,h1,h2⟩:=h
 have:=den_pos q
 refine ⟨z * ((q.den:Nat):Int),Int.mul_nonneg h0 (by omega),?_,?_⟩
 · rw [p2]; exact Int.mul_le_mul h1 (bd2 g.sq.den) (by omega) (p0 n)
 · rw [Rat.intCast_mul,Rat.intCast_mul]; grind
theorem Zq.add {P:Int} {n:Nat} {v w:Rat} (h:Zq P n v) (g:Zq P n w):Zq P (n + 1) (v + w):=by
 obtain ⟨z,h0,h1,h2⟩:=h
 obtain ⟨y,g0,g1,g2⟩:=g
 refine ⟨z + y,by omega,by rw [p2]; omega,?_⟩
 rw [Rat.intCast_add]; grind
theorem Zq.mono {P:Int} {m n:Nat} {v:Rat} (h:Zq P m v) (g:m<=n):Zq P n v:=by
 obtain ⟨z,h0,h1,h2⟩:=h
 refine ⟨z,h0,Int.le_trans h1 ?_,h2⟩
 exact_mod_cast Nat.pow_le_pow_right (n:=2) (by decide) g
theorem ki {n:Nat} {i:Int} (h0:0<=i) (h:i<=2 ^ n):Bd (n + 1) i:=by
 unfold Bd
 have e:((2 ^ n:Nat):Int)=(2:Int) ^ n:=Int.natCast_pow ..
 have:=Nat.pow_succ (n:=2) (m:=n)
 have:=Nat.two_pow_pos n
 omega
theorem Zq.sq {P:Int} {m n:Nat} {v:Rat} (h:Zq P n v) (hP:0 < P) (g:P<=2 ^ m) (hm:m<=n):Sq (n + 1) v:=by
 obtain ⟨z,h0,h1,h2⟩:=h
 exact Sq.cH hP h2 (ki h0 h1) ((ki (by omega) g).mono (by omega))
theorem Sm.bd {R:Nat} {P:Int} {s:List Int × Int} {v:Nat->Rat} {m n:Nat} (h:Sm R P s v) (hP:0 < P) (g:P<=2 ^ m) (hz:∀ i,i < R->Zq P n (v i)):Bd (m + 1) s.2/\∀ x ∈ s.1,Bd (n + 1) x:=by
 refine ⟨(ki (by omega) g).of_dvd h.dvd (by omega),λx hx=>?_⟩
 obtain ⟨i,hi,rfl⟩:=List.getElem_of_mem hx
 have hR:i < R:=by rw [<- h.len]; exact hi
 obtain ⟨z,h0,h1,h2⟩:=hz i hR
 obtain ⟨c,ec⟩:=h.dvd
 have hv:=h.val i hR
 have eg:s.1.getD i 0=s.1[i]:=by simp [hi]
 rw [eg] at hv
 have ez:z=s.1[i] * c:=by
   apply Rat.intCast_inj.mp
   rw [h2,ec,Rat.intCast_mul,Rat.intCast_mul,hv]; grind
 rcases Int.lt_or_eq_of_le h0 with z0 | z0
 · exact (ki h0 h1).of_dvd ⟨c,ez⟩ (by omega)
 · have cp:0 < c:=my (by rw [<- ec]; exact hP) h.pos
   have:s.1[i]=0:=by
     rcases Int.mul_eq_zero.mp (ez.symm.trans z0.symm) with q | q
     · exact q
     · omega
   rw [this]
   exact Nat.two_pow_pos _
section
variable {P:Program} {w:World} {K:PySem.W.Frag} {mg:Str->Option Value} {base:Heap} {k:Nat} {f:Addr} {fd:FuncData} {qual:Str}
end
end K20
namespace K20
open PySem PySem.Spec PyProof.Rows L2 Hy
open Ev (D Den aA aH aL)
noncomputable def bJ (ds:List D) (r:Sl):Prop:=∃ (s:List Int × Int) (q:Rat),ds=[smD s,frD q]/\0 < s.2/\Bd 8000 s.2/\(∀ x ∈ s.1,Bd 8000 x)/\Sq 100 q/\s.1.length<=1000/\r=.d (smD (wsm s q))
theorem bw {a b:Int} (h:0 < b):a.fdiv b=a / b:=Int.fdiv_eq_ediv_of_nonneg _ (by omega)
theorem jT (ns:List Int) (g:Int->D):(List.range (ns.map D.int).length).map (λi=>g (ns.getD i 0))=ns.map g:=by
 refine List.ext_getElem (by simp) λi h1 h2=>?_
 have:i < ns.length:=by simpa using h2
 simp [this]
noncomputable def cb (ds:List D) (r:Sl):Prop:=∃ s u:List Int × Int,ds=[smD s,smD u]/\0 < s.2/\Bd 8000 s.2/\0 < u.2/\Bd 8000 u.2/\(∀ x ∈ s.1,Bd 8000 x)/\(∀ x ∈ u.1,Bd 8000 x)/\s.1.length=u.1.length/\s.1.length<=1000/\r=.d (smD (asm s u))
section
variable {P:Program} {w:World} {K:PySem.W.Frag} {mg:Str->Option Value} {base:Heap} {k:Nat} {f:Addr} {fd:FuncData} {qual:Str}
theorem eS (F:Fun K "weighed_sums" qual (top 27) f fd) (hb:∀ x ∈ ak,mg x=none) (c_common_divisor:Cal P w K mg base k "common_divisor" aJ) (c_shared_divisor:Cal P w K mg base k "shared_divisor" aZ):aK P w K mg base CX0 (k + 1) f fd ["sums","weight"] (spD K bJ):=by
 refine fnD F cv hb (by rintro _ _ ⟨_,_,rfl,_⟩; rfl) ?_
 rintro _ _ ⟨⟨ns,d⟩,q,rfl,hd,hd2,hns,hq,hl,rfl⟩ cdv A outer s H E b
 have nd:=cv.nd
 have hd:0 < d:=hd
 have hG:0 < (Int.gcd q.num d:Int):=ji hd
 have hB:=cO ns (q.den:Nat) (den_pos q)
 have dG:aL (Int.gcd q.num d:Int):=(Bd.gcd hd2 (by show d ≠ 0; omega)).aL (Int.ne_of_gt hG) (by decide)
 have dB:aL (bW (q.den:Nat) ns):=(hq.den.of_dvd (cK ns _).1 (Int.ne_of_gt (den_pos q))).aL (Int.ne_of_gt hB) (by decide)
 have qn:Bd 8000 (q.num / (Int.gcd q.num d:Int)):=(hq.num.ediv _).mono (by decide)
 refine aC 2 nd (x_call b c_common_divisor (ab (av (aa 1) ae (aq (ag (i:=0) rfl))) (ab (av (aa 0) ae (aq (ag (i:=1) rfl))) af)) ⟨_,_,rfl,rfl⟩) ?_
 refine aC 3 nd (x_call b c_shared_divisor (ab (av (aa 1) ae (aq (ag (i:=1) rfl))) (ab (av (aa 0) ae (aq (ag (i:=0) rfl))) af)) ⟨_,_,rfl,rfl⟩) ?_
 refine aC 4 nd (aw (av (aa 1) ae (aq (ag (i:=0) rfl))) (aa 2) (a8 dG)) ?_
 rw [bw hG]
 refine aE (bz (ab (bC (fI (cmp 0 (f:=λi=>.int (ns.getD i 0 / bW (q.den:Nat) ns * (q.num / (Int.gcd q.num d:Int)))) b (bU (av (aa 0) ae (aq (ag (i:=0) rfl)))) iQ (by rw [List.length_map]; have:ns.length<=1000:=hl; omega) λi hi s0 H0 fp=>?_))) (ab (aw (aw (av (aa 0) ae (aq (ag (i:=1) rfl))) (aa 2) (a8 dG)) (aw (av (aa 1) ae (aq (ag (i:=1) rfl))) (aa 3) (a8 dB)) (aR ?_)) af))) ?_
 · have hi:i < ns.length:=by rw [List.length_map] at hi; exact hi
   rw [<- bw hB]
   exact aw (aw (aa 0) (aa 1) (a8 dB)) (aa 2) (aR (by rw [bw hB]; exact ((hns _ (getD_mem hi)).ediv _).aH qn (by decide) (by decide)))
 · rw [bw hG,bw hB]
   exact (hd2.ediv _).aH (hq.den.ediv _) (by decide) (by decide)
 · rw [bw hG,bw hB,jT ns λx=>.int (x / bW (q.den:Nat) ns * (q.num / (Int.gcd q.num d:Int)))]
   unfold smD wsm
   rw [List.map_map]
   rfl
theorem gp (F:Fun K "added_sums" qual (top 28) f fd) (hb:∀ x ∈ ak,mg x=none) (c_common_divisor:Cal P w K mg base k "common_divisor" aJ) (c_shared_divisor:Cal P w K mg base k "shared_divisor" aZ):aK P w K mg base CX0 (k + 1) f fd ["one","other"] (spD K cb):=by
 refine fnD F cY hb (by rintro _ _ ⟨_,_,rfl,_⟩; rfl) ?_
 rintro _ _ ⟨⟨ns,d⟩,⟨ms,e⟩,rfl,hd,hd2,he,he2,hns,hms,hll,hl,rfl⟩ cdv A outer s H E b
 have nd:=cY.nd
 have hd:0 < d:=hd
 have he:0 < e:=he
 have hll:ns.length=ms.length:=hll
 have hl:ns.length<=1000:=hl
 have hS:0 < (Int.gcd d e:Int):=ji he
 have bS:Bd 8000 (Int.gcd d e:Int):=Bd.gcd he2 (by show e ≠ 0; omega)
 have dS:aL (Int.gcd d e:Int):=bS.aL (by omega) (by decide)
 refine aC 2 nd (x_call b c_common_divisor (ab (av (aa 0) ae (aq (ag (i:=1) rfl))) (ab (av (aa 1) ae (aq (ag (i:=1) rfl))) af)) ⟨_,_,rfl,rfl⟩) ?_
 refine aC 3 nd (aw (av (aa 1) ae (aq (ag (i:=1) rfl))) (aa 2) (a8 dS)) ?_
 refine aC 4 nd (aw (av (aa 0) ae (aq (ag (i:=1) rfl))) (aa 2) (a8 dS)) ?_
 rw [bw hS,bw hS]
 have be:Bd 8000 (e / (Int.gcd d e:Int)):=Bd.ediv he2 _
 have bd:Bd 8000 (d / (Int.gcd d e:Int)):=Bd.ediv hd2 _
 have zl:(dn (ns.map D.int) (ms.map D.int)).length=ns.length:=by rw [a9,List.length_map,List.length_map]; omega
 refine jy 5 nd (oT 0 1 (f:=λi=>.int (ns.getD i 0 * (e / (Int.gcd d e:Int)) + ms.getD i 0 * (d / (Int.gcd d e:Int)))) b (jg b (av (aa 0) ae (aq (ag (i:=0) rfl))) (av (aa 1) ae (aq (ag (i:=0) rfl)))) qL (by rw [zl]; omega) λi hi s0 H0 fp=>?_) (.inr rfl) ?_
 · have hi:i < ns.length:=by rw [zl] at hi; exact hi
   exact aw (aw (aa 0) (aa 2) (aR ((hns _ (getD_mem hi)).aH be (by decide) (by decide)))) (aw (aa 1) (aa 3) (aR ((hms _ (getD_mem (xs:=ms) (by omega))).aH bd (by decide) (by decide)))) aN
 rw [zl]
 have ec:((List.range ns.length).map λi=>D.int (ns.getD i 0 * (e / (Int.gcd d e:Int)) + ms.getD i 0 * (d / (Int.gcd d e:Int))))=((List.range ns.length).map λi=>ns.getD i 0 * (e / (Int.gcd d e:Int)) + ms.getD i 0 * (d / (Int.gcd d e:Int))).map .int:=by rw [List.map_map]; rfl
 rw [ec]
 have er:asm (ns,d) (ms,e)=((((List.range ns.length).map λi=>ns.getD i 0 * (e / (Int.gcd d e:Int)) + ms.getD i 0 * (d / (Int.gcd d e:Int)))).map λx=>x / bW (Int.gcd d e:Int) ((List.range ns.length).map λi=>ns.getD i 0 * (e / (Int.gcd d e:Int)) + ms.getD i 0 * (d / (Int.gcd d e:Int))),d / (Int.gcd d e:Int) * (e / bW (Int.gcd d e:Int) ((List.range ns.length).map λi=>ns.getD i 0 * (e / (Int.gcd d e:Int)) + ms.getD i 0 * (d / (Int.gcd d e:Int))))):=rfl
 rw [er]
 have tl:((List.range ns.length).map λi=>ns.getD i 0 * (e / (Int.gcd d e:Int)) + ms.getD i 0 * (d / (Int.gcd d e:Int))).length<=1000:=by rw [List.length_map,List.length_range]; exact hl
 generalize ((List.range ns.length).map λi=>ns.getD i 0 * (e / (Int.gcd d e:Int)) + ms.getD i 0 * (d / (Int.gcd d e:Int)))=tops at tl
 have hV:=cO tops _ hS
 have dV:aL (bW (Int.gcd d e:Int) tops):=(bS.of_dvd (cK tops _).1 (by omega)).aL (by omega) (by decide)
 refine aC 6 nd (x_call b c_shared_divisor (ab (aa 2) (ab (aa 5) af)) ⟨_,_,rfl,rfl⟩) ?_
 refine aE (bz (ab (bC (fI (cmp 0 (f:=λi=>.int (tops.getD i 0 / bW (Int.gcd d e:Int) tops)) b (bU (aa 5)) iQ (by rw [List.length_map]; omega) λi hi s0 H0 fp=>?_))) (ab (aw (aa 4) (aw (av (aa 1) ae (aq (ag (i:=1) rfl))) (aa 6) (a8 dV)) (aR ?_)) af))) ?_
 · rw [<- bw hV]
   exact aw (aa 0) (aa 1) (a8 dV)
 · rw [bw hV]
   exact bd.aH (Bd.ediv he2 _) (by decide) (by decide)
 · rw [bw hV,jT tops λx=>.int (x / bW (Int.gcd d e:Int) tops)]
   unfold smD
   rw [List.map_map]
   rfl
end
end K20
namespace K20
open PySem PySem.Spec PyProof.Rows L2 Hy
open Ev (D Den aA aH aL)
noncomputable def dh (V:Nat->Nat->Rat) (n:Nat) (r:Nat->Rat):Nat->Nat->Rat:=λk=>if k=n then r else V k
noncomputable def stV (V:Nat->Nat->Rat) (st:Stp):Nat->Nat->Rat:=if st.1 = "weigh" then dh V st.2.1 λi=>st.2.2 * V st.2.1 i else dh V (rgE st) λi=>V (rgE st) i + st.2.2 * V (rgS st) i
noncomputable def V0 (k i:Nat):Rat:=if i=k then 1 else 0
noncomputable def fwd (ss:List Stp):Nat->Nat->Rat:=ss.foldl stV V0
theorem fN {n m:Nat} (h:m < n):ixN n (m:Int)=some m:=by
 unfold ixN
 rw [if_pos (by omega),if_pos (by omega)]
 simp
structure TrI (e T R t:Nat) (P:Int) (tr:List (List Int × Int)) (V:Nat->Nat->Rat):Prop where
 len:tr.length=T
 pos:0 < P
 le:P<=2 ^ (e * t)
 sm:∀ k,k < T->Sm R P (tr.getD k ([],1)) (V k)
 zq:∀ k,k < T->∀ i,i < R->Zq P ((e + 1) * t) (V k i)
theorem l3 {α:Type} {xs:List α} {k j:Nat} {x d:α} (h:k < xs.length):(xs.set k x).getD j d=if j=k then x else xs.getD j d:=by
 by_cases e:j=k
 · subst e; simp [h]
 · simp [List.getD,e,List.getElem?_set_ne (Ne.symm e)]
theorem Zq.upn {P:Int} {e t:Nat} {v q:Rat} (h:Zq P ((e + 1) * t) v) (g:Wq e q):Zq (P * ((q.den:Nat):Int)) ((e + 1) * (t + 1)) v:=(h.up g).mono (by rw [Nat.mul_succ]; omega)
theorem TrI.put {e T R t k:Nat} {P:Int} {tr:List (List Int × Int)} {V:Nat->Nat->Rat} {q:Rat} (h:TrI e T R t P tr V) (g:Wq e q) (hk:k < T) {s':List Int × Int} {v':Nat->Rat} (hs:Sm R (P * ((q.den:Nat):Int)) s' v')
   (hz:∀ i,i < R->Zq (P * ((q.den:Nat):Int)) ((e + 1) * (t + 1)) (v' i)):TrI e T R (t + 1) (P * ((q.den:Nat):Int)) (tr.set k s') (dh V k v'):=by
 refine ⟨by rw [List.length_set]; exact h.len,Int.mul_pos h.pos (den_pos q),?_,λj hj=>?_,λj hj i hi=>?_⟩
 · rw [Nat.mul_succ,p2]
   exact Int.mul_le_mul h.le (bd2 g.sq.den) (by have:=den_pos q; omega) (p0 _)
 · rw [l3 (by rw [h.len]; exact hk)]
   unfold dh
   split
   · exact hs
   · exact (h.sm j hj).up _
 · unfold dh
   split
   · exact hz i hi
   · exact (h.zq j hj i hi).upn g
theorem TrI.start {e T R:Nat}:TrI e T R 0 1 ((List.range T).map λk=>fE k R) V0:=by
 refine ⟨by simp,by decide,by simp,λk hk=>?_,λk hk i hi=>?_⟩
 · rw [show ((List.range T).map λk=>fE k R).getD k ([],1)=fE k R by simp [hk]]
   refine ⟨by simp [fE],by show (0:Int) < 1; decide,Int.dvd_refl _,λi hi=>?_⟩
   rw [show (fE k R).1.getD i 0=if i=k then 1 else 0 by simp [fE,hi]]
   unfold V0 fE
   split
   · exact (Rat.one_mul _).symm
   · exact (Rat.zero_mul _).symm
 · unfold V0
   split
   · exact ⟨1,by decide,by simp,(Rat.one_mul _).symm⟩
   · exact ⟨0,by decide,by simp,(Rat.zero_mul _).symm⟩
theorem TrI.bd {e T R t:Nat} {P:Int} {tr:List (List Int × Int)} {V:Nat->Nat->Rat} (h:TrI e T R t P tr V) (hn:(e + 1) * t<=1500) {k:Nat} (hk:k < T):0 < (tr.getD k ([],1)).2/\Bd 8000 (tr.getD k ([],1)).2/\(∀ x ∈ (tr.getD k ([],1)).1,Bd 8000 x)/\(tr.getD k ([],1)).1.length=R:=by
 obtain ⟨h1,h2⟩:=(h.sm k hk).bd h.pos h.le (h.zq k hk)
 have:e * t<=(e + 1) * t:=Nat.mul_le_mul_right _ (by omega)
 exact ⟨(h.sm k hk).pos,h1.mono (by omega),λx hx=>(h2 x hx).mono (by omega),(h.sm k hk).len⟩
theorem lF {tr:List (List Int × Int)} {i:Nat} (h:i < tr.length):atI (tr.map smD) (i:Int)=some (smD (tr.getD i ([],1))):=ag (by simp [h])
theorem iz {tr:List (List Int × Int)} {C:Nat} (h:C<=tr.length):(cutD (tr.map smD) none (some (C:Int))).length=C:=by rw [iD,List.length_take,List.length_map]; omega
theorem qm {tr:List (List Int × Int)} {C:Nat} (i:Nat) (h:i < (cutD (tr.map smD) none (some (C:Int))).length):(cutD (tr.map smD) none (some (C:Int)))[i]=smD (tr.getD i ([],1)):=by
 rw [List.getElem_of_eq (iD C)]
 rw [iD,List.length_take,List.length_map] at h
 simp [show i < tr.length by omega]
theorem Sm.sums {R:Nat} {P:Int} {s:List Int × Int} {v:Nat->Rat} (h:Sm R P s v):qo s ((List.range R).map v):=by
 refine ⟨by rw [h.len]; simp,h.pos,λi hi=>?_⟩
 have hi:i < R:=by simpa using hi
 rw [h.val i hi]
 simp [hi]
theorem mz {e T R t:Nat} {P:Int} {tr:List (List Int × Int)} {V:Nat->Nat->Rat} {n:Nat} {q:Rat} (h:TrI e T R t P tr V) (g:Wq e q) (hn:n < T):TrI e T R (t + 1) (P * ((q.den:Nat):Int)) (tr.set n (wsm (tr.getD n ([],1)) q)) (stV V ("weigh",n,q)):=by
 unfold stV
 rw [if_pos rfl]
 exact h.put g hn (fO (h.sm n hn)) λi hi=>((h.zq n hn i hi).mul g).mono (by rw [Nat.mul_succ]; omega)
theorem pM {e T R t:Nat} {P:Int} {tr:List (List Int × Int)} {V:Nat->Nat->Rat} {st:Stp} (h:TrI e T R t P tr V) (g:Wq e st.2.2) (h0:st.1 ≠ "weigh") (h1:rgS st < T) (h2:rgE st < T):TrI e T R (t + 1) (P * ((st.2.2.den:Nat):Int)) (tr.set (rgE st) (asm (tr.getD (rgE st) ([],1)) (wsm (tr.getD (rgS st) ([],1)) st.2.2))) (stV V st):=by
 unfold stV
 rw [if_neg h0]
 exact h.put g h2 (oy ((h.sm _ h2).up _) (fO (h.sm _ h1))) λi hi=>(((h.zq _ h2 i hi).up g).add ((h.zq _ h1 i hi).mul g)).mono (by rw [Nat.mul_succ]; omega)
theorem oQ {T:Nat} {st:Stp} (h:okS T st) (h0:st.1 ≠ "weigh"):rgS st < T/\rgE st < T/\rgS st ≠ rgE st:=by
 obtain ⟨_,h | h⟩:=h
 · exact absurd h.1 h0
 · have:=h.2
   unfold rgS rgE
   split <;> omega
noncomputable def bt (C R:Nat) (V:Nat->Nat->Rat):List (List Rat):=(List.range R).map λi=>(List.range C).map λj=>V j i
noncomputable def de (ds:List D) (r:Sl):Prop:=∃ (e T R C:Nat) (ss:List Stp),ds=[bX T R C ss]/\okL T R C ss/\(∀ i,i < ss.length->Wq e (ss.getD i ("weigh",0,0)).2.2)/\(e + 1) * ss.length<=1500/\e<=100/\r=.n (kC (bt C R (fwd ss)))
theorem ku (C R:Nat) (V:Nat->Nat->Rat):kc ((List.range C).map λj=>(List.range R).map λi=>V j i) R=bt C R V:=by
 unfold kc bt
 refine List.map_congr_left λi hi=>?_
 have hi:i < R:=List.mem_range.mp hi
 unfold k6
 rw [List.length_map,List.length_range]
 refine List.map_congr_left λj hj=>?_
 have hj:j < C:=List.mem_range.mp hj
 simp [hi,hj]
section
variable {P:Program} {w:World} {K:PySem.W.Frag} {mg:Str->Option Value} {base:Heap} {k:Nat} {f:Addr} {fd:FuncData} {qual:Str}
theorem iM (F:Fun K "table_of" qual (top 24) f fd) (hb:∀ x ∈ ak,mg x=none) (c_look_ladder:Cal P w K mg base k "look_ladder" bQ) (c_columns_of:Cal P w K mg base k "columns_of" cu) (c_first_sums:Cal P w K mg base k "first_sums" cm) (c_weighed_sums:Cal P w K mg base k "weighed_sums" bJ) (c_added_sums:Cal P w K mg base k "added_sums" cb) (c_told_sums:Cal P w K mg base k "told_sums" cQ) (c_rung_end:Cal P w K mg base k "rung_end" c3) (c_rung_start:Cal P w K mg base k "rung_start" ck):aK P w K mg base CX0 (k + 1) f fd ["ladder"] (spD K de):=by
 refine fnD F eH hb (by rintro _ _ ⟨_,_,_,_,_,rfl,_⟩; rfl) ?_
 rintro _ _ ⟨e,T,R,C,ss,rfl,h,hw,hn,he,rfl⟩ cdv A outer s H E b
 have nd:=eH.nd
 have hT:=h.t7
 have h00:=h
 have hRT:=h.rT
 have hCT:=h.cT
 refine pH (x_call b c_look_ladder (ab (aa 0) af) ⟨T,R,C,ss,rfl,h,rfl⟩) ?_
 refine jy 1 nd (cmp 0 (f:=λk=>smD (fE k R)) b (eN b (av (aa 0) ae (aq (ag (i:=0) rfl))) (by omega) (by omega)) eG (by rw [aI]; omega) λi hi s0 H0 fp=>(x_call (b.comp s0 H0 _ fp) c_first_sums (ab (aa 0) (ab (av (aa 1) ae (aq (ag (i:=1) rfl))) af)) ⟨_,R,rfl,by omega,rfl⟩)) (.inl rfl) ?_
 rw [aI,Int.toNat_natCast]
 refine gz 2 (λi τ=>∃ P tr s2 s3,TrI e T R i P tr ((ss.take i).foldl stV V0)/\τ=[.d (bX T R C ss),.o (tr.map smD),s2,s3]) b nd (bU (av (aa 0) ae (aq (ag (i:=3) rfl)))) qC ⟨1,(List.range T).map λk=>fE k R,.un,.un,TrI.start,?_⟩ (λi hi τ h=>?_) λτ h=>?_
 · rw [List.map_map]; rfl
 · obtain ⟨P,tr,s2,s3,I,rfl⟩:=h
   have hi:i < ss.length:=by rw [List.length_map] at hi; exact hi
   have hn':(e + 1) * i<=1500:=Nat.le_trans (Nat.mul_le_mul_left _ (by omega)) hn
   have hn2:(e + 1) * (i + 1)<=1500:=Nat.le_trans (Nat.mul_le_mul_left _ (by omega)) hn
   have g:=hw i hi
   have ok:=h00.st i hi
   have nx:∀ V,(ss.take (i + 1)).foldl stV V=stV ((ss.take i).foldl stV V) (ss.getD i ("weigh",0,0)):=λV=>by rw [take_snoc (("weigh",0,0):Stp) hi,List.foldl_append]; rfl
   rw [nx]
   generalize ss.getD i ("weigh",0,0)=st at *
   obtain ⟨u,n,q⟩:=st
   have sq:Sq 100 q:=g.sq.mono he
   refine gR (M:=λτ=>∃ P tr s2 s3,TrI e T R (i + 1) P tr (stV ((ss.take i).foldl stV V0) (u,n,q))/\τ=[.d (bX T R C ss),.o (tr.map smD),s2,s3]) (aP (av (aa 2) ae (aq (ag (i:=0) rfl))) bc gD) (λh=>?_) (λh=>?_) λτ h=>aS h
   · obtain rfl:=of_decide_eq_true h
     have hnT:n < T:=by
       rcases ok.2 with z | z
       · exact z.2
       · have:=z.2; simp only at this; omega
     obtain ⟨z1,z2,z3,z4⟩:=I.bd hn' hnT
     have hnl:n < tr.length:=by rw [I.len]; exact hnT
     refine iH 1 (xs:=tr.map smD) (j:=n) (av (aa 2) ae (aq (ag (i:=1) rfl))) (x_call b c_weighed_sums (ab (eL 1 (av (aa 2) ae (aq (ag (i:=1) rfl))) (lF hnl)) (ab (av (aa 2) ae (aq (ag (i:=2) rfl))) af)) ⟨_,q,rfl,z1,z2,z3,sq,by omega,rfl⟩) (by rw [List.length_map]; exact fN hnl) (aS ⟨_,_,.d (stD ("weigh",n,q)),s3,mz I g hnT,?_⟩)
     rw [List.map_set]
     rfl
   · have h0:u ≠ "weigh":=of_decide_eq_false h
     obtain ⟨hS,hE,_⟩:=oQ ok h0
     obtain ⟨z1,z2,z3,z4⟩:=I.bd hn' hS
     obtain ⟨y1,y2,y3,y4⟩:=I.bd hn' hE
     have lS:rgS (u,n,q) < tr.length:=by rw [I.len]; exact hS
     have lE:rgE (u,n,q) < tr.length:=by rw [I.len]; exact hE
     obtain ⟨w1,w2⟩:=(fO (q:=q) (I.sm _ hS)).bd (m:=e * (i + 1)) (n:=(e + 1) * (i + 1)) (Int.mul_pos I.pos (den_pos q)) (by rw [Nat.mul_succ,p2]; exact Int.mul_le_mul I.le (bd2 g.sq.den) (by have:=den_pos q; omega) (p0 _)) λr hr=>((I.zq _ hS r hr).mul g).mono (by rw [Nat.mul_succ]; omega)
     have w0:=(fO (q:=q) (I.sm _ hS)).pos
     have w3:=(fO (q:=q) (I.sm _ hS)).len
     have:e * (i + 1)<=(e + 1) * (i + 1):=Nat.mul_le_mul_right _ (by omega)
     refine aC 3 nd (x_call b c_weighed_sums (ab (eL 1 (x_call b c_rung_start (ab (aa 2) af) ⟨(u,n,q),rfl,rfl⟩) (lF lS)) (ab (av (aa 2) ae (aq (ag (i:=2) rfl))) af)) ⟨_,q,rfl,z1,z2,z3,sq,by omega,rfl⟩) ?_
     refine iH 1 (xs:=tr.map smD) (j:=rgE (u,n,q)) (x_call b c_rung_end (ab (aa 2) af) ⟨(u,n,q),rfl,rfl⟩) (x_call b c_added_sums (ab (eL 1 (x_call b c_rung_end (ab (aa 2) af) ⟨(u,n,q),rfl,rfl⟩) (lF lE)) (ab (aa 3) af)) ⟨_,_,rfl,y1,y2,w0,w1.mono (by omega),y3,λx hx=>(w2 x hx).mono (by omega),by rw [y4,w3],by omega,rfl⟩) (by rw [List.length_map]; exact fN lE) (aS ⟨_,_,.d (stD (u,n,q)),.d (smD (wsm (tr.getD (rgS (u,n,q)) ([],1)) q)),pM I g h0 hS hE,?_⟩)
     rw [List.map_set]
     rfl
 · obtain ⟨P,tr,s2,s3,I,rfl⟩:=h
   rw [List.length_map,List.take_of_length_le (Nat.le_refl _)] at I
   have bds:∀ j,j < T->_:=λj hj=>I.bd hn hj
   have hCl:C<=tr.length:=by rw [I.len]; exact hCT
   refine jJ 1 (aE (x_call b c_columns_of (ab (bC (fI (cmp 0 (f:=λj=>.lst (((List.range R).map (fwd ss j)).map frD)) b (bU (bC (pJ (aa 1) l6 (gO (av (aa 0) ae (aq (ag (i:=2) rfl))))))) qm (by rw [iz hCl]; omega) λj hj s0 H0 fp=>?_))) af) ⟨(List.range C).map λj=>(List.range R).map (fwd ss j),R,?_,?_,?_,?_,?_,rfl⟩) ?_)
   · rw [iz hCl] at hj
     have hjT:j < T:=by omega
     exact bC (x_call (b.comp s0 H0 _ fp) c_told_sums (ab (aa 0) af) ⟨tr.getD j ([],1),(List.range R).map (fwd ss j),rfl,(I.sm j hjT).sums,by rw [List.length_map,List.length_range]; omega,(bds j hjT).2.1.mono (by decide),rfl⟩)
   · rw [iz hCl]
     unfold dF
     rw [List.map_map]
     rfl
   · rw [List.length_map,List.length_range]; exact h00.c1
   · rw [List.length_map,List.length_range]; omega
   · omega
   · intro j hj
     rw [List.length_map,List.length_range] at hj
     simp [hj]
   · rw [ku]
end
end K20
namespace K20
open PySem PySem.Spec PyProof.Rows L2 Hy
open Ev (D Den aA aH aL)
noncomputable def bT (ds:List D) (r:Sl):Prop:=∃ q:Rat,ds=[frD q,.int q.num,.int (q.den:Nat)]/\Sq 8000 q/\r=.d (.bl true)
theorem oe (q:Rat):(Int.gcd q.num (q.den:Nat):Int)=1:=by
 have:Nat.gcd q.num.natAbs q.den=1:=q.reduced
 rw [Int.gcd,Int.natAbs_natCast,this]
 rfl
noncomputable def cP (ds:List D) (r:Sl):Prop:=∃ t:List (List Rat),ds=[dF t,dF t]/\t.length<=1000/\(∀ i,i < t.length->(t.getD i []).length<=1000/\∀ j,j < (t.getD i []).length->Sq 8000 ((t.getD i []).getD j 0))/\r=.d (.bl true)
theorem oF {t:List (List Rat)} (i:Nat) (h:i < (dn (t.map λr=>D.lst (r.map frD)) (t.map λr=>D.lst (r.map frD))).length):(dn (t.map λr=>D.lst (r.map frD)) (t.map λr=>D.lst (r.map frD)))[i]=.tup [.lst ((t.getD i []).map frD),.lst ((t.getD i []).map frD)]:=by
 rw [eY]
 rw [a9,List.length_map] at h
 simp [show i < t.length by omega]
theorem lZ {t u:List Rat} (i:Nat) (h:i < (dn (t.map frD) (u.map frD)).length):(dn (t.map frD) (u.map frD))[i]=.tup [frD (t.getD i 0),frD (u.getD i 0)]:=by
 rw [eY]
 rw [a9,List.length_map,List.length_map] at h
 simp [show i < t.length by omega,show i < u.length by omega]
noncomputable def eZ (ds:List D) (r:Sl):Prop:=∃ n:Nat,ds=[.int n]/\n<=30/\r=.d (.int (10 ^ n))
noncomputable def wgT (p:Int) (g:Nat):Int:=if 0 < g then p.fmod (10 ^ g) else p.fmod 7
noncomputable def wgB (p:Int) (g:Nat):Int:=if 0 < g then 1 + (p.fdiv (10 ^ g)).fmod (10 ^ g - 1) else 1 + (p.fdiv 7).fmod 4
noncomputable def wgt (p:Int) (g:Nat):Rat:=(wgT p g:Rat) / (wgB p g:Rat)
noncomputable def dg (ds:List D) (r:Sl):Prop:=∃ (p:Int) (g:Nat),ds=[.int p,.int g]/\(g=0\/g=3)/\r=.d (frD (wgt p g))
theorem fm {a b:Int} (h:0 < b):0<=a.fmod b/\a.fmod b < b:=⟨Int.fmod_nonneg_of_pos a h,Int.fmod_lt_of_pos a h⟩
theorem lH (p:Int) {g:Nat} (h:g=0\/g=3):0<=wgT p g/\Bd 10 (wgT p g)/\0 < wgB p g/\Bd 10 (wgB p g):=by
 unfold Bd
 rcases h with rfl | rfl
 · have h1:=fm (a:=p) (b:=7) (by decide)
   have h2:=fm (a:=p.fdiv 7) (b:=4) (by decide)
   rw [show wgT p 0=p.fmod 7 from rfl,show wgB p 0=1 + (p.fdiv 7).fmod 4 from rfl]
   omega
 · have h1:=fm (a:=p) (b:=1000) (by decide)
   have h2:=fm (a:=p.fdiv 1000) (b:=999) (by decide)
   rw [show wgT p 3=p.fmod 1000 from rfl,show wgB p 3=1 + (p.fdiv 1000).fmod 999 from rfl]
   omega
theorem hX (p:Int) {g:Nat} (h:g=0\/g=3):(wgT p g:Rat)=wgt p g * (wgB p g:Rat):=(Rat.div_mul_cancel (hZ (lH p h).2.2.1)).symm
theorem o3 (p:Int) {g:Nat} (h:g=0\/g=3):Wq 10 (wgt p g):=by
 obtain ⟨h1,h2,h3,h4⟩:=lH p h
 refine ⟨?_,Sq.cH h3 (hX p h) h2 h4⟩
 rw [(cH h3 (hX p h)).1]
 exact Int.ediv_nonneg h1 (Int.natCast_nonneg _)
section
variable {P:Program} {w:World} {K:PySem.W.Frag} {mg:Str->Option Value} {base:Heap} {k:Nat} {f:Addr} {fd:FuncData} {qual:Str}
theorem fX (F:Fun K "_law_is_number" qual (top 36) f fd) (hb:∀ x ∈ ak,mg x=none) (c_l_whole:Cal P w K mg base k "_law_whole" ed) (c_l_divisor:Cal P w K mg base k "_law_divisor" bN):aK P w K mg base CX0 (k + 1) f fd ["_law_found","_law_top","_law_bottom"] (spD K bT):=by
 refine fnD F fQ hb (by rintro _ _ ⟨_,rfl,_⟩; rfl) ?_
 rintro _ _ ⟨q,rfl,hq,rfl⟩ cdv A outer s H E b
 refine bH (PW.pt (cN (a5 (a4 (cw .tuple b (aa 0)))) λh=>(cN (aP (cB b (ab (aa 0) af) hW) ae iL) λh=>(cN (a5 (a4 (x_call b c_l_whole (ab (av (aa 0) ae (aq (ag (i:=0) rfl))) af) ⟨_,rfl,rfl⟩))) λh=>(cA (a5 (a4 (x_call b c_l_whole (ab (av (aa 0) ae (aq (ag (i:=1) rfl))) af) ⟨_,rfl,rfl⟩)))))))) rfl ?_
 refine bH (PW.pt (cN (aP (av (aa 0) ae (aq (ag (i:=1) rfl))) ae oH) λh=>(cA (aP (x_call b c_l_divisor (ab (av (aa 0) ae (aq (ag (i:=0) rfl))) (ab (av (aa 0) ae (aq (ag (i:=1) rfl))) af)) ⟨_,_,rfl,rfl⟩) ae iL)))) ?_ ?_
 · rw [oe,decide_eq_false (show ¬ ((q.den:Nat):Int) < 1 by have:=den_pos q; omega)]
   rfl
 refine aE (fL (aw (av (aa 0) ae (aq (ag (i:=0) rfl))) (aa 2) (aR (hq.num.aH hq.den (by decide) (by decide)))) (aw (aa 1) (av (aa 0) ae (aq (ag (i:=1) rfl))) (aR (hq.num.aH hq.den (by decide) (by decide)))) gY) ?_
 rw [decide_eq_true rfl]
theorem gU (F:Fun K "_law_is_like" qual (top 37) f fd) (hb:∀ x ∈ ak,mg x=none) (c_l_is_number:Cal P w K mg base k "_law_is_number" bT):aK P w K mg base CX0 (k + 1) f fd ["_law_found","_law_due"] (spD K cP):=by
 refine fnD F dD hb (by rintro _ _ ⟨_,rfl,_⟩; rfl) ?_
 rintro _ _ ⟨t,rfl,ht,hr,rfl⟩ cdv A outer s H E b
 have nd:=dD.nd
 refine bH (PW.pt (cN (a5 (a4 (cw .list b (aa 0)))) λh=>(cA (aP (cB b (ab (aa 0) af) fH) (cB b (ab (aa 1) af) fH) iL)))) ?_ ?_
 · rw [decide_eq_true rfl]; rfl
 refine iB 2 3 (λi τ=>∃ s2 s3 s4 s5,τ=[.d (dF t),.d (dF t),s2,s3,s4,s5]) b nd (jg b (aa 0) (aa 1)) oF ⟨_,_,_,_,rfl⟩ (λi hi τ h=>?_) λτ h=>?_
 · obtain ⟨s2,s3,s4,s5,rfl⟩:=h
   have hi:i < t.length:=by rw [a9,List.length_map] at hi; omega
   obtain ⟨h1,h2⟩:=hr i hi
   generalize t.getD i []=row at h1 h2
   refine bH (PW.pt (cN (a5 (a4 (cw .list b (aa 2)))) λh=>(cA (aP (cB b (ab (aa 2) af) fH) (cB b (ab (aa 3) af) fH) iL)))) ?_ ?_
   · rw [decide_eq_true rfl]; rfl
   refine iB 4 5 (λi τ=>∃ s4 s5,τ=[.d (dF t),.d (dF t),.d (.lst (row.map frD)),.d (.lst (row.map frD)),s4,s5]) b nd (jg b (aa 2) (aa 3)) lZ ⟨_,_,rfl⟩ (λj hj τ h=>?_) λτ h=>?_
   · obtain ⟨s4,s5,rfl⟩:=h
     have hj:j < row.length:=by rw [a9,List.length_map] at hj; omega
     refine bH (a5 (a4 (x_call b c_l_is_number (ab (aa 4) (ab (av (aa 5) ae (aq (ag (i:=0) rfl))) (ab (av (aa 5) ae (aq (ag (i:=1) rfl))) af))) ⟨row.getD j 0,rfl,h2 j hj,rfl⟩))) rfl (aS ⟨_,_,rfl⟩)
   · obtain ⟨s4,s5,rfl⟩:=h
     exact aS ⟨_,_,_,_,rfl⟩
 · obtain ⟨s2,s3,s4,s5,rfl⟩:=h
   exact aE mM rfl
theorem lu (F:Fun K "_law_ten" qual (top 30) f fd) (hb:∀ x ∈ ak,mg x=none):aK P w K mg base CX0 (k + 1) f fd ["_law_many"] (spD K eZ):=by
 refine fnD F iW hb (by rintro _ _ ⟨_,rfl,_⟩; rfl) ?_
 rintro _ _ ⟨n,rfl,hn,rfl⟩ cdv A outer s H E b
 have nd:=iW.nd
 refine aC 1 nd ae ?_
 refine gz 2 (λi τ=>∃ s2,τ=[.d (.int n),.d (.int (10 ^ i)),s2]) b nd (eN b (aa 0) (by omega) (by omega)) eG ⟨_,rfl⟩ (λi hi τ h=>?_) λτ h=>?_
 · obtain ⟨s2,rfl⟩:=h
   refine aC 1 nd (aw ae (aa 1) (aR (mkL (by decide)))) (aS ⟨.d (.int (i:Nat)),?_⟩)
   rw [Int.pow_succ,Int.mul_comm]
   rfl
 · obtain ⟨s2,rfl⟩:=h
   refine aE (aa 1) ?_
   rw [aI,Int.toNat_natCast]
theorem jf (F:Fun K "_law_weight" qual (top 38) f fd) (hb:∀ x ∈ ak,mg x=none) (c_l_made:Cal P w K mg base k "_law_made" cM) (c_l_ten:Cal P w K mg base k "_law_ten" eZ):aK P w K mg base CX0 (k + 1) f fd ["_law_part","_law_figures"] (spD K dg):=by
 refine fnD F eO hb (by rintro _ _ ⟨_,_,rfl,_⟩; rfl) ?_
 rintro _ _ ⟨p,g,rfl,hg,rfl⟩ cdv A outer s H E b
 have nd:=eO.nd
 obtain ⟨h1,h2,h3,h4⟩:=lH p hg
 have hm:=hX p hg
 refine d0 (aP (aa 1) ae pb) (λh=>?_) λh=>?_
 · have h0:0 < g:=by have:=of_decide_eq_true h; omega
   have g3:g=3:=by omega
   subst g3
   refine aC 2 nd (x_call b c_l_ten (ab (aa 1) af) ⟨3,rfl,by decide,rfl⟩) ?_
   exact aE (x_call b c_l_made (ab (aw (aa 0) (aa 2) (bg (by decide))) (ab (aw ae (aw (aw (aa 0) (aa 2) (a8 (mkD (by decide) (by decide)))) (aw (aa 2) ae i6) (bg (by decide))) aN) af)) ⟨wgT p 3,wgB p 3,wgt p 3,rfl,h3,h4.mono (by decide),hm,rfl⟩) rfl
 · have h0:g=0:=by have:=of_decide_eq_false h; omega
   subst h0
   exact aE (x_call b c_l_made (ab (aw (aa 0) ae (bg (by decide))) (ab (aw ae (aw (aw (aa 0) ae (a8 (mkD (by decide) (by decide)))) ae (bg (by decide))) aN) af)) ⟨wgT p 0,wgB p 0,wgt p 0,rfl,h3,h4.mono (by decide),hm,rfl⟩) rfl
end
end K20
namespace K20
open PySem PySem.Spec PyProof.Rows L2 Hy
open Ev (D Den aA aH aL)
noncomputable def szP (c:Int):List Int:=nums c [8,4,7,7,7,31]
noncomputable def szT (c:Int):Int:=if (szP c).getD 0 0=1 then 1 + (szP c).getD 2 0 else 1 + (szP c).getD 1 0
noncomputable def szR (c:Int):Int:=1 + ((szP c).getD 3 0).fmod (szT c)
noncomputable def szC (c:Int):Int:=1 + ((szP c).getD 4 0).fmod (szT c)
theorem lI (c:Int):1<=szT c/\szT c<=7/\1<=szR c/\szR c<=szT c/\1<=szC c/\szC c<=szT c/\0<=(szP c).getD 5 0/\(szP c).getD 5 0<=30:=by
 have hp:∀ b ∈ ([8,4,7,7,7,31]:List Int),0 < b:=by decide
 have h1:=bB (c:=c) hp (i:=1) (by decide)
 have h2:=bB (c:=c) hp (i:=2) (by decide)
 have h5:=bB (c:=c) hp (i:=5) (by decide)
 have e1:([8,4,7,7,7,31]:List Int).getD 1 0=4:=rfl
 have e2:([8,4,7,7,7,31]:List Int).getD 2 0=7:=rfl
 have e5:([8,4,7,7,7,31]:List Int).getD 5 0=31:=rfl
 rw [e1] at h1
 rw [e2] at h2
 rw [e5] at h5
 have hT:1<=szT c/\szT c<=7:=by
   unfold szT szP
   split <;> omega
 have hR:=fm (a:=(szP c).getD 3 0) (b:=szT c) (by omega)
 have hC:=fm (a:=(szP c).getD 4 0) (b:=szT c) (by omega)
 have h5':0<=(szP c).getD 5 0/\(szP c).getD 5 0 < 31:=h5
 unfold szR szC
 omega
noncomputable def eD (ds:List D) (r:Sl):Prop:=∃ c:Int,ds=[.int c,.int 30]/\r=.d (.tup [.int (szT c),.int (szR c),.int (szC c),.int ((szP c).getD 5 0)])
noncomputable def wrd (i:Int):Str:=if i=0 then "down" else if i=1 then "up" else "weigh"
theorem mq {i:Int} (h0:0<=i) (h:i < 3):atI [D.str "down",D.str "up",D.str "weigh"] i=some (.str (wrd i)):=by
 obtain ⟨n,rfl⟩:=Int.eq_ofNat_of_zero_le h0
 rcases (by omega:n=0\/n=1\/n=2) with rfl | rfl | rfl <;> rfl
theorem bL {α:Type} (a b c:α):∀ n,(List.replicate n [a,b,c]).flatten.length=3 * n
 | 0=>rfl
 | n + 1=>by rw [List.replicate_succ,List.flatten_cons,List.length_append,bL a b c n]; simp; omega
theorem eW {a b c:Int} {n:Nat} {x:Int} (h:x ∈ (List.replicate n [a,b,c]).flatten):x=a\/x=b\/x=c:=by
 obtain ⟨l,h1,h2⟩:=List.mem_flatten.mp h
 rw [(List.mem_replicate.mp h1).2] at h2
 simpa using h2
theorem gP {a b c:Int}:∀ (n k:Nat),k < n->(List.replicate n [a,b,c]).flatten.getD (3 * k) 0=a/\(List.replicate n [a,b,c]).flatten.getD (3 * k + 1) 0=b/\(List.replicate n [a,b,c]).flatten.getD (3 * k + 2) 0=c
 | n + 1,0,_=>by rw [List.replicate_succ,List.flatten_cons]; exact ⟨rfl,rfl,rfl⟩
 | n + 1,k + 1,h=>by
   have:=gP (a:=a) (b:=b) (c:=c) n k (by omega)
   rw [List.replicate_succ,List.flatten_cons]
   exact this
theorem ko (a b c:Int) (n:Nat):(List.replicate n [D.int a,D.int b,D.int c]).flatten=((List.replicate n [a,b,c]).flatten).map .int:=by
 rw [List.map_flatten,List.map_replicate]; rfl
noncomputable def adB (g:Nat):Int:=10 ^ (2 * (if (g:Int) > 1 then (g:Int) else 1).toNat) * 28
noncomputable def adP (c:Int) (n g:Nat):List Int:=nums c (List.replicate n [3,7,adB g]).flatten
noncomputable def adW (ps:List Int) (T k:Nat):Str:=if wrd (ps.getD (3 * k) 0) ≠ "weigh" /\ T=1 then "weigh" else wrd (ps.getD (3 * k) 0)
noncomputable def adA (ps:List Int) (T k:Nat):Int:=if adW ps T k = "weigh" then (ps.getD (3 * k + 1) 0).fmod T else (ps.getD (3 * k + 1) 0).fmod ((T:Int) - 1)
noncomputable def adS (ps:List Int) (T g k:Nat):Stp:=(adW ps T k,(adA ps T k).toNat,wgt (ps.getD (3 * k + 2) 0) g)
theorem nN {g:Nat} (h:g=0\/g=3):0 < adB g/\adB g < 2 ^ 60:=by rcases h with rfl | rfl <;> decide
theorem qh {c:Int} {n g k:Nat} (h:g=0\/g=3) (hk:k < n):0<=(adP c n g).getD (3 * k) 0/\(adP c n g).getD (3 * k) 0 < 3:=by
 have hp:∀ b ∈ (List.replicate n [3,7,adB g]).flatten,0 < b:=λb hb=>by
   have:=nN h
   rcases eW hb with rfl | rfl | rfl <;> omega
 have:=bB (c:=c) hp (i:=3 * k) (by rw [bL]; omega)
 rw [(gP n k hk).1] at this
 exact this
theorem lJ {ps:List Int} {T k:Nat} (hT:1<=T):0<=adA ps T k/\(adW ps T k = "weigh" -> adA ps T k < T)/\(adW ps T k ≠ "weigh" -> 2<=T/\adA ps T k + 1 < T):=by
 unfold adA
 split
 · rename_i h
   have:=fm (a:=ps.getD (3 * k + 1) 0) (b:=T) (by omega)
   exact ⟨this.1,λ_=>this.2,λz=>absurd h z⟩
 · rename_i h
   have hT1:T ≠ 1:=λz=>h (by
     unfold adW
     split
     · rfl
     · rename_i y
       exact Decidable.byContradiction λx=>y ⟨x,z⟩)
   have:=fm (a:=ps.getD (3 * k + 1) 0) (b:=(T:Int) - 1) (by omega)
   exact ⟨this.1,λz=>absurd z h,λ_=>by omega⟩
theorem mN (i:Int):wrd i = "weigh" \/ wrd i = "down" \/ wrd i = "up":=by
 unfold wrd
 split
 · exact .inr (.inl rfl)
 · split
   · exact .inr (.inr rfl)
   · exact .inl rfl
theorem lK {ps:List Int} {T g k:Nat} (hT:1<=T) (hg:g=0\/g=3):okS T (adS ps T g k)/\Wq 10 (adS ps T g k).2.2:=by
 obtain ⟨h1,h2,h3⟩:=lJ (ps:=ps) (k:=k) hT
 have hw:=o3 (ps.getD (3 * k + 2) 0) hg
 refine ⟨⟨hw.n0,?_⟩,hw⟩
 by_cases e:adW ps T k = "weigh"
 · exact .inl ⟨e,by have:=h2 e; show (adA ps T k).toNat < T; omega⟩
 · refine .inr ⟨?_,by have:=h3 e; show (adA ps T k).toNat + 1 < T; omega⟩
   show adW ps T k = "down" \/ adW ps T k = "up"
   unfold adW at e ⊢
   split at e
   · exact absurd rfl e
   · rename_i y
     rw [if_neg y]
     exact (mN _).resolve_left e
noncomputable def dq (ds:List D) (r:Sl):Prop:=∃ (c:Int) (T R C n g:Nat),ds=[.int c,.int T,.int R,.int C,.int n,.int g]/\1<=T/\n<=30/\(g=0\/g=3)/\r=.d (bX T R C ((List.range n).map (adS (adP c n g) T g)))
section
variable {P:Program} {w:World} {K:PySem.W.Frag} {mg:Str->Option Value} {base:Heap} {k:Nat} {f:Addr} {fd:FuncData} {qual:Str}
theorem js (F:Fun K "_law_sizes" qual (top 43) f fd) (hb:∀ x ∈ ak,mg x=none) (c_l_numbers:Cal P w K mg base k "_law_numbers" br):aK P w K mg base CX0 (k + 1) f fd ["_law_cell_here","_law_most"] (spD K eD):=by
 refine fnD F e8 hb (by rintro _ _ ⟨_,rfl,_⟩; rfl) ?_
 rintro _ _ ⟨c,rfl,rfl⟩ cdv A outer s H E b
 have nd:=e8.nd
 have hok:=lI c
 have hl:(szP c).length=6:=dr ..
 refine aC 2 nd (x_call b c_l_numbers (ab (aa 0) (ab (bC (cy (ab ae (ab ae (ab ae (ab ae (ab ae (ab (aw (aa 1) ae aN) af)))))))) af)) ⟨c,[8,4,7,7,7,31],rfl,by decide,by decide,rfl⟩) (jJ 2 ?_)
 refine aC 3 nd (aw ae (av (aa 2) ae (aV (aY (ns:=szP c) (i:=1) (by decide) (by rw [hl]; decide)))) aN) ?_
 refine gR (M:=λτ=>τ=[.d (.int c),.d (.int 30),.d (.lst ((szP c).map .int)),.d (.int (szT c))]) (aP (av (aa 2) ae (aV (aY (ns:=szP c) (i:=0) (by decide) (by rw [hl]; decide)))) ae gY) (λh=>?_) (λh=>?_) ?_
 · refine aC 3 nd (aw ae (av (aa 2) ae (aV (aY (ns:=szP c) (i:=2) (by decide) (by rw [hl]; decide)))) aN) (aS ?_)
   unfold szT
   rw [if_pos (show (szP c).getD 0 0=1 from of_decide_eq_true h)]
   rfl
 · refine aS ?_
   unfold szT
   rw [if_neg (show ¬ (szP c).getD 0 0=1 from of_decide_eq_false h)]
   rfl
 · rintro _ rfl
   exact aE (bz (ab (aa 3) (ab (aw ae (aw (av (aa 2) ae (aV (aY (ns:=szP c) (i:=3) (by decide) (by rw [hl]; decide)))) (aa 3) (bg (by omega))) aN) (ab (aw ae (aw (av (aa 2) ae (aV (aY (ns:=szP c) (i:=4) (by decide) (by rw [hl]; decide)))) (aa 3) (bg (by omega))) aN) (ab (av (aa 2) ae (aV (aY (ns:=szP c) (i:=5) (by decide) (by rw [hl]; decide)))) af))))) rfl
theorem iI (F:Fun K "_law_ladder" qual (top 39) f fd) (hb:∀ x ∈ ak,mg x=none) (c_l_numbers:Cal P w K mg base k "_law_numbers" br) (c_l_weight:Cal P w K mg base k "_law_weight" dg) (c_l_ten:Cal P w K mg base k "_law_ten" eZ):aK P w K mg base CX0 (k + 1) f fd ["_law_cell_here","_law_tracks","_law_rows","_law_columns","_law_many","_law_figures"] (spD K dq):=by
 refine fnD F eI hb (by rintro _ _ ⟨_,_,_,_,_,_,rfl,_⟩; rfl) ?_
 rintro _ _ ⟨c,T,R,C,n,g,rfl,hT,hn,hg,rfl⟩ cdv A outer s H E b
 have nd:=eI.nd
 have hmx:0<=(if (g:Int) > 1 then (g:Int) else 1)/\(if (g:Int) > 1 then (g:Int) else 1)<=3:=by split <;> omega
 have hB:=nN hg
 have hlen:(adP c n g).length=3 * n:=by unfold adP; rw [dr,bL]
 refine aC 6 nd (x_call b c_l_numbers (ab (aa 0) (ab (bC (nE (bC (cy (ab ae (ab ae (ab (aw (x_call b c_l_ten (ab (aw ae (cB b (ab ae (ab (aa 5) af)) (pP b.calm)) (aR (mkL (by decide)))) af) ⟨2 * (if (g:Int) > 1 then (g:Int) else 1).toNat,?_,by omega,rfl⟩) ae (aR (mkR (by decide)))) af))))) (aa 4) (by omega) (by omega) ?_)) af)) ⟨c,(List.replicate n [3,7,adB g]).flatten,?_,?_,?_,rfl⟩) ?_
 · congr 2; omega
 · simp; omega
 · rw [Int.toNat_natCast,<- ko]; rfl
 · rw [bL]; omega
 · intro x hx
   rcases eW hx with rfl | rfl | rfl
   · decide
   · decide
   · exact hB
 refine jJ 6 ?_
 refine aC 7 nd (cy af) ?_
 refine gz 8 (λi τ=>∃ s8 s9 s10,τ=[.d (.int c),.d (.int T),.d (.int R),.d (.int C),.d (.int n),.d (.int g),.d (.lst ((adP c n g).map .int)),.o (((List.range i).map (adS (adP c n g) T g)).map stD),s8,s9,s10]) b nd (eN b (aa 4) (by omega) (by omega)) eG ⟨_,_,_,rfl⟩ (λi hi τ h=>?_) λτ h=>?_
 · obtain ⟨s8,s9,s10,rfl⟩:=h
   have hi:i < n:=by rw [aI] at hi; omega
   have lt3:=qh (c:=c) hg hi
   have e0:(3 * (i:Int)).toNat=3 * i:=by omega
   have e1:(3 * (i:Int) + 1).toNat=3 * i + 1:=by omega
   have e2:(3 * (i:Int) + 2).toNat=3 * i + 2:=by omega
   have k0:atI ((adP c n g).map D.int) (3 * (i:Int))=some (.int ((adP c n g).getD (3 * i) 0)):=by rw [<- e0]; exact aY (by omega) (by omega)
   have k1:atI ((adP c n g).map D.int) (3 * (i:Int) + 1)=some (.int ((adP c n g).getD (3 * i + 1) 0)):=by rw [<- e1]; exact aY (by omega) (by omega)
   have k2:atI ((adP c n g).map D.int) (3 * (i:Int) + 2)=some (.int ((adP c n g).getD (3 * i + 2) 0)):=by rw [<- e2]; exact aY (by omega) (by omega)
   obtain ⟨a1,a2,a3⟩:=lJ (ps:=adP c n g) (k:=i) hT
   refine aC 9 nd (av (bC (cy (ab bc (ab bc (ab bc af))))) (av (aa 6) (aw ae (aa 8) (aR (mkL (by decide)))) (aV k0)) (aV (mq lt3.1 lt3.2))) ?_
   refine aC 10 nd (aw (av (aa 6) (aw (aw ae (aa 8) (aR (mkL (by decide)))) ae aN) (aV k1)) (aa 1) (bg (by omega))) ?_
   refine gR (M:=λτ=>τ=[.d (.int c),.d (.int T),.d (.int R),.d (.int C),.d (.int n),.d (.int g),.d (.lst ((adP c n g).map .int)),.o (((List.range i).map (adS (adP c n g) T g)).map stD),.d (.int i),.d (.str (adW (adP c n g) T i)),.d (.int (((adP c n g).getD (3 * i + 1) 0).fmod T))]) (PW.pt (pQ (aP (aa 9) bc lA) λh=>(oa (aP (aa 1) ae gY)))) (λh=>?_) (λh=>?_) ?_
   · refine aC 9 nd bc (aS ?_)
     have:wrd ((adP c n g).getD (3 * i) 0) ≠ "weigh" /\ T=1:=by
       simp only [Bool.and_eq_true,Bool.not_eq_true',decide_eq_true_eq,decide_eq_false_iff_not] at h
       exact ⟨h.1,by omega⟩
     unfold adW
     rw [if_pos this]
     rfl
   · refine aS ?_
     have:¬ (wrd ((adP c n g).getD (3 * i) 0) ≠ "weigh" /\ T=1):=λ⟨z1,z2⟩=>by
       rw [decide_eq_false z1,decide_eq_true (show (T:Int)=1 by omega)] at h
       cases h
     unfold adW
     rw [if_neg this]
     rfl
   · rintro _ rfl
     refine gR (M:=λτ=>τ=[.d (.int c),.d (.int T),.d (.int R),.d (.int C),.d (.int n),.d (.int g),.d (.lst ((adP c n g).map .int)),.o (((List.range i).map (adS (adP c n g) T g)).map stD),.d (.int i),.d (.str (adW (adP c n g) T i)),.d (.int (adA (adP c n g) T i))]) (aP (aa 9) bc lA) (λh=>?_) (λh=>?_) ?_
     · have h:adW (adP c n g) T i ≠ "weigh":=by simpa using h
       have:=a3 h
       refine aC 10 nd (aw (av (aa 6) (aw (aw ae (aa 8) (aR (mkL (by decide)))) ae aN) (aV k1)) (aw (aa 1) ae i6) (bg (by omega))) (aS ?_)
       unfold adA
       rw [if_neg h]
       rfl
     · have h:adW (adP c n g) T i = "weigh":=by simpa using h
       refine aS ?_
       unfold adA
       rw [if_pos h]
     · rintro _ rfl
       refine jZ 7 (bz (ab (aa 9) (ab (aa 10) (ab (x_call b c_l_weight (ab (av (aa 6) (aw (aw ae (aa 8) (aR (mkL (by decide)))) ae aN) (aV k2)) (ab (aa 5) af)) ⟨_,g,rfl,hg,rfl⟩) af)))) ?_ (aS ⟨.d (.int i),.d (.str (adW (adP c n g) T i)),.d (.int (adA (adP c n g) T i)),?_⟩)
       · rw [List.length_map,List.length_map,List.length_range]; omega
       · rw [List.range_succ,List.map_append,List.map_append]
         have:((adA (adP c n g) T i).toNat:Int)=adA (adP c n g) T i:=Int.toNat_of_nonneg a1
         show _=[_,_,_,_,_,_,_,Sl.o (_++[D.tup [.str _,.int ((adA (adP c n g) T i).toNat:Int),frD _]]),_,_,_]
         rw [this]
         rfl
 · obtain ⟨s8,s9,s10,rfl⟩:=h
   rw [aI,Int.toNat_natCast]
   exact aE (bz (ab (aa 1) (ab (aa 2) (ab (aa 3) (ab (fo 7) af))))) rfl
end
end K20
namespace K20
open PySem PySem.Spec PyProof.Rows L2 Hy
open Ev (D Den aA aH aL)
theorem bh {α:Type} (f:Nat->α) {n i:Nat} (h:i < n) (d:α):((List.range n).map f).getD i d=f i:=by simp [h]
noncomputable def drT (c:Int):Nat:=(szT c).toNat
noncomputable def drR (c:Int):Nat:=(szR c).toNat
noncomputable def drC (c:Int):Nat:=(szC c).toNat
noncomputable def drS (c o:Int) (g:Nat):List Stp:=(List.range ((szP c).getD 5 0).toNat).map (adS (adP o ((szP c).getD 5 0).toNat g) (drT c) g)
noncomputable def d9 (ds:List D) (r:Sl):Prop:=∃ (c o:Int) (g:Nat),ds=[.int c,.int o,.int 30,.int g]/\(g=0\/g=3)/\r=.d (bX (drT c) (drR c) (drC c) (drS c o g))
theorem pT (c o:Int) {g:Nat} (hg:g=0\/g=3):okL (drT c) (drR c) (drC c) (drS c o g)/\(∀ i,i < (drS c o g).length->Wq 10 ((drS c o g).getD i ("weigh",0,0)).2.2)/\(drS c o g).length<=30:=by
 obtain ⟨h1,h2,h3,h4,h5,h6,h7,h8⟩:=lI c
 have hl:(drS c o g).length=((szP c).getD 5 0).toNat:=by simp [drS]
 have ha:∀ i,i < (drS c o g).length->(drS c o g).getD i ("weigh",0,0)=adS (adP o ((szP c).getD 5 0).toNat g) (drT c) g i:=λi hi=>by
   rw [hl] at hi
   exact bh _ hi _
 have hT:1<=drT c:=by unfold drT; omega
 refine ⟨⟨hT,?_,?_,?_,?_,?_,?_,λi hi=>?_⟩,λi hi=>?_,by omega⟩
 · unfold drT; omega
 · unfold drR; omega
 · unfold drT drR; omega
 · unfold drC; omega
 · unfold drT drC; omega
 · omega
 · rw [ha i hi]; exact (lK hT hg).1
 · rw [ha i hi]; exact (lK hT hg).2
noncomputable def cpN (T R C:Nat) (ss:List Stp):Nd:=.t [.d (.int T),.d (.int R),.d (.int C),.l ((ss.map stD).map .d)]
noncomputable def c9 (ds:List D) (r:Sl):Prop:=∃ (T R C:Nat) (ss:List Stp),ds=[bX T R C ss]/\r=.n (cpN T R C ss)
noncomputable def lgP (c:Int):List Int:=nums c [7,7,7,201]
noncomputable def lgT (c:Int):Nat:=1 + ((lgP c).getD 0 0).toNat
noncomputable def lgR (c:Int):Nat:=1 + (((lgP c).getD 1 0).fmod (lgT c)).toNat
noncomputable def lgC (c:Int):Nat:=1 + (((lgP c).getD 2 0).fmod (lgT c)).toNat
noncomputable def lgM (c:Int):Nat:=200 + ((lgP c).getD 3 0).toNat
noncomputable def lgQ (c:Int):List Int:=nums (c + 3) (List.replicate (lgM c) [3,42,3]).flatten
noncomputable def lgW (qs:List Int) (T k:Nat):Str:=if T=1 then "weigh" else wrd (qs.getD (3 * k) 0)
noncomputable def lgA (qs:List Int) (T k:Nat):Int:=(qs.getD (3 * k + 1) 0).fmod ((T:Int) - if !decide (lgW qs T k = "weigh") then 1 else 0)
noncomputable def lgS (qs:List Int) (T k:Nat):Stp:=(lgW qs T k,(lgA qs T k).toNat,((qs.getD (3 * k + 2) 0:Int):Rat))
theorem mH (c:Int):(∀ i,i < 4->0<=(lgP c).getD i 0)/\1<=lgT c/\lgT c<=7/\1<=lgR c/\lgR c<=lgT c/\1<=lgC c/\lgC c<=lgT c/\lgM c<=400:=by
 have hp:∀ b ∈ ([7,7,7,201]:List Int),0 < b:=by decide
 have h0:0<=(lgP c).getD 0 0/\(lgP c).getD 0 0 < 7:=bB (c:=c) hp (i:=0) (by decide)
 have h3:0<=(lgP c).getD 3 0/\(lgP c).getD 3 0 < 201:=bB (c:=c) hp (i:=3) (by decide)
 have hT:1<=lgT c/\lgT c<=7:=by unfold lgT; omega
 have hR:=fm (a:=(lgP c).getD 1 0) (b:=lgT c) (by omega)
 have hC:=fm (a:=(lgP c).getD 2 0) (b:=lgT c) (by omega)
 refine ⟨λi hi=>(bB (c:=c) hp (i:=i) hi).1,hT.1,hT.2,?_,?_,?_,?_,?_⟩
 · unfold lgR; omega
 · unfold lgR; omega
 · unfold lgC; omega
 · unfold lgC; omega
 · unfold lgM; omega
theorem k8 {c:Int} {k:Nat} (hk:k < lgM c):(0<=(lgQ c).getD (3 * k) 0/\(lgQ c).getD (3 * k) 0 < 3)/\0<=(lgQ c).getD (3 * k + 2) 0/\(lgQ c).getD (3 * k + 2) 0 < 3:=by
 have hp:∀ b ∈ (List.replicate (lgM c) [(3:Int),42,3]).flatten,0 < b:=λb hb=>by
   rcases eW hb with rfl | rfl | rfl <;> omega
 have h1:=bB (c:=c + 3) hp (i:=3 * k) (by rw [bL]; omega)
 have h2:=bB (c:=c + 3) hp (i:=3 * k + 2) (by rw [bL]; omega)
 rw [(gP _ k hk).1] at h1
 rw [(gP _ k hk).2.2] at h2
 exact ⟨h1,h2⟩
theorem mB {qs:List Int} {T k:Nat} (hT:1<=T):0 < (T:Int) - (if !decide (lgW qs T k = "weigh") then 1 else 0)/\0<=lgA qs T k/\(lgW qs T k = "weigh" -> lgA qs T k < T)/\(lgW qs T k ≠ "weigh" -> lgA qs T k + 1 < T):=by
 have hp:0 < (T:Int) - (if !decide (lgW qs T k = "weigh") then 1 else 0):=by
   by_cases e:lgW qs T k = "weigh"
   · rw [decide_eq_true e]; show 0 < (T:Int) - 0; omega
   · have hT1:T ≠ 1:=λz=>e (by unfold lgW; rw [if_pos z])
     rw [decide_eq_false e]; show 0 < (T:Int) - 1; omega
 have h:=fm (a:=qs.getD (3 * k + 1) 0) hp
 refine ⟨hp,h.1,λe=>?_,λe=>?_⟩
 · have h2:lgA qs T k < (T:Int) - (if !decide (lgW qs T k = "weigh") then 1 else 0):=h.2
   rw [decide_eq_true e] at h2
   have h2:lgA qs T k < (T:Int) - 0:=h2
   omega
 · have h2:lgA qs T k < (T:Int) - (if !decide (lgW qs T k = "weigh") then 1 else 0):=h.2
   rw [decide_eq_false e] at h2
   have h2:lgA qs T k < (T:Int) - 1:=h2
   omega
theorem lx {c:Int} {k:Nat} (hk:k < lgM c):okS (lgT c) (lgS (lgQ c) (lgT c) k)/\Wq 2 (lgS (lgQ c) (lgT c) k).2.2:=by
 obtain ⟨_,h1,_⟩:=mH c
 obtain ⟨_,a1,a2,a3⟩:=mB (qs:=lgQ c) (k:=k) h1
 obtain ⟨_,h2,h3⟩:=k8 hk
 have hw:Wq 2 (((lgQ c).getD (3 * k + 2) 0:Int):Rat):=⟨h2,⟨by unfold Bd; show ((lgQ c).getD (3 * k + 2) 0).natAbs < 4; omega,by unfold Bd; show 1 < 4; decide⟩⟩
 refine ⟨⟨hw.n0,?_⟩,hw⟩
 by_cases e:lgW (lgQ c) (lgT c) k = "weigh"
 · exact .inl ⟨e,by have:=a2 e; show (lgA _ _ _).toNat < _; omega⟩
 · refine .inr ⟨?_,by have:=a3 e; show (lgA _ _ _).toNat + 1 < _; omega⟩
   show lgW (lgQ c) (lgT c) k = "down" \/ lgW (lgQ c) (lgT c) k = "up"
   unfold lgW at e ⊢
   split at e
   · exact absurd rfl e
   · rename_i y
     rw [if_neg y]
     exact (mN _).resolve_left e
noncomputable def lgL (c:Int):List Stp:=(List.range (lgM c)).map (lgS (lgQ c) (lgT c))
noncomputable def fA (ds:List D) (r:Sl):Prop:=∃ c:Int,ds=[.int c]/\r=.d (bX (lgT c) (lgR c) (lgC c) (lgL c))
theorem oE (c:Int):okL (lgT c) (lgR c) (lgC c) (lgL c)/\(∀ i,i < (lgL c).length->Wq 2 ((lgL c).getD i ("weigh",0,0)).2.2)/\(lgL c).length<=400:=by
 obtain ⟨_,h1,h2,h3,h4,h5,h6,h7⟩:=mH c
 have hl:(lgL c).length=lgM c:=by simp [lgL]
 have ha:∀ i,i < (lgL c).length->(lgL c).getD i ("weigh",0,0)=lgS (lgQ c) (lgT c) i:=λi hi=>by
   rw [hl] at hi
   exact bh _ hi _
 exact ⟨⟨h1,h2,h3,h4,h5,h6,by omega,λi hi=>by rw [ha i hi]; exact (lx (by omega)).1⟩,λi hi=>by rw [ha i hi]; exact (lx (by omega)).2,by omega⟩
section
variable {P:Program} {w:World} {K:PySem.W.Frag} {mg:Str->Option Value} {base:Heap} {k:Nat} {f:Addr} {fd:FuncData} {qual:Str}
theorem jx (F:Fun K "_law_drawn" qual (top 44) f fd) (hb:∀ x ∈ ak,mg x=none) (c_l_sizes:Cal P w K mg base k "_law_sizes" eD) (c_l_ladder:Cal P w K mg base k "_law_ladder" dq):aK P w K mg base CX0 (k + 1) f fd ["_law_one","_law_other","_law_most","_law_figures"] (spD K d9):=by
 refine fnD F fh hb (by rintro _ _ ⟨_,_,_,rfl,_⟩; rfl) ?_
 rintro _ _ ⟨c,o,g,rfl,hg,rfl⟩ cdv A outer s H E b
 have nd:=fh.nd
 obtain ⟨h1,h2,h3,h4,h5,h6,h7,h8⟩:=lI c
 refine aC 4 nd (x_call b c_l_sizes (ab (aa 0) (ab (aa 2) af)) ⟨c,rfl,rfl⟩) ?_
 refine aE (x_call b c_l_ladder (ab (aa 1) (ab (av (aa 4) ae (aq (ag (i:=0) rfl))) (ab (av (aa 4) ae (aq (ag (i:=1) rfl))) (ab (av (aa 4) ae (aq (ag (i:=2) rfl))) (ab (av (aa 4) ae (aq (ag (i:=3) rfl))) (ab (aa 3) af)))))) ⟨o,drT c,drR c,drC c,((szP c).getD 5 0).toNat,g,?_,?_,?_,hg,rfl⟩) rfl
 · unfold drT drR drC
   rw [Int.toNat_of_nonneg (by omega),Int.toNat_of_nonneg (by omega),Int.toNat_of_nonneg (by omega),Int.toNat_of_nonneg (by omega)]
 · unfold drT; omega
 · omega
theorem jd (F:Fun K "_law_copied" qual (top 45) f fd) (hb:∀ x ∈ ak,mg x=none):aK P w K mg base CX0 (k + 1) f fd ["_law_ladder_here"] (spD K c9):=by
 refine fnD F iV hb (by rintro _ _ ⟨_,_,_,_,rfl,_⟩; rfl) ?_
 rintro _ _ ⟨T,R,C,ss,rfl,rfl⟩ cdv A outer s H E b
 exact aE (nX (iC (av (aa 0) ae (aq (ag (i:=0) rfl))) rfl (iC (av (aa 0) ae (aq (ag (i:=1) rfl))) rfl (iC (av (aa 0) ae (aq (ag (i:=2) rfl))) rfl (iC (ot b (ab (av (aa 0) ae (aq (ag (i:=3) rfl))) af) nZ) rfl p7))))) rfl
theorem kH (F:Fun K "_law_long" qual (top 46) f fd) (hb:∀ x ∈ ak,mg x=none) (c_l_numbers:Cal P w K mg base k "_law_numbers" br):aK P w K mg base CX0 (k + 1) f fd ["_law_cell_here"] (spD K fA):=by
 refine fnD F gI hb (by rintro _ _ ⟨_,rfl,_⟩; rfl) ?_
 rintro _ _ ⟨c,rfl,rfl⟩ cdv A outer s H E b
 have nd:=gI.nd
 obtain ⟨hp,h1,h2,h3,h4,h5,h6,h7⟩:=mH c
 have hl:(lgP c).length=4:=dr ..
 have hq:(lgQ c).length=3 * lgM c:=by unfold lgQ; rw [dr,bL]
 have eT:(1:Int) + (lgP c).getD 0 0=(lgT c:Nat):=by have:=hp 0 (by decide); unfold lgT; omega
 have eM:(200:Int) + (lgP c).getD 3 0=(lgM c:Nat):=by have:=hp 3 (by decide); unfold lgM; omega
 have eR:(1:Int) + ((lgP c).getD 1 0).fmod (lgT c)=(lgR c:Nat):=by have:=fm (a:=(lgP c).getD 1 0) (b:=lgT c) (by omega); unfold lgR; omega
 have eC:(1:Int) + ((lgP c).getD 2 0).fmod (lgT c)=(lgC c:Nat):=by have:=fm (a:=(lgP c).getD 2 0) (b:=lgT c) (by omega); unfold lgC; omega
 have p0':atI ((lgP c).map D.int) 0=some (.int ((lgP c).getD 0 0)):=aY (ns:=lgP c) (i:=0) (by decide) (by rw [hl]; decide)
 have p1':atI ((lgP c).map D.int) 1=some (.int ((lgP c).getD 1 0)):=aY (ns:=lgP c) (i:=1) (by decide) (by rw [hl]; decide)
 have p2':atI ((lgP c).map D.int) 2=some (.int ((lgP c).getD 2 0)):=aY (ns:=lgP c) (i:=2) (by decide) (by rw [hl]; decide)
 have p3':atI ((lgP c).map D.int) 3=some (.int ((lgP c).getD 3 0)):=aY (ns:=lgP c) (i:=3) (by decide) (by rw [hl]; decide)
 refine aC 1 nd (x_call b c_l_numbers (ab (aa 0) (ab (bC (cy (ab ae (ab ae (ab ae (ab ae af)))))) af)) ⟨c,[7,7,7,201],rfl,by decide,by decide,rfl⟩) (jJ 1 ?_)
 refine aC 2 nd (aw ae (av (aa 1) ae (aV p0')) aN) ?_
 rw [eT]
 refine aC 3 nd (x_call b c_l_numbers (ab (aw (aa 0) ae aN) (ab (bC (nE (bC (cy (ab ae (ab ae (ab ae af))))) (aw ae (av (aa 1) ae (aV p3')) aN) (by omega) (by omega) ?_)) af)) ⟨c + 3,(List.replicate (lgM c) [3,42,3]).flatten,?_,?_,?_,rfl⟩) ?_
 · rw [eM]; simp; omega
 · rw [eM,Int.toNat_natCast,<- ko]
 · rw [bL]; omega
 · intro x hx
   rcases eW hx with rfl | rfl | rfl <;> decide
 refine jJ 3 ?_
 refine aC 4 nd (cy af) ?_
 refine gz 5 (λi τ=>∃ s5 s6 s7,τ=[.d (.int c),.d (.lst ((lgP c).map .int)),.d (.int (lgT c:Nat)),.d (.lst ((lgQ c).map .int)),.o (((List.range i).map (lgS (lgQ c) (lgT c))).map stD),s5,s6,s7]) b nd (eN b (aw ae (av (aa 1) ae (aV p3')) aN) (by omega) (by omega)) eG ⟨_,_,_,rfl⟩ (λi hi τ h=>?_) λτ h=>?_
 · obtain ⟨s5,s6,s7,rfl⟩:=h
   have hi:i < lgM c:=by rw [aI] at hi; omega
   have lt3:=(k8 hi).1
   have e0:(3 * (i:Int)).toNat=3 * i:=by omega
   have e1:(3 * (i:Int) + 1).toNat=3 * i + 1:=by omega
   have e2:(3 * (i:Int) + 2).toNat=3 * i + 2:=by omega
   have k0:atI ((lgQ c).map D.int) (3 * (i:Int))=some (.int ((lgQ c).getD (3 * i) 0)):=by rw [<- e0]; exact aY (by omega) (by omega)
   have k1:atI ((lgQ c).map D.int) (3 * (i:Int) + 1)=some (.int ((lgQ c).getD (3 * i + 1) 0)):=by rw [<- e1]; exact aY (by omega) (by omega)
   have k2:atI ((lgQ c).map D.int) (3 * (i:Int) + 2)=some (.int ((lgQ c).getD (3 * i + 2) 0)):=by rw [<- e2]; exact aY (by omega) (by omega)
   obtain ⟨a0,a1,a2,a3⟩:=mB (qs:=lgQ c) (k:=i) h1
   refine aC 6 nd (av (bC (cy (ab bc (ab bc (ab bc af))))) (av (aa 3) (aw ae (aa 5) (aR (mkL (by decide)))) (aV k0)) (aV (mq lt3.1 lt3.2))) ?_
   refine gR (M:=λτ=>τ=[.d (.int c),.d (.lst ((lgP c).map .int)),.d (.int (lgT c:Nat)),.d (.lst ((lgQ c).map .int)),.o (((List.range i).map (lgS (lgQ c) (lgT c))).map stD),.d (.int i),.d (.str (lgW (lgQ c) (lgT c) i)),s7]) (aP (aa 2) ae gY) (λh=>?_) (λh=>?_) ?_
   · have h:=of_decide_eq_true h
     refine aC 6 nd bc (aS ?_)
     unfold lgW
     rw [if_pos (by omega)]
     rfl
   · have h:=of_decide_eq_false h
     refine aS ?_
     unfold lgW
     rw [if_neg (by omega)]
     rfl
   · rintro _ rfl
     refine aC 7 nd (aw (av (aa 3) (aw (aw ae (aa 5) (aR (mkL (by decide)))) ae aN) (aV k1)) (aw (aa 2) (ot b (ab (fL (aa 6) bc lA) af) nQ) i6) (bg (Int.ne_of_gt a0))) ?_
     refine jZ 4 (bz (ab (aa 6) (ab (aa 7) (ab (bz (ab (av (aa 3) (aw (aw ae (aa 5) (aR (mkL (by decide)))) ae aN) (aV k2)) (ab ae af))) af)))) ?_ (aS ⟨.d (.int i),.d (.str (lgW (lgQ c) (lgT c) i)),.d (.int (lgA (lgQ c) (lgT c) i)),?_⟩)
     · rw [List.length_map,List.length_map,List.length_range]; omega
     · rw [List.range_succ,List.map_append,List.map_append]
       have:((lgA (lgQ c) (lgT c) i).toNat:Int)=lgA (lgQ c) (lgT c) i:=Int.toNat_of_nonneg a1
       show _=[_,_,_,_,Sl.o (_++[D.tup [.str _,.int ((lgA (lgQ c) (lgT c) i).toNat:Int),frD _]]),_,_,_]
       rw [this]
       rfl
 · obtain ⟨s5,s6,s7,rfl⟩:=h
   rw [aI,eM,Int.toNat_natCast]
   refine aE (bz (ab (aa 2) (ab (aw ae (aw (av (aa 1) ae (aV p1')) (aa 2) (bg (by omega))) aN) (ab (aw ae (aw (av (aa 1) ae (aV p2')) (aa 2) (bg (by omega))) aN) (ab (fo 4) af))))) ?_
   rw [eR,eC]
   rfl
end
end K20
namespace K20
open PySem PySem.Spec PyProof.Rows L2 Hy
open Ev (D Den aA aH aL)
noncomputable def bkV (L:Nat->Nat->Rat) (st:Stp):Nat->Nat->Rat:=if st.1 = "weigh" then dh L st.2.1 λi=>st.2.2 * L st.2.1 i else dh L (rgS st) λi=>L (rgS st) i + st.2.2 * L (rgE st) i
noncomputable def bwd (ss:List Stp):Nat->Nat->Rat:=ss.reverse.foldl bkV V0
noncomputable def dot:Nat->(Nat->Rat)->(Nat->Rat)->Rat
 | 0,_,_=>0
 | T + 1,f,g=>dot T f g + f T * g T
theorem ja {f f' g g':Nat->Rat}:∀ T,(∀ k,k < T->f k=f' k)->(∀ k,k < T->g k=g' k)->dot T f g=dot T f' g'
 | 0,_,_=>rfl
 | T + 1,h,e=>by rw [dot,dot,ja T (λk hk=>h k (by omega)) (λk hk=>e k (by omega)),h T (by omega),e T (by omega)]
theorem b8 {f g:Nat->Rat}:∀ T,dot T f g=dot T g f
 | 0=>rfl
 | T + 1=>by rw [dot,dot,b8 T,Rat.mul_comm]
theorem dH {f g:Nat->Rat} {n:Nat} {x:Rat}:∀ T,n < T->dot T (λk=>if k=n then x else f k) g=dot T f g + (x - f n) * g n
 | T + 1,h=>by
   rw [dot,dot]
   by_cases e:T=n
   · subst e
     rw [if_pos rfl,ja (f':=f) (g':=g) T (λk hk=>if_neg (by omega)) λ_ _=>rfl]
     grind
   · rw [if_neg e,dH T (by omega)]
     grind
theorem iw {g:Nat->Rat} {n:Nat}:∀ T,n < T->dot T (λk=>if n=k then 1 else 0) g=g n
 | T + 1,h=>by
   rw [dot]
   by_cases e:n=T
   · subst e
     have z:∀ m,m<=n->dot m (λk=>if n=k then 1 else 0) g=0:=by
       intro m
       induction m with
       | zero=>intro _; rfl
       | succ m ih=>intro hm; rw [dot,ih (by omega),if_neg (by omega)]; grind
     rw [z n (Nat.le_refl _),if_pos rfl]
     grind
   · rw [if_neg e,iw T (by omega)]
     grind
theorem eX (V:Nat->Nat->Rat) (n:Nat) (r:Nat->Rat) (i:Nat):(λk=>dh V n r k i)=λk=>if k=n then r i else V k i:=by
 funext k
 unfold dh
 split <;> rfl
theorem ml {T:Nat} {V L:Nat->Nat->Rat} {st:Stp} (h:okS T st) (i j:Nat):dot T (λk=>stV V st k i) (λk=>L k j)=dot T (λk=>V k i) λk=>bkV L st k j:=by
 unfold stV bkV
 by_cases e:st.1 = "weigh"
 · rw [if_pos e,if_pos e,eX,eX]
   have hn:st.2.1 < T:=by
     rcases h.2 with z | z
     · exact z.2
     · have:=z.2; omega
   rw [dH T hn,b8 T (g:=λk=>if k=st.2.1 then _ else _),dH T hn,b8 T]
   grind
 · obtain ⟨h1,h2,h3⟩:=oQ h e
   rw [if_neg e,if_neg e,eX,eX,dH T h2,b8 T (g:=λk=>if k=rgS st then _ else _),dH T h1,b8 T]
   grind
theorem kg {T:Nat} (i j:Nat):∀ (ss:List Stp) (V L:Nat->Nat->Rat),(∀ st ∈ ss,okS T st)->dot T (λk=>ss.foldl stV V k i) (λk=>L k j)=dot T (λk=>V k i) λk=>ss.foldr (λst L=>bkV L st) L k j
 | [],_,_,_=>rfl
 | st :: ss,V,L,h=>by
   rw [List.foldl_cons,List.foldr_cons,kg i j ss (stV V st) L λs hs=>h s (List.mem_cons_of_mem _ hs)]
   exact ml (h st (List.mem_cons_self ..)) i j
theorem kd {T:Nat} {ss:List Stp} {i j:Nat} (h:∀ st ∈ ss,okS T st) (hi:i < T) (hj:j < T):fwd ss j i=bwd ss i j:=by
 have:=kg i j ss V0 V0 h
 unfold fwd bwd
 rw [List.foldl_reverse]
 have e1:(λk=>V0 k j)=λk=>if j=k then (1:Rat) else 0:=rfl
 have e2:(λk=>V0 k i)=λk=>if i=k then (1:Rat) else 0:=rfl
 rw [e1,b8,iw T hj,e2,iw T hi] at this
 exact this
noncomputable def bu (C T:Nat) (L:Nat->Nat->Rat):List D:=(List.range T).map λk=>.lst (((List.range C).map (L k)).map frD)
theorem gM {C T n:Nat} {L:Nat->Nat->Rat} {r:Nat->Rat} (h:n < T):(bu C T L).set n (.lst (((List.range C).map r).map frD))=bu C T (dh L n r):=by
 refine List.ext_getElem (by simp [bu]) λk h1 h2=>?_
 have hk:k < T:=by simpa [bu] using h2
 rw [List.getElem_set]
 unfold bu dh
 by_cases e:n=k
 · subst e; simp
 · rw [if_neg e]; simp [Ne.symm e]
theorem fB {C T n:Nat} {L:Nat->Nat->Rat} (h:n < T):atI (bu C T L) (n:Int)=some (.lst (((List.range C).map (L n)).map frD)):=ag (by simp [bu,h])
theorem nA {C T R:Nat} {L:Nat->Nat->Rat} (h:R<=T):cutD (bu C T L) none (some (R:Int))=bu C R L:=by
 rw [iD]
 unfold bu
 rw [<- List.map_take,List.take_range,Nat.min_eq_left h]
structure BkI (e T C t:Nat) (P:Int) (L:Nat->Nat->Rat):Prop where
 pos:0 < P
 le:P<=2 ^ (e * t)
 zq:∀ k,k < T->∀ j,j < C->Zq P ((e + 1) * t) (L k j)
theorem BkI.put {e T C t n:Nat} {P:Int} {L:Nat->Nat->Rat} {q:Rat} (h:BkI e T C t P L) (g:Wq e q) {r:Nat->Rat} (hz:∀ j,j < C->Zq (P * ((q.den:Nat):Int)) ((e + 1) * (t + 1)) (r j)):BkI e T C (t + 1) (P * ((q.den:Nat):Int)) (dh L n r):=by
 refine ⟨Int.mul_pos h.pos (den_pos q),?_,λk hk j hj=>?_⟩
 · rw [Nat.mul_succ,p2]
   exact Int.mul_le_mul h.le (bd2 g.sq.den) (by have:=den_pos q; omega) (p0 _)
 · unfold dh
   split
   · exact hz j hj
   · exact (h.zq k hk j hj).upn g
theorem BkI.start {e T C:Nat}:BkI e T C 0 1 V0:=⟨by decide,by simp,λk hk j hj=>by
 unfold V0
 split
 · exact ⟨1,by decide,by simp,(Rat.one_mul _).symm⟩
 · exact ⟨0,by decide,by simp,(Rat.zero_mul _).symm⟩⟩
theorem BkI.sq {e T C t:Nat} {P:Int} {L:Nat->Nat->Rat} (h:BkI e T C t P L) (hn:(e + 1) * t<=1500) {k j:Nat} (hk:k < T) (hj:j < C):Sq 1501 (L k j):=((h.zq k hk j hj).sq h.pos h.le (Nat.mul_le_mul_right _ (by omega))).mono (by omega)
theorem BkI.step {e T C t:Nat} {P:Int} {L:Nat->Nat->Rat} {st:Stp} (h:BkI e T C t P L) (g:Wq e st.2.2) (ok:okS T st):BkI e T C (t + 1) (P * ((st.2.2.den:Nat):Int)) (bkV L st):=by
 unfold bkV
 by_cases e0:st.1 = "weigh"
 · rw [if_pos e0]
   have hn:st.2.1 < T:=by
     rcases ok.2 with z | z
     · exact z.2
     · have:=z.2; omega
   exact h.put g λj hj=>((h.zq _ hn j hj).mul g).mono (by rw [Nat.mul_succ]; omega)
 · rw [if_neg e0]
   obtain ⟨h1,h2,h3⟩:=oQ ok e0
   exact h.put g λj hj=>(((h.zq _ h1 j hj).up g).add ((h.zq _ h2 j hj).mul g)).mono (by rw [Nat.mul_succ]; omega)
theorem rg {r:List Rat} (i:Nat) (h:i < (r.map frD).length):(r.map frD)[i]=frD (r.getD i 0):=by
 have:i < r.length:=by simpa using h
 simp [this]
theorem cU {C:Nat} {r u:Nat->Rat}:(dn (((List.range C).map r).map frD) (((List.range C).map u).map frD)).length=C:=by rw [a9]; simp
theorem jG {C m:Nat} (hm:m=C) (r:Nat->Rat):((List.range m).map λj=>frD (r j))=((List.range C).map r).map frD:=by
 subst hm
 rw [List.map_map]
 rfl
theorem qx {ss:List Stp} (i:Nat) (h:i < (ss.map stD).reverse.length):(ss.map stD).reverse[i]=stD (ss.reverse.getD i ("weigh",0,0)):=by
 have:i < ss.length:=by simpa using h
 simp [this]
noncomputable def bj (ds:List D) (r:Sl):Prop:=∃ (e T R C:Nat) (ss:List Stp),ds=[bX T R C ss]/\okL T R C ss/\(∀ i,i < ss.length->Wq e (ss.getD i ("weigh",0,0)).2.2)/\(e + 1) * ss.length<=1500/\e<=100/\r=.o (bu C R (bwd ss))
section
variable {P:Program} {w:World} {K:PySem.W.Frag} {mg:Str->Option Value} {base:Heap} {k:Nat} {f:Addr} {fd:FuncData} {qual:Str}
theorem dj (F:Fun K "_law_ladders_table" qual (top 42) f fd) (hb:∀ x ∈ ak,mg x=none) (c_l_times:Cal P w K mg base k "_law_times" eo) (c_l_plus:Cal P w K mg base k "_law_plus" gb):aK P w K mg base CX0 (k + 1) f fd ["_law_ladder_here"] (spD K bj):=by
 refine fnD F bG hb (by rintro _ _ ⟨_,_,_,_,_,rfl,_⟩; rfl) ?_
 rintro _ _ ⟨e,T,R,C,ss,rfl,h00,hw,hn,he,rfl⟩ cdv A outer s H E b
 have nd:=bG.nd
 have hT:=h00.t7
 have hRT:=h00.rT
 have hCT:=h00.cT
 refine oj (aa 0) (nG b.calm (cj 1 nd (cj 2 nd (cj 3 nd (cj 4 nd mm))))) ?_
 refine jy 5 nd (cmp 0 (f:=λk=>.lst ((List.range (eQ 0 (C:Int).toNat).length).map λj=>frD (V0 k j))) b (eN b (aa 1) (by omega) (by omega)) eG (by rw [aI]; omega) λk hk s0 H0 fp=>bC (fI (cmp 0 (f:=λj=>frD (V0 k j)) (b.comp s0 H0 _ fp) (eN (b.comp s0 H0 _ fp) (aa 1) (by omega) (by omega)) eG (by rw [aI]; omega) λj hj s1 H1 fq=>?_))) (.inl rfl) ?_
 · have ev:frD (V0 k j)=.tup [.int (if decide ((j:Int)=(k:Int)) then 1 else 0),.int 1]:=by
     unfold V0
     by_cases z:j=k
     · rw [if_pos z,decide_eq_true (by omega)]; rfl
     · rw [if_neg z,decide_eq_false (by omega)]; rfl
   rw [ev]
   exact bz (ab (ot ((b.comp s0 H0 _ fp).comp s1 H1 _ fq) (ab (fL (aa 0) (aa 1) gY) af) nQ) (ab ae af))
 have el:((List.range (eQ 0 (T:Int).toNat).length).map λk=>D.lst ((List.range (eQ 0 (C:Int).toNat).length).map λj=>frD (V0 k j)))=bu C T V0:=by
   rw [aI,aI,Int.toNat_natCast,Int.toNat_natCast]
   unfold bu
   exact List.map_congr_left λk _=>by rw [List.map_map]; rfl
 rw [el]
 have rl:(ss.map stD).reverse.length=ss.length:=by simp
 refine oi (λi τ=>∃ P s6 s7 s8,BkI e T C i P ((ss.reverse.take i).foldl bkV V0)/\τ=[.d (bX T R C ss),.d (.int T),.d (.int R),.d (.int C),.d (.lst (ss.map stD)),.o (bu C T ((ss.reverse.take i).foldl bkV V0)),s6,s7,s8])
   (λi τ=>((τ.set 6 (.d (.str (ss.reverse.getD i ("weigh",0,0)).1))).set 7 (.d (.int ((ss.reverse.getD i ("weigh",0,0)).2.1:Nat)))).set 8 (.d (frD (ss.reverse.getD i ("weigh",0,0)).2.2))) b (qg b (aa 4)) (λi hi τ _=>by rw [qx i hi]; exact nG b.calm (cj 6 nd (cj 7 nd (cj 8 nd mm)))) ⟨1,.un,.un,.un,BkI.start,rfl⟩ (λi hi τ h=>?_) λτ h=>?_
 · obtain ⟨P,s6,s7,s8,I,rfl⟩:=h
   have hi:i < ss.length:=by rw [rl] at hi; exact hi
   have hn':(e + 1) * i<=1500:=Nat.le_trans (Nat.mul_le_mul_left _ (by omega)) hn
   have hn2:(e + 1) * (i + 1)<=1500:=Nat.le_trans (Nat.mul_le_mul_left _ (by omega)) hn
   have ei:ss.reverse.getD i ("weigh",0,0)=ss.getD (ss.length - 1 - i) ("weigh",0,0):=by simp [List.getD,List.getElem?_reverse hi]
   have g:Wq e (ss.reverse.getD i ("weigh",0,0)).2.2:=by rw [ei]; exact hw _ (by omega)
   have ok:okS T (ss.reverse.getD i ("weigh",0,0)):=by rw [ei]; exact h00.st _ (by omega)
   have nx:∀ V,(ss.reverse.take (i + 1)).foldl bkV V=bkV ((ss.reverse.take i).foldl bkV V) (ss.reverse.getD i ("weigh",0,0)):=λV=>by rw [take_snoc (("weigh",0,0):Stp) (show i < ss.reverse.length by simpa using hi),List.foldl_append]; rfl
   rw [nx]
   have I2:=I.step g ok
   have sqL:∀ k,k < T->∀ j,j < C->Sq 1501 ((ss.reverse.take i).foldl bkV V0 k j):=λk hk j hj=>I.sq hn' hk hj
   generalize (ss.reverse.take i).foldl bkV V0=V at *
   generalize ss.reverse.getD i ("weigh",0,0)=st at *
   obtain ⟨u,n,q⟩:=st
   have sq:Sq 100 q:=g.sq.mono he
   have ll:(bu C T V).length=T:=by simp [bu]
   have sqm:∀ k,k < T->∀ j,j < C->Sq 1601 (q * V k j):=λk hk j hj=>(sq.mul (sqL k hk j hj)).mono (by decide)
   refine gR (M:=λτ=>∃ P s6 s7 s8,BkI e T C (i + 1) P (bkV V (u,n,q))/\τ=[.d (bX T R C ss),.d (.int T),.d (.int R),.d (.int C),.d (.lst (ss.map stD)),.o (bu C T (bkV V (u,n,q))),s6,s7,s8]) (aP (aa 6) bc gD) (λh=>?_) (λh=>?_) λτ h=>aS h
   · obtain rfl:=of_decide_eq_true h
     have hnT:n < T:=by
       rcases ok.2 with z | z
       · exact z.2
       · have:=z.2; simp only at this; omega
     refine iH 5 (xs:=bu C T V) (j:=n) (aa 7) (bC (fI (cmp 0 (f:=λj=>frD (q * V n j)) b (bU (eL 5 (aa 7) (fB hnT))) rg (by simp; omega) λj hj s0 H0 fp=>?_))) (by rw [ll]; exact fN hnT) (aS ⟨_,.d (.str "weigh"),.d (.int n),.d (frD q),I2,?_⟩)
     · have hj:j < C:=by simpa using hj
       rw [bh _ hj]
       exact x_call (b.comp s0 H0 _ fp) c_l_times (ab (aa 1) (ab (aa 0) af)) ⟨100,1501,q,V n j,rfl,sq,sqL n hnT j hj,by decide,rfl⟩
     · rw [jG (C:=C) (by simp) λj=>q * V n j]
       show [_,_,_,_,_,Sl.o ((bu C T V).set n _),_,_,_]=_
       rw [gM hnT]
       rfl
   · have h0:u ≠ "weigh":=of_decide_eq_false h
     have hnT:n + 1 < T:=by
       rcases ok.2 with z | z
       · exact absurd z.1 h0
       · exact z.2
     have hnT':n < T:=by omega
     refine gR (M:=λτ=>∃ P s6 s7 s8,BkI e T C (i + 1) P (bkV V (u,n,q))/\τ=[.d (bX T R C ss),.d (.int T),.d (.int R),.d (.int C),.d (.lst (ss.map stD)),.o (bu C T (bkV V (u,n,q))),s6,s7,s8]) (aP (aa 6) bc gD) (λh=>?_) (λh=>?_) λτ h=>aS h
     · obtain rfl:=of_decide_eq_true h
       have eb:bkV V ("down",n,q)=dh V n λj=>V n j + q * V (n + 1) j:=by
         unfold bkV
         rw [if_neg h0]
         rfl
       refine iH 5 (xs:=bu C T V) (j:=n) (aa 7) (bC (fI (oT 0 1 (f:=λj=>frD (V n j + q * V (n + 1) j)) b (jg b (eL 5 (aa 7) (fB hnT')) (eL 5 (aw (aa 7) ae aN) (fB hnT))) lZ (by rw [cU]; omega) λj hj s0 H0 fp=>?_))) (by rw [ll]; exact fN hnT') (aS ⟨_,.d (.str "down"),.d (.int n),.d (frD q),I2,?_⟩)
       · have hj:j < C:=by rw [cU] at hj; exact hj
         rw [bh _ hj,bh _ hj]
         exact x_call (b.comp s0 H0 _ fp) c_l_plus (ab (aa 0) (ab (x_call (b.comp s0 H0 _ fp) c_l_times (ab (aa 2) (ab (aa 1) af)) ⟨100,1501,q,V (n + 1) j,rfl,sq,sqL _ hnT j hj,by decide,rfl⟩) af)) ⟨1501,1601,V n j,q * V (n + 1) j,rfl,sqL _ hnT' j hj,sqm _ hnT j hj,by decide,rfl⟩
       · rw [jG cU λj=>V n j + q * V (n + 1) j,eb]
         show [_,_,_,_,_,Sl.o ((bu C T V).set n _),_,_,_]=_
         rw [gM hnT']
     · have h1:u ≠ "down":=of_decide_eq_false h
       have eb:bkV V (u,n,q)=dh V (n + 1) λj=>V (n + 1) j + q * V n j:=by
         unfold bkV rgS rgE
         rw [if_neg h0,if_neg h1,if_neg h1]
       refine iH 5 (xs:=bu C T V) (j:=n + 1) (aw (aa 7) ae aN) (bC (fI (oT 0 1 (f:=λj=>frD (V (n + 1) j + q * V n j)) b (jg b (eL 5 (aa 7) (fB hnT')) (eL 5 (aw (aa 7) ae aN) (fB hnT))) lZ (by rw [cU]; omega) λj hj s0 H0 fp=>?_))) (by rw [ll]; exact fN hnT) (aS ⟨_,.d (.str u),.d (.int n),.d (frD q),I2,?_⟩)
       · have hj:j < C:=by rw [cU] at hj; exact hj
         rw [bh _ hj,bh _ hj]
         exact x_call (b.comp s0 H0 _ fp) c_l_plus (ab (aa 1) (ab (x_call (b.comp s0 H0 _ fp) c_l_times (ab (aa 2) (ab (aa 0) af)) ⟨100,1501,q,V n j,rfl,sq,sqL _ hnT' j hj,by decide,rfl⟩) af)) ⟨1501,1601,V (n + 1) j,q * V n j,rfl,sqL _ hnT j hj,sqm _ hnT' j hj,by decide,rfl⟩
       · rw [jG cU λj=>V (n + 1) j + q * V n j,eb]
         show [_,_,_,_,_,Sl.o ((bu C T V).set (n + 1) _),_,_,_]=_
         rw [gM hnT]
 · obtain ⟨P,s6,s7,s8,I,rfl⟩:=h
   rw [rl,List.take_of_length_le (by simp)]
   refine jJ 5 (aE (pJ (aa 5) l6 (gO (aa 2))) ?_)
   rw [nA hRT]
   rfl
end
end K20
namespace K20
open PySem PySem.Spec PyProof.Rows L2 Hy
open Ev (D Den aA aH aL)
mutual
theorem jb:∀ x:D,Ev.eqD x x=true
 | .non=>by rw [Ev.eqD]
 | .bl a=>by simp [Ev.eqD]
 | .int a=>by simp [Ev.eqD]
 | .str a=>by simp [Ev.eqD]
 | .tup xs=>by rw [Ev.eqD]; exact eh xs
 | .lst xs=>by rw [Ev.eqD]; exact eh xs
theorem eh:∀ xs:List D,Ev.fZ xs xs=true
 | []=>by rw [Ev.fZ]
 | x :: xs=>by rw [Ev.fZ,jb x,eh xs]; rfl
end
theorem oG {T:Nat} {s:Stp} (h:okS T s):Ev.cln (stD s)=true/\Ev.dep (stD s)<=2:=by
 obtain ⟨u,n,q⟩:=s
 have hu:PyData.strOk u=true:=by
   rcases h.2 with z | z
   · obtain rfl:u = "weigh":=z.1
     decide +kernel
   · rcases z.1 with y | y
     · obtain rfl:u = "down":=y
       decide +kernel
     · obtain rfl:u = "up":=y
       decide +kernel
 simp [stD,frD,Ev.cln,Ev.fK,Ev.dep,Ev.fS,hu]
theorem j7 {T:Nat}:∀ (ss:List Stp),(∀ s ∈ ss,okS T s)->Ev.fK (ss.map stD)=true/\Ev.fS (ss.map stD)<=2
 | [],_=>by simp [Ev.fK,Ev.fS]
 | s :: ss,h=>by
   obtain ⟨h1,h2⟩:=oG (h s (List.mem_cons_self ..))
   obtain ⟨h3,h4⟩:=j7 ss λs hs=>h s (List.mem_cons_of_mem _ hs)
   rw [List.map_cons,Ev.fK,Ev.fS,h1,h3]
   exact ⟨rfl,by omega⟩
theorem okL.mem {T R C:Nat} {ss:List Stp} (h:okL T R C ss):∀ s ∈ ss,okS T s:=λs hs=>by
 obtain ⟨i,hi,rfl⟩:=List.getElem_of_mem hs
 have:=h.st i hi
 simpa [hi] using this
theorem pG {T R C:Nat} {ss:List Stp} (h:okL T R C ss):Ev.iG (bX T R C ss):=by
 obtain ⟨h1,h2⟩:=j7 ss h.mem
 unfold bX Ev.iG
 simp only [Ev.cln,Ev.fK,Ev.dep,Ev.fS,h1]
 refine ⟨rfl,by omega⟩
theorem iS (xs:List D):gd (xs.map .d)=xs:=by
 induction xs with
 | nil=>rfl
 | cons x xs ih=>rw [List.map_cons,gd,ndD,ih]
theorem gL {α:Type} (f:α->List Nd):∀ t:List α,gd (t.map λr=>.l (f r))=t.map λr=>D.lst (gd (f r))
 | []=>rfl
 | r :: t=>by rw [List.map_cons,gd,ndD,gL f t]; rfl
theorem mx (t:List (List Rat)):ndD (kC t)=dF t:=by
 unfold kC dF
 rw [ndD,gL]
 congr 1
 exact List.map_congr_left λr _=>by rw [iS]
theorem nL (T R C:Nat) (ss:List Stp):ndD (cpN T R C ss)=bX T R C ss:=by
 unfold cpN bX
 simp only [ndD,gd,iS]
theorem iN:∀ r:List Rat,bD ((r.map frD).map .d)=true
 | []=>by rw [List.map_nil,List.map_nil,bD]
 | q :: r=>by rw [List.map_cons,List.map_cons,bD,dX,iN r]; rfl
theorem fM:∀ t:List (List Rat),bD (t.map λr=>.l ((r.map frD).map .d))=true
 | []=>by rw [List.map_nil,bD]
 | r :: t=>by rw [List.map_cons,bD,dX,iN,fM t]; rfl
theorem iJ:∀ xs:List D,b9 (xs.map .d)=true
 | []=>by rw [List.map_nil,b9]
 | x :: xs=>by rw [List.map_cons,b9,dJ,iJ xs]; rfl
theorem pd (T R C:Nat) (ss:List Stp):dJ (cpN T R C ss)=true:=by
 unfold cpN
 simp only [dJ,b9,iJ]
 rfl
theorem lN {e T R C:Nat} {ss:List Stp} (h:okL T R C ss) (hw:∀ i,i < ss.length->Wq e (ss.getD i ("weigh",0,0)).2.2):∀ i,i<=ss.length->∃ P,BkI e T C i P ((ss.reverse.take i).foldl bkV V0)
 | 0,_=>⟨1,BkI.start⟩
 | i + 1,hi=>by
   obtain ⟨P,I⟩:=lN h hw i (by omega)
   have ei:ss.reverse.getD i ("weigh",0,0)=ss.getD (ss.length - 1 - i) ("weigh",0,0):=by simp [List.getD,List.getElem?_reverse (show i < ss.length by omega)]
   rw [take_snoc (("weigh",0,0):Stp) (show i < ss.reverse.length by rw [List.length_reverse]; omega),List.foldl_append]
   exact ⟨_,I.step (st:=ss.reverse.getD i ("weigh",0,0)) (by rw [ei]; exact hw _ (by omega)) (by rw [ei]; exact h.st _ (by omega))⟩
theorem nY {e T R C:Nat} {ss:List Stp} (h:okL T R C ss) (hw:∀ i,i < ss.length->Wq e (ss.getD i ("weigh",0,0)).2.2) (hn:(e + 1) * ss.length<=1500) {i j:Nat} (hi:i < T) (hj:j < C):Sq 1501 (bwd ss i j):=by
 obtain ⟨P,I⟩:=lN h hw ss.length (Nat.le_refl _)
 rw [List.take_of_length_le (by simp)] at I
 exact I.sq hn hi hj
theorem m7 {T R C:Nat} {ss:List Stp} (h:okL T R C ss):D.lst (bu C R (bwd ss))=dF (bt C R (fwd ss)):=by
 unfold bu dF bt
 rw [List.map_map]
 congr 1
 refine List.map_congr_left λi hi=>?_
 have hi:i < R:=List.mem_range.mp hi
 have:=h.rT
 show D.lst _=D.lst _
 congr 2
 refine List.map_congr_left λj hj=>?_
 have hj:j < C:=List.mem_range.mp hj
 have:=h.cT
 exact (kd h.mem (by omega) (by omega)).symm
theorem ni {e T R C:Nat} {ss:List Stp} (h:okL T R C ss) (hw:∀ i,i < ss.length->Wq e (ss.getD i ("weigh",0,0)).2.2) (hn:(e + 1) * ss.length<=1500):(bt C R (fwd ss)).length<=1000/\∀ i,i < (bt C R (fwd ss)).length->((bt C R (fwd ss)).getD i []).length<=1000/\∀ j,j < ((bt C R (fwd ss)).getD i []).length->Sq 8000 (((bt C R (fwd ss)).getD i []).getD j 0):=by
 have h1:=h.rT
 have h2:=h.cT
 have h3:=h.t7
 have hl:(bt C R (fwd ss)).length=R:=by simp [bt]
 refine ⟨by omega,λi hi=>?_⟩
 rw [hl] at hi
 rw [show (bt C R (fwd ss)).getD i []=(List.range C).map λj=>fwd ss j i from bh _ hi _,List.length_map,List.length_range]
 refine ⟨by omega,λj hj=>?_⟩
 rw [bh _ hj,kd h.mem (by omega) (by omega)]
 exact (nY h hw hn (by omega) hj).mono (by decide)
noncomputable def bY (ds:List D) (r:Sl):Prop:=∃ (e T R C:Nat) (ss:List Stp),ds=[bX T R C ss]/\okL T R C ss/\(∀ i,i < ss.length->Wq e (ss.getD i ("weigh",0,0)).2.2)/\(e + 1) * ss.length<=1500/\e<=100/\r=.d (.bl true)
section
variable {P:Program} {w:World} {K:PySem.W.Frag} {mg:Str->Option Value} {base:Heap} {k:Nat} {f:Addr} {fd:FuncData} {qual:Str}
theorem jn (F:Fun K "_law_right" qual (top 47) f fd) (hb:∀ x ∈ ak,mg x=none) (c_l_ladders_table:Cal P w K mg base k "_law_ladders_table" bj) (c_l_copied:Cal P w K mg base k "_law_copied" c9) (c_table_of:Cal P w K mg base k "table_of" de) (c_l_is_like:Cal P w K mg base k "_law_is_like" cP):aK P w K mg base CX0 (k + 1) f fd ["_law_ladder_here"] (spD K bY):=by
 refine fnD F fU hb (by rintro _ _ ⟨_,_,_,_,_,rfl,_⟩; rfl) ?_
 rintro _ _ ⟨e,T,R,C,ss,rfl,h,hw,hn,he,rfl⟩ cdv A outer s H E b
 have nd:=fU.nd
 have ok2:=pG h
 obtain ⟨r1,r2⟩:=ni h hw hn
 refine aC 1 nd (x_call b c_l_ladders_table (ab (aa 0) af) ⟨e,T,R,C,ss,rfl,h,hw,hn,he,rfl⟩) (jJ 1 (x:=dF (bt C R (fwd ss))) ?_ rfl (congrArg some (m7 h)))
 refine aC 2 nd (x_call b c_l_copied (ab (aa 0) af) ⟨T,R,C,ss,rfl,rfl⟩) ?_
 refine oX 3 nd (x_call b c_table_of (ab (fo 2 rfl (congrArg some (nL T R C ss))) af) ⟨e,T,R,C,ss,rfl,h,hw,hn,he,rfl⟩) (by unfold kC; rw [dX]; exact fM _) ?_ ?_
 · intro i t hi
   rcases (by omega:i=0\/i=1\/i=2\/i=3\/i=4\/5<=i) with rfl | rfl | rfl | rfl | rfl | z
   · cases hi
   · cases hi
   · cases hi
     exact pd T R C ss
   · cases hi
   · cases hi
   · rw [List.getElem?_eq_none (by exact z)] at hi
     cases hi
 refine bH (PW.pt (cN (a5 (a4 (x_call b c_l_is_like (ab (fo 3 rfl (congrArg some (mx _))) (ab (aa 1) af)) ⟨_,rfl,r1,r2,rfl⟩))) λh=>(cA (aP (fo 2 rfl (congrArg some (nL T R C ss))) (aa 0) (qO b ok2 ok2))))) ?_ ?_
 · rw [jb]
   rfl
 refine oS 3 4 (x:=.tup [.int 1,.int 1]) ((bt C R (fwd ss)).map λr=>(r.map frD).map .d) b nd ?_ (λr=>bz (ab ae (ab ae af))) ?_ ?_
 · rw [List.map_map]; rfl
 · intro r hr
   obtain ⟨r',h1,rfl⟩:=List.mem_map.mp hr
   obtain ⟨i,hi,rfl⟩:=List.getElem_of_mem h1
   have:=(r2 i hi).1
   rw [show (bt C R (fwd ss)).getD i []=(bt C R (fwd ss))[i] by simp [hi]] at this
   rw [List.length_map,List.length_map]
   omega
 refine lD (mF 3) (cy af) rfl rfl rfl (by simp only [List.length_map]; omega) ?_
 refine lD (oO (mF 2) ae rfl rfl (m:=3) rfl) (bz (ab bc (ab ae (ab (bz (ab ae (ab ae af))) af)))) rfl rfl rfl (by have:=h.len; simp only [List.length_map]; omega) ?_
 exact aE (x_call b c_l_is_like (ab (bC (x_call b c_table_of (ab (aa 0) af) ⟨e,T,R,C,ss,rfl,h,hw,hn,he,rfl⟩) (congrArg some (mx _))) (ab (aa 1) af)) ⟨_,rfl,r1,r2,rfl⟩) rfl
end
end K20
namespace K20
open PySem PySem.Spec PyProof.Rows L2 Hy
open Ev (D Den aA aH aL)
noncomputable def fu (ds:List D) (r:Sl):Prop:=∃ (ns:List Int) (k:Nat),ds=[.lst (ns.map .int),.int k]/\r=.d (.int (ns.getD k 0))
noncomputable def j0 (ds:List D) (r:Sl):Prop:=∃ ns:List Int,ns.length<=63/\ds=[.lst (ns.map .int)]/\r=.d (.bl true)
noncomputable def fig (c:Int):Nat:=if c.fmod 4=3 then 3 else 0
theorem lQ (c:Int):fig c=0\/fig c=3:=by unfold fig; split <;> simp
theorem pj (c:Int):atI [D.int 0,D.int 0,D.int 0,D.int 3] (c.fmod 4)=some (.int (fig c:Nat)):=by
 have h:=fm (a:=c) (b:=4) (by decide)
 unfold fig
 generalize c.fmod 4=m at *
 obtain ⟨n,rfl⟩:=Int.eq_ofNat_of_zero_le h.1
 rcases (by omega:n=0\/n=1\/n=2\/n=3) with rfl | rfl | rfl | rfl <;> rfl
theorem me (c o:Int) {g:Nat} (hg:g=0\/g=3):bY [bX (drT c) (drR c) (drC c) (drS c o g)] (.d (.bl true)):=by
 obtain ⟨h1,h2,h3⟩:=pT c o hg
 exact ⟨10,_,_,_,_,rfl,h1,h2,by omega,by decide,rfl⟩
theorem k5 (c:Int):bY [bX (lgT c) (lgR c) (lgC c) (lgL c)] (.d (.bl true)):=by
 obtain ⟨h1,h2,h3⟩:=oE c
 exact ⟨2,_,_,_,_,rfl,h1,h2,by omega,by decide,rfl⟩
noncomputable def cells (ns:List Int):List Int:=ns.getD 1 0 :: (ns.take 6).drop 2
theorem lL (ns:List Int):[D.int (ns.getD 1 0)]++cutD (ns.map .int) (some (2:Nat)) (some (6:Nat))=(cells ns).map .int:=by
 rw [jN]
 unfold cells
 rw [List.map_cons,List.map_drop,List.map_take]
 rfl
section
variable {P:Program} {w:World} {K:PySem.W.Frag} {mg:Str->Option Value} {base:Heap} {k:Nat} {f:Addr} {fd:FuncData} {qual:Str}
theorem kQ (F:Fun K "_law_cell" qual (top 31) f fd) (hb:∀ x ∈ ak,mg x=none):aK P w K mg base CX0 (k + 1) f fd ["_law_script","_law_k"] (spD K fu):=by
 refine fnD F kT hb (by rintro _ _ ⟨_,_,rfl,_⟩; rfl) ?_
 rintro _ _ ⟨ns,n,rfl,rfl⟩ cdv A outer s H E b
 refine d0 (aP (aa 1) (cB b (ab (aa 0) af) fH) oH) (λh=>?_) λh=>?_
 · have h:=of_decide_eq_true h
   rw [List.length_map] at h
   exact aE (av (aa 0) (aa 1) (aV (aY (by omega) (by omega)))) rfl
 · have h:=of_decide_eq_false h
   rw [List.length_map] at h
   refine aE ae ?_
   show Sl.d (.int 0)=_
   rw [getD_none (by omega)]
theorem oD (F:Fun K "law" qual (top 48) f fd) (hb:∀ x ∈ ak,mg x=none) (c_l_right:Cal P w K mg base k "_law_right" bY) (c_l_cell:Cal P w K mg base k "_law_cell" fu) (c_l_long:Cal P w K mg base k "_law_long" fA) (c_l_drawn:Cal P w K mg base k "_law_drawn" d9):aK P w K mg base CX0 (k + 1) f fd ["_law_script"] (spD K j0):=by
 refine fnD F mv hb (by rintro _ _ ⟨_,_,rfl,_⟩; rfl) ?_
 rintro _ _ ⟨ns,hl,rfl,rfl⟩ cdv A outer s H E b
 have nd:=mv.nd
 refine iB 1 2 (λi τ=>∃ s1 s2,τ=[.d (.lst (ns.map .int)),s1,s2]) b nd (nW b (xs:=(cells ns).map .int) ?_) nS ⟨_,_,rfl⟩ (λi hi τ h=>?_) λτ h=>?_
 · rw [<- lL]
   exact bC (pY (bC (cy (ab (x_call b c_l_cell (ab (aa 0) (ab ae af)) ⟨ns,1,rfl,rfl⟩) af))) (bC (pJ (aa 0) (gO ae) (gO ae))) (by show 1 + (cutD (ns.map D.int) (some ((2:Nat):Int)) (some ((6:Nat):Int))).length < 1000000; rw [jN]; simp; omega))
 · obtain ⟨s1,s2,rfl⟩:=h
   exact bH (a5 (a4 (x_call b c_l_right (ab (x_call b c_l_drawn (ab (aw (x_call b c_l_cell (ab (aa 0) (ab ae af)) ⟨ns,0,rfl,rfl⟩) (aw ae (aa 1) (aR (mkL (by decide)))) aN) (ab (aa 2) (ab ae (ab (av (bC (cy (ab ae (ab ae (ab ae (ab ae af)))))) (aw (aa 2) ae (bg (by decide))) (aV (pj _))) af)))) ⟨_,_,_,rfl,lQ _,rfl⟩) af) (me _ _ (lQ _))))) rfl (aS ⟨_,_,rfl⟩)
 · obtain ⟨s1,s2,rfl⟩:=h
   refine d0 (aP (aw (x_call b c_l_cell (ab (aa 0) (ab ae af)) ⟨ns,0,rfl,rfl⟩) ae (bg (by decide))) ae gY) (λh=>?_) λh=>?_
   · exact aE (x_call b c_l_right (ab (x_call b c_l_long (ab (x_call b c_l_cell (ab (aa 0) (ab ae af)) ⟨ns,1,rfl,rfl⟩) af) ⟨_,rfl,rfl⟩) af) (k5 _)) rfl
   · exact aE mM rfl
end
end K20
namespace K20
open PySem PySem.Spec PyProof.Rows L2 Hy
set_option maxHeartbeats 0 in
theorem all_mk {l:PySem.W.OpenLaw} {w:World} {K:PySem.W.Frag} {h:Heap} {mg:Str->Option Value} {fa f0 f1 f2 f3 f4 f5 f6 f7 f8 f9 f10 f11 f12 f13 f14 f15 f16 f17 f18 f19 f20 f21 f22 f23 f24 f25 f26 f27 f28 f29 f30 f31 f32 f33 f34 f35 f36 f37 f38:Addr} {t0 t1:Tok} (X:K.In h) (G:h.Ns mainGlobals mg) (hfa:mg "law" = some (.ref fa))
   (h0:Dfn K "_law_divisor" (top 33) f0) (h1:Dfn K "_law_made" (top 34) f1) (h2:Dfn K "_law_times" (top 41) f2) (h3:Dfn K "_law_plus" (top 40) f3) (h4:Dfn K "_law_ladders_table" (top 42) f4) (h5:Dfn K "_law_copied" (top 45) f5) (h6:Dfn K "is_whole" (top 5) f6) (h7:Dfn K "is_between" (top 6) f7) (h8:Dfn K "common_divisor" (top 8) f8) (h9:Dfn K "is_fraction" (top 7) f9) (h10:Dfn K "is_weight" (top 18) f10) (h11:Dfn K "is_step" (top 19) f11) (h12:Dfn K "is_ladder" (top 20) f12) (h13:Dfn K "look_ladder" (top 21) f13) (h14:Dfn K "column_of" (top 15) f14) (h15:Dfn K "columns_of" (top 14) f15) (h16:Dfn K "first_sums" (top 25) f16) (h17:Dfn K "shared_divisor" (top 9) f17) (h18:Dfn K "weighed_sums" (top 27) f18) (h19:Dfn K "added_sums" (top 28) f19) (h20:Dfn K "in_lowest_terms" (top 10) f20) (h21:lq K "fraction" (top 11) f21 (1)) (h22:Dfn K "told_sums" (top 26) f22) (h23:Dfn K "rung_end" (top 23) f23) (h24:Dfn K "rung_start" (top 22) f24) (h25:Dfn K "table_of" (top 24) f25) (h26:Dfn K "_law_whole" (top 35) f26) (h27:Dfn K "_law_is_number" (top 36) f27) (h28:Dfn K "_law_is_like" (top 37) f28) (h29:Dfn K "_law_right" (top 47) f29) (h30:Dfn K "_law_cell" (top 31) f30) (h31:Dfn K "_law_numbers" (top 32) f31) (h32:Dfn K "_law_long" (top 46) f32) (h33:Dfn K "_law_sizes" (top 43) f33) (h34:Dfn K "_law_ten" (top 30) f34) (h35:Dfn K "_law_weight" (top 38) f35) (h36:Dfn K "_law_ladder" (top 39) f36) (h37:Dfn K "_law_drawn" (top 44) f37) (h38:Dfn K "law" (top 48) f38) (hz:nsL K ak) (z0:PySem.W.nsIn K mainGlobals "MOST" = some (some (.int 7 t0))) (z1:PySem.W.nsIn K mainGlobals "MOST_STEPS" = some (some (.int 400 t1))) :
   ∃ fd:FuncData,(∀ (s:Shared) (v:Value),BindsTo s fd ⟨[v],[]⟩ [("_law_script",v)])/\∀ base:Heap,K.In base->base.Ns mainGlobals mg->aK l.prog w K mg base CX0 9 fa fd ["_law_script"] (spD K j0):=by
 have hb:=hz.none X G
 have y_MOST:∃ t,mg "MOST" = some (.int 7 t):=⟨_,PySem.W.mg_of X G z0⟩
 have y_MOST_STEPS:∃ t,mg "MOST_STEPS" = some (.int 400 t):=⟨_,PySem.W.mg_of X G z1⟩
 obtain ⟨a,⟨oc,od,kV,dc,pm,an,cd,ct,sl,l0,c⟩,r⟩:=h38
 cases hfa.symm.trans (PySem.W.mg_of X G a)
 refine ⟨PySem.W.fnOf "law" "law" (bo (top 48)) (ba (top 48)) (ah (top 48)) .none kV dc pm an cd ct,λs v=>.of_eq rfl,λbase _ _=>?_⟩
 have c_l_divisor:Cal l.prog w K mg base 1 "_law_divisor" bN:=h0.cal (ps:=["_law_one","_law_other"]) X G (λ_ _ _ _ _ _=>Hy.bd2 λ_ _=>rfl) λ_ F=>ir (k:=0) F hb
 have c_l_made:Cal l.prog w K mg base 2 "_law_made" cM:=h1.cal (ps:=["_law_top","_law_bottom"]) X G (λ_ _ _ _ _ _=>Hy.bd2 λ_ _=>rfl) λ_ F=>kD (k:=1) F hb c_l_divisor
 have c_l_times:Cal l.prog w K mg base 3 "_law_times" eo:=h2.cal (ps:=["_law_one","_law_other"]) X G (λ_ _ _ _ _ _=>Hy.bd2 λ_ _=>rfl) λ_ F=>jC (k:=2) F hb c_l_made
 have c_l_plus:Cal l.prog w K mg base 3 "_law_plus" gb:=h3.cal (ps:=["_law_one","_law_other"]) X G (λ_ _ _ _ _ _=>Hy.bd2 λ_ _=>rfl) λ_ F=>kS (k:=2) F hb c_l_made
 have c_l_ladders_table:Cal l.prog w K mg base 4 "_law_ladders_table" bj:=h4.cal (ps:=["_law_ladder_here"]) X G (λ_ _ _ _ _ _=>Hy.bd1 λ_=>rfl) λ_ F=>dj (k:=3) F hb c_l_times c_l_plus
 have c_l_copied:Cal l.prog w K mg base 1 "_law_copied" c9:=h5.cal (ps:=["_law_ladder_here"]) X G (λ_ _ _ _ _ _=>Hy.bd1 λ_=>rfl) λ_ F=>jd (k:=0) F hb
 have c_is_whole:Cal l.prog w K mg base 1 "is_whole" bK:=h6.cal (ps:=["thing"]) X G (λ_ _ _ _ _ _=>Hy.bd1 λ_=>rfl) λ_ F=>i0 (k:=0) F hb
 have c_is_between:Cal l.prog w K mg base 2 "is_between" bA:=h7.cal (ps:=["thing","least","most"]) X G (λ_ _ _ _ _ _=>Hy.bd3 λ_ _ _=>rfl) λ_ F=>gn (k:=1) F hb c_is_whole
 have c_common_divisor:Cal l.prog w K mg base 1 "common_divisor" aJ:=h8.cal (ps:=["one","other"]) X G (λ_ _ _ _ _ _=>Hy.bd2 λ_ _=>rfl) λ_ F=>dR (k:=0) F hb
 have c_is_fraction:Cal l.prog w K mg base 2 "is_fraction" bV:=h9.cal (ps:=["thing"]) X G (λ_ _ _ _ _ _=>Hy.bd1 λ_=>rfl) λ_ F=>fw (k:=1) F hb c_is_whole c_common_divisor
 have c_is_weight:Cal l.prog w K mg base 3 "is_weight" cI:=h10.cal (ps:=["thing"]) X G (λ_ _ _ _ _ _=>Hy.bd1 λ_=>rfl) λ_ F=>ia (k:=2) F hb c_is_fraction
 have c_is_step:Cal l.prog w K mg base 4 "is_step" eB:=h11.cal (ps:=["thing","tracks"]) X G (λ_ _ _ _ _ _=>Hy.bd2 λ_ _=>rfl) λ_ F=>jM (k:=3) F hb (c_is_between.mono (by decide)) c_is_weight
 have c_is_ladder:Cal l.prog w K mg base 5 "is_ladder" cE:=h12.cal (ps:=["thing"]) X G (λ_ _ _ _ _ _=>Hy.bd1 λ_=>rfl) λ_ F=>ie (k:=4) F hb y_MOST y_MOST_STEPS (c_is_between.mono (by decide)) c_is_step
 have c_look_ladder:Cal l.prog w K mg base 6 "look_ladder" bQ:=h13.cal (ps:=["thing"]) X G (λ_ _ _ _ _ _=>Hy.bd1 λ_=>rfl) λ_ F=>ft (k:=5) F hb c_is_ladder
 have c_column_of:Cal l.prog w K mg base 1 "column_of" cJ:=h14.cal (ps:=["table","j"]) X G (λ_ _ _ _ _ _=>Hy.bd2 λ_ _=>rfl) λ_ F=>ig (k:=0) F hb
 have c_columns_of:Cal l.prog w K mg base 2 "columns_of" cu:=h15.cal (ps:=["table"]) X G (λ_ _ _ _ _ _=>Hy.bd1 λ_=>rfl) λ_ F=>gr (k:=1) F hb c_column_of
 have c_first_sums:Cal l.prog w K mg base 1 "first_sums" cm:=h16.cal (ps:=["track","rows"]) X G (λ_ _ _ _ _ _=>Hy.bd2 λ_ _=>rfl) λ_ F=>gh (k:=0) F hb
 have c_shared_divisor:Cal l.prog w K mg base 2 "shared_divisor" aZ:=h17.cal (ps:=["number","others"]) X G (λ_ _ _ _ _ _=>Hy.bd2 λ_ _=>rfl) λ_ F=>dW (k:=1) F hb c_common_divisor
 have c_weighed_sums:Cal l.prog w K mg base 3 "weighed_sums" bJ:=h18.cal (ps:=["sums","weight"]) X G (λ_ _ _ _ _ _=>Hy.bd2 λ_ _=>rfl) λ_ F=>eS (k:=2) F hb (c_common_divisor.mono (by decide)) c_shared_divisor
 have c_added_sums:Cal l.prog w K mg base 3 "added_sums" cb:=h19.cal (ps:=["one","other"]) X G (λ_ _ _ _ _ _=>Hy.bd2 λ_ _=>rfl) λ_ F=>gp (k:=2) F hb (c_common_divisor.mono (by decide)) c_shared_divisor
 have c_in_lowest_terms:Cal l.prog w K mg base 2 "in_lowest_terms" bf:=h20.cal (ps:=["top","bottom"]) X G (λ_ _ _ _ _ _=>Hy.bd2 λ_ _=>rfl) λ_ F=>df (k:=1) F hb c_common_divisor
 have c_fraction:Cal l.prog w K mg base 3 "fraction" c0:=h21.cal (ps:=["top","bottom"]) X G (λ_ _ _ _ _ _ _ _=>Hy.bd2 λ_ _=>⟨_,rfl,rfl⟩) λ_ F=>iO (k:=2) F hb c_in_lowest_terms (c_is_whole.mono (by decide))
 have c_told_sums:Cal l.prog w K mg base 4 "told_sums" cQ:=h22.cal (ps:=["sums"]) X G (λ_ _ _ _ _ _=>Hy.bd1 λ_=>rfl) λ_ F=>hU (k:=3) F hb c_fraction
 have c_rung_end:Cal l.prog w K mg base 1 "rung_end" c3:=h23.cal (ps:=["step"]) X G (λ_ _ _ _ _ _=>Hy.bd1 λ_=>rfl) λ_ F=>iX (k:=0) F hb
 have c_rung_start:Cal l.prog w K mg base 1 "rung_start" ck:=h24.cal (ps:=["step"]) X G (λ_ _ _ _ _ _=>Hy.bd1 λ_=>rfl) λ_ F=>gm (k:=0) F hb
 have c_table_of:Cal l.prog w K mg base 7 "table_of" de:=h25.cal (ps:=["ladder"]) X G (λ_ _ _ _ _ _=>Hy.bd1 λ_=>rfl) λ_ F=>iM (k:=6) F hb c_look_ladder (c_columns_of.mono (by decide)) (c_first_sums.mono (by decide)) (c_weighed_sums.mono (by decide)) (c_added_sums.mono (by decide)) (c_told_sums.mono (by decide)) (c_rung_end.mono (by decide)) (c_rung_start.mono (by decide))
 have c_l_whole:Cal l.prog w K mg base 1 "_law_whole" ed:=h26.cal (ps:=["_law_thing"]) X G (λ_ _ _ _ _ _=>Hy.bd1 λ_=>rfl) λ_ F=>jo (k:=0) F hb
 have c_l_is_number:Cal l.prog w K mg base 2 "_law_is_number" bT:=h27.cal (ps:=["_law_found","_law_top","_law_bottom"]) X G (λ_ _ _ _ _ _=>Hy.bd3 λ_ _ _=>rfl) λ_ F=>fX (k:=1) F hb c_l_whole c_l_divisor
 have c_l_is_like:Cal l.prog w K mg base 3 "_law_is_like" cP:=h28.cal (ps:=["_law_found","_law_due"]) X G (λ_ _ _ _ _ _=>Hy.bd2 λ_ _=>rfl) λ_ F=>gU (k:=2) F hb c_l_is_number
 have c_l_right:Cal l.prog w K mg base 8 "_law_right" bY:=h29.cal (ps:=["_law_ladder_here"]) X G (λ_ _ _ _ _ _=>Hy.bd1 λ_=>rfl) λ_ F=>jn (k:=7) F hb (c_l_ladders_table.mono (by decide)) (c_l_copied.mono (by decide)) c_table_of (c_l_is_like.mono (by decide))
 have c_l_cell:Cal l.prog w K mg base 1 "_law_cell" fu:=h30.cal (ps:=["_law_script","_law_k"]) X G (λ_ _ _ _ _ _=>Hy.bd2 λ_ _=>rfl) λ_ F=>kQ (k:=0) F hb
 have c_l_numbers:Cal l.prog w K mg base 1 "_law_numbers" br:=h31.cal (ps:=["_law_cell_here","_law_bases"]) X G (λ_ _ _ _ _ _=>Hy.bd2 λ_ _=>rfl) λ_ F=>ij (k:=0) F hb
 have c_l_long:Cal l.prog w K mg base 2 "_law_long" fA:=h32.cal (ps:=["_law_cell_here"]) X G (λ_ _ _ _ _ _=>Hy.bd1 λ_=>rfl) λ_ F=>kH (k:=1) F hb c_l_numbers
 have c_l_sizes:Cal l.prog w K mg base 2 "_law_sizes" eD:=h33.cal (ps:=["_law_cell_here","_law_most"]) X G (λ_ _ _ _ _ _=>Hy.bd2 λ_ _=>rfl) λ_ F=>js (k:=1) F hb c_l_numbers
 have c_l_ten:Cal l.prog w K mg base 1 "_law_ten" eZ:=h34.cal (ps:=["_law_many"]) X G (λ_ _ _ _ _ _=>Hy.bd1 λ_=>rfl) λ_ F=>lu (k:=0) F hb
 have c_l_weight:Cal l.prog w K mg base 3 "_law_weight" dg:=h35.cal (ps:=["_law_part","_law_figures"]) X G (λ_ _ _ _ _ _=>Hy.bd2 λ_ _=>rfl) λ_ F=>jf (k:=2) F hb c_l_made (c_l_ten.mono (by decide))
 have c_l_ladder:Cal l.prog w K mg base 4 "_law_ladder" dq:=h36.cal (ps:=["_law_cell_here","_law_tracks","_law_rows","_law_columns","_law_many","_law_figures"]) X G (λ_ _ _ _ _ _=>Hy.bd6 λ_ _ _ _ _ _=>rfl) λ_ F=>iI (k:=3) F hb (c_l_numbers.mono (by decide)) c_l_weight (c_l_ten.mono (by decide))
 have c_l_drawn:Cal l.prog w K mg base 5 "_law_drawn" d9:=h37.cal (ps:=["_law_one","_law_other","_law_most","_law_figures"]) X G (λ_ _ _ _ _ _=>Hy.bd4 λ_ _ _ _=>rfl) λ_ F=>jx (k:=4) F hb (c_l_sizes.mono (by decide)) c_l_ladder
 exact oD (k:=8) (jH l0 c r) hb c_l_right (c_l_cell.mono (by decide)) (c_l_long.mono (by decide)) (c_l_drawn.mono (by decide))
theorem walk {l:PySem.W.OpenLaw} {q:Program} {loose:List Str} {XP:(Str->Option Value)->Heap->Prop} {YP:World->Heap->Prop} {d:DefRec} {K:Params->PySem.W.Frag} (hn:l.most=some 63) (hdf:d.params.defaults=[])
   (hY:∀ (w:World) (h:Heap),YP w h->(K w.params).In h)
   (F:∀ (w:World) (mg:Str->Option Value) (fa:Addr) (h:Heap),(K w.params).In h->h.Ns mainGlobals mg->mg d.name=some (.ref fa) ->
     ∃ fd:FuncData,(∀ (s:Shared) (u:Value),BindsTo s fd ⟨[u],[]⟩ [("_law_script",u)])/\∀ base:Heap,(K w.params).In base->base.Ns mainGlobals mg->aK l.prog w (K w.params) mg base CX0 9 fa fd ["_law_script"] (spD (K w.params) j0)) :
   PySem.W.WalkO q loose XP YP l.row.toRowW d [] (λf vs=>PySem.call f vs):=
 L2.m5 (n:=63) (k:=9) (x:="_law_script") (CX:=λ_=>CX0) (sp:=λw=>spD (K w.params) j0) hn (by decide) hdf ⟨rfl,by decide,by decide⟩ hY F
   (λw H a ns hl _ hS=>nc (λns h=>⟨ns,h,rfl,rfl⟩) H a ns hl hS) λ_ _ _ _ _ z=>z
end K20
open PySem PySem.W PyProof.Rows
set_option maxRecDepth 100000 in
set_option maxHeartbeats 0 in
theorem PySem.Challenge.cw_signsmooth_k20_tables_of_ladders_holds : PySem.Challenge.rw_signsmooth_k20_tables_of_ladders.Holds := by
 w_on; o_law; k_head; (case hw=>w_witness2)
 k_fill
 refine K20.walk (l:=PySem.Challenge.rw_signsmooth_k20_tables_of_ladders) rfl rfl (λw h Y=>PySem.W.kIn_of Y) ?F
 case F=>
   intro w mg fa h KX G hmg
   refine' K20.all_mk KX G hmg (.of ?_ ?_ ?_ ?_) (.of ?_ ?_ ?_ ?_) (.of ?_ ?_ ?_ ?_) (.of ?_ ?_ ?_ ?_) (.of ?_ ?_ ?_ ?_) (.of ?_ ?_ ?_ ?_) (.of ?_ ?_ ?_ ?_) (.of ?_ ?_ ?_ ?_) (.of ?_ ?_ ?_ ?_) (.of ?_ ?_ ?_ ?_) (.of ?_ ?_ ?_ ?_) (.of ?_ ?_ ?_ ?_) (.of ?_ ?_ ?_ ?_) (.of ?_ ?_ ?_ ?_) (.of ?_ ?_ ?_ ?_) (.of ?_ ?_ ?_ ?_) (.of ?_ ?_ ?_ ?_) (.of ?_ ?_ ?_ ?_) (.of ?_ ?_ ?_ ?_) (.of ?_ ?_ ?_ ?_) (.of ?_ ?_ ?_ ?_) (.of ?_ ?_ ?_ ?_ ?_) (.of ?_ ?_ ?_ ?_) (.of ?_ ?_ ?_ ?_) (.of ?_ ?_ ?_ ?_) (.of ?_ ?_ ?_ ?_) (.of ?_ ?_ ?_ ?_) (.of ?_ ?_ ?_ ?_) (.of ?_ ?_ ?_ ?_) (.of ?_ ?_ ?_ ?_) (.of ?_ ?_ ?_ ?_) (.of ?_ ?_ ?_ ?_) (.of ?_ ?_ ?_ ?_) (.of ?_ ?_ ?_ ?_) (.of ?_ ?_ ?_ ?_) (.of ?_ ?_ ?_ ?_) (.of ?_ ?_ ?_ ?_) (.of ?_ ?_ ?_ ?_) (.of ?_ ?_ ?_ ?_) ⟨?_,?_,?_,?_,?_,?_,?_,?_,?_,?_,?_,?_,?_,?_,?_,?_,?_,?_,trivial⟩ ?_ ?_
   all_goals try k_is
#print axioms PySem.Challenge.cw_signsmooth_k20_tables_of_ladders_holds
