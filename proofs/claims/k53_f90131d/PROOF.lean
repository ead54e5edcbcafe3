import PyProof.Rows.All
import Wide.All
import OpenK.AllK
import Wide.FinOn
import Lean
import PyProof.EqAt
import PyProof.EqKinds
import PyProof.TupleCall
import PyProof.DictKeyH
import PyProof.DictFindH
import PySem.Challenge.RW_signsmooth_k53_staircases_numbered
set_option genSizeOf false
set_option bootstrap.genMatcherCode false
set_option Elab.async false
set_option linter.all false
set_option maxRecDepth 100000
set_option exponentiation.threshold 4000
namespace L2
open PySem PySem.Spec PyProof.Rows
noncomputable abbrev Key:=Sum Int Str
noncomputable def oy:Key->Value->Bool
 | .inl k,v=>Value.isInt k v
 | .inr x,v=>Value.isStrOf x v
noncomputable def rR (w:World):Key->Int
 | .inl k=>hashInt k
 | .inr x=>hashStr w x
theorem aM:∀ {k:Key} {v:Value},oy k v=true->(∃ i t,k=Sum.inl i/\v=Value.int i t)\/(∃ x t,k=Sum.inr x/\v=Value.str x t)
 | .inl i,v,h=>by
   obtain ⟨t,e⟩:=Value.isInt_shape (k:=i) (v:=v) h
   exact .inl ⟨i,t,rfl,e⟩
 | .inr x,v,h=>by
   obtain ⟨t,e⟩:=Value.isStrOf_shape (x:=x) (v:=v) h
   exact .inr ⟨x,t,rfl,e⟩
theorem pC (a b:Int):decide ((Sum.inl a:Key)=Sum.inl b)=(a == b):=by
 by_cases e:a=b
 · subst e; simp
 · have h:¬ (Sum.inl a:Key)=Sum.inl b:=λq=>e (Sum.inl.inj q)
   rw [decide_eq_false h]
   exact (beq_eq_false_iff_ne.mpr e).symm
theorem oP (a b:Str):decide ((Sum.inr a:Key)=Sum.inr b)=decide (a=b):=by
 by_cases e:a=b
 · subst e; simp
 · have h:¬ (Sum.inr a:Key)=Sum.inr b:=λq=>e (Sum.inr.inj q)
   rw [decide_eq_false h,decide_eq_false e]
theorem px (a:Int) (b:Str):decide ((Sum.inl a:Key)=Sum.inr b)=false:=decide_eq_false (λq=>nomatch q)
theorem pb (a:Str) (b:Int):decide ((Sum.inr a:Key)=Sum.inl b)=false:=decide_eq_false (λq=>nomatch q)
noncomputable def kl (prog:Program) (w:World):PySem.KeyKind prog w Key where
 is:=oy
 hash:=rR w
 inj:=λv a b ha hb=>by
   rcases aM ha with ⟨i,t,rfl,rfl⟩ | ⟨x,t,rfl,rfl⟩
   · rcases aM hb with ⟨j,u,rfl,e⟩ | ⟨y,u,rfl,e⟩
     · injection e with e1 _; rw [e1]
     · exact nomatch e
   · rcases aM hb with ⟨j,u,rfl,e⟩ | ⟨y,u,rfl,e⟩
     · exact nomatch e
     · injection e with e1 _; rw [e1]
 byValue:=λk v h=>by
   rcases aM h with ⟨i,t,rfl,rfl⟩ | ⟨x,t,rfl,rfl⟩ <;> rfl
 pyHash:=λhv h=>by
   rcases aM hv with ⟨i,t,rfl,rfl⟩ | ⟨x,t,rfl,rfl⟩
   · exact wpAny_pyHash_int h
   · exact wpAny_pyHash_str h
 eqBool:=λhu hv h=>by
   rcases aM hu with ⟨i,t,rfl,rfl⟩ | ⟨x,t,rfl,rfl⟩
   · rcases aM hv with ⟨j,u,rfl,rfl⟩ | ⟨y,u,rfl,rfl⟩
     · rw [pC] at h; exact wpAny_eqBool_int h
     · rw [px] at h; exact SeqAt.EqAt.int_str i t y u _ _ _ _ h
   · rcases aM hv with ⟨j,u,rfl,rfl⟩ | ⟨y,u,rfl,rfl⟩
     · rw [pb] at h; exact SeqAt.EqAt.str_int x t j u _ _ _ _ h
     · rw [oP] at h; exact wpAny_eqBool_str h
 «strs»:=λk x t v h=>by
   rcases aM h with ⟨i,u,rfl,e⟩ | ⟨y,u,rfl,e⟩
   · exact nomatch e
   · injection e with e1 _
     subst e1
     cases v <;> rfl
end L2
namespace L2
open PySem PySem.Spec PyProof.Rows
inductive V where
 | non | bl (b:Bool) | int (i:Int) | str (x:Str) | byt (b:Array UInt8) | flt (b:UInt64) | ref (a:Addr) | ty (n:String)
 deriving DecidableEq
noncomputable def RelV:V->Value->Prop
 | .non,u=>u=Value.none
 | .bl b,u=>u=Value.bool b
 | .int i,u=>∃ t,u=Value.int i t
 | .str x,u=>∃ t,u=Value.str x t
 | .byt b,u=>∃ t,u=Value.bytes b t
 | .flt b,u=>∃ t,u=Value.float b t
 | .ref a,u=>u=Value.ref a
 | .ty n,u=>u=Value.type n
noncomputable abbrev Vals:List V->List Value->Prop:=Paired RelV
theorem Vals.length {xs:List V} {us:List Value} (r:Vals xs us):xs.length=us.length:=Paired.length r
theorem Vals.get:∀ {xs:List V} {us:List Value} {i:Nat} {x:V},Vals xs us->xs[i]?=some x->∃ u,us[i]?=some u/\RelV x u
 | _,_,_,_,.nil,e=>by simp at e
 | _,_,0,_,.cons r _,e=>by simp at e; subst e; exact ⟨_,rfl,r⟩
 | _,_,i + 1,x,.cons _ t,e=>by
   obtain ⟨u,h1,h2⟩:=Vals.get (i:=i) (x:=x) t (by simpa using e)
   exact ⟨u,by simpa using h1,h2⟩
theorem Vals.set {x:V} {u:Value} (r:RelV x u):∀ {xs:List V} {us:List Value} (i:Nat),Vals xs us->Vals (xs.set i x) (us.set i u)
 | _,_,_,.nil=>.nil
 | _,_,0,.cons _ t=>.cons r t
 | _,_,i + 1,.cons q t=>.cons q (Vals.set r i t)
theorem Vals.append:∀ {xs ys:List V} {us ws:List Value},Vals xs us->Vals ys ws->Vals (xs++ys) (us++ws)
 | _,_,_,_,.nil,s=>s
 | _,_,_,_,.cons r t,s=>.cons r (Vals.append t s)
theorem Vals.take:∀ {xs:List V} {us:List Value} (n:Nat),Vals xs us->Vals (xs.take n) (us.take n)
 | _,_,0,_=>.nil
 | _,_,_ + 1,.nil=>.nil
 | _,_,n + 1,.cons r t=>.cons r (Vals.take n t)
theorem Vals.drop:∀ {xs:List V} {us:List Value} (n:Nat),Vals xs us->Vals (xs.drop n) (us.drop n)
 | _,_,0,r=>r
 | _,_,_ + 1,.nil=>.nil
 | _,_,n + 1,.cons _ t=>Vals.drop n t
noncomputable def iZ:Option V->Option Value->Prop
 | some v,some u=>RelV v u
 | none,none=>True
 | _,_=>False
noncomputable def KV {κ:Type}:List (κ × V)->List (κ × Value)->Prop:=Paired λ(p:κ × V) (q:κ × Value)=>p.1=q.1/\RelV p.2 q.2
noncomputable def kV:Key->V
 | .inl i=>.int i
 | .inr x=>.str x
inductive HO where
 | lst (xs:List V)
 | tup (xs:List V)
 | dK (kvs:List (Key × V)) | dT (kvs:List (List Key × V))
 | set (S:Int->Bool) (n:Nat)
 | ins (C dx:Addr) (fs:List (Str × V))
 | own (x:Addr)
 | xd (fs:List (Str × V))
 | met (f x:Addr)
 | rng (lo hi:Int)
 | frz (o:Obj) (u:HO)
 | tbl (ps:Array Value)
 | ext (φ:Heap->Prop)
noncomputable abbrev Hp:=Addr->Option HO
noncomputable def upd (H:Hp) (a:Addr) (o:HO):Hp:=λb=>if b=a then some o else H b
theorem aB {H:Hp} {a:Addr} {o:HO}:upd H a o a=some o:=by unfold upd; rw [if_pos rfl]
theorem ak {H:Hp} {a b:Addr} {o:HO} (h:b ≠ a):upd H a o b=H b:=by unfold upd; rw [if_neg h]
theorem az {H:Hp} {a b:Addr} {o:HO} (h:H a=some o) (h':H b=none):a ≠ b:=by
 intro e; subst e; rw [h] at h'; cases h'
section
variable (P:Program) (w:World)
noncomputable def bN (H:Hp) (h:Heap) (a:Addr):HO->Prop
 | .lst xs=>xs.length<=sizeLine/\∃ (its:List Value) (n:Nat),Vals xs its/\h.get? a=some { cls:=.type "list",data:=.seq its.toArray n }
 | .tup xs=>xs.length<=sizeLine/\∃ its:List Value,Vals xs its/\IsTup h a its.toArray
 | .dK kvs=>kvs.length<=sizeLine/\(a == sysModules)=false/\∃ vs,KV kvs vs/\h.DictOf (kl P w) a vs
 | .dT kvs=>kvs.length<=sizeLine/\(a == sysModules)=false/\∃ xs:List (List Key × Addr × Value),
     Paired (λ(p:List Key × V) (q:List Key × Addr × Value)=>p.1=q.1/\H q.2.1=some (.tup (p.1.map kV))/\RelV p.2 q.2.2) kvs xs /\
     ∃ o es ep,h.get? a=some o/\o.ExactDict/\o.data=.dict es ep/\es.toList=xs.map (entryOfKey (tupleKind (kl P w)))/\(xs.map (·.1)).Nodup
 | .set S n=>h.SetOf (intKind P w) a S n
 | .ins C dx fs=>H dx=some (.own a)/\fs.length<=1000/\dx ≠ a/\h.get? a=some (PySem.W.instObj C dx) /\
     ∃ mA,h.Ns1 dx mA/\(∀ f,iZ (fs.lookup f) (mA f))/\PySem.Within mA (fs.map (·.1))
 | .own _=>∃ o,h.get? a=some o
 | .xd fs=>∃ mA,h.Ns1 a mA/\∀ f,iZ (fs.lookup f) (mA f)
 | .rng lo hi=>∃ t u v,h.get? a=some { cls:=.type "range",data:=.fields #[.int lo t,.int hi u,.int 1 v] }
 | .frz o u=>h.get? a=some o/\bN H h a u
 | .tbl ps=>h.get? a=some { cls:=.none,data:=.fields ps }
 | .met f x=>h.get? a=some (PySem.W.methodObj (.ref f) (.ref x))
 | .ext φ=>φ h/\(∃ o,h.get? a=some o)/\∀ h1 h2:Heap,φ h1->(∀ o,h1.get? a=some o->h2.get? a=some o)->φ h2
noncomputable def HOk (H:Hp) (h:Heap):Prop:=∀ a o,H a=some o->bN P w H h a o
end
section
variable {P:Program} {w:World} {H H':Hp} {h h':Heap} {a:Addr} {o:HO}
theorem bN.lt (x:bN P w H h a o):a < h.objs.size:=by
 cases o with
 | lst xs=>obtain ⟨_,_,_,_,e⟩:=x; exact Heap.lt_size e
 | tup xs=>obtain ⟨_,_,_,p⟩:=x; exact p.lt
 | dK kvs=>obtain ⟨_,_,_,_,o,_,_,e,_⟩:=x; exact Heap.lt_size e
 | dT kvs=>obtain ⟨_,_,_,_,o,_,_,e,_⟩:=x; exact Heap.lt_size e
 | set S n=>obtain ⟨o,_,_,_,e,_⟩:=x; exact Heap.lt_size e
 | ins C dx fs=>obtain ⟨_,_,_,e,_⟩:=x; exact Heap.lt_size e
 | own y=>obtain ⟨_,e⟩:=x; exact Heap.lt_size e
 | xd fs=>obtain ⟨_,⟨_,_,_,e,_⟩,_⟩:=x; exact Heap.lt_size e
 | rng lo hi=>obtain ⟨_,_,_,e⟩:=x; exact Heap.lt_size e
 | frz ob u=>obtain ⟨e,_⟩:=x; exact Heap.lt_size e
 | tbl ps=>exact Heap.lt_size (show h.get? a=some _ from x)
 | met f y=>exact Heap.lt_size (show h.get? a=some _ from x)
 | ext φ=>obtain ⟨_,⟨_,e⟩,_⟩:=x; exact Heap.lt_size e
theorem Paired.pI {α β:Type} {F G:α->β->Prop}:∀ {l₁:List α} {l₂:List β},Paired F l₁ l₂->(∀ a b,F a b->G a b)->Paired G l₁ l₂
 | _,_,.nil,_=>.nil
 | _,_,.cons r t,f=>.cons (f _ _ r) (Paired.pI t f)
theorem bN.fM (x:bN P w H h a o) (k:∀ b u,(b=a\/H b=some (.own a))->h.get? b=some u->h'.get? b=some u)
   (ho:∀ b,H b=some (.own a)->H' b=some (.own a)) (ht:∀ b xs,H b=some (.tup xs)->H' b=some (.tup xs)):bN P w H' h' a o:=by
 induction o with
 | lst xs=>obtain ⟨z,its,n,r,e⟩:=x; exact ⟨z,its,n,r,k _ _ (.inl rfl) e⟩
 | tup xs=>obtain ⟨z,its,r,ob,e,c⟩:=x; exact ⟨z,its,r,ob,k _ _ (.inl rfl) e,c⟩
 | dK kvs=>obtain ⟨z,y,vs,r,ob,es,ep,e,c⟩:=x; exact ⟨z,y,vs,r,ob,es,ep,k _ _ (.inl rfl) e,c⟩
 | dT kvs=>
   obtain ⟨z,y,xs,r,ob,es,ep,e,c⟩:=x
   exact ⟨z,y,xs,Paired.pI r λp q z=>⟨z.1,ht _ _ z.2.1,z.2.2⟩,ob,es,ep,k _ _ (.inl rfl) e,c⟩
 | set S n=>obtain ⟨ob,es,ep,t,e,c⟩:=x; exact ⟨ob,es,ep,t,k _ _ (.inl rfl) e,c⟩
 | ins C dx fs=>
   obtain ⟨d,z,ne,e,mA,⟨od,es,ep,e2,c⟩,r⟩:=x
   exact ⟨ho _ d,z,ne,k _ _ (.inl rfl) e,mA,⟨od,es,ep,k _ _ (.inr d) e2,c⟩,r⟩
 | own y=>obtain ⟨ob,e⟩:=x; exact ⟨ob,k _ _ (.inl rfl) e⟩
 | xd fs=>obtain ⟨mA,⟨od,es,ep,e,c⟩,r⟩:=x; exact ⟨mA,⟨od,es,ep,k _ _ (.inl rfl) e,c⟩,r⟩
 | rng lo hi=>obtain ⟨t,u,v,e⟩:=x; exact ⟨t,u,v,k _ _ (.inl rfl) e⟩
 | frz ob u ih=>obtain ⟨e,q⟩:=x; exact ⟨k _ _ (.inl rfl) e,ih q⟩
 | tbl ps=>
   have e:h.get? a=some { cls:=.none,data:=.fields ps }:=x
   show h'.get? a=some { cls:=.none,data:=.fields ps }
   exact k a _ (.inl rfl) e
 | met f y=>
   have e:h.get? a=some (PySem.W.methodObj (.ref f) (.ref y)):=x
   show h'.get? a=some (PySem.W.methodObj (.ref f) (.ref y))
   exact k a _ (.inl rfl) e
 | ext φ=>obtain ⟨p,⟨o,e⟩,st⟩:=x; exact ⟨st _ _ p λo q=>k _ _ (.inl rfl) q,⟨o,k _ _ (.inl rfl) e⟩,st⟩
theorem HOk.lt (x:HOk P w H h) (e:H a=some o):a < h.objs.size:=(x a o e).lt
theorem HOk.fresh (x:HOk P w H h) (e:h.objs.size<=a):H a=none:=by
 cases q:H a with
 | none=>rfl
 | some u=>exact absurd (Nat.lt_of_lt_of_le (x.lt q) e) (Nat.lt_irrefl _)
theorem HOk.kept (x:HOk P w H h) (k:∀ b u,h.get? b=some u->h'.get? b=some u):HOk P w H h':=λa o e=>
 (x a o e).fM (λb u _ q=>k b u q) (λ_ q=>q) λ_ _ q=>q
theorem HOk.laid (x:HOk P w H h) (k:∀ b u,h.get? b=some u->h'.get? b=some u) (hp:h.objs.size<=a) (new:bN P w (upd H a o) h' a o):HOk P w (upd H a o) h':=λb u e=>by
 have hn:=x.fresh hp
 by_cases hb:b=a
 · subst hb; rw [aB] at e; cases e; exact new
 · rw [ak hb] at e
   exact (x b u e).fM (λc v _ q=>k c v q) (λc q=>by rw [ak (az q hn)]; exact q) λc xs q=>by rw [ak (az q hn)]; exact q
end
noncomputable def Rd (H:Hp) (a:Addr) (u:HO):Prop:=H a=some u\/∃ o,H a=some (.frz o u)
theorem Rd.ok {P:Program} {w:World} {H:Hp} {h:Heap} {a:Addr} {u:HO} (r:Rd H a u) (x:HOk P w H h):bN P w H h a u:=by
 rcases r with r | ⟨o,r⟩
 · exact x a u r
 · obtain ⟨_,q⟩:=x a _ r
   exact q
noncomputable def Mut:Option HO->Prop
 | some (.lst _)=>True
 | some (.dK _)=>True
 | some (.dT _)=>True
 | some (.set _ _)=>True
 | some (.ins _ _ _)=>True
 | some (.ext _)=>True
 | _=>False
section
variable {P:Program} {w:World} {H:Hp} {h h':Heap} {x e:Addr} {o':HO}
theorem HOk.write (ok:HOk P w H h) (mu:Mut (H x)) (he:e=x\/H e=some (.own x)) (k:∀ b u,b ≠ e->h.get? b=some u->h'.get? b=some u) (heo:∃ u,h'.get? e=some u)
   (new:bN P w (upd H x o') h' x o'):HOk P w (upd H x o') h':=λb u q=>by
 have nown:∀ c y,H c=some (.own y)->c ≠ x:=λc y r z=>by subst z; rw [r] at mu; exact mu
 have ntup:∀ c xs,H c=some (.tup xs)->c ≠ x:=λc xs r z=>by subst z; rw [r] at mu; exact mu
 by_cases hb:b=x
 · subst hb; rw [aB] at q; cases q; exact new
 · rw [ak hb] at q
   by_cases hbe:b=e
   · have q':H b=some (.own x):=by
       rcases he with z | z
       · exact absurd (hbe.trans z) hb
       · rw [hbe]; exact z
     rw [q] at q'; cases q'
     obtain ⟨v,hv⟩:=heo
     exact ⟨v,by rw [hbe]; exact hv⟩
   · refine (ok b u q).fM (λc v hc r=>k c v ?_ r) (λc r=>by rw [ak (nown c b r)]; exact r) λc xs r=>by rw [ak (ntup c xs r)]; exact r
     rcases hc with rfl | hc
     · exact hbe
     · rintro rfl
       rcases he with z | z
       · exact nown c b hc z
       · rw [hc] at z; cases z; exact hb rfl
end
structure Un (fs ex:List Addr) (H H':Hp) (h h':Heap):Prop where
 keep:∀ b o,h.get? b=some o->H b=none->b ∉ fs->b ∉ ex->h'.get? b=some o
 slot:∀ b o,h.get? b=some o->H b=none->b ∈ fs->b ∉ ex->∃ sl,h'.get? b=some { o with slots:=sl }
 free:∀ b o,h.get? b=some o->H b=none->b ∉ ex->H' b=none
 there:∀ b o,h.get? b=some o->b ∉ ex->∃ o',h'.get? b=some o'
 tups:∀ b xs,H b=some (.tup xs)->H' b=some (.tup xs)
 frzs:∀ b o u,H b=some (.frz o u)->H' b=some (.frz o u)
 tbls:∀ b ps,H b=some (.tbl ps)->∃ more,H' b=some (.tbl (ps++more))
section
variable {fs fs' ex ex':List Addr} {H H1 H2:Hp} {h h1 h2 h':Heap} {a x e:Addr} {o:HO}
theorem Un.any (u:Un fs ex H H1 h h1) {b:Addr} {ob:Obj} (q:h.get? b=some ob) (n:H b=none) (hx:b ∉ ex):∃ sl,h1.get? b=some { ob with slots:=sl }:=by
 by_cases hb:b ∈ fs
 · exact u.slot b ob q n hb hx
 · exact ⟨ob.slots,u.keep b ob q n hb hx⟩
theorem Un.kept (k:∀ b u,h.get? b=some u->h'.get? b=some u):Un fs ex H H h h':=
 ⟨λb ob q _ _ _=>k b ob q,λb ob q _ _ _=>⟨ob.slots,k b ob q⟩,λ_ _ _ n _=>n,λb ob q _=>⟨ob,k b ob q⟩,λ_ _ q=>q,λ_ _ _ q=>q,λ_ ps q=>⟨#[],by rw [q]; simp⟩⟩
theorem Un.refl:Un fs ex H H h h:=Un.kept λ_ _ q=>q
theorem Un.laid (k:∀ b u,h.get? b=some u->h'.get? b=some u) (hp:h.objs.size<=a) (hn:H a=none):Un fs ex H (upd H a o) h h' where
 keep:=λb u q _ _ _=>k b u q
 slot:=λb u q _ _ _=>⟨u.slots,k b u q⟩
 free:=λb u q n _=>by rw [ak (Nat.ne_of_lt (Nat.lt_of_lt_of_le (Heap.lt_size q) hp))]; exact n
 there:=λb u q _=>⟨u,k b u q⟩
 tups:=λb xs q=>by rw [ak (az q hn)]; exact q
 frzs:=λb u xs q=>by rw [ak (az q hn)]; exact q
 tbls:=λb ps q=>⟨#[],by rw [ak (az q hn),q]; simp⟩
theorem Un.write (mu:Mut (H x)) (he:e=x\/H e=some (.own x)) (k:∀ b u,b ≠ e->h.get? b=some u->h'.get? b=some u) (heo:∃ u,h'.get? e=some u):Un fs ex H (upd H x o) h h':=by
 have hx:∀ b,H b=none->b ≠ x:=λb n z=>by subst z; rw [n] at mu; exact mu
 have hb:∀ b,H b=none->b ≠ e:=λb n z=>by
   subst z
   rcases he with r | r
   · exact hx b n r
   · rw [n] at r; cases r
 have hm:∀ b u,H b=some u->¬ Mut (some u)->b ≠ x:=λb u q nm z=>by subst z; rw [q] at mu; exact nm mu
 refine ⟨λb u q n _ _=>k b u (hb b n) q,λb u q n _ _=>⟨u.slots,k b u (hb b n) q⟩,λb u q n _=>by rw [ak (hx b n)]; exact n,λb u q _=>?_,
   λb xs q=>by rw [ak (hm b _ q λz=>z)]; exact q,λb u xs q=>by rw [ak (hm b _ q λz=>z)]; exact q,λb ps q=>⟨#[],by rw [ak (hm b _ q λz=>z),q]; simp⟩⟩
 by_cases hbe:b=e
 · subst hbe; exact heo
 · exact ⟨u,k b u hbe q⟩
theorem Un.mono (u:Un fs ex H H1 h h1) (hs:∀ b ∈ fs,b ∈ fs') (hx:∀ b ∈ ex,b ∈ ex'):Un fs' ex' H H1 h h1:=
 ⟨λb ob q n hb he=>u.keep b ob q n (λz=>hb (hs b z)) λz=>he (hx b z),λ_ _ q n _ he=>u.any q n λz=>he (hx _ z),λb ob q n he=>u.free b ob q n λz=>he (hx b z),λb ob q he=>u.there b ob q λz=>he (hx b z),u.tups,u.frzs,u.tbls⟩
end
noncomputable def trk (h:Heap) (H:Hp):List Addr:=(List.range h.objs.size).filter λa=>(H a).isSome
noncomputable def iL (h:Heap) (H:Hp):Heap:=PySem.W.hideAll h (trk h H)
theorem lj (h:Heap) (H:Hp):(iL h H).objs.size=h.objs.size:=PySem.W.hideAll_size _ _
theorem l7 {h:Heap} {H:Hp} {b:Addr} {o:Obj} (e:h.get? b=some o) (n:H b=none):(iL h H).get? b=some o:=
 PySem.W.hideAll_get _ e λhm=>by
   have q:(H b).isSome=true:=(List.mem_filter.mp hm).2
   rw [n] at q; simp at q
theorem nF {h:Heap} {H:Hp} {b:Addr} {o:Obj} (e:(iL h H).get? b=some o):h.get? b=some o/\H b=none:=by
 have e':h.get? b=some o:=PySem.W.of_hideAll (trk h H) e
 refine ⟨e',?_⟩
 cases q:H b with
 | none=>rfl
 | some x=>
   have hm:b ∈ trk h H:=List.mem_filter.mpr ⟨List.mem_range.mpr (Heap.lt_size e'),by simp [q]⟩
   have z:(iL h H).get? b=none:=PySem.W.hideAll_none (trk h H) hm
   rw [z] at e; cases e
noncomputable def nz (g h:Heap) (L:Addr):List (Addr × Obj):=(List.range h.objs.size).filterMap λa=>if a=L\/(g.get? a).isSome=true then none else (h.get? a).map λo=>(a,o)
noncomputable def rest (g h:Heap) (L d:Addr):List (Addr × Obj):=(nz g h L).filter λp=>decide (p.1 ≠ d)
end L2
namespace L2
open PySem PySem.Spec PyProof.Rows
structure Mod (K:PySem.W.Frag) (mg:Str->Option Value) (base:Heap):Prop where
 kin:K.In base
 glob:base.Ns mainGlobals mg
 blt:∃ mb,base.Ns builtinsNs mb/\∀ x:Str,x ≠ "__name__" -> mb x=bootBuiltins x
 nolimit:base.NoLimit
structure Cx where
 prog:Program
 w:World
 K:PySem.W.Frag
 mg:Str->Option Value
 base:Heap
 A:Around
 N:List Str
 s₀:Shared
 H₀:Hp
 env:Env
 outer:List Env
 stack:List Env
 ex:List Addr
 fn:Str->Bool
 calm:Bool
 pn:List (Addr × Obj)
 xe:Value->Shared->Prop
noncomputable def frs (l:List Env):List Addr:=l.filterMap (·.frame)
noncomputable abbrev Cx.fs (X:Cx):List Addr:=frs X.outer
noncomputable def Vis (sc:Scope) (x:Str):Prop:=sc.names.lookup x=some .local\/sc.names.lookup x=some .cell\/sc.names.lookup x=some .free
noncomputable def Loc (sc:Scope) (x:Str):Prop:=sc.names.lookup x=some .local\/sc.names.lookup x=some .cell
noncomputable def Look (env:Env) (h:Heap) (m:Str->Option Value) (x:Str) (u:Value):Prop:=
 (env.kindOf x=some .local/\m x=some u)\/((env.kindOf x=some .cell\/env.kindOf x=some .free)/\∃ c,env.cells.lookup x=some c/\h.IsCell c (some u))
structure Cx.Ok (X:Cx):Prop where
 mod:Mod X.K X.mg X.base
 kind:X.env.scope.kind=.function
 glob:X.env.globals=mainGlobals
 blt:X.env.builtins=builtinsNs
 above:X.s₀.heap.objs.size<=X.env.locals
 inj:∀ x y c,X.env.cells.lookup x=some c->X.env.cells.lookup y=some c->x=y
 has:∀ x,(X.env.kindOf x=some .cell\/X.env.kindOf x=some .free)->∃ c,X.env.cells.lookup x=some c
 cab:∀ x c,X.fn x=true->X.env.cells.lookup x=some c->X.s₀.heap.objs.size<=c
 hd:X.calm=true->X.A.handled=none
 frames:X.A.frames=some X.stack
 stk:X.stack=X.outer\/(X.stack=X.env :: X.outer/\X.env.frame=some X.env.locals)
 exf:∀ b ∈ X.ex,b ≠ X.env.locals/\∀ x c,X.env.cells.lookup x=some c->c ≠ b
 bs:∀ b o,X.base.get? b=some o->X.s₀.heap.get? b=some o/\X.H₀ b=none
 bsz:X.base.objs.size<=X.s₀.heap.objs.size
 noex:∀ b o,X.base.get? b=some o->b ∉ X.ex
 exfs:∀ b ∈ X.ex,b ∉ X.fs
 fw:X.s₀.heap.FunFrames X.base X.outer
 frf:∀ b ∈ X.fs,X.H₀ b=none
structure Inv (X:Cx) (pins:List (Addr × Obj)) (σ:List (Option V)) (H:Hp) (s:Shared):Prop where
 ok:X.Ok
 os:s.os=X.s₀.os
 bare:AllBare s.gens
 base:Un X.fs X.ex X.H₀ H X.s₀.heap s.heap
 loc:∃ m,s.heap.Ns X.env.locals m/\∀ (i:Nat) (x:Str) (v:V),X.N[i]?=some x->σ[i]?=some (some v)->Vis X.env.scope x->∃ u,RelV v u/\Look X.env s.heap m x u
 cell:∀ x c,X.env.cells.lookup x=some c->∃ v,s.heap.IsCell c v
 free:H X.env.locals=none
 freeC:∀ x c,X.env.cells.lookup x=some c->H c=none
 pin:∀ p ∈ X.pn++pins,s.heap.get? p.1=some p.2/\H p.1=none/\p.1 ≠ X.env.locals/\p.1 ∉ X.fs/\∀ v,p.2.data ≠ .cell v
 hok:HOk X.prog X.w H s.heap
 len:σ.length=X.N.length
section
variable {X:Cx} {pins:List (Addr × Obj)} {σ:List (Option V)} {H H':Hp} {s:Shared} {h':Heap}
theorem Cx.Ok.rH (ok:X.Ok) {b:Addr} {o:Obj} (e:X.base.get? b=some o):b ∉ X.fs:=λhb=>by
 have:=(ok.fw.mem hb).1
 rw [e] at this; cases this
theorem Inv.bs (I:Inv X pins σ H s):∀ b o,X.base.get? b=some o->s.heap.get? b=some o/\H b=none:=λb o e=>
 ⟨I.base.keep b o (I.ok.bs b o e).1 (I.ok.bs b o e).2 (I.ok.rH e) (I.ok.noex b o e),I.base.free b o (I.ok.bs b o e).1 (I.ok.bs b o e).2 (I.ok.noex b o e)⟩
theorem Inv.bk (I:Inv X pins σ H s):∀ b o,X.base.get? b=some o->s.heap.get? b=some o:=λb o e=>(I.bs b o e).1
theorem Inv.mod (I:Inv X pins σ H s):Mod X.K X.mg X.base:=I.ok.mod
theorem Inv.kIn (I:Inv X pins σ H s):X.K.In s.heap:=I.ok.mod.kin.keeps I.bk
theorem Inv.lt (I:Inv X pins σ H s):X.env.locals < s.heap.objs.size:=let ⟨_,hn,_⟩:=I.loc; hn.lt
theorem Inv.sz (I:Inv X pins σ H s):X.s₀.heap.objs.size<=s.heap.objs.size:=Nat.le_trans I.ok.above (Nat.le_of_lt I.lt)
theorem Inv.ri (I:Inv X pins σ H s) {a:Addr} (h:s.heap.objs.size<=a):a ∉ X.fs:=λhb=>by
 obtain ⟨_,o,ho,_⟩:=I.ok.fw.mem hb
 exact absurd (Nat.lt_of_lt_of_le (Heap.lt_size ho) (Nat.le_trans I.sz h)) (Nat.lt_irrefl _)
theorem Inv.cne (I:Inv X pins σ H s):∀ x c,X.env.cells.lookup x=some c->c ≠ X.env.locals:=λx c e z=>by
 obtain ⟨v,o,ho,hd⟩:=I.cell x c e
 obtain ⟨m,⟨o',es,ep,ho',hd',_⟩,_⟩:=I.loc
 rw [z,ho'] at ho; cases ho; rw [hd'] at hd; cases hd
theorem Inv.fw (I:Inv X pins σ H s):s.heap.FunFrames X.base X.outer:=by
 have all:∀ (l:List Env),(∀ b ∈ frs l,b ∈ X.fs)->X.s₀.heap.FunFrames X.base l->s.heap.FunFrames X.base l:=by
   intro l
   induction l with
   | nil=>intro _ _; trivial
   | cons env r ih=>
     intro hs hl
     obtain ⟨hk,⟨L,o,hf,hn,ho,hd⟩,hr⟩:=hl
     have hL:L ∈ X.fs:=hs L (by unfold frs; rw [List.filterMap_cons,hf]; exact List.mem_cons_self)
     obtain ⟨sl,e⟩:=I.base.slot L o ho (I.ok.frf L hL) hL λz=>I.ok.exfs L z hL
     exact ⟨hk,⟨L,_,hf,hn,e,hd⟩,ih (λb hb=>hs b (by unfold frs; rw [List.filterMap_cons,hf]; exact List.mem_cons_of_mem _ hb)) hr⟩
 exact all X.outer (λ_ hb=>hb) I.ok.fw
theorem Inv.stack (I:Inv X pins σ H s):s.heap.FunFrames X.base X.stack:=by
 rcases I.ok.stk with e | ⟨e,hf⟩
 · rw [e]; exact I.fw
 · rw [e]
   obtain ⟨m,hn,_⟩:=I.loc
   refine .cons (by rw [I.ok.kind]; decide) hf hn ?_ I.fw
   exact Heap.get?_none_of_le (Nat.le_trans I.ok.bsz I.ok.above)
theorem Inv.ju (I:Inv X pins σ H s):∀ b ∈ frs X.stack,b ∈ X.env.locals :: X.fs:=λb hb=>by
 rcases I.ok.stk with e | ⟨e,hf⟩
 · rw [e] at hb; exact List.mem_cons_of_mem _ hb
 · rw [e] at hb
   unfold frs at hb
   rw [List.filterMap_cons,hf] at hb
   exact hb
theorem Inv.kq (I:Inv X pins σ H s):∀ b ∈ frs X.stack,H b=none:=λb hb=>by
 rcases List.mem_cons.mp (I.ju b hb) with e | hb
 · rw [e]; exact I.free
 · obtain ⟨_,o,ho,_⟩:=I.ok.fw.mem hb
   exact I.base.free b o ho (I.ok.frf b hb) λz=>I.ok.exfs b z hb
theorem Inv.step {g':Array GenState} {t':Nat} {d':Drawn} {ch:List Addr} (I:Inv X pins σ H s)
   (hch:∀ b ∈ ch,(b ∈ X.ex\/X.s₀.heap.objs.size<=b)/\b ≠ X.env.locals/\(∀ x c,X.env.cells.lookup x=some c->c ≠ b)/\∀ p ∈ X.pn++pins,p.1 ≠ b)
   (keep:∀ b o,b ≠ X.env.locals->b ∉ X.fs->b ∉ ch->s.heap.get? b=some o->H b=none->h'.get? b=some o)
   (slot:∀ b o,b ≠ X.env.locals->b ∈ X.fs->b ∉ ch->s.heap.get? b=some o->H b=none->∃ sl,h'.get? b=some { o with slots:=sl }) (free:∀ b o,b ∉ ch->s.heap.get? b=some o->H b=none->H' b=none)
   (there:∀ b o,b ∉ ch->s.heap.get? b=some o->∃ o',h'.get? b=some o')
   (tups:∀ b xs,H b=some (.tup xs)->H' b=some (.tup xs)) (frzs:∀ b o u,H b=some (.frz o u)->H' b=some (.frz o u)) (tbls:∀ b ps,H b=some (.tbl ps)->∃ more,H' b=some (.tbl (ps++more)))
   (ns:∀ m,s.heap.Ns X.env.locals m->h'.Ns X.env.locals m) (hok:HOk X.prog X.w H' h') (hg:AllBare g') :
   Inv X pins σ H' { s with heap:=h',gens:=g',drawn:=d',toks:=t' }:=by
 have neL:∀ b o,X.s₀.heap.get? b=some o->b ≠ X.env.locals:=λb o e=>Nat.ne_of_lt (Nat.lt_of_lt_of_le (Heap.lt_size e) I.ok.above)
 have neC:∀ b o,X.s₀.heap.get? b=some o->b ∉ X.ex->b ∉ ch:=λb o e hx hb=>by
   rcases (hch b hb).1 with z | z
   · exact hx z
   · exact absurd (Nat.lt_of_lt_of_le (Heap.lt_size e) z) (Nat.lt_irrefl _)
 have cellK:∀ x c,X.env.cells.lookup x=some c->∀ v,s.heap.IsCell c v->h'.IsCell c v:=λx c e v ⟨o,ho,hd⟩=>by
   have nch:c ∉ ch:=λz=>(hch c z).2.2.1 x c e rfl
   by_cases hc:c ∈ X.fs
   · obtain ⟨sl,q⟩:=slot c o (I.cne x c e) hc nch ho (I.freeC x c e)
     exact ⟨_,q,hd⟩
   · exact ⟨o,keep c o (I.cne x c e) hc nch ho (I.freeC x c e),hd⟩
 refine ⟨I.ok,I.os,hg,⟨λb o e n hb hx=>?_,λb o e n hb hx=>?_,λb o e n hx=>?_,λb o e hx=>?_,λb xs e=>tups b xs (I.base.tups b xs e),λb o xs e=>frzs b o xs (I.base.frzs b o xs e),λb ps e=>?_⟩,?_,λx c e=>?_,?_,λx c e=>?_,λp hp=>?_,hok,I.len⟩
 · exact keep b o (neL b o e) hb (neC b o e hx) (I.base.keep b o e n hb hx) (I.base.free b o e n hx)
 · obtain ⟨sl,e1⟩:=I.base.slot b o e n hb hx
   obtain ⟨sl',e2⟩:=slot b _ (neL b o e) hb (neC b o e hx) e1 (I.base.free b o e n hx)
   exact ⟨sl',e2⟩
 · obtain ⟨o',e1⟩:=I.base.there b o e hx
   exact free b o' (neC b o e hx) e1 (I.base.free b o e n hx)
 · obtain ⟨o',e1⟩:=I.base.there b o e hx
   exact there b o' (neC b o e hx) e1
 · obtain ⟨m1,e1⟩:=I.base.tbls b ps e
   obtain ⟨m2,e2⟩:=tbls b _ e1
   exact ⟨m1++m2,by rw [e2,Array.append_assoc]⟩
 · obtain ⟨m,hn,hl⟩:=I.loc
   refine ⟨m,ns m hn,λi x v e1 e2 e3=>?_⟩
   obtain ⟨u,r,l⟩:=hl i x v e1 e2 e3
   refine ⟨u,r,?_⟩
   rcases l with l | ⟨k,c,e,z⟩
   · exact .inl l
   · exact .inr ⟨k,c,e,cellK x c e _ z⟩
 · obtain ⟨v,z⟩:=I.cell x c e
   exact ⟨v,cellK x c e v z⟩
 · obtain ⟨m,⟨o,_,_,ho,_⟩,_⟩:=I.loc
   exact free _ o (λz=>(hch _ z).2.1 rfl) ho I.free
 · obtain ⟨v,o,ho,hd⟩:=I.cell x c e
   exact free c o (λz=>(hch c z).2.2.1 x c e rfl) ho (I.freeC x c e)
 · obtain ⟨e,n,ne,nf,d⟩:=I.pin p hp
   have nch:p.1 ∉ ch:=λz=>(hch p.1 z).2.2.2 p hp rfl
   exact ⟨keep p.1 p.2 ne nf nch e n,free p.1 p.2 nch e n,ne,nf,d⟩
theorem Inv.un {t':Nat} (I:Inv X pins σ H s) (u:Un X.fs [] H H' s.heap h') (hok:HOk X.prog X.w H' h'):Inv X pins σ H' { s with heap:=h',toks:=t' }:=by
 obtain ⟨m,⟨o,es,ep,ho,r⟩,_⟩:=id I.loc
 obtain ⟨sl,hL⟩:=u.any ho I.free (by simp)
 exact I.step (g':=s.gens) (d':=s.drawn) (ch:=[]) (λ_ z=>nomatch z) (λb o _ hb _ e n=>u.keep b o e n hb (by simp)) (λb o _ hb _ e n=>u.slot b o e n hb (by simp)) (λb o _ e n=>u.free b o e n (by simp)) (λb o _ e=>u.there b o e (by simp)) u.tups u.frzs u.tbls (λm' hm=>by
   obtain ⟨o',es',ep',ho',r'⟩:=hm
   rw [ho] at ho'; cases ho'
   exact ⟨_,es',ep',hL,r'⟩) hok I.bare
theorem Inv.call {g':Array GenState} {t':Nat} {d':Drawn} {ch:List Addr} (I:Inv X pins σ H s) (u:Un (frs X.stack) ch H H' s.heap h') (hok:HOk X.prog X.w H' h') (hg:AllBare g')
   (hch:∀ b ∈ ch,(b ∈ X.ex\/X.s₀.heap.objs.size<=b)/\b ≠ X.env.locals/\(∀ x c,X.env.cells.lookup x=some c->c ≠ b)/\∀ p ∈ X.pn++pins,p.1 ≠ b) :
   Inv X pins σ H' { s with heap:=h',gens:=g',drawn:=d',toks:=t' }:=by
 obtain ⟨m,⟨o,es,ep,ho,r⟩,_⟩:=id I.loc
 obtain ⟨sl,hL⟩:=u.any ho I.free λz=>(hch _ z).2.1 rfl
 exact I.step (ch:=ch) hch (λb o hL hb hc e n=>u.keep b o e n (λz=>(List.mem_cons.mp (I.ju b z)).elim hL hb) hc) (λb o _ _ hc e n=>u.any e n hc) (λb o hc e n=>u.free b o e n hc) (λb o hc e=>u.there b o e hc) u.tups u.frzs u.tbls (λm' hm=>by
   obtain ⟨o',es',ep',ho',r'⟩:=hm
   rw [ho] at ho'; cases ho'
   exact ⟨_,es',ep',hL,r'⟩) hok hg
theorem Inv.turned {t':Nat} {it:Addr} (I:Inv X pins σ H s) (k:∀ b o,b ≠ it->s.heap.get? b=some o->h'.get? b=some o) (hn:H it=none) (hL:it ≠ X.env.locals)
   (h1:it ∈ X.ex\/X.s₀.heap.objs.size<=it) (h2:∀ x c,X.env.cells.lookup x=some c->c ≠ it) (h3:∀ p ∈ X.pn++pins,p.1 ≠ it):Inv X pins σ H { s with heap:=h',toks:=t' }:=by
 have nit:∀ b u,H b=some u->b ≠ it:=λb u e z=>by rw [z,hn] at e; cases e
 refine I.step (g':=s.gens) (d':=s.drawn) (ch:=[it]) (λb hb=>?_) (λb o _ _ hc e _=>k b o (λz=>hc (by simp [z])) e) (λb o _ _ hc e _=>⟨o.slots,k b o (λz=>hc (by simp [z])) e⟩) (λ_ _ _ _ n=>n)
   (λb o hc e=>⟨o,k b o (λz=>hc (by simp [z])) e⟩) (λ_ _ e=>e) (λ_ _ _ e=>e) (λb ps e=>⟨#[],by rw [e]; simp⟩) (λm hm=>?_) (λb u e=>?_) I.bare
 · have e:b=it:=by simpa using hb
   subst e
   exact ⟨h1,hL,h2,h3⟩
 · obtain ⟨o,es,ep,ho,r⟩:=hm
   exact ⟨o,es,ep,k _ o (Ne.symm hL) ho,r⟩
 · refine (I.hok b u e).fM (λc v hc q=>k c v ?_ q) (λ_ q=>q) λ_ _ q=>q
   rcases hc with z | z
   · rw [z]; exact nit b u e
   · exact nit c _ z
theorem Inv.tok (I:Inv X pins σ H s) (t:Nat):Inv X pins σ H { s with toks:=t }:=I.un (h':=s.heap) (t':=t) Un.refl I.hok
theorem Inv.kept {t':Nat} (I:Inv X pins σ H s) (k:∀ b u,s.heap.get? b=some u->h'.get? b=some u):Inv X pins σ H { s with heap:=h',toks:=t' }:=I.un (Un.kept k) (I.hok.kept k)
theorem Inv.laid {a:Addr} {o:HO} {t':Nat} (I:Inv X pins σ H s) (k:∀ b u,s.heap.get? b=some u->h'.get? b=some u) (hp:s.heap.objs.size<=a) (new:bN X.prog X.w (upd H a o) h' a o) :
   Inv X pins σ (upd H a o) { s with heap:=h',toks:=t' }:=I.un (Un.laid k hp (I.hok.fresh hp)) (I.hok.laid k hp new)
theorem Inv.write {x e:Addr} {o:HO} {t':Nat} (I:Inv X pins σ H s) (mu:Mut (H x)) (he:e=x\/H e=some (.own x)) (k:∀ b u,b ≠ e->s.heap.get? b=some u->h'.get? b=some u) (heo:∃ u,h'.get? e=some u)
   (new:bN X.prog X.w (upd H x o) h' x o):Inv X pins σ (upd H x o) { s with heap:=h',toks:=t' }:=I.un (Un.write mu he k heo) (I.hok.write mu he k heo new)
theorem Inv.kj {pins':List (Addr × Obj)} (I:Inv X pins σ H s) (h:∀ p ∈ pins',s.heap.get? p.1=some p.2/\H p.1=none/\p.1 ≠ X.env.locals/\p.1 ∉ X.fs/\∀ v,p.2.data ≠ .cell v):Inv X pins' σ H s:=
 ⟨I.ok,I.os,I.bare,I.base,I.loc,I.cell,I.free,I.freeC,λp hp=>(List.mem_append.mp hp).elim (λz=>I.pin p (List.mem_append_left _ z)) (h p),I.hok,I.len⟩
theorem iP {N:List Str} (hN:N.Nodup) {i j:Nat} {x:Str} (a:N[i]?=some x) (b:N[j]?=some x):i=j:=by
 obtain ⟨h1,e1⟩:=List.getElem?_eq_some_iff.mp a
 obtain ⟨h2,e2⟩:=List.getElem?_eq_some_iff.mp b
 exact (List.getElem_inj hN).mp (e1.trans e2.symm)
theorem lg {M:Model} {A:Around} {E:Value->Shared->Prop} {i:Nat} {x:Str} {v:V} {u:Value} {Q:Unit->Shared->Prop} (I:Inv X pins σ H s) (hN:X.N.Nodup) (hi:X.N[i]?=some x) (hx:Loc X.env.scope x) (r:RelV v u)
   (h:∀ s',Inv X pins (σ.set i (some v)) H s'->(∃ a,Heap.SameBut a s.heap s'.heap/\(a=X.env.locals\/X.env.cells.lookup x=some a))->Q () s') (hf:X.fn x=true\/X.env.scope.names.lookup x=some .local:=by first | exact .inl rfl | exact .inr rfl | assumption):wpAny M A (storeName X.env x u) Q E s:=by
 obtain ⟨m,hn,hl⟩:=id I.loc
 have hcls:(X.env.scope.kind == .class || (X.env.scope.kind == .module && X.env.locals != X.env.globals))=false:=by rw [I.ok.kind]; rfl
 have hiσ:i < σ.length:=by rw [I.len]; exact (List.getElem?_eq_some_iff.mp hi).1
 have cne:=I.cne
 have tracked:∀ {a:Addr} {h':Heap},(∃ o,s.heap.get? a=some o/\H a=none)->Heap.SameBut a s.heap h'->HOk X.prog X.w H h':=λ{a h'} ha hs b ob e=>by
   obtain ⟨_,_,hfree⟩:=ha
   refine (I.hok b ob e).fM (λc w' hc q=>(hs.2 c ?_).trans q) (λ_ q=>q) λ_ _ q=>q
   rintro rfl
   rcases hc with rfl | hc
   · rw [hfree] at e; cases e
   · rw [hfree] at hc; cases hc
 rcases hx with hk | hk
 · refine wpAny_storeName_local hk hn (λh' hn' hs=>?_) hcls
   obtain ⟨oL,_,_,hoL,_⟩:=id hn
   refine h _ ⟨I.ok,I.os,I.bare,⟨λb o e n hb hx=>?_,λb o e n hb hx=>?_,I.base.free,λb o e hx=>?_,I.base.tups,I.base.frzs,I.base.tbls⟩,⟨_,hn',λj y v' e1 e2 e3=>?_⟩,λy c e=>?_,I.free,I.freeC,λp hp=>?_,tracked ⟨oL,hoL,I.free⟩ hs,by simpa using I.len⟩ ⟨_,hs,.inl rfl⟩
   · exact (hs.2 b (Nat.ne_of_lt (Nat.lt_of_lt_of_le (Heap.lt_size e) I.ok.above))).trans (I.base.keep b o e n hb hx)
   · obtain ⟨sl,e1⟩:=I.base.slot b o e n hb hx
     exact ⟨sl,(hs.2 b (Nat.ne_of_lt (Nat.lt_of_lt_of_le (Heap.lt_size e) I.ok.above))).trans e1⟩
   · obtain ⟨o',e1⟩:=I.base.there b o e hx
     exact ⟨o',(hs.2 b (Nat.ne_of_lt (Nat.lt_of_lt_of_le (Heap.lt_size e) I.ok.above))).trans e1⟩
   · by_cases hj:j=i
     · subst hj
       rw [hi] at e1; cases e1
       rw [List.getElem?_set_self hiσ] at e2
       cases e2
       exact ⟨u,r,.inl ⟨hk,by simp⟩⟩
     · rw [List.getElem?_set_ne (Ne.symm hj)] at e2
       obtain ⟨u',r',q⟩:=hl j y v' e1 e2 e3
       refine ⟨u',r',?_⟩
       rcases q with ⟨k,e⟩ | ⟨k,c,e,z⟩
       · refine .inl ⟨k,?_⟩
         have:y ≠ x:=λe=>hj (iP hN e1 (e ▸ hi))
         simp [this,e]
       · exact .inr ⟨k,c,e,z.sameBut hs (cne y c e)⟩
   · obtain ⟨w',z⟩:=I.cell y c e
     exact ⟨w',z.sameBut hs (cne y c e)⟩
   · obtain ⟨e,n,ne,nf,d⟩:=I.pin p hp
     exact ⟨(hs.2 p.1 ne).trans e,n,ne,nf,d⟩
 · have hfn:X.fn x=true:=by
     rcases hf with z | z
     · exact z
     · rw [z] at hk; cases hk
   obtain ⟨c,hc⟩:=I.ok.has x (.inl hk)
   obtain ⟨w',z⟩:=I.cell x c hc
   refine wpAny_storeName_cell I.ok.kind hk hc z (λh' hc' hs=>?_)
   obtain ⟨oc,hoc,hocd⟩:=id z
   refine h { s with heap:=h' } ⟨I.ok,I.os,I.bare,⟨λb o e n hb hx=>?_,λb o e n hb hx=>?_,I.base.free,λb o e hx=>?_,I.base.tups,I.base.frzs,I.base.tbls⟩,⟨m,hn.sameBut hs (Ne.symm (cne x c hc)),λj y v' e1 e2 e3=>?_⟩,λy c' e=>?_,I.free,I.freeC,λp hp=>?_,tracked ⟨oc,hoc,I.freeC x c hc⟩ hs,by simpa using I.len⟩ ⟨c,hs,.inr hc⟩
   · exact (hs.2 b (Nat.ne_of_lt (Nat.lt_of_lt_of_le (Heap.lt_size e) (I.ok.cab x c hfn hc)))).trans (I.base.keep b o e n hb hx)
   · obtain ⟨sl,e1⟩:=I.base.slot b o e n hb hx
     exact ⟨sl,(hs.2 b (Nat.ne_of_lt (Nat.lt_of_lt_of_le (Heap.lt_size e) (I.ok.cab x c hfn hc)))).trans e1⟩
   · obtain ⟨o',e1⟩:=I.base.there b o e hx
     exact ⟨o',(hs.2 b (Nat.ne_of_lt (Nat.lt_of_lt_of_le (Heap.lt_size e) (I.ok.cab x c hfn hc)))).trans e1⟩
   · by_cases hj:j=i
     · subst hj
       rw [hi] at e1; cases e1
       rw [List.getElem?_set_self hiσ] at e2
       cases e2
       exact ⟨u,r,.inr ⟨.inl hk,c,hc,hc'⟩⟩
     · rw [List.getElem?_set_ne (Ne.symm hj)] at e2
       obtain ⟨u',r',q⟩:=hl j y v' e1 e2 e3
       refine ⟨u',r',?_⟩
       rcases q with q | ⟨k,c',e,z'⟩
       · exact .inl q
       · refine .inr ⟨k,c',e,z'.sameBut hs ?_⟩
         rintro rfl
         exact hj (iP hN e1 (I.ok.inj _ _ _ e hc ▸ hi))
   · by_cases hcc:c'=c
     · subst hcc; exact ⟨_,hc'⟩
     · obtain ⟨w2,z2⟩:=I.cell y c' e
       exact ⟨w2,z2.sameBut hs hcc⟩
   · obtain ⟨e,n,ne,nf,d⟩:=I.pin p hp
     refine ⟨(hs.2 p.1 ?_).trans e,n,ne,nf,d⟩
     intro q
     rw [q,hoc] at e
     have q':oc=p.2:=Option.some.inj e
     exact d w' (by rw [<- q']; exact hocd)
theorem jf {M:Model} {A:Around} {E:Value->Shared->Prop} {i:Nat} {x:Str} {v:V} {u:Value} {Q:Unit->Shared->Prop} (I:Inv X pins σ H s) (hN:X.N.Nodup) (hi:X.N[i]?=some x) (hx:Loc X.env.scope x) (r:RelV v u)
   (h:∀ s',Inv X pins (σ.set i (some v)) H s'->Q () s') (hf:X.fn x=true\/X.env.scope.names.lookup x=some .local:=by first | exact .inl rfl | exact .inr rfl | assumption):wpAny M A (storeName X.env x u) Q E s:=
 lg I hN hi hx r (λs' I' _=>h s' I') hf
theorem Inv.oo {s':Shared} {ch:List Addr} (I:Inv X pins σ H s) (ho:s'.os=s.os) (u:Un (frs X.stack) ch H H' s.heap s'.heap) (hok:HOk X.prog X.w H' s'.heap) (hg:AllBare s'.gens)
   (hch:∀ b ∈ ch,(b ∈ X.ex\/X.s₀.heap.objs.size<=b)/\b ≠ X.env.locals/\(∀ x c,X.env.cells.lookup x=some c->c ≠ b)/\∀ p ∈ X.pn++pins,p.1 ≠ b):Inv X pins σ H' s':=by
 obtain ⟨h',g',d',t',o'⟩:=s'
 have e:o'=s.os:=ho
 subst e
 exact I.call (g':=g') (t':=t') (d':=d') u hok hg hch
end
noncomputable abbrev XK:=Value->Option Addr->Hp->Prop
noncomputable abbrev St:=List (Option V)
noncomputable abbrev VK:=V->Hp->Prop
noncomputable abbrev TE:=St->Hp->VK->Prop
noncomputable abbrev TT:=St->Hp->(Bool->Hp->Prop)->Prop
noncomputable abbrev TA:=St->Hp->(List V->Hp->Prop)->Prop
structure Ends where
 nx:St->Hp->Prop
 rt:VK
 bk:St->Hp->Prop:=λ_ _=>False
 ct:St->Hp->Prop:=λ_ _=>False
noncomputable abbrev TS:=Ends->St->Hp->Prop
noncomputable def EP (X:Cx) (pins:List (Addr × Obj)) (σ:St) (Q:VK) (u:Value) (s':Shared):Prop:=∃ v H',Inv X pins σ H' s'/\RelV v u/\Q v H'
noncomputable def TP (X:Cx) (pins:List (Addr × Obj)) (σ:St) (Q:Bool->Hp->Prop) (b:Bool) (s':Shared):Prop:=∃ H',Inv X pins σ H' s'/\Q b H'
noncomputable def AP (X:Cx) (pins:List (Addr × Obj)) (σ:St) (Q:List V->Hp->Prop) (us:List Value) (s':Shared):Prop:=∃ vs H',Inv X pins σ H' s'/\Vals vs us/\Q vs H'
noncomputable def SP (X:Cx) (pins:List (Addr × Obj)) (D:Ends) (f:Flow) (s':Shared):Prop:=
 match f with
 | .next=>∃ σ' H',Inv X pins σ' H' s'/\D.nx σ' H'
 | .brk=>∃ σ' H',Inv X pins σ' H' s'/\D.bk σ' H'
 | .cont=>∃ σ' H',Inv X pins σ' H' s'/\D.ct σ' H'
 | .ret u=>∃ v σ' H',Inv X pins σ' H' s'/\RelV v u/\D.rt v H'
noncomputable def PE (X:Cx) (e:Expr) (t:TE):Prop:=
 ∀ (pins:List (Addr × Obj)) (s:Shared) (σ:St) (H:Hp) (Q:VK),Inv X pins σ H s->t σ H Q->wpAny (model X.prog X.w) X.A (eval e X.env) (EP X pins σ Q) X.xe s
noncomputable def PT (X:Cx) (e:Expr) (t:TT):Prop:=
 ∀ (pins:List (Addr × Obj)) (s:Shared) (σ:St) (H:Hp) (Q:Bool->Hp->Prop),Inv X pins σ H s->t σ H Q->wpAny (model X.prog X.w) X.A (isTrue e X.env (eval e X.env)) (TP X pins σ Q) X.xe s
noncomputable def PW (X:Cx) (e:Expr) (t:TT):Prop:=
 ∀ (whole:Sem Value) (pins:List (Addr × Obj)) (s:Shared) (σ:St) (H:Hp) (Q:Bool->Hp->Prop),Inv X pins σ H s->t σ H Q->wpAny (model X.prog X.w) X.A (isTrue e X.env whole) (TP X pins σ Q) X.xe s
theorem PW.pt {X:Cx} {e:Expr} {t:TT} (h:PW X e t):PT X e t:=h _
noncomputable def PA (X:Cx) (es:List Expr) (t:TA):Prop:=
 ∀ (pos:Pos) (pins:List (Addr × Obj)) (s:Shared) (σ:St) (H:Hp) (Q:List V->Hp->Prop),Inv X pins σ H s->t σ H Q->wpAny (model X.prog X.w) X.A (spliced (backTo pos (starEach es X.env))) (AP X pins σ Q) X.xe s
noncomputable def PS (X:Cx) (st:Stmt) (t:TS):Prop:=
 ∀ (pins:List (Addr × Obj)) (s:Shared) (σ:St) (H:Hp) (D:Ends),Inv X pins σ H s->t D σ H->wpAny (model X.prog X.w) X.A (exec st X.env) (SP X pins D) X.xe s
noncomputable def PSs (X:Cx) (st:List Stmt) (t:TS):Prop:=
 ∀ (pins:List (Addr × Obj)) (s:Shared) (σ:St) (H:Hp) (D:Ends),Inv X pins σ H s->t D σ H->wpAny (model X.prog X.w) X.A (execs st X.env) (SP X pins D) X.xe s
theorem thn {α:Type} {t:Sem α} {Q Q':α->Shared->Prop} {M:Model} {A:Around} {E:Value->Shared->Prop} {s:Shared} (h:wpAny M A t Q E s) (hQ:∀ a s,Q a s->Q' a s):wpAny M A t Q' E s:=wpAny_mono h hQ λ_ _ x=>x
end L2
namespace L2
open PySem PySem.Spec PyProof.Rows
section
variable {X:Cx}
theorem bin {a b:Expr} {ta tb:TE} (ha:PE X a ta) (hb:PE X b tb) {pins:List (Addr × Obj)} {s:Shared} {σ:St} {H:Hp} {R:V->V->Hp->Prop} (I:Inv X pins σ H s) (h:ta σ H λx H1=>tb σ H1 λy H2=>R x y H2)
   {α:Type} {Q:α->Shared->Prop} {f:Value->Value->Sem α}
   (hf:∀ v u s2 x y H2,Inv X pins σ H2 s2->RelV x v->RelV y u->R x y H2->wpAny (model X.prog X.w) X.A (f v u) Q X.xe s2) :
   wpAny (model X.prog X.w) X.A (eval a X.env) (λv s₁=>wpAny (model X.prog X.w) X.A (eval b X.env) (λu s₂=>wpAny (model X.prog X.w) X.A (f v u) Q X.xe s₂) X.xe s₁) X.xe s:=by
 refine thn (ha pins s σ H _ I h) λv s1 ⟨x,H1,I1,r1,q1⟩=>?_
 refine thn (hb pins s1 σ H1 _ I1 q1) λu s2 ⟨y,H2,I2,r2,q2⟩=>?_
 exact hf v u s2 x y H2 I2 r1 r2 q2
noncomputable def gd (i:Nat):TE:=λσ H Q=>∃ v,σ[i]?=some (some v)/\Q v H
noncomputable def tC (v:V):TE:=λ_ H Q=>Q v H
theorem cE {i:Nat} {x:Str} {pos:Pos} (hN:X.N[i]?=some x) (hv:Vis X.env.scope x) (hd:(x == ("__debug__" : Str))=false:=by decide) (hcd:(x == ("__classdict__" : Str))=false:=by decide):PE X (.Name x pos) (gd i):=by
 intro pins s σ H Q I h
 obtain ⟨v,e,h⟩:=h
 obtain ⟨m,hn,hl⟩:=I.loc
 obtain ⟨u,r,l⟩:=hl i x v hN e hv
 have fin:EP X pins σ Q u s:=⟨v,H,I,r,h⟩
 rcases l with ⟨hk,hm⟩ | ⟨hk,c,hc,hcell⟩
 · exact wpAny_Name (wpAny_loadName_local I.ok.kind hk hn hm fin) hd
 · rcases hk with hk | hk
   · exact wpAny_Name (wpAny_loadName_cell I.ok.kind hk hc hcell fin) hd
   · exact wpAny_Name (wpAny_loadName_free I.ok.kind hk hc hcell fin hcd) hd
theorem aY {i j pos}:PE X (.Constant (.int i) j pos) (tC (.int i)):=λ_ _ _ H _ I h=>wpAny_Constant_int ⟨.int i,H,I.tok _,⟨_,rfl⟩,h⟩
theorem qw {b j pos}:PE X (.Constant (.bool b) j pos) (tC (.bl b)):=λ_ _ _ H _ I h=>Constant_bool ⟨.bl b,H,I,rfl,h⟩
noncomputable def Gl (X:Cx) (x:Str):Prop:=X.env.kindOf x=some .globalImplicit
theorem j9 {E:Value->Shared->Prop} {pins:List (Addr × Obj)} {s:Shared} {σ:St} {H:Hp} {x:Str} {u:Value} {pos:Pos} {Q:Value->Shared->Prop} (I:Inv X pins σ H s) (hg:Gl X x) (hm:X.mg x=some u) (h:Q u s)
   (hd:(x == ("__debug__" : Str))=false:=by decide):wpAny (model X.prog X.w) X.A (eval (.Name x pos) X.env) Q E s:=
 Calls.Name_function_global I.ok.kind hg (Calls.loadGlobal_global (by rw [I.ok.glob]; exact I.mod.glob.keeps I.bk) hm h) hd
theorem cN {E:Value->Shared->Prop} {pins:List (Addr × Obj)} {s:Shared} {σ:St} {H:Hp} {x:Str} {u:Value} {pos:Pos} {Q:Value->Shared->Prop} (I:Inv X pins σ H s) (hg:Gl X x) (hm:X.mg x=none) (hv:bootBuiltins x=some u) (h:Q u s)
   (hn:x ≠ "__name__":=by decide) (hd:(x == ("__debug__" : Str))=false:=by decide):wpAny (model X.prog X.w) X.A (eval (.Name x pos) X.env) Q E s:=by
 obtain ⟨mb,h1,h2⟩:=I.mod.blt
 exact Calls.Name_function_global I.ok.kind hg (Calls.loadGlobal_builtin (by rw [I.ok.glob]; exact I.mod.glob.keeps I.bk) hm (by rw [I.ok.blt]; exact h1.keeps I.bk) ((h2 x hn).trans hv) h) hd
theorem kE {x:Str} {v:V} {u:Value} {pos:Pos} (hg:Gl X x) (hm:X.mg x=some u) (r:RelV v u) (hd:(x == ("__debug__" : Str))=false:=by decide):PE X (.Name x pos) (tC v):=
 λ_ _ _ H _ I h=>j9 I hg hm ⟨v,H,I,r,h⟩ hd
theorem nH {x:Str} {v:V} {u:Value} {pos:Pos} (hg:Gl X x) (hm:X.mg x=none) (hv:bootBuiltins x=some u) (r:RelV v u) (hn:x ≠ "__name__":=by decide) (hd:(x == ("__debug__" : Str))=false:=by decide):PE X (.Name x pos) (tC v):=
 λ_ _ _ H _ I h=>cN I hg hm hv ⟨v,H,I,r,h⟩ hn hd
noncomputable def t2I (ta tb:TE) (k:Int->Int->Hp->Prop):St->Hp->Prop:=λσ H=>ta σ H λx H1=>tb σ H1 λy H2=>∃ i j,x=.int i/\y=.int j/\k i j H2
variable {a b:Expr} {ta tb:TE} {pos:Pos}
noncomputable def PC (X:Cx) (op:CmpOp) (a b:Expr) (t:TE):Prop:=
 ∀ (pins:List (Addr × Obj)) (s:Shared) (σ:St) (H:Hp) (Q:VK),Inv X pins σ H s->t σ H Q ->
   wpAny (model X.prog X.w) X.A (eval a X.env) (λv s₁=>wpAny (model X.prog X.w) X.A (eval b X.env) (λu s₂=>wpAny (model X.prog X.w) X.A (compareOp op v u) (EP X pins σ Q) X.xe s₂) X.xe s₁) X.xe s
theorem lV (b:Expr) {op:CmpOp} (h:op ≠ .In) (h2:op ≠ .NotIn):behindInMarks op b=false:=by
 have e1:(op == CmpOp.In)=false:=by cases op <;> first | rfl | exact absurd rfl h
 have e2:(op == CmpOp.NotIn)=false:=by cases op <;> first | rfl | exact absurd rfl h2
 cases b <;> simp [behindInMarks,e1,e2]
noncomputable def qD (p:Int->Int->Bool) (ta tb:TE):TE:=λσ H Q=>t2I ta tb (λi j H2=>Q (.bl (p i j)) H2) σ H
noncomputable abbrev rd:TE->TE->TE:=qD λi j=>decide (i=j)
theorem pQ {op:CmpOp} {p:Int->Int->Bool} (ha:PE X a ta) (hb:PE X b tb)
   (rule:∀ (i j:Int) (t u:Tok) (Q:Value->Shared->Prop) (s:Shared),Q (.bool (p i j)) s->wpAny (model X.prog X.w) X.A (compareOp op (.int i t) (.int j u)) Q X.xe s):PC X op a b (qD p ta tb):=by
 intro pins s σ H Q I h
 refine bin ha hb I h λv u s2 x y H2 I2 rx ry q=>?_
 obtain ⟨i,j,rfl,rfl,q⟩:=q
 obtain ⟨t,rfl⟩:=rx
 obtain ⟨t',rfl⟩:=ry
 exact rule i j t t' _ s2 ⟨.bl _,H2,I2,rfl,q⟩
theorem jq (ha:PE X a ta) (hb:PE X b tb):PC X .Eq a b (rd ta tb):=pQ ha hb λ_ _ _ _ _ _ h=>eq_int (by rw [Bool.beq_eq_decide_eq]; exact h)
noncomputable def tB (t:TE):TT:=λσ H Q=>t σ H λx H1=>∃ c,x=.bl c/\Q c H1
theorem gW {op:CmpOp} {t:TE} (h:PC X op a b t) (h1:behindInMarks op b=false:=by first | exact lV _ (by decide) (by decide) | rfl):PT X (.Compare a [op] [b] pos) (tB t):=by
 intro pins s σ H Q I hw
 refine wpAny_isTrue_Compare1 (thn (h pins s σ H _ I hw) λv s1 h1=>thn h1 λu s2 h2=>thn h2 λc s3 ⟨x,H1,I1,r1,q1⟩=>?_) h1
 obtain ⟨d,rfl,q⟩:=q1
 cases r1
 exact wpAny_truthy_bool ⟨H1,I1,q⟩
theorem js {e:Expr} {t:TE} (h:PE X e t) (he:∀ whole,isTrue e X.env whole=(do let v <- whole; standAt e.pos; holding [v] (truthy v)):=by intro _; rfl):PT X e (tB t):=by
 intro pins s σ H Q I hw
 refine isTrue_plain (thn (h pins s σ H _ I hw) λv s1 ⟨x,H1,I1,r1,q1⟩=>?_) (he _)
 obtain ⟨d,rfl,q⟩:=q1
 cases r1
 exact wpAny_truthy_bool ⟨H1,I1,q⟩
variable {tA tB':TT} {rest:List Expr}
noncomputable def rz (t u:TT):TT:=λσ H Q=>t σ H λc H1=>if c=true then u σ H1 Q else Q false H1
noncomputable def tOr (t u:TT):TT:=λσ H Q=>t σ H λc H1=>if c=true then Q true H1 else u σ H1 Q
noncomputable def rS (t:TT):TT:=λσ H Q=>t σ H λc H1=>Q (!c) H1
theorem pw_and1 (ha:PT X a tA):PW X (.BoolOp .And [a] pos) tA:=by
 intro wh pins s σ H Q I h
 refine isTrue_and (thn (ha pins s σ H Q I h) λc s1 e=>?_)
 cases c with
 | true=>exact isTrue_and_nil e
 | false=>exact e
theorem pw_or1 (ha:PT X a tA):PW X (.BoolOp .Or [a] pos) tA:=by
 intro wh pins s σ H Q I h
 refine isTrue_or (thn (ha pins s σ H Q I h) λc s1 e=>?_)
 cases c with
 | false=>exact isTrue_or_nil e
 | true=>exact e
theorem pw_and (ha:PT X a tA) (hb:PW X (.BoolOp .And (b :: rest) pos) tB'):PW X (.BoolOp .And (a :: b :: rest) pos) (rz tA tB'):=by
 intro wh pins s σ H Q I h
 refine isTrue_and (thn (ha pins s σ H _ I h) λc s1 ⟨H1,I1,q1⟩=>?_)
 cases c with
 | true=>exact hb wh pins s1 σ H1 Q I1 q1
 | false=>exact ⟨H1,I1,q1⟩
theorem pw_or (ha:PT X a tA) (hb:PW X (.BoolOp .Or (b :: rest) pos) tB'):PW X (.BoolOp .Or (a :: b :: rest) pos) (tOr tA tB'):=by
 intro wh pins s σ H Q I h
 refine isTrue_or (thn (ha pins s σ H _ I h) λc s1 ⟨H1,I1,q1⟩=>?_)
 cases c with
 | true=>exact ⟨H1,I1,q1⟩
 | false=>exact hb wh pins s1 σ H1 Q I1 q1
theorem mE (ha:PT X a tA):PT X (.UnaryOp .Not a pos) (rS tA):=by
 intro pins s σ H Q I h
 exact isTrue_not (ha pins s σ H (λc H1=>Q (!c) H1) I h)
noncomputable def qS (ta tb:TE):TE:=λσ H Q=>ta σ H λx H1=>∃ c,x=.bl c/\if c=true then tb σ H1 Q else Q (.bl false) H1
noncomputable def rE (ta tb:TE):TE:=λσ H Q=>ta σ H λx H1=>∃ c,x=.bl c/\if c=true then Q (.bl true) H1 else tb σ H1 Q
noncomputable def qt (ta:TE):TE:=λσ H Q=>ta σ H λx H1=>∃ c,x=.bl c/\Q (.bl (!c)) H1
theorem pP {op} {t:TE} (h:PE X a t):PE X (.BoolOp op [a] pos) t:=λpins s σ H Q I hw=>BoolOp_one (h pins s σ H Q I hw)
theorem lB (ha:PE X a ta) (hb:PE X (.BoolOp .And (b :: rest) pos) tb):PE X (.BoolOp .And (a :: b :: rest) pos) (qS ta tb):=by
 intro pins s σ H Q I h
 refine BoolOp_and (thn (ha pins s σ H _ I h) λv s1 ⟨x,H1,I1,r1,q1⟩=>?_)
 obtain ⟨c,rfl,q1⟩:=q1
 cases r1
 refine wpAny_truthy_bool ?_
 cases c with
 | true=>exact hb pins s1 σ H1 Q I1 q1
 | false=>exact ⟨.bl false,H1,I1,rfl,q1⟩
theorem ot (ha:PE X a ta) (hb:PE X (.BoolOp .Or (b :: rest) pos) tb):PE X (.BoolOp .Or (a :: b :: rest) pos) (rE ta tb):=by
 intro pins s σ H Q I h
 refine BoolOp_or (thn (ha pins s σ H _ I h) λv s1 ⟨x,H1,I1,r1,q1⟩=>?_)
 obtain ⟨c,rfl,q1⟩:=q1
 cases r1
 refine wpAny_truthy_bool ?_
 cases c with
 | false=>exact hb pins s1 σ H1 Q I1 q1
 | true=>exact ⟨.bl true,H1,I1,rfl,q1⟩
theorem pH (ha:PE X a ta):PE X (.UnaryOp .Not a pos) (qt ta):=by
 intro pins s σ H Q I h
 refine UnaryOp_ (thn (ha pins s σ H _ I h) λv s1 ⟨x,H1,I1,r1,q1⟩=>?_)
 obtain ⟨c,rfl,q1⟩:=q1
 cases r1
 exact not_of (wpAny_truthy_bool ⟨.bl (!c),H1,I1,rfl,q1⟩)
noncomputable def tIf (t:TT) (ta tb:TE):TE:=λσ H Q=>t σ H λc H1=>if c=true then ta σ H1 Q else tb σ H1 Q
theorem i8 {c:Expr} (hc:PT X c tA) (ha:PE X a ta) (hb:PE X b tb):PE X (.IfExp c a b pos) (tIf tA ta tb):=by
 intro pins s σ H Q I h
 refine wpAny_IfExp (thn (hc pins s σ H _ I h) λd s1 ⟨H1,I1,q1⟩=>?_)
 cases d with
 | true=>exact ha pins s1 σ H1 Q I1 q1
 | false=>exact hb pins s1 σ H1 Q I1 q1
end
end L2
namespace L2
open PySem PySem.Spec PyProof.Rows
noncomputable def SqL (K:PySem.W.Frag) (H:Hp) (a:Addr) (xs:List V):Prop:=
 Rd H a (.lst xs) \/
   ∃ (o:Obj) (its:Array Value) (n:Nat),K.lookup a=some o/\o.cls=.type "list" /\ o.dict=none/\o.data=.seq its n/\its.size<=sizeLine/\Vals xs its.toList
noncomputable def SqT (K:PySem.W.Frag) (H:Hp) (a:Addr) (xs:List V):Prop:=
 Rd H a (.tup xs) \/
   ∃ (o:Obj) (its:Array Value) (n:Nat),K.lookup a=some o/\o.cls=.type "tuple" /\ o.data=.seq its n/\its.size<=sizeLine/\Vals xs its.toList
noncomputable def rp:Value->Option V
 | .none=>some .non
 | .bool b=>some (.bl b)
 | .int i _=>some (.int i)
 | .str x _=>some (.str x)
 | .bytes b _=>some (.byt b)
 | .float b _=>some (.flt b)
 | .ref a=>some (.ref a)
 | .type n=>some (.ty n)
 | _=>none
theorem RelV.abs {x:V} {u:Value} (r:RelV x u):rp u=some x:=by
 cases x with
 | non=>cases r; rfl
 | bl _=>cases r; rfl
 | int _=>obtain ⟨t,rfl⟩:=r; rfl
 | str _=>obtain ⟨t,rfl⟩:=r; rfl
 | byt _=>obtain ⟨t,rfl⟩:=r; rfl
 | flt _=>obtain ⟨t,rfl⟩:=r; rfl
 | ref _=>cases r; rfl
 | ty _=>cases r; rfl
theorem RelV.inj {x y:V} {u:Value} (r:RelV x u) (q:RelV y u):x=y:=Option.some.inj (r.abs.symm.trans q.abs)
theorem Vals.inj:∀ {xs ys:List V} {us:List Value},Vals xs us->Vals ys us->xs=ys
 | _,_,_,.nil,.nil=>rfl
 | _,_,_,.cons r t,.cons r' t'=>by rw [r.inj r',Vals.inj t t']
section
variable {X:Cx} {pins:List (Addr × Obj)} {σ:St} {H:Hp} {s:Shared} {a:Addr} {xs ys:List V}
theorem SqL.of {K:PySem.W.Frag} (h:H a=some (.lst xs)):SqL K H a xs:=.inl (.inl h)
theorem SqT.of {K:PySem.W.Frag} (h:H a=some (.tup xs)):SqT K H a xs:=.inl (.inl h)
theorem Inv.list (I:Inv X pins σ H s) (h:SqL X.K H a xs):∃ its:List Value,Vals xs its/\PlainL s.heap a its.toArray/\xs.length<=sizeLine:=by
 rcases h with h | ⟨o,its,n,hk,hc,hd,hs,hz,r⟩
 · obtain ⟨z,its,n,r,e⟩:=h.ok I.hok
   exact ⟨its,r,⟨_,n,e,rfl,rfl,rfl⟩,z⟩
 · refine ⟨its.toList,r,⟨o,n,I.kIn a o hk,hc,hd,by simpa using hs⟩,?_⟩
   have e:=r.length
   simp only [Array.length_toList] at e
   omega
theorem Inv.tuple (I:Inv X pins σ H s) (h:SqT X.K H a xs):∃ its:List Value,Vals xs its/\IsTup s.heap a its.toArray/\xs.length<=sizeLine:=by
 rcases h with h | ⟨o,its,n,hk,hc,hs,hz,r⟩
 · obtain ⟨z,its,r,p⟩:=h.ok I.hok
   exact ⟨its,r,p,z⟩
 · refine ⟨its.toList,r,⟨o,I.kIn a o hk,hc,n,by simpa using hs⟩,?_⟩
   have e:=r.length
   simp only [Array.length_toList] at e
   omega
theorem Inv.cL (I:Inv X pins σ H s) (h:SqL X.K H a xs) (h':SqL X.K H a ys):xs=ys:=by
 obtain ⟨its,r,⟨o,n,e,_,_,d⟩,_⟩:=I.list h
 obtain ⟨its',r',⟨o',n',e',_,_,d'⟩,_⟩:=I.list h'
 rw [e] at e'; cases e'
 rw [d] at d'
 injection d' with d1 _
 have:its=its':=by simpa using congrArg Array.toList d1
 subst this
 exact r.inj r'
end
noncomputable abbrev Cx.gv (X:Cx) (E:Value->Shared->Prop):Cx:={ X with xe:=E }
noncomputable abbrev Cx.nox (X:Cx):Cx:=X.gv λ_ _=>False
theorem Cx.Ok.gv {X:Cx} (ok:X.Ok) (E:Value->Shared->Prop):(X.gv E).Ok:=
 ⟨ok.mod,ok.kind,ok.glob,ok.blt,ok.above,ok.inj,ok.has,ok.cab,ok.hd,ok.frames,ok.stk,ok.exf,ok.bs,ok.bsz,ok.noex,ok.exfs,ok.fw,ok.frf⟩
theorem Cx.Ok.cI {X:Cx} {E:Value->Shared->Prop} (ok:(X.gv E).Ok):X.Ok:=
 ⟨ok.mod,ok.kind,ok.glob,ok.blt,ok.above,ok.inj,ok.has,ok.cab,ok.hd,ok.frames,ok.stk,ok.exf,ok.bs,ok.bsz,ok.noex,ok.exfs,ok.fw,ok.frf⟩
section
variable {X:Cx} {pins:List (Addr × Obj)} {σ:St} {H:Hp} {s:Shared} {E:Value->Shared->Prop}
theorem Inv.gv (I:Inv X pins σ H s) (E:Value->Shared->Prop):Inv (X.gv E) pins σ H s:=⟨I.ok.gv E,I.os,I.bare,I.base,I.loc,I.cell,I.free,I.freeC,I.pin,I.hok,I.len⟩
theorem Inv.cI (I:Inv (X.gv E) pins σ H s):Inv X pins σ H s:=⟨I.ok.cI,I.os,I.bare,I.base,I.loc,I.cell,I.free,I.freeC,I.pin,I.hok,I.len⟩
theorem SP.cI {D:Ends} {f:Flow} {s':Shared} (h:SP (X.gv E) pins D f s'):SP X pins D f s':=by
 cases f with
 | next=>obtain ⟨σ',H',I,q⟩:=h; exact ⟨σ',H',I.cI,q⟩
 | brk=>obtain ⟨σ',H',I,q⟩:=h; exact ⟨σ',H',I.cI,q⟩
 | cont=>obtain ⟨σ',H',I,q⟩:=h; exact ⟨σ',H',I.cI,q⟩
 | ret u=>obtain ⟨v,σ',H',I,r,q⟩:=h; exact ⟨v,σ',H',I.cI,r,q⟩
theorem PSs.nox {st:List Stmt} {t:TS} (h:PSs X.nox st t):PSs X st t:=λpins s σ H D I hw=>
 wpAny_mono (h pins s σ H D (I.gv _) hw) (λ_ _ q=>q.cI) λ_ _ z=>False.elim z
end
section
variable {X:Cx} {st:Stmt} {rest:List Stmt} {t u:TS} {e:Expr} {te:TE} {pos:Pos}
noncomputable def qC:TS:=λD σ H=>D.nx σ H
noncomputable def rk (t u:TS):TS:=λD σ H=>t { D with nx:=u D } σ H
theorem cU:PSs X [] qC:=λ_ _ σ H _ I h=>wpAny_execs_nil ⟨σ,H,I,h⟩
theorem bG (h1:PS X st t) (h2:PSs X rest u):PSs X (st :: rest) (rk t u):=by
 intro pins s σ H D I h
 refine wpAny_execs_cons (thn (h1 pins s σ H { D with nx:=u D } I h) λf s1 q=>?_)
 cases f with
 | next=>
   obtain ⟨σ',H',I',q⟩:=q
   exact h2 pins s1 σ' H' D I' q
 | ret v=>exact q
 | brk=>exact q
 | cont=>exact q
theorem cR (h1:PS X st t):PSs X [st] t:=by
 intro pins s σ H D I h
 refine wpAny_execs_cons (thn (h1 pins s σ H D I h) λf s1 q=>?_)
 cases f with
 | next=>exact wpAny_execs_nil q
 | ret v=>exact q
 | brk=>exact q
 | cont=>exact q
theorem Inv.quiet {pins:List (Addr × Obj)} {σ:St} {H:Hp} {s:Shared} (I:Inv X pins σ H s):interactive X.env=false:=by simp [interactive,I.ok.kind]
noncomputable def qN (te:TE):TS:=λD σ H=>te σ H λ_ H1=>D.nx σ H1
theorem ig (he:PE X e te) (hs:swapsWith e none pos.line X.env=pure false:=by rfl):PS X (.Expr e pos) (qN te):=by
 intro pins s σ H D I h
 exact wpAny_Expr_any (thn (he pins s σ H _ I h) λv s1 ⟨x,H1,I1,r1,q1⟩=>⟨σ,H1,I1,q1⟩) I.quiet hs
noncomputable def oX (te:TE):TS:=λD σ H=>te σ H D.rt
theorem cG (he:PE X e te):PS X (.Return (some e) pos) (oX te):=by
 intro pins s σ H D I h
 exact wpAny_Return_some (thn (he pins s σ H _ I h) λv s1 ⟨x,H1,I1,r1,q1⟩=>⟨x,σ,H1,I1,r1,q1⟩)
noncomputable def rB (c:TT) (t u:TS):TS:=λD σ H=>c σ H λb H1=>if b=true then t D σ H1 else u D σ H1
theorem fZ {c:Expr} {a b:List Stmt} {tc:TT} (hc:PT X c tc) (ha:PSs X a t) (hb:PSs X b u):PS X (.If c a b pos) (rB tc t u):=by
 intro pins s σ H D I h
 refine wpAny_If (thn (hc pins s σ H _ I h) λd s1 ⟨H1,I1,q1⟩=>?_)
 cases d with
 | true=>exact ha pins s1 σ H1 D I1 q1
 | false=>exact hb pins s1 σ H1 D I1 q1
noncomputable def oA:TS:=λ_ _ _=>False
theorem cS {sts:List Stmt}:PSs X sts oA:=λ_ _ _ _ _ _ h=>h.elim
end
noncomputable abbrev TG:=V->St->Hp->(St->Hp->Prop)->Prop
noncomputable abbrev TGs:=List V->St->Hp->(St->Hp->Prop)->Prop
noncomputable def PG (X:Cx) (target:Expr) (t:TG):Prop:=
 ∀ (pins:List (Addr × Obj)) (s:Shared) (σ:St) (H:Hp) (v:V) (u:Value) (Q:St->Hp->Prop),Inv X pins σ H s->RelV v u->t v σ H Q ->
   wpAny (model X.prog X.w) X.A (assign target X.env u) (λ_ s'=>∃ σ' H',Inv X pins σ' H' s'/\Q σ' H') X.xe s
noncomputable def PGs (X:Cx) (ts:List Expr) (t:TGs):Prop:=
 ∀ (pins:List (Addr × Obj)) (s:Shared) (σ:St) (H:Hp) (vs:List V) (us:List Value) (Q:St->Hp->Prop),Inv X pins σ H s->Vals vs us->t vs σ H Q ->
   wpAny (model X.prog X.w) X.A (assignInOrder ((assignEach ts X.env).map (·.2)) us) (λ_ s'=>∃ σ' H',Inv X pins σ' H' s'/\Q σ' H') X.xe s
section
variable {X:Cx} {pos:Pos}
noncomputable def oj (i:Nat):TG:=λv σ H Q=>Q (σ.set i (some v)) H
theorem cX {i:Nat} {x:Str} (hN:X.N.Nodup) (hi:X.N[i]?=some x) (hx:Loc X.env.scope x) (hf:X.fn x=true\/X.env.scope.names.lookup x=some .local:=by first | exact .inl rfl | exact .inr rfl | assumption):PG X (.Name x pos) (oj i):=by
 intro pins s σ H v u Q I r h
 exact wpAny_assign_Name (jf I hN hi hx r (λs' I'=>⟨_,H,I',h⟩) hf)
noncomputable def rf:TGs:=λvs σ H Q=>vs=[]/\Q σ H
noncomputable def p7 (t:TG) (u:TGs):TGs:=λvs σ H Q=>∃ v r,vs=v :: r/\t v σ H λσ' H'=>u r σ' H' Q
theorem nK:PGs X [] rf:=by
 intro pins s σ H vs us Q I r h
 obtain ⟨e,h⟩:=h
 subst e
 cases r
 exact assignInOrder_nil ⟨σ,H,I,h⟩
theorem fF {e:Expr} {es:List Expr} {t:TG} {u:TGs} (h1:PG X e t) (h2:PGs X es u)
   (hs:(assignEach (e :: es) X.env).map (·.2)=assign e X.env :: (assignEach es X.env).map (·.2):=by rfl):PGs X (e :: es) (p7 t u):=by
 intro pins s σ H vs us Q I r h
 obtain ⟨v,vr,e1,h⟩:=h
 subst e1
 cases r with
 | cons r rr=>
   rw [hs]
   refine assignInOrder_cons (thn (h1 pins s σ H _ _ _ I r h) λ_ s1 ⟨σ1,H1,I1,q1⟩=>?_)
   exact h2 pins s1 σ1 H1 _ _ Q I1 rr q1
noncomputable def rP (K:PySem.W.Frag) (n:Nat) (t:TGs):TG:=λv σ H Q=>∃ a xs,v=.ref a/\SqT K H a xs/\xs.length=n/\t xs σ H Q
theorem oE {es:List Expr} {k:Nat} {t:TGs} {n:Nat} (hc:X.calm=true) (h:PGs X es t)
   (hn:(assignEach es X.env).length=n:=by rfl) (hst:(assignEach es X.env).findIdx? (·.1)=none:=by rfl):PG X (.Tuple es k pos) (rP X.K n t):=by
 intro pins s σ H v u Q I r hw
 obtain ⟨a,xs,e1,hq,hl,hw⟩:=hw
 subst e1
 cases r
 obtain ⟨its,rv,ht,hz⟩:=I.tuple hq
 refine assign_Tuple_tuple (I.ok.hd hc) ht (by simp [hn,<- hl,rv.length]) hst λh' hx=>?_
 have I1:Inv X pins σ H { s with heap:=h' }:=I.kept (t':=s.toks) λb o e=>hx b o (Nat.ne_of_lt (Heap.lt_size e)) e
 exact h pins _ σ H xs _ Q I1 (by simpa using rv) hw
noncomputable def pX (te:TE) (g:TG):TS:=λD σ H=>te σ H λx H1=>g x σ H1 D.nx
theorem iO {i:Nat} {x:Str} {e:Expr} {te:TE} {pos':Pos} (hN:X.N.Nodup) (hi:X.N[i]?=some x) (hx:Loc X.env.scope x) (he:PE X e te) (hs:swapsWith e (some (.Name x pos')) pos.line X.env=pure false:=by rfl) (hf:X.fn x=true\/X.env.scope.names.lookup x=some .local:=by first | exact .inl rfl | exact .inr rfl | assumption) :
   PS X (.Assign [.Name x pos'] e pos) (pX te (oj i)):=by
 intro pins s σ H D I h
 refine wpAny_Assign_Name (thn (he pins s σ H _ I h) λv s1 ⟨y,H1,I1,r1,q1⟩=>?_) hs
 exact jf I1 hN hi hx r1 (λs2 I2=>⟨_,H1,I2,q1⟩) hf
end
section
variable {X:Cx} {pos:Pos}
end
structure It where
 go:Nat->Hp->Prop
 yld:Nat->Hp->V->Hp->Prop
 stop:Nat->Hp->Prop
noncomputable def gx (X:Cx) (pins:List (Addr × Obj)) (H:Hp) (b:Addr):Prop:=
 H b=none/\b ≠ X.env.locals/\b ∉ X.fs/\(b ∈ X.ex\/X.s₀.heap.objs.size<=b)/\(∀ x c,X.env.cells.lookup x=some c->c ≠ b)/\∀ p ∈ X.pn++pins,p.1 ≠ b
theorem Inv.jB {X:Cx} {pins:List (Addr × Obj)} {σ:St} {H H':Hp} {s:Shared} {b:Addr} (I:Inv X pins σ H s) (hb:s.heap.objs.size<=b) (hn:H' b=none):gx X pins H' b:=by
 refine ⟨hn,Nat.ne_of_gt (Nat.lt_of_lt_of_le I.lt hb),I.ri hb,.inr (Nat.le_trans I.sz hb),λx c e z=>?_,λp hp z=>?_⟩
 · obtain ⟨v,q⟩:=I.cell x c e
   exact absurd (Nat.lt_of_lt_of_le q.lt (by rw [z]; exact hb)) (Nat.lt_irrefl _)
 · exact absurd (Nat.lt_of_lt_of_le (Heap.lt_size (I.pin p hp).1) (by rw [z]; exact hb)) (Nat.lt_irrefl _)
structure Turn (P:Program) (w:World) (K:PySem.W.Frag) (tg:Expr) (J:It) (fp:List Addr) (it:Addr) (tn:Nat->Heap->Prop):Prop where
 mem:it ∈ fp
 obj:∀ i h,tn i h->∀ b ∈ fp,∃ o,h.get? b=some o/\∀ v,o.data ≠ .cell v
 keep:∀ i h h',tn i h->(∀ b ∈ fp,∀ o,h.get? b=some o->h'.get? b=some o)->tn i h'
 item:∀ (X:Cx),X.prog=P->X.w=w->X.K=K->X.calm=true->∀ (i:Nat) (pins:List (Addr × Obj)) (s:Shared) (σ:St) (H:Hp) (E:Value->Shared->Prop),Inv X pins σ H s->(∀ b ∈ fp,gx X pins H b)->tn i s.heap->J.go i H ->
   wpAny (model P w) X.A (pyNext (.ref it)) (λr s1=>∃ u,r=some u /\
     wpAny (model P w) X.A (letOwnedTupleGo tg (.ref it) u) (λ_ s2=>∃ x H',Inv X pins σ H' s2/\RelV x u/\J.yld i H x H'/\tn (i + 1) s2.heap/\∀ b ∈ fp,H' b=none) E s1) E s
 done:∀ (X:Cx),X.prog=P->X.w=w->X.K=K->X.calm=true->∀ (i:Nat) (pins:List (Addr × Obj)) (s:Shared) (σ:St) (H:Hp) (E:Value->Shared->Prop),Inv X pins σ H s->(∀ b ∈ fp,gx X pins H b)->tn i s.heap->J.stop i H ->
   wpAny (model P w) X.A (pyNext (.ref it)) (λr s1=>r=none/\Inv X pins σ H s1) E s
 self:∀ (A:Around) (i:Nat) (s:Shared) (Q:Value->Shared->Prop) (E:Value->Shared->Prop),tn i s.heap->Q (.ref it) s->wpAny (model P w) A (pyIter (.ref it)) Q E s
noncomputable abbrev TI:=St->Hp->(It->Hp->Prop)->Prop
noncomputable def PIE (X:Cx) (pins:List (Addr × Obj)) (σ:St) (tg:Expr) (R:It->Hp->Prop) (itv:Value) (s2:Shared):Prop:=
 ∃ (it:Addr) (fp:List Addr) (tn:Nat->Heap->Prop) (J:It) (H':Hp),itv=.ref it/\Inv X pins σ H' s2/\Turn X.prog X.w X.K tg J fp it tn/\tn 0 s2.heap/\(∀ b ∈ fp,gx X pins H' b)/\R J H'
noncomputable def PI (X:Cx) (tg iter:Expr) (wi:TI):Prop:=
 ∀ (pins:List (Addr × Obj)) (s:Shared) (σ:St) (H:Hp) (R:It->Hp->Prop),Inv X pins σ H s->wi σ H R ->
   wpAny (model X.prog X.w) X.A (eval iter X.env) (λv s1=>wpAny (model X.prog X.w) X.A (pyIter v) (PIE X pins σ tg R) X.xe s1) X.xe s
theorem mv {M:Model} {A:Around} {E:Value->Shared->Prop} {s:Shared} {tg:Expr} {it:Addr} {u:Value} {o:Obj} {n:String} {vs:Array Value} {Q:Unit->Shared->Prop} (ho:s.heap.get? it=some o) (hc:o.cls=.type n) (hd:o.data=.fields vs)
   (hn:["enumerate","zip","dict_itemiterator","dict_reverseitemiterator","odict_iterator","itertools.zip_longest","itertools.pairwise"].contains n=false) (hQ:Q () s):wpAny M A (letOwnedTupleGo tg (.ref it) u) Q E s:=by
 unfold letOwnedTupleGo
 cases tg <;> first
   | exact wpAny_pure hQ
   | (cases u <;> first
       | exact wpAny_pure hQ
       | (refine wpAny_bind (wpAny_load ho ?_)
          rw [hc,hd]
          show wpAny M A (if (["enumerate","zip","dict_itemiterator","dict_reverseitemiterator","odict_iterator","itertools.zip_longest","itertools.pairwise"].contains n && vs[0]? == some (rawInt _))=true then _ else _) Q E s
          rw [if_neg (by intro h; rw [hn,Bool.false_and] at h; cases h)]
          exact wpAny_pure hQ))
noncomputable def Itl (K:PySem.W.Frag) (a:Addr):It:=
 ⟨λi H=>∃ xs x,SqL K H a xs/\xs[i]?=some x,λi H x H'=>H'=H/\∀ xs,SqL K H a xs->xs[i]?=some x,λi H=>∃ xs,SqL K H a xs/\xs.length<=i⟩
noncomputable def Itr (lo:Int) (n:Nat):It:=⟨λi _=>i < n,λi H x H'=>H'=H/\x=.int (lo + i),λi _=>n<=i⟩
theorem ly {P:Program} {w:World} {K:PySem.W.Frag} {tg:Expr} (a it:Addr):Turn P w K tg (Itl K a) [it] it (λi h=>h.IsListIter it a i) where
 mem:=by simp
 obj:=λi h st b hb=>by
   have e:b=it:=by simpa using hb
   subst e
   obtain ⟨o,e,c,d⟩:=st
   exact ⟨o,e,λv z=>by rw [d] at z; cases z⟩
 keep:=λi h h' st k=>st.at λo e=>k it (by simp) o e
 item:=by
   intro X hP hw hK hc i pins s σ H E I hf st hg
   subst hP hw hK
   obtain ⟨xs,x,hq,hx⟩:=hg
   obtain ⟨its,rv,p,hz⟩:=I.list hq
   obtain ⟨u,hu,ru⟩:=rv.get hx
   obtain ⟨f0,f1,f2,f3,f4,f5⟩:=hf it (by simp)
   refine wpAny_pyNext_list_item st p.isList (x:=u) (by simpa using hu) λh' st' sb=>?_
   have I1:Inv X pins σ H { s with heap:=h' }:=I.turned (t':=s.toks) (λb o hb e=>(sb.2 b hb).trans e) f0 f1 f3 f4 f5
   obtain ⟨o,e,c,d⟩:=id st'
   exact ⟨u,rfl,mv (s:={ s with heap:=h' }) e c d (by decide) ⟨x,H,I1,ru,⟨rfl,λys hy=>by rw [I.cL hy hq]; exact hx⟩,st',λb hb=>(hf b hb).1⟩⟩
 done:=by
   intro X hP hw hK hc i pins s σ H E I hf st hg
   subst hP hw hK
   obtain ⟨xs,hq,hx⟩:=hg
   obtain ⟨its,rv,p,hz⟩:=I.list hq
   obtain ⟨f0,f1,f2,f3,f4,f5⟩:=hf it (by simp)
   have hl:=rv.length
   exact wpAny_pyNext_list_end (I.ok.hd hc) st p.isList (by simp; omega) λh' eb=>⟨rfl,I.turned (t':=s.toks) (λb o hb e=>eb b o hb e) f0 f1 f3 f4 f5⟩
 self:=λ_ _ _ _ _ st h=>wpAny_pyIter_listiter st h
theorem jI {P:Program} {w:World} {K:PySem.W.Frag} {tg:Expr} (it:Addr) (lo:Int) (n:Nat):Turn P w K tg (Itr lo n) [it] it (λi h=>IsRangeIter h it (lo + (i:Nat) * 1) ((n:Int) - (i:Nat)) 1) where
 mem:=by simp
 obj:=λi h st b hb=>by
   have e:b=it:=by simpa using hb
   subst e
   exact ⟨_,st,λv z=>by
     have z':Data.fields _=Data.cell v:=z
     cases z'⟩
 keep:=λi h h' st k=>k it (by simp) _ st
 item:=by
   intro X hP hw hK hc i pins s σ H E I hf st hg
   subst hP hw hK
   obtain ⟨f0,f1,f2,f3,f4,f5⟩:=hf it (by simp)
   have W:=Walks.range (prog:=X.prog) (w:=X.w) (I.ok.hd hc) it lo 1 n
   refine W.item i s _ _ hg st λv h' tk hv st' kk=>?_
   obtain ⟨t,rfl⟩:=hv
   have I1:Inv X pins σ H { s with heap:=h',toks:=tk }:=I.turned (λb o hb e=>kk b o (by simpa using hb) e) f0 f1 f3 f4 f5
   refine ⟨_,rfl,mv (s:={ s with heap:=h',toks:=tk }) (n:="range_iterator") st' rfl rfl (by decide) ⟨.int (lo + i),H,I1,⟨t,?_⟩,⟨rfl,rfl⟩,st',λb hb=>(hf b hb).1⟩⟩
   rw [Int.mul_one]
 done:=by
   intro X hP hw hK hc i pins s σ H E I hf st hg
   subst hP hw hK
   obtain ⟨f0,f1,f2,f3,f4,f5⟩:=hf it (by simp)
   exact wpAny_pyNext_range_end (I.ok.hd hc) st (by have:n<=i:=hg; omega) λh' eb=>⟨rfl,I.turned (t':=s.toks) (λb o hb e=>eb b o hb e) f0 f1 f3 f4 f5⟩
 self:=λ_ _ _ _ _ st h=>wpAny_pyIter_rangeiter st h
end L2
namespace L2
open PySem PySem.Spec PyProof.Rows
section
variable {X:Cx} {tg:Expr}
noncomputable def qu (K:PySem.W.Frag) (tl:TE):TI:=λσ H R=>tl σ H λx H1=>∃ a,x=.ref a/\(∃ xs,SqL K H1 a xs)/\R (Itl K a) H1
theorem nA {l:Expr} {tl:TE} (hl:PE X l tl):PI X tg l (qu X.K tl):=by
 intro pins s σ H R I h
 refine thn (hl pins s σ H _ I h) λv s1 ⟨x,H1,I1,r1,q1⟩=>?_
 obtain ⟨a,e,⟨xs,hq⟩,q⟩:=q1
 subst e
 cases r1
 obtain ⟨its,rv,p,hz⟩:=I1.list hq
 refine wpAny_pyIter_list p.isList ?_
 refine ⟨s1.heap.objs.size,[s1.heap.objs.size],_,_,H1,rfl,I1.kept (t':=s1.toks) λb o e=>Heap.get?_push_of_some _ e,ly a _,⟨_,Heap.get?_push_size _ rfl,rfl,rfl⟩,λb hb=>?_,q⟩
 have e:b=s1.heap.objs.size:=by simpa using hb
 subst e
 exact I1.jB (Nat.le_refl _) (I1.hok.fresh (Nat.le_refl _))
theorem jb {pins:List (Addr × Obj)} {σ:St} {H:Hp} {s:Shared} {R:It->Hp->Prop} {E:Value->Shared->Prop} {lo hi:Int} {t u v:Tok} {tk:Nat} (I:Inv X pins σ H s) (h1:-(2 ^ 62)<=lo) (h2:lo < 2 ^ 62) (h3:-(2 ^ 62)<=hi) (h4:hi < 2 ^ 62)
   (q:R (Itr lo (hi - lo).toNat) H):wpAny (model X.prog X.w) X.A (pyIter (.ref s.heap.objs.size)) (PIE X pins σ tg R) E { s with heap:=s.heap.push { cls:=.type "range",data:=.fields #[.int lo t,.int hi u,.int 1 v] },toks:=tk }:=by
 refine wpAny_pyIter_range (IsRange.new ..) (small_one h1 h2 h3 h4) ?_
 have I1:Inv X pins σ H { s with heap:=s.heap.push { cls:=.type "range",data:=.fields #[.int lo t,.int hi u,.int 1 v] },toks:=tk }:=I.kept λb o e=>Heap.get?_push_of_some _ e
 refine ⟨(s.heap.push { cls:=.type "range",data:=.fields #[.int lo t,.int hi u,.int 1 v] }).objs.size,[(s.heap.push { cls:=.type "range",data:=.fields #[.int lo t,.int hi u,.int 1 v] }).objs.size],_,_,H,rfl,
   I1.kept (t':=tk) λb o e=>Heap.get?_push_of_some _ e,jI _ lo (hi - lo).toNat,?_,λb hb=>?_,q⟩
 · have e1:lo + ((0:Nat):Int) * 1=lo:=by simp
   have e2:(((hi - lo).toNat:Nat):Int) - ((0:Nat):Int)=Builtin.Range.rangeSize lo hi 1:=by rw [rangeSize_one]; split <;> omega
   show IsRangeIter _ _ (lo + ((0:Nat):Int) * 1) ((((hi - lo).toNat:Nat):Int) - ((0:Nat):Int)) 1
   rw [e1,e2]
   exact Heap.get?_push_size _ rfl
 · have e:b=(s.heap.push { cls:=.type "range",data:=.fields #[.int lo t,.int hi u,.int 1 v] }).objs.size:=by simpa using hb
   subst e
   exact I1.jB (Nat.le_refl _) (I1.hok.fresh (Nat.le_refl _))
noncomputable def qG (ta:TA):TI:=λσ H R=>ta σ H λvs H1=>∃ j:Int,vs=[.int j]/\-(2 ^ 62)<=j/\j < 2 ^ 62/\R (Itr 0 j.toNat) H1
noncomputable def qv (ta:TA):TI:=λσ H R=>ta σ H λvs H1=>∃ i j:Int,vs=[.int i,.int j]/\(-(2 ^ 62)<=i/\i < 2 ^ 62/\-(2 ^ 62)<=j/\j < 2 ^ 62)/\R (Itr i (j - i).toNat) H1
theorem kT {a:Expr} {ta:TA} {p pos:Pos} (hg:Gl X "range") (hm:X.mg "range" = none) (ha:PA X [a] ta) (hs:starEach [a] X.env=[(false,eval a X.env)]:=by rfl):PI X tg (.Call (.Name "range" p) [a] [] pos) (qG ta):=by
 intro pins s σ H R I h
 refine Call_ (cN I hg hm boot_range (PyProof.Rows.callWith_type1 (thn (ha pos pins s σ H _ I h) λus s1 ⟨vs,H1,I1,r1,q1⟩=>?_) hs rfl))
 obtain ⟨j,e,q1,q2,q⟩:=q1
 subst e
 cases r1 with
 | cons r rr=>
   cases rr
   obtain ⟨t,rfl⟩:=r
   exact call_range_1 (jb I1 (by omega) (by omega) q1 q2 (by simpa using q))
theorem kS {a b:Expr} {ta:TA} {p pos:Pos} (hg:Gl X "range") (hm:X.mg "range" = none) (ha:PA X [a,b] ta) (hs:starEach [a,b] X.env=[(false,eval a X.env),(false,eval b X.env)]:=by rfl) (hs2:starEach [b] X.env=[(false,eval b X.env)]:=by rfl) :
   PI X tg (.Call (.Name "range" p) [a,b] [] pos) (qv ta):=by
 intro pins s σ H R I h
 refine Call_ (cN I hg hm boot_range (PyProof.Rows.callWith_type1 (thn (ha pos pins s σ H _ I h) λus s1 ⟨vs,H1,I1,r1,q1⟩=>?_) (by rw [hs,hs2]) (by rw [hs2]; rfl)))
 obtain ⟨i,j,e,⟨q1,q2,q3,q4⟩,q⟩:=q1
 subst e
 cases r1 with
 | cons r rr=>
   cases rr with
   | cons r' rr=>
     cases rr
     obtain ⟨t,rfl⟩:=r
     obtain ⟨t',rfl⟩:=r'
     exact call_range_2 (jb I1 q1 q2 q3 q4 q)
noncomputable def ro (wi:TI) (g:TG) (tb:TS):TS:=λD σ H=>wi σ H λJ H1=>∃ W:Nat->Nat->St->Hp->Prop,(∃ m,W 0 m σ H1)/\∀ i m σ H,W i m σ H ->
 (J.stop i H/\D.nx σ H)\/(J.go i H/\∃ N:St->Hp->Prop,(∀ σ' H',N σ' H'->∃ m',m' < m/\W (i + 1) m' σ' H')/\∀ x H',J.yld i H x H'->g x σ H' λσ2 H2=>tb { D with nx:=N,ct:=N,bk:=D.nx } σ2 H2)
noncomputable def dB (fp:List Addr) (h:Heap):List (Addr × Obj):=fp.filterMap λb=>(h.get? b).map λo=>(b,o)
theorem a7 {fp:List Addr} {h:Heap} {b:Addr} {o:Obj} (hb:b ∈ fp) (e:h.get? b=some o):(b,o) ∈ dB fp h:=List.mem_filterMap.mpr ⟨b,hb,by rw [e]; rfl⟩
theorem kW {fp:List Addr} {h:Heap} {p:Addr × Obj} (hp:p ∈ dB fp h):p.1 ∈ fp/\h.get? p.1=some p.2:=by
 obtain ⟨b,hb,e⟩:=List.mem_filterMap.mp hp
 cases q:h.get? b with
 | none=>rw [q] at e; cases e
 | some o=>
   rw [q] at e
   have e':(b,o)=p:=Option.some.inj e
   subst e'
   exact ⟨hb,q⟩
theorem Inv.pinned {pins:List (Addr × Obj)} {σ:St} {H:Hp} {s:Shared} {fp:List Addr} (I:Inv X pins σ H s) (hf:∀ b ∈ fp,gx X pins H b) (ho:∀ b ∈ fp,∃ o,s.heap.get? b=some o/\∀ v,o.data ≠ .cell v):Inv X (pins++dB fp s.heap) σ H s:=
 I.kj λp hp=>(List.mem_append.mp hp).elim (λz=>I.pin p (List.mem_append_right _ z)) λz=>by
   obtain ⟨hb,e⟩:=kW z
   obtain ⟨f0,f1,f2,_⟩:=hf p.1 hb
   obtain ⟨o,e',d⟩:=ho p.1 hb
   rw [e] at e'; cases e'
   exact ⟨e,f0,f1,f2,d⟩
theorem Inv.b8 {pins pl:List (Addr × Obj)} {σ:St} {H:Hp} {s:Shared} (I:Inv X (pins++pl) σ H s):Inv X pins σ H s:=I.kj λp hp=>I.pin p (List.mem_append_right _ (List.mem_append_left _ hp))
theorem pg {iter:Expr} {body:List Stmt} {wi:TI} {g:TG} {tb:TS} {pos:Pos} (hp:PassesOwn (model X.prog X.w) X.A X.env X.xe) (hc:X.calm=true) (hi:PI X tg iter wi) (hg:PG X tg g) (hb:PSs X body tb)
   (hs:∀ x,foldedSetIterable iter X.env x=pure x:=by intro _; rfl):PS X (.For tg iter body [] pos) (ro wi g tb):=by
 intro pins s σ H D I h
 refine wpAny_For (thn (hi pins s σ H _ I h) λv s1 h1=>thn h1 λitv s2 h2=>?_) hs
 obtain ⟨it,fp,tn,J,H2,e,I2,T,st2,f2,W,⟨m0,w0⟩,turn⟩:=h2
 subst e
 have stat:∀ {H':Hp},(∀ b ∈ fp,H' b=none)->∀ b ∈ fp,gx X pins H' b:=λhn b hb=>⟨hn b hb,(f2 b hb).2⟩
 refine codeAny_forLoop_any (λn s'=>∃ i σ' H',Inv X pins σ' H' s'/\tn i s'.heap/\(∀ b ∈ fp,H' b=none)/\W i n σ' H') ?_ m0 ⟨0,σ,H2,I2,st2,λb hb=>(f2 b hb).1,w0⟩
 rintro n s3 ⟨i,σ3,H3,I3,st3,fr3,w3⟩
 rcases turn i n σ3 H3 w3 with ⟨stop,qn⟩ | ⟨go,N,hN,step⟩
 · refine wpAny_passesOwn hp (thn (T.done X rfl rfl rfl hc i pins s3 σ3 H3 X.xe I3 (stat fr3) st3 stop) λr s4 ⟨hr,I4⟩=>?_)
   subst hr
   exact wpAny_execs_nil ⟨σ3,H3,I4,qn⟩
 · refine wpAny_passesOwn hp (thn (T.item X rfl rfl rfl hc i pins s3 σ3 H3 X.xe I3 (stat fr3) st3 go) λr s4 ⟨u,hr,h4⟩=>?_)
   subst hr
   refine wpAny_passesOwn hp (thn h4 λ_ s5 ⟨x,H5,I5,r5,y5,st5,fr5⟩=>?_)
   have I5':=I5.pinned (stat fr5) (T.obj _ _ st5)
   refine wpAny_passesOwn hp (thn (hg _ s5 σ3 H5 x u _ I5' r5 (step x H5 y5)) λ_ s6 ⟨σ6,H6,I6,q6⟩=>?_)
   refine wpAny_passesOwn hp (thn (hb _ s6 σ6 H6 _ I6 q6) λf s7 q7=>?_)
   have again:∀ {σ7:St} {H7:Hp},Inv X (pins++dB fp s5.heap) σ7 H7 s7->N σ7 H7->∃ m,m < n/\∃ i σ' H',Inv X pins σ' H' s7/\tn i s7.heap/\(∀ b ∈ fp,H' b=none)/\W i m σ' H':=λ{σ7 H7} I7 n7=>by
     obtain ⟨m',hm,w7⟩:=hN σ7 H7 n7
     refine ⟨m',hm,i + 1,σ7,H7,I7.b8,T.keep _ _ _ st5 λb hb o e=>(I7.pin (b,o) (List.mem_append_right _ (List.mem_append_right _ (a7 hb e)))).1,λb hb=>?_,w7⟩
     obtain ⟨o,e,d⟩:=T.obj _ _ st5 b hb
     exact (I7.pin (b,o) (List.mem_append_right _ (List.mem_append_right _ (a7 hb e)))).2.1
   cases f with
   | next=>obtain ⟨σ7,H7,I7,n7⟩:=q7; exact again I7 n7
   | cont=>obtain ⟨σ7,H7,I7,n7⟩:=q7; exact again I7 n7
   | brk=>obtain ⟨σ7,H7,I7,q7⟩:=q7; exact ⟨σ7,H7,I7.b8,q7⟩
   | ret v=>obtain ⟨x7,σ7,H7,I7,r7,q7⟩:=q7; exact ⟨x7,σ7,H7,I7.b8,r7,q7⟩
end
end L2
namespace L2
open PySem PySem.Spec PyProof.Rows
noncomputable abbrev R2:=V->V->Hp->VK->Prop
noncomputable def OpR (X:Cx) (f:Value->Value->Sem Value) (r:R2):Prop:=
 ∀ (pins:List (Addr × Obj)) (s:Shared) (σ:St) (H:Hp) (x y:V) (v u:Value) (Q:VK),Inv X pins σ H s->RelV x v->RelV y u->r x y H Q ->
   wpAny (model X.prog X.w) X.A (f v u) (EP X pins σ Q) X.xe s
noncomputable def UnR (X:Cx) (f:Value->Sem Value) (r:V->Hp->VK->Prop):Prop:=
 ∀ (pins:List (Addr × Obj)) (s:Shared) (σ:St) (H:Hp) (x:V) (v:Value) (Q:VK),Inv X pins σ H s->RelV x v->r x H Q ->
   wpAny (model X.prog X.w) X.A (f v) (EP X pins σ Q) X.xe s
noncomputable def df (X:Cx) (f:Value) (r:List V->Hp->VK->Prop):Prop:=
 ∀ (pins:List (Addr × Obj)) (s:Shared) (σ:St) (H:Hp) (xs:List V) (us:List Value) (Q:VK),Inv X pins σ H s->Vals xs us->r xs H Q ->
   wpAny (model X.prog X.w) X.A (call f us) (EP X pins σ Q) X.xe s
noncomputable def tOp (r:R2) (ta tb:TE):TE:=λσ H Q=>ta σ H λx H1=>tb σ H1 λy H2=>r x y H2 Q
noncomputable def tUn (r:V->Hp->VK->Prop) (ta:TE):TE:=λσ H Q=>ta σ H λx H1=>r x H1 Q
noncomputable def rI (C:Int->Int->Prop) (g:Int->Int->V):R2:=λx y H Q=>∃ i j,x=.int i/\y=.int j/\C i j/\Q (g i j) H
noncomputable def rI0 (g:Int->Int->V):R2:=λx y H Q=>∃ i j,x=.int i/\y=.int j/\Q (g i j) H
noncomputable def rU (g:Int->V):V->Hp->VK->Prop:=λx H Q=>∃ i,x=.int i/\Q (g i) H
section
variable {X:Cx} {a b c:Expr} {ta tb tc:TE} {pos:Pos}
theorem pq (ha:PE X a ta) (hb:PE X b tb) {pins:List (Addr × Obj)} {s:Shared} {σ:St} {H:Hp} {R:V->V->Hp->Prop} (I:Inv X pins σ H s)
   (h:ta σ H λx H1=>tb σ H1 λy H2=>R x y H2) {Q:Value->Shared->Prop} {f:Value->Value->Sem Value}
   (hf:∀ v u s2 x y H2,Inv X pins σ H2 s2->RelV x v->RelV y u->R x y H2->wpAny (model X.prog X.w) X.A (f v u) Q X.xe s2) :
   wpAny (model X.prog X.w) X.A (eval a X.env) (λv s₁=>wpAny (model X.prog X.w) X.A (eval b X.env) (λu s₂=>wpAny (model X.prog X.w) X.A (f v u) Q X.xe s₂) X.xe s₁) X.xe s:=by
 refine thn (ha pins s σ H _ I h) λv s1 ⟨x,H1,I1,r1,q1⟩=>?_
 refine thn (hb pins s1 σ H1 _ I1 q1) λu s2 ⟨y,H2,I2,r2,q2⟩=>?_
 exact hf v u s2 x y H2 I2 r1 r2 q2
theorem cy {op:Operator} {r:R2} (ho:OpR X (binaryOp op) r) (ha:PE X a ta) (hb:PE X b tb):PE X (.BinOp a op b pos) (tOp r ta tb):=by
 intro pins s σ H Q I h
 exact wpAny_BinOp (pq ha hb I h λv u s2 x y H2 I2 rx ry q=>ho pins s2 σ H2 x y v u Q I2 rx ry q)
theorem qM {op:UnaryOp} {r:V->Hp->VK->Prop} (ho:UnR X (unaryOp op) r) (ha:PE X a ta):PE X (.UnaryOp op a pos) (tUn r ta):=by
 intro pins s σ H Q I h
 exact UnaryOp_ (thn (ha pins s σ H _ I h) λv s1 ⟨x,H1,I1,r1,q1⟩=>ho pins s1 σ H1 x v Q I1 r1 q1)
theorem opI {f:Value->Value->Sem Value} {C:Int->Int->Prop} {g:Int->Int->Int}
   (rule:∀ (i j:Int) (t u:Tok) (s:Shared) (Q:Value->Shared->Prop) (E:Value->Shared->Prop),C i j->Q (.int (g i j) s.toks) { s with toks:=s.toks + 1 }->wpAny (model X.prog X.w) X.A (f (.int i t) (.int j u)) Q E s) :
   OpR X f (rI C λi j=>.int (g i j)):=by
 intro pins s σ H x y v u Q I rx ry h
 obtain ⟨i,j,rfl,rfl,hc,q⟩:=h
 obtain ⟨t,rfl⟩:=rx
 obtain ⟨t',rfl⟩:=ry
 exact rule i j t t' s _ _ hc ⟨.int (g i j),H,I.tok _,⟨_,rfl⟩,q⟩
theorem nN {f:Value->Value->Sem Value} {g:Int->Int->Int}
   (rule:∀ (i j:Int) (t u:Tok) (s:Shared) (Q:Value->Shared->Prop) (E:Value->Shared->Prop),Q (.int (g i j) s.toks) { s with toks:=s.toks + 1 }->wpAny (model X.prog X.w) X.A (f (.int i t) (.int j u)) Q E s) :
   OpR X f (rI0 λi j=>.int (g i j)):=by
 intro pins s σ H x y v u Q I rx ry h
 obtain ⟨i,j,rfl,rfl,q⟩:=h
 obtain ⟨t,rfl⟩:=rx
 obtain ⟨t',rfl⟩:=ry
 exact rule i j t t' s _ _ ⟨.int (g i j),H,I.tok _,⟨_,rfl⟩,q⟩
theorem mX {f:Value->Value->Sem Value} {g:Int->Int->Bool}
   (rule:∀ (i j:Int) (t u:Tok) (s:Shared) (Q:Value->Shared->Prop) (E:Value->Shared->Prop),Q (.bool (g i j)) s->wpAny (model X.prog X.w) X.A (f (.int i t) (.int j u)) Q E s) :
   OpR X f (rI0 λi j=>.bl (g i j)):=by
 intro pins s σ H x y v u Q I rx ry h
 obtain ⟨i,j,rfl,rfl,q⟩:=h
 obtain ⟨t,rfl⟩:=rx
 obtain ⟨t',rfl⟩:=ry
 exact rule i j t t' s _ _ ⟨.bl (g i j),H,I,rfl,q⟩
noncomputable def mR (i j:Int):Prop:=0<=j/\j<=1000000/\i.natAbs < 2 ^ 64
theorem jK (k:Nat):(0:Int)<=2 ^ k:=by
 rw [two_pow_cast]
 exact Int.natCast_nonneg _
theorem iK:OpR X (binaryOp .Add) (rI0 λi j=>.int (i + j)):=nN λ_ _ _ _ _ _ _ q=>add_int q
theorem pF:OpR X (binaryOp .Sub) (rI0 λi j=>.int (i - j)):=nN λ_ _ _ _ _ _ _ q=>sub_int q
theorem kF:OpR X (binaryOp .Mod) (rI (λ_ j=>j ≠ 0) λi j=>.int (i.fmod j)):=opI λ_ _ _ _ _ _ _ hc q=>mod_int' hc q
theorem oO:OpR X (binaryOp .Pow) (rI mR λi j=>.int (i ^ j.toNat)):=opI λ_ _ _ _ _ _ _ hc q=>pow_int_small hc.1 hc.2.1 hc.2.2 q
theorem pJ:OpR X (binaryOp .LShift) (rI mR λi j=>.int (i * 2 ^ j.toNat)):=opI λ_ _ _ _ _ _ _ hc q=>lshift_int_small hc.1 hc.2.1 hc.2.2 q
theorem oG:OpR X (binaryOp .RShift) (rI (λ_ j=>0<=j) λi j=>.int (i / 2 ^ j.toNat)):=opI λi j _ _ _ _ _ hc q=>
 rshift_int hc (by rw [Int.fdiv_eq_ediv_of_nonneg i (jK _)]; exact q)
theorem oR:OpR X (binaryOp .BitAnd) (rI0 λi j=>.int (Builtin.bitAnd i j)):=nN λ_ _ _ _ _ _ _ q=>and_int q
theorem qy:OpR X (binaryOp .BitOr) (rI0 λi j=>.int (Builtin.bitOr i j)):=nN λ_ _ _ _ _ _ _ q=>or_int q
theorem unI {f:Value->Sem Value} {g:Int->Int}
   (rule:∀ (i:Int) (t:Tok) (s:Shared) (Q:Value->Shared->Prop) (E:Value->Shared->Prop),Q (.int (g i) s.toks) { s with toks:=s.toks + 1 }->wpAny (model X.prog X.w) X.A (f (.int i t)) Q E s) :
   UnR X f (rU λi=>.int (g i)):=by
 intro pins s σ H x v Q I rx h
 obtain ⟨i,rfl,q⟩:=h
 obtain ⟨t,rfl⟩:=rx
 exact rule i t s _ _ ⟨.int (g i),H,I.tok _,⟨_,rfl⟩,q⟩
theorem pB:UnR X (unaryOp .USub) (rU λi=>.int (-i)):=unI λ_ _ _ _ _ q=>neg_int q
end
noncomputable def qH:V->V->Bool
 | .non,.non=>true | .non,.int _=>true | .int _,.non=>true | .non,.bl _=>true | .bl _,.non=>true | .non,.str _=>true | .str _,.non=>true
 | .int _,.int _=>true | .bl _,.bl _=>true | .str _,.str _=>true | .byt _,.byt _=>true
 | .int _,.str _=>true | .str _,.int _=>true | .bl _,.str _=>true | .str _,.bl _=>true
 | _,_=>false
noncomputable def rEq:R2:=λx y H Q=>qH x y=true/\Q (.bl (decide (x=y))) H
noncomputable def rNe:R2:=λx y H Q=>qH x y=true/\Q (.bl (!decide (x=y))) H
theorem jY {i j:Int}:decide (V.int i=V.int j)=(i == j):=by
 rw [Bool.eq_iff_iff]
 simp
theorem lA {i j:Bool}:decide (V.bl i=V.bl j)=(i == j):=by
 rw [Bool.eq_iff_iff]
 simp
theorem kh {i j:Str}:decide (V.str i=V.str j)=(i == j):=by
 rw [Bool.eq_iff_iff]
 simp
theorem jT {i j:Array UInt8}:decide (V.byt i=V.byt j)=(i.toList == j.toList):=by
 rw [Bool.eq_iff_iff]
 cases i
 cases j
 simp
section
variable {X:Cx} {a b c:Expr} {ta tb tc:TE} {pos:Pos}
theorem aG {pins:List (Addr × Obj)} {σ:St} {H:Hp} {s:Shared} {Q:VK} {k k':Bool} (I:Inv X pins σ H s) (q:Q (.bl k) H) (e:k=k'):EP X pins σ Q (.bool k') s:=by
 subst e
 exact ⟨.bl k,H,I,rfl,q⟩
theorem pW:OpR X (compareOp .Eq) rEq:=by
 intro pins s σ H x y v u Q I rx ry h
 obtain ⟨hs,q⟩:=h
 cases x with
 | non=>
   cases rx
   cases y with
   | non=>cases ry; exact PySem.EqNone.eq_none_none (aG I q (by simp))
   | bl j=>cases ry; exact PySem.EqNone.eq_none_bool (aG I q (by simp))
   | int j=>obtain ⟨t',rfl⟩:=ry; exact PySem.EqNone.eq_none_int (aG I q (by simp))
   | str j=>obtain ⟨t',rfl⟩:=ry; exact PySem.EqNone.eq_none_str (aG I q (by simp))
   | _=>exact absurd (show false=true from hs) Bool.false_ne_true
 | bl i=>
   cases rx
   cases y with
   | non=>cases ry; exact PySem.EqNone.eq_bool_none (aG I q (by simp))
   | bl j=>cases ry; exact eq_bool (aG I q lA)
   | str j=>obtain ⟨t',rfl⟩:=ry; exact PySem.EqMixed.eq_bool_str (aG I q (by simp))
   | _=>exact absurd (show false=true from hs) Bool.false_ne_true
 | int i=>
   obtain ⟨t,rfl⟩:=rx
   cases y with
   | non=>cases ry; exact PySem.EqNone.eq_int_none (aG I q (by simp))
   | int j=>obtain ⟨t',rfl⟩:=ry; exact eq_int (aG I q jY)
   | str j=>obtain ⟨t',rfl⟩:=ry; exact PySem.EqMixed.eq_int_str (aG I q (by simp))
   | _=>exact absurd (show false=true from hs) Bool.false_ne_true
 | str i=>
   obtain ⟨t,rfl⟩:=rx
   cases y with
   | non=>cases ry; exact PySem.EqNone.eq_str_none (aG I q (by simp))
   | bl j=>cases ry; exact PySem.EqMixed.eq_str_bool (aG I q (by simp))
   | int j=>obtain ⟨t',rfl⟩:=ry; exact PySem.EqMixed.eq_str_int (aG I q (by simp))
   | str j=>obtain ⟨t',rfl⟩:=ry; exact eq_str (aG I q kh)
   | _=>exact absurd (show false=true from hs) Bool.false_ne_true
 | byt i=>
   obtain ⟨t,rfl⟩:=rx
   cases y with
   | byt j=>obtain ⟨t',rfl⟩:=ry; exact PySem.W.eq_bytes (aG I q jT)
   | _=>exact absurd (show false=true from hs) Bool.false_ne_true
 | _=>cases y <;> exact absurd (show false=true from hs) Bool.false_ne_true
theorem qh:OpR X (compareOp .NotEq) rNe:=by
 intro pins s σ H x y v u Q I rx ry h
 obtain ⟨hs,q⟩:=h
 cases x with
 | non=>
   cases rx
   cases y with
   | non=>cases ry; exact PySem.EqNone.ne_none_none (aG I q (by simp))
   | bl j=>cases ry; exact PySem.EqNone.ne_none_bool (aG I q (by simp))
   | int j=>obtain ⟨t',rfl⟩:=ry; exact PySem.EqNone.ne_none_int (aG I q (by simp))
   | str j=>obtain ⟨t',rfl⟩:=ry; exact PySem.EqNone.ne_none_str (aG I q (by simp))
   | _=>exact absurd (show false=true from hs) Bool.false_ne_true
 | bl i=>
   cases rx
   cases y with
   | non=>cases ry; exact PySem.EqNone.ne_bool_none (aG I q (by simp))
   | bl j=>cases ry; exact ne_bool (aG I q (congrArg not lA))
   | str j=>obtain ⟨t',rfl⟩:=ry; exact PySem.EqMixed.ne_bool_str (aG I q (by simp))
   | _=>exact absurd (show false=true from hs) Bool.false_ne_true
 | int i=>
   obtain ⟨t,rfl⟩:=rx
   cases y with
   | non=>cases ry; exact PySem.EqNone.ne_int_none (aG I q (by simp))
   | int j=>obtain ⟨t',rfl⟩:=ry; exact ne_int (aG I q (congrArg not jY))
   | str j=>obtain ⟨t',rfl⟩:=ry; exact PySem.EqMixed.ne_int_str (aG I q (by simp))
   | _=>exact absurd (show false=true from hs) Bool.false_ne_true
 | str i=>
   obtain ⟨t,rfl⟩:=rx
   cases y with
   | non=>cases ry; exact PySem.EqNone.ne_str_none (aG I q (by simp))
   | bl j=>cases ry; exact PySem.EqMixed.ne_str_bool (aG I q (by simp))
   | int j=>obtain ⟨t',rfl⟩:=ry; exact PySem.EqMixed.ne_str_int (aG I q (by simp))
   | str j=>obtain ⟨t',rfl⟩:=ry; exact ne_str (aG I q (congrArg not kh))
   | _=>exact absurd (show false=true from hs) Bool.false_ne_true
 | byt i=>
   obtain ⟨t,rfl⟩:=rx
   cases y with
   | byt j=>obtain ⟨t',rfl⟩:=ry; exact PySem.W.ne_bytes (aG I q (congrArg not jT))
   | _=>exact absurd (show false=true from hs) Bool.false_ne_true
 | _=>cases y <;> exact absurd (show false=true from hs) Bool.false_ne_true
theorem qp:OpR X (compareOp .Lt) (rI0 λi j=>.bl (decide (i < j))):=mX λ_ _ _ _ _ _ _ q=>lt_int q
theorem p9:OpR X (compareOp .LtE) (rI0 λi j=>.bl (decide (i<=j))):=mX λ_ _ _ _ _ _ _ q=>le_int q
theorem q0:OpR X (compareOp .Gt) (rI0 λi j=>.bl (decide (j < i))):=mX λ_ _ _ _ _ _ _ q=>gt_int q
theorem qQ:OpR X (compareOp .GtE) (rI0 λi j=>.bl (decide (j<=i))):=mX λ_ _ _ _ _ _ _ q=>ge_int q
theorem lK (b:Expr) {op:CmpOp} (h:op ≠ .In:=by decide) (h2:op ≠ .NotIn:=by decide):behindInMarks op b=false:=by
 have e1:(op == CmpOp.In)=false:=by cases op <;> first | rfl | exact absurd rfl h
 have e2:(op == CmpOp.NotIn)=false:=by cases op <;> first | rfl | exact absurd rfl h2
 cases b <;> simp [behindInMarks,e1,e2]
theorem nE {op:CmpOp} {r:R2} (ho:OpR X (compareOp op) r) (ha:PE X a ta) (hb:PE X b tb) (hm:behindInMarks op b=false):PE X (.Compare a [op] [b] pos) (tOp r ta tb):=by
 intro pins s σ H Q I h
 exact wpAny_Compare1 (pq ha hb I h λv u s2 x y H2 I2 rx ry q=>ho pins s2 σ H2 x y v u Q I2 rx ry q) hm
noncomputable def oe (t:TE):TT:=λσ H Q=>t σ H λx H'=>∃ k,x=.bl k/\Q k H'
theorem nB {op:CmpOp} {r:R2} (ho:OpR X (compareOp op) r) (ha:PE X a ta) (hb:PE X b tb) (hm:behindInMarks op b=false):PT X (.Compare a [op] [b] pos) (oe (tOp r ta tb)):=by
 intro pins s σ H Q I h
 refine wpAny_isTrue_Compare1 (thn (ha pins s σ H _ I h) λv s1 ⟨x,H1,I1,r1,q1⟩=>thn (hb pins s1 σ H1 _ I1 q1) λu s2 ⟨y,H2,I2,r2,q2⟩=>
   thn (ho pins s2 σ H2 x y v u _ I2 r1 r2 q2) λc s3 ⟨z,H3,I3,r3,k,e,q3⟩=>?_) hm
 subst e
 cases r3
 exact wpAny_truthy_bool ⟨H3,I3,q3⟩
noncomputable def jt (r r':R2) (ta tb tc:TE):TE:=λσ H Q=>ta σ H λx H1=>tb σ H1 λy H2=>r x y H2 λz H3=>∃ k,z=.bl k /\
 (if k=true then tc σ H3 λw' H4=>r' y w' H4 Q else Q (.bl false) H3)
theorem mz {op op':CmpOp} {r r':R2} (ho:OpR X (compareOp op) r) (ho':OpR X (compareOp op') r') (ha:PE X a ta) (hb:PE X b tb) (hc:PE X c tc)
   (hm:lastMarks [op,op'] [b,c]=false:=by with_unfolding_all rfl):PE X (.Compare a [op,op'] [b,c] pos) (jt r r' ta tb tc):=by
 intro pins s σ H Q I h
 refine Compare_chain (thn (ha pins s σ H _ I h) λv s1 ⟨x,H1,I1,r1,q1⟩=>chain_link (thn (hb pins s1 σ H1 _ I1 q1) λu s2 ⟨y,H2,I2,r2,q2⟩=>
   thn (ho pins s2 σ H2 x y v u _ I2 r1 r2 q2) λd s3 ⟨z,H3,I3,r3,k,e,q3⟩=>?_)) hm
 subst e
 cases r3
 refine wpAny_truthy_bool ?_
 cases k with
 | false=>exact ite_ff ⟨.bl false,H3,I3,rfl,q3⟩
 | true=>exact ite_tt (chain_last (thn (hc pins s3 σ H3 _ I3 q3) λw' s4 ⟨z',H4,I4,r4,q4⟩=>ho' pins s4 σ H4 y z' u w' Q I4 r2 r4 q4))
theorem lD {op op':CmpOp} {r r':R2} (ho:OpR X (compareOp op) r) (ho':OpR X (compareOp op') r') (ha:PE X a ta) (hb:PE X b tb) (hc:PE X c tc)
   (hm:lastMarks [op,op'] [b,c]=false:=by with_unfolding_all rfl):PT X (.Compare a [op,op'] [b,c] pos) (oe (jt r r' ta tb tc)):=by
 intro pins s σ H Q I h
 refine isTrue_chain (thn (ha pins s σ H _ I h) λv s1 ⟨x,H1,I1,r1,q1⟩=>test_link (thn (hb pins s1 σ H1 _ I1 q1) λu s2 ⟨y,H2,I2,r2,q2⟩=>
   thn (ho pins s2 σ H2 x y v u _ I2 r1 r2 q2) λd s3 ⟨z,H3,I3,r3,k,e,q3⟩=>?_)) hm
 subst e
 cases r3
 refine wpAny_truthy_bool ?_
 cases k with
 | false=>
   obtain ⟨k',e',q'⟩:=q3
   cases e'
   exact ite_ff ⟨H3,I3,q'⟩
 | true=>
   refine ite_tt (test_last (thn (hc pins s3 σ H3 _ I3 q3) λw' s4 ⟨z',H4,I4,r4,q4⟩=>thn (ho' pins s4 σ H4 y z' u w' _ I4 r2 r4 q4) λd' s5 ⟨z2,H5,I5,r5,k2,e2,q5⟩=>?_))
   subst e2
   cases r5
   exact wpAny_truthy_bool ⟨H5,I5,q5⟩
theorem jw:(sizeLine:Nat) < 2 ^ 63:=by rw [sizeLine_eq]; decide
theorem vals1 {x:V} {us:List Value} (r:Vals [x] us):∃ u,us=[u]/\RelV x u:=by
 cases r with
 | cons r1 r2=>cases r2; exact ⟨_,rfl,r1⟩
theorem vals2 {x y:V} {us:List Value} (r:Vals [x,y] us):∃ u w',us=[u,w']/\RelV x u/\RelV y w':=by
 cases r with
 | cons r1 r2=>
   cases r2 with
   | cons r3 r4=>cases r4; exact ⟨_,_,rfl,r1,r3⟩
theorem l4:df X (.builtin "abs") (λxs H Q=>∃ i,xs=[.int i]/\Q (.int (if i < 0 then -i else i)) H):=by
 intro pins s σ H xs us Q I r h
 obtain ⟨i,rfl,q⟩:=h
 obtain ⟨u,rfl,t,rfl⟩:=vals1 r
 exact call_abs_int λu tk=>⟨.int (if i < 0 then -i else i),H,I.tok _,⟨_,rfl⟩,q⟩
theorem k7 (hc:X.calm=true):df X (.builtin "min") (λxs H Q=>∃ i j,xs=[.int i,.int j]/\Q (.int (if j < i then j else i)) H):=by
 intro pins s σ H xs us Q I r h
 obtain ⟨i,j,rfl,q⟩:=h
 obtain ⟨u,w',rfl,⟨t,rfl⟩,⟨t',rfl⟩⟩:=vals2 r
 refine min_two_ints (I.ok.hd hc) λh' tk k=>⟨_,H,I.kept k,?_,q⟩
 by_cases hj:j < i
 · rw [if_pos hj,if_pos hj]; exact ⟨_,rfl⟩
 · rw [if_neg hj,if_neg hj]; exact ⟨_,rfl⟩
end
end L2
namespace L2
open PySem PySem.Spec PyProof.Rows
section
variable {prog:Program} {w:World} {A:Around} {E:Value->Shared->Prop} {s:Shared} {K:PySem.W.Frag} {x dx C f:Addr} {mA:Str->Option Value} {name:Str} {v:Value}
end
theorem iZ.some_of {v:V} {o:Option Value} (r:iZ (some v) o):∃ u,o=some u/\RelV v u:=by
 cases o with
 | none=>exact (show False from r).elim
 | some u=>exact ⟨u,rfl,r⟩
section
variable {P:Program} {w:World} {H H':Hp} {h h':Heap} {a C dx:Addr} {fs fs':List (Str × V)}
end
section
variable {X:Cx} {pins:List (Addr × Obj)} {σ:St} {H:Hp} {s:Shared} {a C dx:Addr} {fs:List (Str × V)} {f:Str} {v:V} {A:Around} {E:Value->Shared->Prop}
end
section
variable {X:Cx} {o e value:Expr} {f:Str} {pos pos' tpos:Pos} {ta tv:TE}
end
section
variable {X:Cx} {pins:List (Addr × Obj)} {σ:St} {H:Hp} {s:Shared} {A:Around} {E:Value->Shared->Prop} {Q:Value->Shared->Prop} {c:Value} {b:Bool}
end
end L2
namespace L2
open PySem PySem.Spec PyProof.Rows
structure cB (k:Nat) (A:Around):Prop where
 hd:A.handled=none
 dp:A.depth + 3 * k + 5 < recursionLimit
 un:A.units + 16 * k + 200 < cLine
theorem cB.mono {j k:Nat} {A:Around} (r:cB k A) (h:j<=k):cB j A:=⟨r.hd,by have:=r.dp; omega,by have:=r.un; omega⟩
theorem cB.deeper {k:Nat} {A:Around} (r:cB (k + 1) A) (env:Env):cB k (A.deeper env):=
 ⟨r.hd,by have:=r.dp; show A.depth + 1 + 3 * k + 5 < _; omega,by have:=r.un; show A.units + 3 + 16 * k + 200 < _; omega⟩
theorem cB.depth {k:Nat} {A:Around} (r:cB k A):A.depth < recursionLimit:=by have:=r.dp; omega
theorem cB.units {k:Nat} {A:Around} (r:cB k A):A.units + 64 < cLine:=by have:=r.un; omega
noncomputable def mS:TA:=λ_ H Q=>Q [] H
noncomputable def cM (ta:TE) (tr:TA):TA:=λσ H Q=>ta σ H λx H1=>tr σ H1 λxs H2=>Q (x :: xs) H2
section
variable {X:Cx} {e:Expr} {es:List Expr} {te:TE} {t:TA} {pos:Pos}
theorem bj:PA X [] mS:=λ_ _ _ _ H Q I h=>Calls.spliced_nil ⟨[],H,I,.nil,h⟩
theorem aw (ha:PE X e te) (hr:PA X es t) (hs:starEach (e :: es) X.env=(false,eval e X.env) :: starEach es X.env:=by rfl):PA X (e :: es) (cM te t):=by
 intro pos pins s σ H Q I h
 rw [hs]
 show wpAny _ _ (spliced ((false,eval e X.env) :: backTo pos (starEach es X.env))) _ _ s
 refine Calls.spliced_cons (thn (ha pins s σ H _ I h) λu s1 ⟨x,H1,I1,r1,q1⟩=>?_)
 exact thn (hr pos pins s1 σ H1 _ I1 q1) λus s2 ⟨xs,H2,I2,r2,q2⟩=>⟨x :: xs,H2,I2,.cons r1 r2,q2⟩
noncomputable def qP (t:TA):TE:=λσ H Q=>t σ H λxs H1=>xs.length<=sizeLine/\∀ p,H1 p=none->Q (.ref p) (upd H1 p (.tup xs))
noncomputable def rb (t:TA):TE:=λσ H Q=>t σ H λxs H1=>xs.length<=sizeLine/\∀ p,H1 p=none->Q (.ref p) (upd H1 p (.lst xs))
theorem hW {x1} (h:PA X es t):PE X (.Tuple es x1 pos) (qP t):=by
 intro pins s σ H Q I hq
 refine wpAny_Tuple_spliced (thn (h pos pins s σ H _ I hq) λus s1 ⟨xs,H1,I1,r,z,q⟩=>⟨by rw [<- r.length]; exact z,?_⟩)
 have hf:H1 s1.heap.objs.size=none:=I1.hok.fresh (Nat.le_refl _)
 refine ⟨.ref s1.heap.objs.size,upd H1 s1.heap.objs.size (.tup xs),I1.laid (t':=s1.toks) (λb u e=>Heap.get?_push_of_some _ e) (Nat.le_refl _) ?_,rfl,q _ hf⟩
 exact ⟨z,us,r,⟨_,Heap.get?_push_size _ rfl,rfl,_,rfl⟩⟩
theorem pe (h:PA X es t):PE X (.List es pos) (rb t):=by
 intro pins s σ H Q I hq
 refine wpAny_List_spliced (thn (h pos pins s σ H _ I hq) λus s1 ⟨xs,H1,I1,r,z,q⟩=>⟨by rw [<- r.length]; exact z,?_⟩)
 have hf:H1 s1.heap.objs.size=none:=I1.hok.fresh (Nat.le_refl _)
 refine ⟨.ref s1.heap.objs.size,upd H1 s1.heap.objs.size (.lst xs),I1.laid (t':=s1.toks) (λb u e=>Heap.get?_push_of_some _ e) (Nat.le_refl _) ?_,rfl,q _ hf⟩
 exact ⟨z,us,0,r,Heap.get?_push_size _ rfl⟩
end
noncomputable abbrev Sp:=List V->Hp->VK->XK->Prop
noncomputable abbrev CXT:=List Env->Hp->Shared->XK->Value->Shared->Prop
structure nU (P:Program) (w:World) (K:PySem.W.Frag) (mg:Str->Option Value) (base:Heap) (A:Around) (outer:List Env) (s:Shared) (H:Hp):Prop where
 frames:A.frames=some outer
 mod:Mod K mg base
 bs:∀ b o,base.get? b=some o->s.heap.get? b=some o/\H b=none
 bsz:base.objs.size<=s.heap.objs.size
 fw:s.heap.FunFrames base outer
 frf:∀ b ∈ frs outer,H b=none
 hok:HOk P w H s.heap
 bare:AllBare s.gens
noncomputable def CE (outer:List Env) (P:Program) (w:World) (H:Hp) (s:Shared) (Q:VK) (u:Value) (s':Shared):Prop:=
 ∃ v H',s'.os=s.os/\AllBare s'.gens/\Un (frs outer) [] H H' s.heap s'.heap/\HOk P w H' s'.heap/\RelV v u/\Q v H'
noncomputable def CR (CX:CXT) (outer:List Env) (P:Program) (w:World) (H:Hp) (s:Shared) (Q:VK) (E:XK) (r:Result) (s':Shared):Prop:=
 match r with
 | .ok (.ret u)=>CE outer P w H s Q u s'
 | .ok _=>False
 | .error e=>CX outer H s E e s'
structure aL (P:Program) (w:World) (K:PySem.W.Frag) (mg:Str->Option Value) (base:Heap) (CX:CXT) (k:Nat) (f:Addr) (fd:FuncData) (ps:List Str) (sp:Sp):Prop where
 len:∀ vs H Q E,sp vs H Q E->vs.length=ps.length
 run:∀ (A:Around) (outer:List Env) (s:Shared) (H:Hp) (args:Args) (us:List Value) (vs:List V) (Q:VK) (E:XK),cB k A->nU P w K mg base A outer s H->BindsTo s fd args (ps.zip us)->Vals vs us->sp vs H Q E ->
   codeAny (model P w) A (.call (.ref f) args) (CR CX outer P w H s Q E) s
theorem aL.mono {P:Program} {w:World} {K:PySem.W.Frag} {mg:Str->Option Value} {base:Heap} {CX:CXT} {j k:Nat} {f:Addr} {fd:FuncData} {ps:List Str} {sp:Sp} (F:aL P w K mg base CX j f fd ps sp) (h:j<=k) :
   aL P w K mg base CX k f fd ps sp:=⟨F.len,λA outer s H args us vs Q E hr=>F.run A outer s H args us vs Q E (hr.mono h)⟩
section
variable {X:Cx} {pins:List (Addr × Obj)} {σ:St} {H:Hp} {s s':Shared}
theorem Inv.rj (I:Inv X pins σ H s):nU X.prog X.w X.K X.mg X.base X.A X.stack s H:=
 ⟨I.ok.frames,I.ok.mod,I.bs,Nat.le_trans I.ok.bsz I.sz,I.stack,I.kq,I.hok,I.bare⟩
theorem Inv.after {Q:VK} {u:Value} (I:Inv X pins σ H s) (h:CE X.stack X.prog X.w H s Q u s'):EP X pins σ Q u s':=by
 obtain ⟨v,H',os,bare,un,hok,r,q⟩:=h
 obtain ⟨hh,g,d,t,os'⟩:=s'
 obtain rfl:os'=s.os:=os
 exact ⟨v,H',I.call (h':=hh) (g':=g) (d':=d) (t':=t) (ch:=[]) un hok bare (λb z=>absurd z (by simp)),r,q⟩
end
noncomputable def mJ (sp:Sp) (dvs:List V) (E:XK) (t:TA):TE:=λσ H Q=>t σ H λvs H1=>sp (vs++dvs) H1 Q E
noncomputable def Binds (K:PySem.W.Frag) (fd:FuncData) (ps:List Str) (ds:List Value):Prop:=
 ∀ (s:Shared) (us:List Value),K.In s.heap->(us++ds).length=ps.length->BindsTo s fd ⟨us,[]⟩ (ps.zip (us++ds))
theorem Binds.all {K:PySem.W.Frag} {fd:FuncData} {ps:List Str} (h:∀ us:List Value,us.length=ps.length->bindArgs fd ⟨us,[]⟩=pure (ps.zip us)):Binds K fd ps []:=λs us _ hl=>by
 rw [List.append_nil] at hl ⊢
 exact .of_eq (h us hl)
noncomputable def Passes (CX:CXT) (X:Cx) (E:XK):Prop:=∀ (pins:List (Addr × Obj)) (σ:St) (H:Hp) (s:Shared) (e:Value) (s':Shared),Inv X pins σ H s->CX X.stack H s E e s'->X.xe e s'
section
variable {X:Cx} {CX:CXT} {k:Nat} {f C:Addr} {fd:FuncData} {ps:List Str} {sp:Sp} {dvs:List V} {ds:List Value} {E:XK} {x m:Str} {p pos apos:Pos} {e o:Expr} {es:List Expr} {ta:TE} {t:TA}
theorem pM {pins:List (Addr × Obj)} {σ:St} {H:Hp} {s:Shared} {Q:VK} {us:List Value} {vs:List V} (F:aL X.prog X.w X.K X.mg X.base CX k f fd ps sp) (hr:cB k X.A) (hb:Binds X.K fd ps ds) (hd:Vals dvs ds) (hx:Passes CX X E)
   (I:Inv X pins σ H s) (r:Vals vs us) (h:sp (vs++dvs) H Q E):wpAny (model X.prog X.w) X.A (call (.ref f) us) (EP X pins σ Q) X.xe s:=by
 have r2:Vals (vs++dvs) (us++ds):=r.append hd
 have hl:(us++ds).length=ps.length:=by rw [<- r2.length]; exact F.len _ _ _ _ h
 refine wpAny_call (codeAny_mono (F.run X.A X.stack s H ⟨us,[]⟩ (us++ds) (vs++dvs) Q E hr I.rj (hb s us I.kIn hl) r2 h) λr s' hq=>?_)
 cases r with
 | error e=>exact hx pins σ H s e s' I hq
 | ok fl=>
   cases fl with
   | ret u=>exact I.after hq
   | next=>exact False.elim hq
   | brk=>exact False.elim hq
   | cont=>exact False.elim hq
theorem bE (F:aL X.prog X.w X.K X.mg X.base CX k f fd ps sp) (hr:cB k X.A) (hg:Gl X x) (hm:X.mg x=some (.ref f)) (hk:PySem.W.keepIn X.K (.ref f)=true) (hb:Binds X.K fd ps ds) (hd:Vals dvs ds) (hx:Passes CX X E)
   (ha:PA X (e :: es) t) (hdb:(x == ("__debug__" : Str))=false:=by decide) (he:starEach (e :: es) X.env=(false,eval e X.env) :: starEach es X.env:=by rfl) (hpl:(backTo pos (starEach es X.env)).any (·.1)=false:=by rfl) :
   PE X (.Call (.Name x p) (e :: es) [] pos) (mJ sp dvs E t):=by
 intro pins s σ H Q I h
 refine wpAny_Call_Name_kw (j9 I hg hm ?_ hdb)
 refine PySem.W.callWith_K (h₀:=X.base) I.ok.mod.kin hk (thn (ha pos pins s σ H _ I h) λus s1 ⟨vs,H1,I1,r,q⟩=>⟨I1.kIn,?_⟩) he hpl
 exact pM F hr hb hd hx I1 r q
end
section
variable {X:Cx} {CX:CXT} {k:Nat} {f C:Addr} {fd:FuncData} {ps ks:List Str} {sp:Sp} {E:XK} {x m:Str} {p pos apos kpos:Pos} {e o:Expr} {es:List Expr} {kws:List Keyword} {te ta:TE} {t tk:TA} {nm:Option Str}
variable {g:List Value->List Value->List Value} {gV:List V->List V->List V}
end
structure ay (N P:List Str) (sc:Scope):Prop where
 kind:sc.kind=.function
 co:sc.isCoroutine=false
 gen:sc.isGenerator=false
 nd:N.Nodup
 pre:N.take P.length=P
 par:∀ x ∈ P,sc.names.lookup x=some .local\/sc.names.lookup x=some .cell
 nofree:∀ y ∈ sc.names,y.2 ≠ .free
theorem gM {kindOf:Str->Option NameKind} {x:Str}:∀ {binds:List (Str × Value)} {m:Str->Option Value},(∀ v,(x,v) ∉ binds)->bindL kindOf binds m x=m x
 | [],_,_=>rfl
 | (n,v) :: r,m,h=>by
   unfold bindL
   rw [gM λw hw=>h w (List.mem_cons_of_mem _ hw)]
   split
   · have:x ≠ n:=by rintro rfl; exact h v List.mem_cons_self
     simp [this]
   · rfl
theorem gQ {kindOf:Str->Option NameKind} {x:Str}:∀ {binds:List (Str × Value)} {m:Str->Option Value},(∀ v,(x,v) ∉ binds)->bindC kindOf binds m x=m x
 | [],_,_=>rfl
 | (n,v) :: r,m,h=>by
   unfold bindC
   rw [gQ λw hw=>h w (List.mem_cons_of_mem _ hw)]
   split
   · rfl
   · have:x ≠ n:=by rintro rfl; exact h v List.mem_cons_self
     simp [this]
theorem gP {kindOf:Str->Option NameKind} {x:Str} {v:Value}:∀ {P:List Str} {vs:List Value} {i:Nat} {m:Str->Option Value},P.Nodup->P[i]?=some x->vs[i]?=some v->kindOf x=some .local ->
   bindL kindOf (P.zip vs) m x=some v
 | [],_,_,_,_,h,_,_=>by simp at h
 | _ :: _,[],_,_,_,_,h,_=>by simp at h
 | p :: P,w :: vs,0,m,nd,h1,h2,hk=>by
   simp at h1 h2; subst h1; subst h2
   show bindL kindOf ((p,w) :: P.zip vs) m p=_
   unfold bindL
   rw [gM λv hv=>(List.nodup_cons.mp nd).1 (List.of_mem_zip hv).1,if_pos hk]
   simp
 | p :: P,w :: vs,i + 1,m,nd,h1,h2,hk=>by
   show bindL kindOf ((p,w) :: P.zip vs) m x=_
   unfold bindL
   exact gP (i:=i) (List.nodup_cons.mp nd).2 (by simpa using h1) (by simpa using h2) hk
theorem gR {kindOf:Str->Option NameKind} {x:Str} {v:Value}:∀ {P:List Str} {vs:List Value} {i:Nat} {m:Str->Option Value},P.Nodup->P[i]?=some x->vs[i]?=some v->kindOf x ≠ some .local ->
   bindC kindOf (P.zip vs) m x=some v
 | [],_,_,_,_,h,_,_=>by simp at h
 | _ :: _,[],_,_,_,_,h,_=>by simp at h
 | p :: P,w :: vs,0,m,nd,h1,h2,hk=>by
   simp at h1 h2; subst h1; subst h2
   show bindC kindOf ((p,w) :: P.zip vs) m p=_
   unfold bindC
   rw [gQ λv hv=>(List.nodup_cons.mp nd).1 (List.of_mem_zip hv).1,if_neg hk]
   simp
 | p :: P,w :: vs,i + 1,m,nd,h1,h2,hk=>by
   show bindC kindOf ((p,w) :: P.zip vs) m x=_
   unfold bindC
   exact gR (i:=i) (List.nodup_cons.mp nd).2 (by simpa using h1) (by simpa using h2) hk
noncomputable def start (N:List Str) (vs:List V):St:=vs.map some++List.replicate (N.length - vs.length) none
noncomputable def iX (CX:CXT) (P:Program) (w:World) (K:PySem.W.Frag) (mg:Str->Option Value) (base:Heap) (N:List Str) (qual:Str) (scope:Scope) (f:Addr) (cd:Value) (A:Around) (outer:List Env) (s:Shared) (H:Hp) (E:XK):Cx where
 prog:=P
 w:=w
 K:=K
 mg:=mg
 base:=base
 A:=A.deeper (envOfC qual scope s.heap.objs.size f cd)
 N:=N
 s₀:=s
 H₀:=H
 env:=envOfC qual scope s.heap.objs.size f cd
 outer:=outer
 stack:=envOfC qual scope s.heap.objs.size f cd :: outer
 ex:=[]
 calm:=true
 fn:=λ_=>true
 pn:=[]
 xe:=λe s'=>wpAny (model P w) (A.deeper (envOfC qual scope s.heap.objs.size f cd)) (leaving (envOfC qual scope s.heap.objs.size f cd) e) (λ_ s''=>CX outer H s E e s'') (λe' s''=>CX outer H s E e' s'') s'
theorem iU {sc:Scope} {n:Nat} {x:Str} (h:sc.names.lookup x=some .cell):∃ c,(cellsFrom n sc.names []).lookup x=some c:=by
 have q:=PySem.W.cellsFrom_some sc.names n [] (.inl h)
 exact Option.isSome_iff_exists.mp q
theorem k0 {CX:CXT} {P:Program} {w:World} {K:PySem.W.Frag} {mg:Str->Option Value} {base:Heap} {N ps:List Str} {qual:Str} {scope:Scope} {f:Addr} {cd:Value} {A:Around} {outer:List Env} {s s1:Shared} {H:Hp} {E:XK} {us:List Value} {vs:List V}
   (S:ay N ps scope) (hd:A.handled=none) (e0:nU P w K mg base A outer s H) (hl:vs.length=ps.length) (r:Vals vs us)
   (x:InCallC s s.heap.objs.size (bindL (envOfC qual scope s.heap.objs.size f cd).kindOf (ps.zip us) λ_=>none) (cellsFrom (s.heap.objs.size + 1) scope.names []) (bindC (envOfC qual scope s.heap.objs.size f cd).kindOf (ps.zip us) λ_=>none) s1) :
   Inv (iX CX P w K mg base N qual scope f cd A outer s H E) [] (start N vs) H s1:=by
 have hpl:ps.length<=N.length:=by have:=congrArg List.length S.pre; rw [List.length_take] at this; omega
 obtain ⟨h1,tk,rfl,hk⟩:=x.done
 have noA:∀ b:Addr,b ∉ (iX CX P w K mg base N qual scope f cd A outer s H E).ex:=λb z=>absurd (show b ∈ ([]:List Addr) from z) (by simp)
 refine ⟨⟨e0.mod,S.kind,rfl,rfl,Nat.le_refl _,λy z c h1 h2=>?_,λy hy=>?_,λy c _ h=>?_,λ_=>hd,Around.frames_deeper e0.frames,.inr ⟨rfl,rfl⟩,λb z=>absurd z (noA b),e0.bs,e0.bsz,λb _ _=>noA b,λb z=>absurd z (noA b),e0.fw,e0.frf⟩,
   rfl,e0.bare,Un.kept hk,⟨_,x.toInCall.ns,λi y v h1 h2 h3=>?_⟩,λy c h=>⟨_,x.cell y c h⟩,e0.hok.fresh (Nat.le_refl _),λy c h=>?_,λp hp=>absurd (show p ∈ ([]:List (Addr × Obj)) from hp) (by simp),e0.hok.kept hk,?_⟩
 · exact name_of_addr x.apart (PySem.mem_of_lookup h1) (PySem.mem_of_lookup h2)
 · have hy:scope.names.lookup y=some .cell\/scope.names.lookup y=some .free:=hy
   rcases hy with hy | hy
   · exact iU hy
   · exact absurd rfl (S.nofree _ (PySem.mem_of_lookup hy))
 · exact Nat.le_of_lt (x.above y c (PySem.mem_of_lookup h))
 · have hi:i < vs.length:=by
     unfold start at h2
     by_cases hi:i < vs.length
     · exact hi
     · rw [List.getElem?_append_right (by simpa using hi)] at h2
       rw [List.getElem?_replicate] at h2
       split at h2 <;> cases h2
   have ha:vs[i]?=some v:=by
     unfold start at h2
     rw [List.getElem?_append_left (by simpa using hi),List.getElem?_map] at h2
     cases e:vs[i]? with
     | none=>rw [e] at h2; cases h2
     | some a=>rw [e] at h2; cases h2; rfl
   obtain ⟨u,hu,rv⟩:=r.get ha
   have hp:ps[i]?=some y:=by
     rw [<- S.pre,List.getElem?_take_of_lt (by omega)]; exact h1
   have ndP:ps.Nodup:=by rw [<- S.pre]; exact S.nd.sublist (List.take_sublist _ _)
   refine ⟨u,rv,?_⟩
   rcases S.par y (List.mem_of_getElem? hp) with k | k
   · exact .inl ⟨k,gP ndP hp hu k⟩
   · obtain ⟨c,e⟩:=iU (n:=s.heap.objs.size + 1) k
     refine .inr ⟨.inl k,c,e,?_⟩
     have q:=x.cell y c e
     rw [gR ndP hp hu (by show scope.names.lookup y ≠ _; rw [k]; decide)] at q
     exact q
 · exact e0.hok.fresh (Nat.le_of_lt (x.above y c (PySem.mem_of_lookup h)))
 · unfold start
   show _=N.length
   rw [List.length_append,List.length_map,List.length_replicate]
   omega
theorem qF {CX:CXT} {P:Program} {w:World} {K:PySem.W.Frag} {mg:Str->Option Value} {base:Heap} {k:Nat} {f:Addr} {name qual:Str} {params:Arguments} {body:List Stmt} {scope:Scope} {dV kV doc pm cdv ct oc:Value} {an od:Option Addr}
   {osl:Array (Option Value)} {N ps:List Str} {sp:Sp} (lk:K.lookup f=some ⟨oc,od,.func (PySem.W.fnOf name qual params body scope dV kV doc pm an cdv ct),osl⟩) (hcd:PySem.W.codeIn K cdv qual=true) (S:ay N ps scope)
   (len:∀ vs H Q E,sp vs H Q E->vs.length=ps.length)
   (hbody:∀ (A:Around) (outer:List Env) (s:Shared) (H:Hp) (vs:List V) (Q:VK) (E:XK),cB k (A.deeper (envOfC qual scope s.heap.objs.size f cdv))->sp vs H Q E ->
     ∃ t,PSs (iX CX P w K mg base N qual scope f cdv A outer s H E) body t/\t { nx:=λ_ H'=>Q .non H',rt:=Q } (start N vs) H) :
   aL P w K mg base CX (k + 1) f (PySem.W.fnOf name qual params body scope dV kV doc pm an cdv ct) ps sp:=by
 refine ⟨len,λA outer s H args us vs Q E hr e0 hb r hsp=>?_⟩
 have hl:=len _ _ _ _ hsp
 have KX:K.In s.heap:=e0.mod.kin.keeps λb o e=>(e0.bs b o e).1
 have lim:s.heap.NoLimit:=e0.mod.nolimit.keeps λb o e=>(e0.bs b o e).1
 have hkind:∀ y ∈ ps.zip us,scope.names.lookup y.1=some .local\/(scope.names.lookup y.1=some .cell/\((cellsFrom (s.heap.objs.size + 1) scope.names []).lookup y.1).isSome=true):=λ⟨n,v⟩ hy=>by
   rcases S.par n (List.of_mem_zip hy).1 with q | q
   · exact .inl q
   · exact .inr ⟨q,PySem.W.cellsFrom_some _ _ _ (.inl q)⟩
 refine codeAny_call_function hr.depth (KX _ _ lk) rfl S.co S.gen rfl (PySem.W.codeRec_of KX hcd) (hb _ _ _ _ ?_)
 refine wpAny_newFunctionEnv_cells S.kind hkind λenv he s1 x=>?_
 subst he
 refine ⟨lim.keeps x.toInCall.keep,codeAny_func ?_⟩
 obtain ⟨t,ht,hq⟩:=hbody A outer s H vs Q E (hr.deeper _) hsp
 have I:Inv (iX CX P w K mg base N qual scope f cdv A outer s H E) [] (start N vs) H s1:=k0 S hr.hd e0 hl r x
 refine wpAny_mono (ht [] s1 (start N vs) H _ I hq) (λfl s' hs=>?_) λe s' hs=>hs
 have fin:∀ {σ':St} {H':Hp} {v:V} {u:Value},Inv (iX CX P w K mg base N qual scope f cdv A outer s H E) [] σ' H' s'->RelV v u->Q v H'->CE outer P w H s Q u s':=
   λ{σ' H' v u} J rv q=>⟨v,H',J.os,J.bare,J.base,J.hok,rv,q⟩
 cases fl with
 | ret u=>
   obtain ⟨v,σ',H',J,rv,q⟩:=hs
   exact fin J rv q
 | next=>
   obtain ⟨σ',H',J,q⟩:=hs
   exact fin (v:=V.non) (u:=Value.none) J rfl q
 | brk=>
   obtain ⟨_,_,_,q⟩:=hs
   exact False.elim q
 | cont=>
   obtain ⟨_,_,_,q⟩:=hs
   exact False.elim q
end L2
namespace L2
open PySem PySem.Spec PyProof.Rows
section
variable {X:Cx} {x:Str} {p pos:Pos} {e:Expr} {es:List Expr} {t:TA} {id T:String} {r:List V->Hp->VK->Prop}
noncomputable def tCB (r:List V->Hp->VK->Prop) (t:TA):TE:=λσ H Q=>t σ H λvs H1=>r vs H1 Q
theorem iV (hc:df X (.builtin id) r) (hg:Gl X x) (hm:X.mg x=none) (hv:bootBuiltins x=some (.builtin id)) (ha:PA X (e :: es) t) (hn:x ≠ "__name__":=by decide) (hdb:(x == ("__debug__" : Str))=false:=by decide)
   (he:starEach (e :: es) X.env=(false,eval e X.env) :: starEach es X.env:=by rfl) (hpl:(backTo pos (starEach es X.env)).any (·.1)=false:=by rfl):PE X (.Call (.Name x p) (e :: es) [] pos) (tCB r t):=by
 intro pins s σ H Q I h
 refine wpAny_Call_Name_kw (cN I hg hm hv ?_ hn hdb)
 exact PyProof.Rows.callWith_builtin1 (thn (ha pos pins s σ H _ I h) λus s1 ⟨vs,H1,I1,r1,q1⟩=>hc pins s1 σ H1 vs us Q I1 r1 q1) he hpl
theorem k8 (hc:df X (.type T) r) (hg:Gl X x) (hm:X.mg x=none) (hv:bootBuiltins x=some (.type T)) (ha:PA X (e :: es) t) (hn:x ≠ "__name__":=by decide) (hdb:(x == ("__debug__" : Str))=false:=by decide)
   (he:starEach (e :: es) X.env=(false,eval e X.env) :: starEach es X.env:=by rfl) (hpl:(backTo pos (starEach es X.env)).any (·.1)=false:=by rfl):PE X (.Call (.Name x p) (e :: es) [] pos) (tCB r t):=by
 intro pins s σ H Q I h
 refine wpAny_Call_Name_kw (cN I hg hm hv ?_ hn hdb)
 exact PyProof.Rows.callWith_type1 (thn (ha pos pins s σ H _ I h) λus s1 ⟨vs,H1,I1,r1,q1⟩=>hc pins s1 σ H1 vs us Q I1 r1 q1) he hpl
end
end L2
namespace HT
open PySem PyProof.Rows
section
open PySem.SeqAt
open PySem.AutoSeq1 (wpAny_loadPart')
open PySem.MeetsSeq PySem.MeetsSeq2 PySem.MeetsSeq3
end
section
variable {prog:Program} {w:World} {A:Around} {E:Value->Shared->Prop} {s:Shared}
noncomputable def sIx (n d:Nat):Option Int->Nat
 | none=>d
 | some v=>if v < 0 then (v + (n:Int)).toNat else min v.toNat n
theorem i0 (n d:Nat):sIx n d none=d:=rfl
theorem fq (n d k:Nat):sIx n d (some (k:Int))=min k n:=by
 show (if (k:Int) < 0 then ((k:Int) + (n:Int)).toNat else min (k:Int).toNat n)=min k n
 rw [if_neg (by omega),Int.toNat_natCast]
end
end HT
namespace L2
open PySem PySem.Spec PyProof.Rows
noncomputable abbrev TO:=St->Hp->(Option Int->Hp->Prop)->Prop
noncomputable def PO (X:Cx) (e:Option Expr) (t:TO):Prop:=
 ∀ (pins:List (Addr × Obj)) (s:Shared) (σ:St) (H:Hp) (Q:Option Int->Hp->Prop),Inv X pins σ H s->t σ H Q ->
   wpAny (model X.prog X.w) X.A (evalPart e X.env) (λu s'=>∃ o H',Inv X pins σ H' s'/\IsPart u o/\Q o H') X.xe s
noncomputable def nq:TO:=λ_ H Q=>Q none H
noncomputable def qV (t:TE):TO:=λσ H Q=>t σ H λx H1=>∃ i,x=.int i/\Q (some i) H1
section
variable {X:Cx} {e:Expr} {te:TE} {lo hi:Option Expr} {tl th:TO} {pos p2:Pos}
theorem mO:PO X none nq:=by
 intro pins s σ H Q I h
 rw [evalPart_none]
 exact wpAny_pure ⟨none,H,I,.none,h⟩
theorem nh (h:PE X e te):PO X (some e) (qV te):=by
 intro pins s σ H Q I hw
 rw [evalPart_some]
 refine thn (h pins s σ H _ I hw) λu s1 ⟨x,H1,I1,r1,q1⟩=>?_
 obtain ⟨i,rfl,q⟩:=q1
 obtain ⟨t,rfl⟩:=r1
 exact ⟨some i,H1,I1,.int i t,q⟩
noncomputable def SlR (X:Cx) (r:V->Option Int->Option Int->Hp->VK->Prop):Prop:=
 ∀ (pins:List (Addr × Obj)) (s:Shared) (σ:St) (H:Hp) (x:V) (v vl vu:Value) (lo hi:Option Int) (sl:Addr) (Q:VK),Inv X pins σ H s->RelV x v->s.heap.IsSliceOf sl vl vu .none->IsPart vl lo->IsPart vu hi->r x lo hi H Q ->
   ∃ T id,typeLookup (.type T) "__getitem__" = pure (some (.builtin id))/\s.TypeIs v T/\wpAny (model X.prog X.w) X.A (getItem v (.ref sl)) (EP X pins σ Q) X.xe s
noncomputable def tSl (r:V->Option Int->Option Int->Hp->VK->Prop) (te:TE) (tl th:TO):TE:=λσ H Q=>te σ H λx H1=>tl σ H1 λl H2=>th σ H2 λu H3=>r x l u H3 Q
theorem lH {r:V->Option Int->Option Int->Hp->VK->Prop} (hr:SlR X r) (he:PE X e te) (hl:PO X lo tl) (hu:PO X hi th):PE X (.Subscript e (.Slice lo hi none p2) pos) (tSl r te tl th):=by
 intro pins s σ H Q I h
 refine Subscript_ (thn (he pins s σ H _ I h) λv s1 ⟨x,H1,I1,r1,q1⟩=>?_)
 refine wpAny_Slice (thn (hl pins s1 σ H1 _ I1 q1) λvl s2 ⟨l,H2,I2,pl,q2⟩=>thn (hu pins s2 σ H2 _ I2 q2) λvu s3 ⟨u,H3,I3,pu,q3⟩=>?_)
 rw [evalPart_none]
 refine wpAny_pure ?_
 have I4:Inv X pins σ H3 { s3 with heap:=s3.heap.push { cls:=.type "slice",data:=.fields #[vl,vu,.none] } }:=I3.kept (t':=s3.toks) λb ob q=>Heap.get?_push_of_some _ q
 obtain ⟨T,id,hT,ht,hg⟩:=hr pins { s3 with heap:=s3.heap.push { cls:=.type "slice",data:=.fields #[vl,vu,.none] } } σ H3 x v vl vu l u s3.heap.objs.size Q I4 r1 (Heap.IsSliceOf.new ..) pl pu q3
 show wpAny (model X.prog X.w) X.A (subscriptTail e (.Slice lo hi none p2) v (.ref s3.heap.objs.size)) (EP X pins σ Q) X.xe { s3 with heap:=s3.heap.push { cls:=.type "slice",data:=.fields #[vl,vu,.none] } }
 exact tail_any (ops:=[.ref s3.heap.objs.size,v]) ht hT hg (by with_unfolding_all rfl)
noncomputable def kU (xs:List V) (lo hi:Option Int):List V:=(xs.drop (HT.sIx xs.length 0 lo)).take (HT.sIx xs.length xs.length hi - HT.sIx xs.length 0 lo)
theorem jm (xs:List V) (lo hi:Option Int):(kU xs lo hi).length<=xs.length:=by
 unfold kU
 rw [List.length_take,List.length_drop]
 omega
end
end L2
namespace L2
open PySem PySem.Spec PyProof.Rows
noncomputable def ixN (n:Nat) (i:Int):Option Nat:=if 0<=i then (if i < n then some i.toNat else none) else if -(n:Int)<=i then some (i + n).toNat else none
noncomputable def atI {α:Type} (xs:List α) (i:Int):Option α:=(ixN xs.length i).bind λj=>xs[j]?
theorem nG {n:Nat} {i:Int} {j:Nat} (h:ixN n i=some j):seqIndex? i n=some j/\j < n/\-(n:Int)<=i/\i < n:=by
 unfold ixN at h
 by_cases h0:0<=i
 · rw [if_pos h0] at h
   by_cases h1:i < n
   · rw [if_pos h1] at h
     have e:i.toNat=j:=Option.some.inj h
     exact ⟨by rw [seqIndex_of h0 h1,e],by omega,by omega,h1⟩
   · rw [if_neg h1] at h; cases h
 · rw [if_neg h0] at h
   by_cases h1:-(n:Int)<=i
   · rw [if_pos h1] at h
     have e:(i + n).toNat=j:=Option.some.inj h
     exact ⟨by rw [seqIndex_neg (by omega) h1,e],by omega,h1,by omega⟩
   · rw [if_neg h1] at h; cases h
theorem j5 {α:Type} {xs:List α} {i:Int} {v:α} (h:atI xs i=some v):∃ j,seqIndex? i xs.length=some j/\xs[j]?=some v/\j < xs.length/\-(xs.length:Int)<=i/\i < xs.length:=by
 unfold atI at h
 cases e:ixN xs.length i with
 | none=>rw [e] at h; cases h
 | some j=>
   rw [e] at h
   obtain ⟨h1,h2,h3,h4⟩:=nG e
   exact ⟨j,h1,h,h2,h3,h4⟩
noncomputable def ip (b:Expr):Prop:=∀ o i,subscripted b false o i=operate [o,i] (getItem o i)
noncomputable def IxR (X:Cx) (r:R2):Prop:=
 ∀ (value slice:Expr) (pins:List (Addr × Obj)) (s:Shared) (σ:St) (H:Hp) (x y:V) (v u:Value) (Q:VK),Inv X pins σ H s->RelV x v->RelV y u->r x y H Q ->
   subscripted slice false v u=operate [v,u] (getItem v u)->wpAny (model X.prog X.w) X.A (subscriptTail value slice v u) (EP X pins σ Q) X.xe s
noncomputable def MtR (X:Cx) (id:String) (r:V->List V->Hp->VK->Prop):Prop:=
 ∀ (pins:List (Addr × Obj)) (s:Shared) (σ:St) (H:Hp) (x:V) (xs:List V) (v:Value) (us:List Value) (Q:VK),Inv X pins σ H s->RelV x v->Vals xs us->r x xs H Q ->
   wpAny (model X.prog X.w) X.A (call (.builtin id) (v :: us)) (EP X pins σ Q) X.xe s
section
variable {X:Cx} {a b:Expr} {ta tb:TE} {pos:Pos}
theorem dW {r:R2} (hr:IxR X r) (ha:PE X a ta) (hb:PE X b tb) (hs:ip b):PE X (.Subscript a b pos) (tOp r ta tb):=by
 intro pins s σ H Q I h
 exact Subscript_ (pq ha hb I h λv u s2 x y H2 I2 rx ry q=>hr a b pins s2 σ H2 x y v u Q I2 rx ry q (hs _ _))
noncomputable def rq (K:PySem.W.Frag):R2:=λx y H Q=>∃ p xs i v,x=.ref p/\y=.int i/\SqL K H p xs/\atI xs i=some v/\Q v H
noncomputable def rn (K:PySem.W.Frag):R2:=λx y H Q=>∃ p xs i v,x=.ref p/\y=.int i/\SqT K H p xs/\atI xs i=some v/\Q v H
theorem kG:IxR X (rq X.K):=by
 intro value slice pins s σ H x y v u Q I rx ry h hs
 obtain ⟨p,xs,i,z,rfl,rfl,hq,he,q⟩:=h
 cases rx
 obtain ⟨t,rfl⟩:=ry
 obtain ⟨its,r,pl,hz⟩:=I.list hq
 obtain ⟨j,h1,h2,h3,h4,h5⟩:=j5 he
 obtain ⟨w,ew,rw'⟩:=r.get h2
 have hl:=r.length
 have hn:=jw
 have fin:EP X pins σ Q w s:=⟨z,H,I,rw',q⟩
 by_cases h0:0<=i
 · have hj:i.toNat=j:=by
     rw [seqIndex_of h0 h5] at h1
     exact Option.some.inj h1
   exact item_listR pl.isList h0 (by omega) (by rw [hj]; simpa using ew) fin hs
 · have hj:(i + (its.toArray.size:Int)).toNat=j:=by
     rw [seqIndex_neg (by omega) h4] at h1
     rw [List.size_toArray,<- hl]
     exact Option.some.inj h1
   exact subscriptTail_builtinR (x:=w) pl.isList.typeIs slot_list_getitem.lookup
     (wpAny_getItem_list_neg (Q:=λr s'=>r=w/\EP X pins σ Q r s') pl.isList (by omega) (by rw [List.size_toArray] <;> omega) (by omega) (by rw [hj]; simpa using ew) ⟨rfl,fin⟩) hs
theorem cP:IxR X (rn X.K):=by
 intro value slice pins s σ H x y v u Q I rx ry h hs
 obtain ⟨p,xs,i,z,rfl,rfl,hq,he,q⟩:=h
 cases rx
 obtain ⟨t,rfl⟩:=ry
 obtain ⟨its,r,pl,hz⟩:=I.tuple hq
 obtain ⟨j,h1,h2,h3,h4,h5⟩:=j5 he
 obtain ⟨w,ew,rw'⟩:=r.get h2
 have hl:=r.length
 have hn:=jw
 have fin:EP X pins σ Q w s:=⟨z,H,I,rw',q⟩
 exact subscriptTail_builtinR (x:=w) pl.typeIs slot_tuple_getitem.lookup
   (getItem_tuple (j:=j) (Q:=λr s'=>r=w/\EP X pins σ Q r s') pl (by omega) (by omega) (by rw [List.size_toArray,<- hl]; exact h1) (by simpa using ew) ⟨rfl,fin⟩) hs
theorem Inv.lst {pins:List (Addr × Obj)} {σ:St} {H:Hp} {s:Shared} {p:Addr} {xs:List V} (I:Inv X pins σ H s) (h:H p=some (.lst xs)) :
   ∃ (its:List Value) (n:Nat),Vals xs its/\s.heap.get? p=some { cls:=.type "list",data:=.seq its.toArray n }/\xs.length<=sizeLine:=by
 obtain ⟨z,its,n,r,e⟩:=I.hok p _ h
 exact ⟨its,n,r,e,z⟩
theorem hV (lo hi:Option Int) (n:Nat):(sliceBounds lo hi none n).1=((HT.sIx n 0 lo:Nat):Int)/\(sliceBounds lo hi none n).2.1=((HT.sIx n n hi:Nat):Int)/\(sliceBounds lo hi none n).2.2=1:=by
 refine ⟨?_,?_,rfl⟩
 · cases lo with
   | none=>simp [sliceBounds,HT.sIx]
   | some i=>
     simp only [sliceBounds,HT.sIx,Option.getD_none,show (1:Int) > 0 by decide,if_true]
     by_cases h:i < 0
     · simp only [h,if_true] <;> omega
     · simp only [h,if_false] <;> omega
 · cases hi with
   | none=>simp [sliceBounds,HT.sIx]
   | some i=>
     simp only [sliceBounds,HT.sIx,Option.getD_none,show (1:Int) > 0 by decide,if_true]
     by_cases h:i < 0
     · simp only [h,if_true] <;> omega
     · simp only [h,if_false] <;> omega
theorem gE (its:List Value) (lo hi:Option Int):slicePick its.toArray lo hi none=((its.drop (HT.sIx its.length 0 lo)).take (HT.sIx its.length its.length hi - HT.sIx its.length 0 lo)).toArray:=by
 obtain ⟨h1,h2,h3⟩:=hV lo hi its.toArray.size
 unfold slicePick
 rw [h1,h2,h3]
 simp only [sliceRange_one,pick_run,List.size_toArray] <;> rfl
noncomputable def rQ (K:PySem.W.Frag):V->Option Int->Option Int->Hp->VK->Prop:=λx lo hi H Q=>∃ a xs,x=.ref a/\SqL K H a xs/\∀ p,H p=none->Q (.ref p) (upd H p (.lst (kU xs lo hi)))
theorem m9:SlR X (rQ X.K):=by
 intro pins s σ H x v vl vu lo hi sl Q I rx hs pl pu h
 obtain ⟨a,xs,rfl,hx,q⟩:=h
 cases rx
 obtain ⟨its,r,ht,hz⟩:=I.list hx
 have hlen:=r.length
 refine ⟨"list",_,slot_list_getitem.lookup,ht.isList.typeIs,?_⟩
 refine wpAny_getItem_list_slice ht.isList hs pl pu .none (by simp) ?_ (by rw [List.size_toArray] <;> omega)
 rw [gE,<- hlen]
 refine ⟨.ref s.heap.objs.size,_,I.laid (t':=s.toks) (o:=.lst (kU xs lo hi)) (λb ob q=>Heap.get?_push_of_some _ q) (Nat.le_refl _) ?_,rfl,q _ (I.hok.fresh (Nat.le_refl _))⟩
 exact ⟨Nat.le_trans (jm xs lo hi) hz,_,0,(r.drop (HT.sIx xs.length 0 lo)).take (HT.sIx xs.length xs.length hi - HT.sIx xs.length 0 lo),Heap.get?_push_size _ rfl⟩
noncomputable def eS:V->Bool
 | .non=>true
 | .bl _=>true
 | .int _=>true
 | .str _=>true
 | _=>false
noncomputable def eqV:V->V->Bool
 | .non,.non=>true
 | .bl a,.bl b=>a == b
 | .bl a,.int b=>(if a then 1 else 0) == b
 | .int a,.bl b=>a == (if b then 1 else 0)
 | .int a,.int b=>a == b
 | .str a,.str b=>a == b
 | _,_=>false
theorem pz {A:Around} {s:Shared} {y x:V} {u v:Value} (ry:RelV y u) (rx:RelV x v) (fy:eS y=true) (fx:eS x=true):SeqAt.EqAt A s u v (eqV y x):=by
 cases y with
 | non=>
   cases ry
   cases x with
   | non=>cases rx; exact SeqAt.EqAt.same _
   | bl b=>cases rx; exact SeqAt.EqAt.none_bool b
   | int b=>obtain ⟨t,rfl⟩:=rx; exact SeqAt.EqAt.none_int b t
   | str b=>obtain ⟨t,rfl⟩:=rx; exact SeqAt.EqAt.none_str b t
   | _=>exact absurd (show false=true from fx) Bool.false_ne_true
 | bl a=>
   cases ry
   cases x with
   | non=>cases rx; exact SeqAt.EqAt.bool_none a
   | bl b=>cases rx; exact SeqAt.EqAt.bool_bool a b
   | int b=>obtain ⟨t,rfl⟩:=rx; exact SeqAt.EqAt.bool_int a b t
   | str b=>obtain ⟨t,rfl⟩:=rx; exact SeqAt.EqAt.bool_str a b t
   | _=>exact absurd (show false=true from fx) Bool.false_ne_true
 | int a=>
   obtain ⟨t',rfl⟩:=ry
   cases x with
   | non=>cases rx; exact SeqAt.EqAt.int_none a t'
   | bl b=>cases rx; exact SeqAt.EqAt.int_bool a t' b
   | int b=>obtain ⟨t,rfl⟩:=rx; exact SeqAt.EqAt.int_int a t' b t
   | str b=>obtain ⟨t,rfl⟩:=rx; exact SeqAt.EqAt.int_str a t' b t
   | _=>exact absurd (show false=true from fx) Bool.false_ne_true
 | str a=>
   obtain ⟨t',rfl⟩:=ry
   cases x with
   | non=>cases rx; exact SeqAt.EqAt.str_none a t'
   | bl b=>cases rx; exact SeqAt.EqAt.str_bool a t' b
   | int b=>obtain ⟨t,rfl⟩:=rx; exact SeqAt.EqAt.str_int a t' b t
   | str b=>obtain ⟨t,rfl⟩:=rx; exact SeqAt.EqAt.str_str a t' b t
   | _=>exact absurd (show false=true from fx) Bool.false_ne_true
 | _=>exact absurd (show false=true from fy) Bool.false_ne_true
noncomputable def eqU (x:V) (u:Value):Bool:=match u with
 | .none=>eqV .non x
 | .bool b=>eqV (.bl b) x
 | .int i _=>eqV (.int i) x
 | .str z _=>eqV (.str z) x
 | _=>false
theorem lI {x y:V} {u:Value} (r:RelV y u) (f:eS y=true):eqU x u=eqV y x:=by
 cases y with
 | non=>cases r; rfl
 | bl b=>cases r; rfl
 | int i=>obtain ⟨t,rfl⟩:=r; rfl
 | str z=>obtain ⟨t,rfl⟩:=r; rfl
 | _=>exact absurd (show false=true from f) Bool.false_ne_true
theorem iA {x:V}:∀ {xs:List V} {us:List Value},Vals xs us->xs.all eS=true->us.any (eqU x)=xs.any λy=>eqV y x
 | _,_,.nil,_=>rfl
 | y :: xs,u :: us,.cons r t,f=>by
   rw [List.all_cons,Bool.and_eq_true] at f
   rw [List.any_cons,List.any_cons,lI r f.1,iA t f.2]
theorem fH {A:Around} {s:Shared} {x:V} {v:Value} (rx:RelV x v) (fx:eS x=true):∀ {xs:List V} {us:List Value},Vals xs us->xs.all eS=true->∀ u ∈ us,SeqAt.EqAt A s u v (eqU x u)
 | _,_,.nil,_=>λu hu=>by cases hu
 | y :: xs,u :: us,.cons r t,f=>λu' hu=>by
   rw [List.all_cons,Bool.and_eq_true] at f
   rcases List.mem_cons.mp hu with rfl | hu
   · rw [lI r f.1]; exact pz r rx f.1 fx
   · exact fH rx fx t f.2 u' hu
noncomputable def inV (x:V) (xs:List V):Bool:=xs.any λy=>eqV y x
noncomputable def rIn (K:PySem.W.Frag) (neg:Bool):R2:=λx y H Q=>∃ p xs,y=.ref p/\(SqL K H p xs\/SqT K H p xs)/\eS x=true/\xs.all eS=true/\Q (.bl (if neg then !inV x xs else inV x xs)) H
theorem g9:OpR X (compareOp .NotIn) (rIn X.K true):=by
 intro pins s σ H x y v u Q I rx ry h
 obtain ⟨p,xs,rfl,hq,fx,fs,q⟩:=h
 cases ry
 rcases hq with hq | hq
 · obtain ⟨its,r,pl,hz⟩:=I.list hq
   refine SeqAt.notIn_listAt (eqU x) pl.isList (λw hw=>fH rx fx r fs w (by simpa using hw)) ⟨.bl _,H,I,rfl,?_⟩
   rw [show its.toArray.any (eqU x)=its.any (eqU x) by simp,iA r fs]
   exact q
 · obtain ⟨its,r,pl,hz⟩:=I.tuple hq
   refine SeqAt.notIn_tupleAt (eqU x) pl (λw hw=>fH rx fx r fs w (by simpa using hw)) ⟨.bl _,H,I,rfl,?_⟩
   rw [show its.toArray.any (eqU x)=its.any (eqU x) by simp,iA r fs]
   exact q
theorem ia:df X (.builtin "len") (λxs H Q=>∃ p ys,xs=[.ref p]/\(SqL X.K H p ys\/SqT X.K H p ys)/\Q (.int ys.length) H):=by
 intro pins s σ H xs us Q I r h
 obtain ⟨p,ys,rfl,hq,q⟩:=h
 obtain ⟨u,rfl,rx⟩:=vals1 r
 cases rx
 have hn:=jw
 rcases hq with hq | hq
 · obtain ⟨its,r',pl,hz⟩:=I.list hq
   have hlen:=r'.length
   exact Calls.call_len_list pl.isList (by simp only [List.size_toArray] <;> omega) ⟨.int ys.length,H,I.tok _,⟨s.toks + 1,by rw [List.size_toArray,hlen]⟩,q⟩
 · obtain ⟨its,r',pl,hz⟩:=I.tuple hq
   have hlen:=r'.length
   exact len_tuple pl (by simp only [List.size_toArray] <;> omega) ⟨.int ys.length,H,I.tok _,⟨s.toks + 1,by rw [List.size_toArray,hlen]⟩,q⟩
theorem iN:df X (.type "list") (λxs H Q=>∃ p ys,xs=[.ref p]/\(SqL X.K H p ys\/SqT X.K H p ys)/\∀ l,H l=none->Q (.ref l) (upd H l (.lst ys))):=by
 intro pins s σ H xs us Q I r h
 obtain ⟨p,ys,rfl,hq,q⟩:=h
 obtain ⟨u,rfl,rx⟩:=vals1 r
 cases rx
 have fin:∀ (its:List Value),Vals ys its->ys.length<=sizeLine->∀ (h':Heap) (c':Nat),(∀ b o',s.heap.get? b=some o'->h'.get? b=some o') ->
     h'.get? s.heap.objs.size=some { cls:=.type "list",dict:=none,data:=.seq its.toArray c',slots:=#[] }->EP X pins σ Q (.ref s.heap.objs.size) { s with heap:=h' }:=λits r' hz h' c' kp e=>
   ⟨.ref s.heap.objs.size,_,I.laid (t':=s.toks) kp (Nat.le_refl _) (show bN X.prog X.w _ h' _ (.lst ys) from ⟨hz,its,c',r',e⟩),rfl,q _ (I.hok.fresh (Nat.le_refl _))⟩
 rcases hq with hq | hq
 · obtain ⟨its,r',pl,hz⟩:=I.list hq
   have hlen:=r'.length
   obtain ⟨o,ho,hc,n,hd⟩:=pl.isList
   exact call_list_seq p (.inl rfl) ho hc hd (λh' c' kp e=>fin its r' hz h' c' kp e) (by simp only [List.size_toArray] <;> omega)
 · obtain ⟨its,r',pl,hz⟩:=I.tuple hq
   have hlen:=r'.length
   obtain ⟨o,ho,hc,n,hd⟩:=pl
   exact call_list_seq p (.inr rfl) ho hc hd (λh' c' kp e=>fin its r' hz h' c' kp e) (by simp only [List.size_toArray] <;> omega)
noncomputable def tyV (K:PySem.W.Frag) (T:String) (x:V) (H:Hp):Prop:=match x with
 | .str _=>T = "str"
 | .int _=>T = "int"
 | .ref p=>(T = "list" /\ ∃ xs,SqL K H p xs)\/(T = "tuple" /\ ∃ o,K.lookup p=some o/\o.cls=.type "tuple" /\ o.dict=none) \/
     (T = "dict" /\ ((∃ kvs,H p=some (.dK kvs))\/∃ kvs,H p=some (.dT kvs)))\/(T = "set" /\ ∃ S n,H p=some (.set S n))
 | _=>False
theorem pO {pins:List (Addr × Obj)} {σ:St} {H:Hp} {s:Shared} {T:String} {x:V} {v:Value} (I:Inv X pins σ H s) (r:RelV x v) (ty:tyV X.K T x H) :
   s.TypeIs v T/\∀ a,v=.ref a->∃ ob,s.heap.get? a=some ob/\ob.dict=none:=by
 cases x with
 | str z=>
   obtain ⟨t,rfl⟩:=r
   cases (show T = "str" from ty)
   exact ⟨typeIs_str s z t,λ_ e=>nomatch e⟩
 | int i=>
   obtain ⟨t,rfl⟩:=r
   cases (show T = "int" from ty)
   exact ⟨typeIs_int s i t,λ_ e=>nomatch e⟩
 | ref p=>
   cases r
   rcases ty with ⟨rfl,xs,hq⟩ | ⟨rfl,o,hk,hc,hd⟩ | ⟨rfl,hk⟩ | ⟨rfl,S,n,hk⟩
   · obtain ⟨its,_,pl,_⟩:=I.list hq
     refine ⟨pl.isList.typeIs,λa e=>?_⟩
     cases e
     obtain ⟨o,n,e,c,hd,_⟩:=pl
     exact ⟨o,e,hd⟩
   · refine ⟨⟨o,I.kIn p o hk,hc⟩,λa e=>?_⟩
     cases e
     exact ⟨o,I.kIn _ o hk,hd⟩
   · have z:∃ o,s.heap.get? p=some o/\o.ExactDict:=by
       rcases hk with ⟨kvs,hk⟩ | ⟨kvs,hk⟩
       · obtain ⟨_,_,_,_,o,_,_,e,ex,_⟩:=I.hok p _ hk
         exact ⟨o,e,ex⟩
       · obtain ⟨_,_,_,_,o,_,_,e,ex,_⟩:=I.hok p _ hk
         exact ⟨o,e,ex⟩
     obtain ⟨o,e,ex⟩:=z
     refine ⟨⟨o,e,ex.1⟩,λa e2=>?_⟩
     cases e2
     exact ⟨o,e,ex.2.1⟩
   · obtain ⟨o,_,_,_,e,ex,_⟩:=I.hok p _ hk
     refine ⟨⟨o,e,ex.1⟩,λa e2=>?_⟩
     cases e2
     exact ⟨o,e,ex.2.1⟩
 | _=>exact False.elim ty
noncomputable def tBM (K:PySem.W.Frag) (T:String) (r:V->List V->Hp->VK->Prop) (to:TE) (t:TA):TE:=λσ H Q=>to σ H λx H1=>tyV K T x H1/\t σ H1 λxs H2=>r x xs H2 Q
variable {o e:Expr} {es:List Expr} {to:TE} {t:TA} {name:Str} {apos cpos:Pos} {T id:String} {r:V->List V->Hp->VK->Prop}
theorem n8 (pa:PlainAttrs T) (slot:Slot T name id) (hty:typeOf (.builtin id)=pure (.type "method_descriptor")) (hm:MtR X id r) (ho:PE X o to) (ha:PA X (e :: es) t)
   (hbase:attributeBase o name X.env (eval o X.env)=eval o X.env:=by rfl)
   (hfew:((backTo cpos (starEach (e :: es) X.env)).all (λx=>!x.1) && (backToKw cpos (keywordEach [] X.env)).all (λx=>x.1.isSome)
     && decide ((e :: es).length + ([]:List Keyword).length + (if ([]:List Keyword).isEmpty then 0 else 1) < 30))=true:=by rfl)
   (hline:(apos.endLine == cpos.line)=true:=by rfl) (hs:starEach (e :: es) X.env=(false,eval e X.env) :: starEach es X.env:=by rfl) (hplain:(backTo cpos (starEach es X.env)).any (·.1)=false:=by rfl) :
   PE X (.Call (.Attribute o name apos) (e :: es) [] cpos) (tBM X.K T r to t):=by
 intro pins s σ H Q I h
 refine wpAny_Call_method_late hbase hfew hline rfl (thn (ho pins s σ H _ I h) λv s1 ⟨x,H1,I1,r1,ty,q1⟩=>?_)
 obtain ⟨h1,h2⟩:=pO I1 r1 ty
 refine ⟨T,id,pa,slot,hty,h1,h2,?_⟩
 have hA:=ha cpos pins s1 σ H1 _ I1 q1
 rw [hs] at hA ⊢
 refine Calls.callWith_builtin (by show (false || (backTo cpos (starEach es X.env)).any (·.1))=false; rw [hplain] <;> rfl) (Calls.evalArgs_plain ?_)
 exact thn hA λus s2 ⟨vs,H2,I2,r2,q2⟩=>hm pins s2 σ H2 x vs v us Q I2 r1 r2 q2
end
end L2
namespace L2
open PySem PySem.Spec PyProof.Rows
noncomputable def MtM (X:Cx) (id:String) (r:V->List V->Hp->VK->Prop):Prop:=
 ∀ (pins:List (Addr × Obj)) (s:Shared) (σ:St) (H:Hp) (x:V) (xs:List V) (v:Value) (us:List Value) (Q:VK),Inv X pins σ H s->RelV x v->Vals xs us->r x xs H Q ->
   wpAny (model X.prog X.w) X.A (call (.builtin id) (v :: us)) (EP X pins σ Q) X.xe s
theorem Vals.one:∀ {x:V} {us:List Value},Vals [x] us->∃ u,us=[u]/\RelV x u
 | _,_,.cons r .nil=>⟨_,rfl,r⟩
theorem Vals.zero:∀ {us:List Value},Vals [] us->us=[]
 | _,.nil=>rfl
section
variable {X:Cx} {pins:List (Addr × Obj)} {σ:St} {H:Hp} {s:Shared} {l b:Addr} {xs ys zs:List V}
theorem Inv.rG {its its':List Value} {n:Nat} {f:Array Value->Array Value} {t':Nat} (I:Inv X pins σ H s) (hH:H l=some (.lst xs))
   (e:s.heap.get? l=some { cls:=.type "list",data:=.seq its.toArray n }) (hf:f its.toArray=its'.toArray) (hv:Vals ys its') (hz:ys.length<=sizeLine) :
   Inv X pins σ (upd H l (.lst ys)) { s with heap:=s.heap.update l (Obj.mapSeq f),toks:=t' }:=by
 have q:=PySem.IsL.update e f
 rw [hf] at q
 refine I.write (x:=l) (e:=l) (by rw [hH]; exact trivial) (.inl rfl) (λb' u hb hu=>(Heap.get?_update_other s.heap (Obj.mapSeq f) (Ne.symm hb)).trans hu) ⟨_,q⟩ ?_
 exact ⟨hz,its',_,hv,q⟩
theorem Inv.rJ {its:List Value} {t':Nat} (I:Inv X pins σ H s) (hv:Vals ys its) (hz:ys.length<=sizeLine) :
   Inv X pins σ (upd H s.heap.objs.size (.lst ys)) { s with heap:=s.heap.push { cls:=.type "list",data:=.seq its.toArray },toks:=t' }:=
 I.laid (λ_ _ q=>Heap.get?_push_of_some _ q) (Nat.le_refl _) ⟨hz,its,0,hv,Heap.get?_push_size _ rfl⟩
theorem Inv.fresh (I:Inv X pins σ H s):H s.heap.objs.size=none:=I.hok.fresh (Nat.le_refl _)
theorem Inv.rm (I:Inv X pins σ H s) (hH:H l=some (.lst xs)):xs.length<=sizeLine/\∃ (its:List Value) (n:Nat),Vals xs its/\xs.length=its.length/\s.heap.get? l=some { cls:=.type "list",data:=.seq its.toArray n }:=by
 obtain ⟨z,its,n,r,e⟩:=I.hok l _ hH
 exact ⟨z,its,n,r,r.length,e⟩
end
section
variable {X:Cx}
noncomputable def ni:V->List V->Hp->VK->Prop:=λx vs H Q=>∃ l xs y,x=.ref l/\vs=[y]/\H l=some (.lst xs)/\xs.length < sizeLine/\Q .non (upd H l (.lst (xs++[y])))
theorem cT:MtM X "list.append" ni:=by
 intro pins s σ H x vs v us Q I rx rv h
 obtain ⟨l,xs,y,rfl,rfl,hH,hz,q⟩:=h
 cases rx
 obtain ⟨u,rfl,ru⟩:=rv.one
 obtain ⟨z,its,n,r,hl,e⟩:=I.rm hH
 refine call_meets F.slot_list_append ⟨_,e,rfl⟩ F.entry_list_append (F.args_list_append_2 _ _) (PySem.list_append l its.toArray n u (by rw [List.size_toArray]; omega)) ⟨e,?_⟩
 refine ⟨.non,_,I.rG (its':=its++[u]) hH e (by simp) (r.append (.cons ru .nil)) ?_,rfl,q⟩
 rw [List.length_append,List.length_singleton]
 omega
end
section
variable {prog:Program} {w:World} {A:Around} {E:Value->Shared->Prop} {s:Shared}
end
section
variable {X:Cx}
end
end L2
namespace Att
open PySem PySem.W PySem.Calls PyProof.Rows
theorem eX {P:Params} {h:Heap}:∀ (ns:List Int) (vs:List Value),WellAll P h vs (ns.map WData.int)->IntsAre vs ns:=by
 intro ns
 induction ns with
 | nil=>
   intro vs w
   rw [List.map_nil] at w
   cases w
   exact .nil
 | cons n ns ih=>
   intro vs w
   rw [List.map_cons] at w
   cases w with
   | cons a b=>
     cases a
     exact .cons _ _ (ih _ b)
theorem lu {l:OpenLaw} {n:Nat} (hn:l.most=some n) {P:Params} {h:Heap} {args:List WData} {vals:List Value}
   (hpre:l.row.toRowW.claim.pre args=true) (hwl:WellAll P h vals args) :
   ∃ a vs ns,vals=[Value.ref a]/\args=[WData.list (ns.map WData.int)]/\h.get? a=some { cls:=.type "list",data:=.seq vs.toArray }/\IntsAre vs ns/\ns.length<=n:=by
 have hsh:WShape.hasAll [] args [.list .int]=true:=(pre_splitW hpre).1
 have hc:l.pre.holds [] { args:=args }=true:=(pre_splitW hpre).2
 obtain ⟨d,r,rfl,h1,h2⟩:=hasAllW_cons hsh
 obtain rfl:=hasAllW_nil h2
 obtain ⟨xs,rfl,h3⟩:=hasW_list h1
 obtain ⟨ns,rfl⟩:=items_int h3
 have hlen:ns.length<=n:=by
   unfold OpenLaw.pre at hc
   have h4:(WTm.not (.lt (.lit (.int (n:Int))) (.len (.arg 0)))).holds [] { args:=[.list (ns.map .int)] }=true:=by
     have h4:=(holds_andW hc).1
     rw [hn] at h4
     exact h4
   have h5:=condW_of h4 (w_not (w_lt w_lit (w_len_list (w_arg rfl))))
   rw [List.length_map] at h5
   refine Nat.le_of_not_lt λq=>?_
   have q':(n:Int) < ((ns.length:Nat):Int):=by omega
   first
     | (rw [decide_eq_true q'] at h5; exact absurd h5 (by decide))
     | (simp at h5; omega)
 cases hwl with
 | cons w1 w2=>
   cases w2
   cases w1 with
   | list ho hall=>exact ⟨_,_,ns,rfl,rfl,ho,eX ns _ hall,hlen⟩
theorem kX (l:OpenLaw) (args:List WData):l.row.toRowW.claim.post args (.bool true) args=true:=
 postW_of (r:=l.row.toRowW) (X:=(true == true))
   (show WShape.has [] (.bool true) .bool=true by first | rfl | decide | simp [WShape.has,WShape.arms,WShape.armsAll])
   (show (WTm.eq .res (.lit (.bool true))).value [] { args:=args,res:=some (.bool true),after:=args }=some (.bool (true == true)) from w_eq_bool (w_res rfl) w_lit) rfl
theorem jc {l:OpenLaw} {n:Nat} {q:Program} {loose:List Str} {XP:(Str->Option Value)->Heap->Prop} {YP:World->Heap->Prop} {d:DefRec}
   (hn:l.most=some n) (hdf:d.params.defaults=[])
   (call:∀ (w:World) (s₀ s₁:Shared) (mg mb:Str->Option Value) (fa:Addr) (o:Obj) (pm cd doc:Value) (a:Addr) (vs:List Value) (ns:List Int),
     Ground q loose [] XP w s₀ mg mb s₁.heap->YP w s₁.heap ->
     s₁.heap.get? fa=some o->o.data=.func (docDef d.name d.params d.body d.scope pm cd doc)->s₁.heap.CodeRec cd d.name->mg d.name=some (.ref fa) ->
     s₁.heap.get? a=some { cls:=.type "list",data:=.seq vs.toArray }->IntsAre vs ns->ns.length<=n->s₁.gens=#[] ->
     codeAny (model l.prog w) callerA (.call (.ref fa) ⟨[.ref a],[]⟩) (λr s'=>r=.ok (.ret (.bool true))/\OldK s₁.heap s'.heap/\s'.os=s₁.os/\AllBare s'.gens) s₁) :
   WalkO q loose XP YP l.row.toRowW d [] (λf vs=>PySem.call f vs):=by
 intro w s₀ s₁ mg mb G Y fa o pm cd doc dV kV ho hd hcd hD hmg hg args vals as hpre hlay hrd hwl hlo
 obtain rfl:dV=.none:=Dflts.none hD hdf
 obtain rfl:kV=.none:=Dflts.noKw hD
 obtain ⟨a,vs,ns,rfl,rfl,hobj,hints,hlen⟩:=lu hn hpre hwl
 refine enter_call (codeAny_mono (call w s₀ s₁ mg mb fa o pm cd doc a vs ns G Y ho (fd_plain hd) hcd hmg hobj hints hlen hg) λr s' hq=>?_)
 obtain ⟨rfl,h2,h3,h4⟩:=hq
 exact ⟨.inl ⟨.bool true,.bool true,[],rfl,λ_=>rfl,.bool true,kX l _,λ_=>⟨List.Pairwise.nil,λ_ hm=>(nomatch hm)⟩⟩,h2,h3,h4⟩
section
variable {prog:Program} {w:World} {A:Around} {E:Value->Shared->Prop} {s:Shared} {K:Frag}
end
end Att
namespace L2
open PySem PySem.Spec PyProof.Rows
theorem gI:∀ {vs:List Value} {ns:List Int},IntsAre vs ns->Vals (ns.map V.int) vs
 | _,_,.nil=>.nil
 | _,_,.cons n t h=>.cons ⟨t,rfl⟩ (gI h)
noncomputable def pw (H:Hp):Prop:=∀ b,H b=none\/∃ o xs,H b=some (.frz o (.lst xs))
theorem lF {P:Program} {w:World} {K:PySem.W.Frag} {mg mb:Str->Option Value} {CX:CXT} {k:Nat} {fa a:Addr} {fd:FuncData} {x:Str} {sp:Sp} {s₁:Shared} {vs:List Value} {ns:List Int}
   (KX:K.In s₁.heap) (hns:s₁.heap.Ns mainGlobals mg) (hb:s₁.heap.Ns builtinsNs mb) (hbb:∀ x:Str,x ≠ "__name__" -> mb x=bootBuiltins x) (hlim:s₁.heap.NoLimit) (hg:s₁.gens=#[])
   (ha:s₁.heap.get? a=some { cls:=.type "list",data:=.seq vs.toArray }) (hi:IntsAre vs ns) (hl:ns.length<=sizeLine) (hr:cB k callerA)
   (F:∀ base:Heap,K.In base->base.Ns mainGlobals mg->aL P w K mg base CX k fa fd [x] sp) (hbind:∀ (s:Shared) (u:Value),BindsTo s fd ⟨[u],[]⟩ [(x,u)])
   (hsp:∀ H:Hp,pw H->SqL K H a (ns.map V.int)->sp [.ref a] H (λv _=>v=.bl true) λ_ _ _=>False)
   (hCX:∀ H e s',CX [] H s₁ (λ_ _ _=>False) e s'->False) :
   codeAny (model P w) callerA (.call (.ref fa) ⟨[.ref a],[]⟩) (λr s'=>r=.ok (.ret (.bool true))/\OldK s₁.heap s'.heap/\s'.os=s₁.os/\AllBare s'.gens) s₁:=by
 have rv:=gI hi
 have lenV:=hi.length
 have core:∀ H:Hp,pw H->SqL K H a (ns.map V.int)->HOk P w H s₁.heap->(∀ b,H b ≠ none->b=a)->(H a ≠ none->K.lookup a=none) ->
     codeAny (model P w) callerA (.call (.ref fa) ⟨[.ref a],[]⟩) (λr s'=>r=.ok (.ret (.bool true))/\OldK s₁.heap s'.heap/\s'.os=s₁.os/\AllBare s'.gens) s₁:=by
   intro H hO hS hok hA hK
   have base_of:∀ {b:Addr} {o:Obj},s₁.heap.get? b=some o->H b=none->(iL s₁.heap H).get? b=some o:=λe n=>l7 e n
   have noA:∀ {b:Addr} {o:Obj} {es:Array DictEntry} {ep:Nat},s₁.heap.get? b=some o->o.data=.dict es ep->H b=none:=λ{b o es ep} e d=>by
     cases q:H b with
     | none=>rfl
     | some u=>
       have e':b=a:=hA b (by rw [q]; simp)
       subst e'
       rw [ha] at e; cases e
       have d':Data.seq vs.toArray _=Data.dict es ep:=d
       cases d'
   have nsK:∀ {b:Addr} {m:Str->Option Value},s₁.heap.Ns b m->(iL s₁.heap H).Ns b m:=λ{b m} ⟨o,es,ep,e,d,r⟩=>⟨o,es,ep,base_of e (noA e d),d,r⟩
   have hKb:K.In (iL s₁.heap H):=λb o e=>base_of (KX b o e) (by
     cases q:H b with
     | none=>rfl
     | some u=>
       have e':b=a:=hA b (by rw [q]; simp)
       subst e'
       rw [hK (by rw [q]; simp)] at e; cases e)
   have hM:Mod K mg (iL s₁.heap H):=⟨hKb,nsK hns,⟨mb,nsK hb,hbb⟩,let ⟨mc,h1,h2⟩:=hlim; ⟨mc,nsK h1,h2⟩⟩
   have e0:nU P w K mg (iL s₁.heap H) callerA [] s₁ H:=⟨rfl,hM,λb o e=>nF e,Nat.le_of_eq (lj _ _),trivial,λb hb=>absurd (show b ∈ ([]:List Addr) from hb) (by simp),hok,.of_eq hg⟩
   refine codeAny_mono ((F _ hKb (nsK hns)).run callerA [] s₁ H ⟨[.ref a],[]⟩ [.ref a] [.ref a] _ _ hr e0 (hbind s₁ (.ref a)) (.cons rfl .nil) (hsp H hO hS)) λr s' h=>?_
   cases r with
   | error e=>exact (hCX H e s' h).elim
   | ok fl=>
     cases fl with
     | next=>exact False.elim h
     | brk=>exact False.elim h
     | cont=>exact False.elim h
     | ret u=>
       obtain ⟨v,H',os,bare,un,hok',r',q⟩:=h
       have q':v=.bl true:=q
       subst q'
       obtain rfl:u=Value.bool true:=r'
       refine ⟨rfl,OldK.of_keep λb o e=>?_,os,bare⟩
       cases q:H b with
       | none=>exact un.keep b o e q (by intro z; exact absurd (show b ∈ ([]:List Addr) from z) (by simp)) (by simp)
       | some u=>
         rcases hO b with z | ⟨ob,xs,z⟩
         · rw [q] at z; cases z
         · have z2:=un.frzs b ob _ z
           obtain ⟨e1,_⟩:=hok b _ z
           obtain ⟨e2,_⟩:=hok' b _ z2
           rw [e] at e1; cases e1
           exact e2
 cases hk:K.lookup a with
 | some o=>
   have e:=KX a o hk
   rw [ha] at e
   cases e
   refine core (λ_=>none) (λ_=>.inl rfl) (.inr ⟨_,vs.toArray,_,hk,rfl,rfl,rfl,by rw [List.size_toArray,lenV]; exact hl,by simpa using rv⟩) (λb u z=>by have z':(none:Option HO)=some u:=z; cases z') (λb z=>absurd rfl z) λz=>absurd rfl z
 | none=>
   refine core (λb=>if b=a then some (.frz { cls:=.type "list",data:=.seq vs.toArray } (.lst (ns.map V.int))) else none) (λb=>?_) (.inl (.inr ⟨{ cls:=.type "list",data:=.seq vs.toArray },if_pos rfl⟩)) (λb u z=>?_) (λb z=>?_) λ_=>hk
   · by_cases hb:b=a
     · exact .inr ⟨_,_,if_pos hb⟩
     · exact .inl (if_neg hb)
   · by_cases hb:b=a
     · have z':=(if_pos hb).symm.trans z
       cases z'
       subst hb
       exact ⟨ha,by rw [List.length_map]; exact hl,vs,_,rv,ha⟩
     · have z':=(if_neg hb).symm.trans z
       cases z'
   · by_cases hb:b=a
     · exact hb
     · exact absurd (if_neg hb) z
end L2
namespace L2
open PySem PySem.Spec PyProof.Rows
theorem nr {l:PySem.W.OpenLaw} {n k:Nat} {q:Program} {loose:List Str} {XP:(Str->Option Value)->Heap->Prop} {YP:World->Heap->Prop} {d:DefRec} {K:Params->PySem.W.Frag} {CX:World->CXT} {sp:World->Sp} {x:Str}
   (hn:l.most=some n) (hn2:n<=sizeLine) (hdf:d.params.defaults=[]) (hr:cB k callerA)
   (hY:∀ (w:World) (h:Heap),YP w h->(K w.params).In h)
   (F:∀ (w:World) (mg:Str->Option Value) (fa:Addr) (h:Heap),(K w.params).In h->h.Ns mainGlobals mg->mg d.name=some (.ref fa) ->
     ∃ fd:FuncData,(∀ (s:Shared) (u:Value),BindsTo s fd ⟨[u],[]⟩ [(x,u)]) /\
       ∀ base:Heap,(K w.params).In base->base.Ns mainGlobals mg->aL l.prog w (K w.params) mg base (CX w) k fa fd [x] (sp w))
   (hsp:∀ (w:World) (H:Hp) (a:Addr) (ns:List Int),ns.length<=n->pw H->SqL (K w.params) H a (ns.map V.int)->sp w [.ref a] H (λv _=>v=.bl true) λ_ _ _=>False)
   (hCX:∀ (w:World) (H:Hp) (s:Shared) (e:Value) (s':Shared),CX w [] H s (λ_ _ _=>False) e s'->False) :
   PySem.W.WalkO q loose XP YP l.row.toRowW d [] (λf vs=>PySem.call f vs):=by
 refine Att.jc hn hdf λw s₀ s₁ mg mb fa o pm cd doc a vs ns G Y ho hd hcd hmg hobj hints hlen hg=>?_
 have KX:=hY w _ Y
 obtain ⟨fd,hb,hF⟩:=F w mg fa _ KX G.T.g hmg
 exact lF KX G.T.g G.T.b G.T.builtins G.T.nolimit hg hobj hints (Nat.le_trans hlen hn2) hr hF hb (λH hO hS=>hsp w H a ns hlen hO hS) λH e s'=>hCX w H s₁ e s'
end L2
namespace L2
open PySem PySem.Spec PyProof.Rows
noncomputable def ck (s:Stmt):Arguments:=match s with
 | .FunctionDef _ a _ _ _ _ _ _ _ _=>a
 | _=>{ posonlyargs:=[],args:=[],vararg:=none,kwonlyargs:=[],kw_defaults:=[],kwarg:=none,defaults:=[] }
noncomputable def bq (s:Stmt):List Stmt:=match s with
 | .FunctionDef _ _ b _ _ _ _ _ _ _=>b
 | _=>[]
noncomputable def ai (s:Stmt):Scope:=match s with
 | .FunctionDef _ _ _ _ _ _ sc _ _ _=>sc
 | _=>{ kind:=.function,names:=[],isGenerator:=false,isCoroutine:=false }
noncomputable abbrev CX0:CXT:=λ_ _ _ _ _ _=>False
noncomputable abbrev E0:XK:=λ_ _ _=>False
theorem dR {X:Cx}:Passes CX0 X E0:=λ_ _ _ _ _ _ _ h=>h.elim
structure Fun (K:PySem.W.Frag) (x qual:Str) (st:Stmt) (f:Addr) (fd:FuncData):Prop where
 ex:∃ (oc:Value) (od:Option Addr) (dV kV doc pm:Value) (an:Option Addr) (cdv ct:Value) (osl:Array (Option Value)),
   fd=PySem.W.fnOf x qual (ck st) (bq st) (ai st) dV kV doc pm an cdv ct/\K.lookup f=some ⟨oc,od,.func fd,osl⟩/\PySem.W.codeIn K cdv qual=true
 kp:PySem.W.keepIn K (.ref f)=true
section
variable {P:Program} {w:World} {K:PySem.W.Frag} {mg:Str->Option Value} {base:Heap}
theorem Fun.ok {x qual:Str} {st:Stmt} {f:Addr} {fd:FuncData} {N ps:List Str} {k:Nat} {sp:Sp} (F:Fun K x qual st f fd) (S:ay N ps (ai st)) (len:∀ vs H Q E,sp vs H Q E->vs.length=ps.length)
   (hbody:∀ (cdv:Value) (A:Around) (outer:List Env) (s:Shared) (H:Hp) (vs:List V) (Q:VK) (E:XK),cB k (A.deeper (envOfC qual (ai st) s.heap.objs.size f cdv))->sp vs H Q E ->
     ∃ t,PSs (iX CX0 P w K mg base N qual (ai st) f cdv A outer s H E).nox (bq st) t/\t { nx:=λ_ H'=>Q .non H',rt:=Q } (start N vs) H):aL P w K mg base CX0 (k + 1) f fd ps sp:=by
 obtain ⟨oc,od,dV,kV,doc,pm,an,cdv,ct,osl,rfl,lk,hcd⟩:=F.ex
 refine qF lk hcd S len λA outer s H vs Q E hr hsp=>?_
 obtain ⟨t,h,q⟩:=hbody cdv A outer s H vs Q E hr hsp
 exact ⟨t,h.nox,q⟩
theorem Fun.binds {x qual:Str} {st:Stmt} {f:Addr} {fd:FuncData} {ps:List Str} (_:Fun K x qual st f fd) (h:∀ us:List Value,us.length=ps.length->bindArgs fd ⟨us,[]⟩=pure (ps.zip us)):Binds K fd ps []:=.all h
theorem l9 {x qual:Str} {st:Stmt} {f:Addr} {oc:Value} {od an:Option Addr} {osl:Array (Option Value)} {dV kV doc pm cdv ct:Value} (l:K.lookup f=some ⟨oc,od,.func (PySem.W.fnOf x qual (ck st) (bq st) (ai st) dV kV doc pm an cdv ct),osl⟩)
   (c:PySem.W.codeIn K cdv qual=true) (k:PySem.W.keepIn K (.ref f)=true):Fun K x qual st f (PySem.W.fnOf x qual (ck st) (bq st) (ai st) dV kV doc pm an cdv ct):=⟨⟨oc,od,dV,kV,doc,pm,an,cdv,ct,osl,rfl,l,c⟩,k⟩
end
theorem gH {n:Nat} (h:n<=1000):n < sizeLine:=Nat.lt_of_le_of_lt h (by decide)
section
variable {X:Cx}
theorem pv (i:Nat) {x:Str} {pos:Pos} (hN:X.N[i]?=some x:=by rfl) (hv:Vis X.env.scope x:=by first | exact Or.inl rfl | exact Or.inr (Or.inl rfl) | exact Or.inr (Or.inr rfl)) (hd:(x == ("__debug__" : Str))=false:=by decide)
   (hcd:(x == ("__classdict__" : Str))=false:=by decide):PE X (.Name x pos) (gd i):=cE hN hv hd hcd
end
theorem gB {A B:Prop} (h:B):if false=true then A else B:=by
 rw [if_neg Bool.false_ne_true]
 exact h
theorem iu {A B:Prop} (h:A):if true=true then A else B:=by
 rw [if_pos rfl]
 exact h
noncomputable def af (H H':Hp):Prop:=∀ b o,H b=some o->H' b=some o
theorem af.refl (H:Hp):af H H:=λ_ _ h=>h
theorem af.trans {H H1 H2:Hp} (a:af H H1) (b:af H1 H2):af H H2:=λc o h=>b c o (a c o h)
theorem af.free {H H':Hp} (e:af H H') {l:Addr} (h:H' l=Option.none):H l=Option.none:=by
 cases q:H l with
 | none=>rfl
 | some o=>
   rw [e l o q] at h
   cases h
theorem af.seq {K:PySem.W.Frag} {H H':Hp} {a:Addr} {xs:List V} (e:af H H') (h:SqL K H a xs):SqL K H' a xs:=by
 rcases h with (h | ⟨o,h⟩) | h
 · exact .inl (.inl (e _ _ h))
 · exact .inl (.inr ⟨o,e _ _ h⟩)
 · exact .inr h
end L2
set_option linter.all false
set_option maxRecDepth 100000
namespace Ev
open PySem PySem.Spec PyProof.Rows L2
inductive D where
 | non | bl (b:Bool) | int (i:Int) | str (x:Str) | tup (xs:List D) | lst (xs:List D)
 deriving Inhabited
mutual
inductive Den (K:PySem.W.Frag) (H:Hp):V->D->Prop where
 | non:Den K H .non .non
 | bl {b:Bool}:Den K H (.bl b) (.bl b)
 | int {i:Int}:Den K H (.int i) (.int i)
 | str {x:Str}:Den K H (.str x) (.str x)
 | tup {a:Addr} {vs:List V} {ds:List D} (h:SqT K H a vs) (r:ax K H vs ds):Den K H (.ref a) (.tup ds)
 | lst {a:Addr} {vs:List V} {ds:List D} (h:SqL K H a vs) (r:ax K H vs ds):Den K H (.ref a) (.lst ds)
inductive ax (K:PySem.W.Frag) (H:Hp):List V->List D->Prop where
 | nil:ax K H [] []
 | cons {v:V} {d:D} {vs:List V} {ds:List D} (h:Den K H v d) (r:ax K H vs ds):ax K H (v :: vs) (d :: ds)
end
section
variable {K:PySem.W.Frag} {H H':Hp}
theorem aF (e:af H H') {a:Addr} {xs:List V} (h:SqT K H a xs):SqT K H' a xs:=by
 rcases h with (h | ⟨o,h⟩) | h
 · exact .inl (.inl (e _ _ h))
 · exact .inl (.inr ⟨o,e _ _ h⟩)
 · exact .inr h
theorem aC (e:af H H') {a:Addr} {xs:List V} (h:SqL K H a xs):SqL K H' a xs:=e.seq h
mutual
theorem Den.mono (e:af H H'):∀ {v:V} {d:D},Den K H v d->Den K H' v d
 | _,_,.non=>.non
 | _,_,.bl=>.bl
 | _,_,.int=>.int
 | _,_,.str=>.str
 | _,_,.tup h r=>.tup (aF e h) (ax.mono e r)
 | _,_,.lst h r=>.lst (aC e h) (ax.mono e r)
theorem ax.mono (e:af H H'):∀ {vs:List V} {ds:List D},ax K H vs ds->ax K H' vs ds
 | _,_,.nil=>.nil
 | _,_,.cons h r=>.cons (Den.mono e h) (ax.mono e r)
end
theorem ax.length:∀ {vs:List V} {ds:List D},ax K H vs ds->vs.length=ds.length
 | _,_,.nil=>rfl
 | _,_,.cons _ r=>congrArg (· + 1) r.length
theorem ax.get:∀ {vs:List V} {ds:List D} {i:Nat} {d:D},ax K H vs ds->ds[i]?=some d->∃ v,vs[i]?=some v/\Den K H v d
 | _,_,_,_,.nil,e=>by simp at e
 | _,_,0,_,.cons h _,e=>by simp at e; subst e; exact ⟨_,rfl,h⟩
 | _,_,i + 1,d,.cons _ r,e=>by
   obtain ⟨v,h1,h2⟩:=ax.get (i:=i) (d:=d) r (by simpa using e)
   exact ⟨v,by simpa using h1,h2⟩
theorem ax.append:∀ {xs ys:List V} {ds es:List D},ax K H xs ds->ax K H ys es->ax K H (xs++ys) (ds++es)
 | _,_,_,_,.nil,s=>s
 | _,_,_,_,.cons h r,s=>.cons h (ax.append r s)
theorem ax.take:∀ {xs:List V} {ds:List D} (n:Nat),ax K H xs ds->ax K H (xs.take n) (ds.take n)
 | _,_,0,_=>.nil
 | _,_,_ + 1,.nil=>.nil
 | _,_,n + 1,.cons h r=>.cons h (ax.take n r)
theorem ax.drop:∀ {xs:List V} {ds:List D} (n:Nat),ax K H xs ds->ax K H (xs.drop n) (ds.drop n)
 | _,_,0,r=>r
 | _,_,_ + 1,.nil=>.nil
 | _,_,n + 1,.cons _ r=>ax.drop n r
end
noncomputable def aQ (i j:Int):Prop:=i.natAbs.log2 < 64\/j.natAbs.log2 < 64\/(i.natAbs.log2 < 1000000/\j.natAbs.log2 < 1000000)
noncomputable def bw (j:Int):Prop:=j ≠ 0/\j.natAbs.log2 < 9000
theorem ao {H:Hp} {p:Addr} (h:H p=none) (o:HO):af H (upd H p o):=λb u q=>by rw [ak (az q h)]; exact q
end Ev
namespace Ev
open PySem PySem.Spec PyProof.Rows L2
noncomputable def Ite (K:PySem.W.Frag) (a:Addr):L2.It:=
 ⟨λi H=>∃ xs x,SqL K H a xs/\xs[i]?=some x,λi H v H'=>∃ p x,H p=none/\v=.ref p/\H'=upd H p (.tup [.int (i:Nat),x])/\∀ xs,SqL K H a xs->xs[i]?=some x,λi H=>∃ xs,SqL K H a xs/\xs.length<=i⟩
theorem kQ {P:Program} {w:World} {K:PySem.W.Frag} {ts:List Expr} {q:Nat} {tp:Pos} (a e it:Addr) (hne:e ≠ it) :
   Turn P w K (.Tuple ts q tp) (Ite K a) [e,it] e (λi h=>(∃ old,IsEnum h e it (i:Nat) old)/\h.IsListIter it a i) where
 mem:=by simp
 obj:=λi h st b hb=>by
   obtain ⟨⟨old,h1⟩,o,h2,h3,h4⟩:=st
   rcases List.mem_cons.mp hb with rfl | hb
   · exact ⟨_,h1,λv z=>nomatch z⟩
   · have z:b=it:=by simpa using hb
     subst z
     exact ⟨o,h2,λv z=>by rw [h4] at z; cases z⟩
 keep:=λi h h' st k=>by
   obtain ⟨⟨old,h1⟩,o,h2,h3,h4⟩:=st
   exact ⟨⟨old,k e (by simp) _ h1⟩,o,k it (by simp) o h2,h3,h4⟩
 item:=by
   intro X hP hw hK hc i pins s σ H E I hf st hg
   subst hP hw hK
   obtain ⟨xs,x,hq,hx⟩:=hg
   obtain ⟨its,rv,p,hz⟩:=I.list hq
   obtain ⟨u,hu,ru⟩:=rv.get hx
   obtain ⟨⟨old,h1⟩,h2⟩:=st
   have fe:=hf e (by simp)
   have fi:=hf it (by simp)
   refine wpAny_pyNext_enum_item h1 h2 p.isList (x:=u) (by simpa using hu) hne λh' g1 g2 g3 g4 g5=>⟨_,rfl,?_⟩
   refine wpAny_letOwnedTupleGo_enum (s:={ s with heap:=h',toks:=s.toks + 1 }) g1 λh2' k1 k2=>?_
   have hn:H s.heap.objs.size=none:=I.hok.fresh (Nat.le_refl _)
   have le1:e < s.heap.objs.size:=Heap.lt_size h1
   have le2:it < s.heap.objs.size:=by obtain ⟨o,z,_⟩:=h2; exact Heap.lt_size z
   have kp:∀ b o,b ≠ e->b ≠ it->s.heap.get? b=some o->h2'.get? b=some o:=λb o b1 b2 z=>(k2.2 b b1).trans (g5 b o b1 b2 z)
   have nt:h2'.get? s.heap.objs.size=some { cls:=.type "tuple",data:=.seq #[.int (i:Nat) s.toks,u] }:=(k2.2 _ (Nat.ne_of_gt le1)).trans g3
   have ne1:∀ b v,H b=some v->b ≠ e:=λb v z q=>by rw [q,fe.1] at z; cases z
   have ne2:∀ b v,H b=some v->b ≠ it:=λb v z q=>by rw [q,fi.1] at z; cases z
   have hok0:HOk X.prog X.w H h2':=λb v z=>(I.hok b v z).fM (λc v' hc' q=>kp c v' (by
       rcases hc' with hc' | hc'
       · rw [hc']; exact ne1 b v z
       · exact ne1 c _ hc') (by
       rcases hc' with hc' | hc'
       · rw [hc']; exact ne2 b v z
       · exact ne2 c _ hc') q) (λ_ q=>q) λ_ _ q=>q
   have hok1:HOk X.prog X.w (upd H s.heap.objs.size (.tup [.int (i:Nat),x])) h2':=λb v z=>by
     by_cases hb:b=s.heap.objs.size
     · subst hb
       rw [aB] at z; cases z
       exact ⟨(by show 2<=sizeLine; decide),[.int (i:Nat) s.toks,u],.cons ⟨_,rfl⟩ (.cons ru .nil),_,nt,rfl,_,rfl⟩
     · rw [ak hb] at z
       exact (hok0 b v z).fM (λc v' _ q=>q) (λc q=>by rw [ak (az q hn)]; exact q) λc ys q=>by rw [ak (az q hn)]; exact q
   have I1:Inv X pins σ (upd H s.heap.objs.size (.tup [.int (i:Nat),x])) { s with heap:=h2',toks:=s.toks + 1 }:=by
     refine I.step (g':=s.gens) (d':=s.drawn) (ch:=[e,it]) (λb hb=>?_) (λb o _ _ hc' z _=>kp b o (λq=>hc' (by simp [q])) (λq=>hc' (by simp [q])) z)
       (λb o _ _ hc' z _=>⟨o.slots,kp b o (λq=>hc' (by simp [q])) (λq=>hc' (by simp [q])) z⟩)
       (λb o hc' z n=>by rw [ak (Nat.ne_of_lt (Heap.lt_size z))]; exact n) (λb o hc' z=>⟨o,kp b o (λq=>hc' (by simp [q])) (λq=>hc' (by simp [q])) z⟩)
       (λb ys z=>by rw [ak (az z hn)]; exact z) (λb o u z=>by rw [ak (az z hn)]; exact z) (λb ps z=>⟨#[],by rw [ak (az z hn),z]; simp⟩) (λm hm=>?_) hok1 I.bare
     · rcases List.mem_cons.mp hb with rfl | hb
       · exact ⟨fe.2.2.2.1,fe.2.1,fe.2.2.2.2.1,fe.2.2.2.2.2⟩
       · have z:b=it:=by simpa using hb
         subst z
         exact ⟨fi.2.2.2.1,fi.2.1,fi.2.2.2.2.1,fi.2.2.2.2.2⟩
     · obtain ⟨o,es,ep,ho,r⟩:=hm
       exact ⟨o,es,ep,kp _ o (Ne.symm fe.2.1) (Ne.symm fi.2.1) ho,r⟩
   refine ⟨.ref s.heap.objs.size,_,I1,rfl,⟨s.heap.objs.size,x,hn,rfl,rfl,λys hy=>by rw [I.cL hy hq]; exact hx⟩,⟨⟨_,k1⟩,?_⟩,λb hb=>?_⟩
   · obtain ⟨o,z1,z2,z3⟩:=g2
     exact ⟨o,(k2.2 it (Ne.symm hne)).trans z1,z2,z3⟩
   · rcases List.mem_cons.mp hb with rfl | hb
     · rw [ak (Nat.ne_of_lt le1)]; exact fe.1
     · have z:b=it:=by simpa using hb
       subst z
       rw [ak (Nat.ne_of_lt le2)]; exact fi.1
 done:=by
   intro X hP hw hK hc i pins s σ H E I hf st hg
   subst hP hw hK
   obtain ⟨xs,hq,hx⟩:=hg
   obtain ⟨its,rv,p,hz⟩:=I.list hq
   obtain ⟨⟨old,h1⟩,h2⟩:=st
   obtain ⟨f0,f1,f2,f3,f4,f5⟩:=hf it (by simp)
   have hl:=rv.length
   exact wpAny_pyNext_enum_end (I.ok.hd hc) h1 h2 p.isList (by simp; omega) λh' eb=>⟨rfl,I.turned (t':=s.toks) (λb o hb z=>eb b o hb z) f0 f1 f3 f4 f5⟩
 self:=λ_ _ _ _ _ st h=>by
   obtain ⟨⟨old,h1⟩,_⟩:=st
   exact wpAny_pyIter_enum h1 h
section
variable {X:Cx}
noncomputable def qY (K:PySem.W.Frag) (ta:TA):TI:=λσ H R=>ta σ H λvs H1=>∃ a,vs=[.ref a]/\(∃ xs,SqL K H1 a xs)/\R (Ite K a) H1
theorem kR:bootBuiltins "enumerate" = some (.type "enumerate"):=by decide +kernel
theorem ky {ts:List Expr} {q:Nat} {tp:Pos} {a:Expr} {ta:TA} {p pos:Pos} (hg:Gl X "enumerate") (hm:X.mg "enumerate" = none) (ha:PA X [a] ta) (hs:starEach [a] X.env=[(false,eval a X.env)]) :
   PI X (.Tuple ts q tp) (.Call (.Name "enumerate" p) [a] [] pos) (qY X.K ta):=by
 intro pins s σ H R I h
 refine Call_ (cN I hg hm kR (PyProof.Rows.callWith_type1 (thn (ha pos pins s σ H _ I h) λus s1 ⟨vs,H1,I1,r1,q1⟩=>?_) hs rfl))
 obtain ⟨l,e,⟨xs,hq⟩,q⟩:=q1
 subst e
 obtain ⟨u,rfl,ru⟩:=vals1 r1
 cases ru
 obtain ⟨its,rv,pl,hz⟩:=I1.list hq
 refine call_enumerate_list pl.isList λh' g1 g2 g3 g4=>?_
 refine wpAny_pyIter_enum (s:={ s1 with heap:=h' }) g1 ?_
 have I2:Inv X pins σ H1 { s1 with heap:=h' }:=I1.kept (t':=s1.toks) g4
 have n1:H1 (s1.heap.objs.size + 1)=none:=I1.hok.fresh (by omega)
 have n2:H1 s1.heap.objs.size=none:=I1.hok.fresh (Nat.le_refl _)
 refine ⟨s1.heap.objs.size + 1,[s1.heap.objs.size + 1,s1.heap.objs.size],_,_,H1,rfl,I2,kQ l (s1.heap.objs.size + 1) s1.heap.objs.size (Nat.succ_ne_self _),⟨⟨_,g1⟩,g2⟩,λb hb=>?_,q⟩
 rcases List.mem_cons.mp hb with rfl | hb
 · exact I1.jB (by omega) n1
 · have z:b=s1.heap.objs.size:=by simpa using hb
   subst z
   exact I1.jB (Nat.le_refl _) n2
end
end Ev
namespace Ev
open PySem PySem.Spec PyProof.Rows L2
noncomputable def Itz (K:PySem.W.Frag) (a b:Addr):L2.It:=
 ⟨λi H=>∃ xs ys x y,SqL K H a xs/\SqL K H b ys/\xs[i]?=some x/\ys[i]?=some y,
  λi H v H'=>∃ p x y,H p=none/\v=.ref p/\H'=upd H p (.tup [x,y])/\(∀ xs,SqL K H a xs->xs[i]?=some x)/\∀ ys,SqL K H b ys->ys[i]?=some y,
  λi H=>∃ xs ys,SqL K H a xs/\SqL K H b ys/\(xs.length<=i\/ys.length<=i)⟩
noncomputable def zSt (a b z TI TO i1 i2:Addr) (i:Nat) (h:Heap):Prop:=
 IsZip h z TI TO .none/\IsPair h TI (.ref i1) (.ref i2)/\(∃ u v,IsPair h TO u v)/\h.IsListIter i1 a i/\h.IsListIter i2 b i
theorem gJ {h:Heap} {a b z TI TO i1 i2:Addr} {i:Nat} {xs ys:Array Value} (n:TI ≠ TO) (m:i1 ≠ i2) (s:zSt a b z TI TO i1 i2 i h) (l1:h.IsList a xs) (l2:h.IsList b ys):ZipApart z TI TO i1 i2 a b:=by
 obtain ⟨h1,h2,⟨u,v,h3⟩,⟨o4,h4,c4,d4⟩,⟨o5,h5,c5,d5⟩⟩:=s
 obtain ⟨o6,h6,c6,n6,d6⟩:=l1
 obtain ⟨o7,h7,c7,n7,d7⟩:=l2
 have kk:∀ {x y:Addr} {o p:Obj},h.get? x=some o->h.get? y=some p->o.cls ≠ p.cls->x ≠ y:=λe1 e2 c q=>by subst q; rw [e1] at e2; cases e2; exact c rfl
 have cz:∀ {s t:String},s ≠ t->Value.type s ≠ Value.type t:=λn q=>n (by cases q; rfl)
 refine ⟨kk h2 h1 (cz (by decide)),kk h3 h1 (cz (by decide)),kk h4 h1 ?_,kk h5 h1 ?_,n,kk h2 h4 ?_,kk h2 h5 ?_,kk h3 h4 ?_,kk h3 h5 ?_,m,kk h6 h1 ?_,kk h6 h3 ?_,kk h6 h4 ?_,kk h6 h5 ?_,kk h7 h1 ?_,kk h7 h3 ?_,kk h7 h4 ?_,kk h7 h5 ?_⟩
 all_goals first | (rw [c4]; exact cz (by decide)) | (rw [c5]; exact cz (by decide)) | (rw [c6]; exact cz (by decide)) | (rw [c7]; exact cz (by decide)) | (rw [c6,c4]; exact cz (by decide)) | (rw [c6,c5]; exact cz (by decide)) | (rw [c7,c4]; exact cz (by decide)) | (rw [c7,c5]; exact cz (by decide))
theorem ml {P:Program} {w:World} {K:PySem.W.Frag} {ts:List Expr} {q:Nat} {tp:Pos} (a b z TI TO i1 i2:Addr) (nT:TI ≠ TO) (nI:i1 ≠ i2) :
   Turn P w K (.Tuple ts q tp) (Itz K a b) [z,TI,TO,i1,i2] z (zSt a b z TI TO i1 i2) where
 mem:=by simp
 obj:=λi h st c hb=>by
   obtain ⟨h1,h2,⟨u,v,h3⟩,⟨o4,h4,c4,d4⟩,⟨o5,h5,c5,d5⟩⟩:=st
   simp only [List.mem_cons,List.not_mem_nil,or_false] at hb
   rcases hb with rfl | rfl | rfl | rfl | rfl
   · exact ⟨_,h1,λv z=>nomatch z⟩
   · exact ⟨_,h2,λv z=>nomatch z⟩
   · exact ⟨_,h3,λv z=>nomatch z⟩
   · exact ⟨_,h4,λv z=>by rw [d4] at z; cases z⟩
   · exact ⟨_,h5,λv z=>by rw [d5] at z; cases z⟩
 keep:=λi h h' st k=>by
   obtain ⟨h1,h2,⟨u,v,h3⟩,⟨o4,h4,c4,d4⟩,⟨o5,h5,c5,d5⟩⟩:=st
   exact ⟨k z (by simp) _ h1,k TI (by simp) _ h2,⟨u,v,k TO (by simp) _ h3⟩,⟨o4,k i1 (by simp) _ h4,c4,d4⟩,⟨o5,k i2 (by simp) _ h5,c5,d5⟩⟩
 item:=by
   intro X hP hw hK hc i pins s σ H E I hf st hg
   subst hP hw hK
   obtain ⟨xs,ys,x,y,hq1,hq2,hx,hy⟩:=hg
   obtain ⟨its1,rv1,p1,hz1⟩:=I.list hq1
   obtain ⟨its2,rv2,p2,hz2⟩:=I.list hq2
   obtain ⟨u1,hu1,ru1⟩:=rv1.get hx
   obtain ⟨u2,hu2,ru2⟩:=rv2.get hy
   have D:=gJ nT nI st p1.isList p2.isList
   obtain ⟨h1,h2,⟨u,v,h3⟩,h4,h5⟩:=st
   refine wpAny_pyNext_zip_item D h1 h2 h3 h4 h5 p1.isList p2.isList (x:=u1) (y:=u2) (by simpa using hu1) (by simpa using hu2) λh' g1 g2 g3 g4 g5 g6 g7=>⟨_,rfl,?_⟩
   refine wpAny_letOwnedTupleGo_zip (s:={ s with heap:=h' }) g1 λh2' k1 k2=>?_
   have hn:H s.heap.objs.size=none:=I.hok.fresh (Nat.le_refl _)
   have le1:z < s.heap.objs.size:=Heap.lt_size h1
   have lt2:TI < s.heap.objs.size:=Heap.lt_size h2
   have lt3:TO < s.heap.objs.size:=Heap.lt_size h3
   have lt4:i1 < s.heap.objs.size:=by obtain ⟨o,z,_⟩:=h4; exact Heap.lt_size z
   have lt5:i2 < s.heap.objs.size:=by obtain ⟨o,z,_⟩:=h5; exact Heap.lt_size z
   have kp:∀ c o,c ≠ z->c ≠ TO->c ≠ i1->c ≠ i2->s.heap.get? c=some o->h2'.get? c=some o:=λc o b1 b2 b3 b4 e=>(k2.2 c b1).trans (g7 c o b1 b2 b3 b4 e)
   have nt:IsPair h2' s.heap.objs.size u1 u2:=(k2.2 _ (Nat.ne_of_gt le1)).trans g5
   have ne:∀ c,c ∈ [z,TI,TO,i1,i2]->∀ d v,H d=some v->d ≠ c:=λc hc d v e q=>by
     have:=(hf c hc).1
     rw [q,this] at e; cases e
   have hok0:HOk X.prog X.w H h2':=λd v e=>(I.hok d v e).fM (λc v' hc' q=>kp c v'
       (by rcases hc' with hc' | hc'
           · rw [hc']; exact ne z (by simp) d v e
           · exact ne z (by simp) c _ hc')
       (by rcases hc' with hc' | hc'
           · rw [hc']; exact ne TO (by simp) d v e
           · exact ne TO (by simp) c _ hc')
       (by rcases hc' with hc' | hc'
           · rw [hc']; exact ne i1 (by simp) d v e
           · exact ne i1 (by simp) c _ hc')
       (by rcases hc' with hc' | hc'
           · rw [hc']; exact ne i2 (by simp) d v e
           · exact ne i2 (by simp) c _ hc') q) (λ_ q=>q) λ_ _ q=>q
   have hok1:HOk X.prog X.w (upd H s.heap.objs.size (.tup [x,y])) h2':=λd v e=>by
     by_cases hb:d=s.heap.objs.size
     · subst hb
       rw [aB] at e; cases e
       exact ⟨(by show 2<=sizeLine; decide),[u1,u2],.cons ru1 (.cons ru2 .nil),_,nt,rfl,_,rfl⟩
     · rw [ak hb] at e
       exact (hok0 d v e).fM (λc v' _ q=>q) (λc q=>by rw [ak (az q hn)]; exact q) λc ys q=>by rw [ak (az q hn)]; exact q
   have I1:Inv X pins σ (upd H s.heap.objs.size (.tup [x,y])) { s with heap:=h2' }:=by
     refine I.step (t':=s.toks) (g':=s.gens) (d':=s.drawn) (ch:=[z,TO,i1,i2]) (λc hb=>?_) (λc o _ _ hc' e _=>kp c o (λq=>hc' (by simp [q])) (λq=>hc' (by simp [q])) (λq=>hc' (by simp [q])) (λq=>hc' (by simp [q])) e)
       (λc o _ _ hc' e _=>⟨o.slots,kp c o (λq=>hc' (by simp [q])) (λq=>hc' (by simp [q])) (λq=>hc' (by simp [q])) (λq=>hc' (by simp [q])) e⟩)
       (λc o hc' e n=>by rw [ak (Nat.ne_of_lt (Heap.lt_size e))]; exact n) (λc o hc' e=>⟨o,kp c o (λq=>hc' (by simp [q])) (λq=>hc' (by simp [q])) (λq=>hc' (by simp [q])) (λq=>hc' (by simp [q])) e⟩)
       (λc ys e=>by rw [ak (az e hn)]; exact e) (λc o u e=>by rw [ak (az e hn)]; exact e) (λc ps e=>⟨#[],by rw [ak (az e hn),e]; simp⟩) (λm hm=>?_) hok1 I.bare
     · have hb':c ∈ [z,TI,TO,i1,i2]:=by
         simp only [List.mem_cons,List.not_mem_nil,or_false] at hb ⊢
         rcases hb with h | h | h | h <;> simp [h]
       have fe:=hf c hb'
       exact ⟨fe.2.2.2.1,fe.2.1,fe.2.2.2.2.1,fe.2.2.2.2.2⟩
     · obtain ⟨o,es,ep,ho,r⟩:=hm
       exact ⟨o,es,ep,kp _ o (Ne.symm (hf z (by simp)).2.1) (Ne.symm (hf TO (by simp)).2.1) (Ne.symm (hf i1 (by simp)).2.1) (Ne.symm (hf i2 (by simp)).2.1) ho,r⟩
   refine ⟨.ref s.heap.objs.size,_,I1,rfl,⟨s.heap.objs.size,x,y,hn,rfl,rfl,λzs hy'=>by rw [I.cL hy' hq1]; exact hx,λzs hy'=>by rw [I.cL hy' hq2]; exact hy⟩,⟨k1,?_,⟨u1,u2,(k2.2 TO D.TOz).trans g2⟩,?_,?_⟩,λc hb=>?_⟩
   · exact kp TI _ D.TIz D.TITO D.TIi1 D.TIi2 h2
   · obtain ⟨o,z1,z2,z3⟩:=g3
     exact ⟨o,(k2.2 i1 D.i1z).trans z1,z2,z3⟩
   · obtain ⟨o,z1,z2,z3⟩:=g4
     exact ⟨o,(k2.2 i2 D.i2z).trans z1,z2,z3⟩
   · have fc:=(hf c hb).1
     have lt:c < s.heap.objs.size:=by
       simp only [List.mem_cons,List.not_mem_nil,or_false] at hb
       rcases hb with rfl | rfl | rfl | rfl | rfl <;> assumption
     rw [ak (Nat.ne_of_lt lt)]
     exact fc
 done:=by
   intro X hP hw hK hc i pins s σ H E I hf st hg
   subst hP hw hK
   obtain ⟨xs,ys,hq1,hq2,hx⟩:=hg
   obtain ⟨its1,rv1,p1,hz1⟩:=I.list hq1
   obtain ⟨its2,rv2,p2,hz2⟩:=I.list hq2
   have D:=gJ nT nI st p1.isList p2.isList
   obtain ⟨h1,h2,⟨u,v,h3⟩,h4,h5⟩:=st
   have hl1:=rv1.length
   have hl2:=rv2.length
   refine wpAny_pyNext_zip_end (I.ok.hd hc) D h1 h2 h3 h4 h5 p1.isList p2.isList (by
     rcases hx with hx | hx
     · left; simp; omega
     · right; simp; omega) λh' eb=>⟨rfl,?_⟩
   have ne:∀ c,c ∈ [z,TI,TO,i1,i2]->∀ d v,H d=some v->d ≠ c:=λc hc d v e q=>by
     have:=(hf c hc).1
     rw [q,this] at e; cases e
   have hok0:HOk X.prog X.w H h':=λd v e=>(I.hok d v e).fM (λc v' hc' q=>eb c v'
       (by rcases hc' with hc' | hc'
           · rw [hc']; exact ne z (by simp) d v e
           · exact ne z (by simp) c _ hc')
       (by rcases hc' with hc' | hc'
           · rw [hc']; exact ne TO (by simp) d v e
           · exact ne TO (by simp) c _ hc')
       (by rcases hc' with hc' | hc'
           · rw [hc']; exact ne i1 (by simp) d v e
           · exact ne i1 (by simp) c _ hc')
       (by rcases hc' with hc' | hc'
           · rw [hc']; exact ne i2 (by simp) d v e
           · exact ne i2 (by simp) c _ hc') q) (λ_ q=>q) λ_ _ q=>q
   refine I.step (t':=s.toks) (g':=s.gens) (d':=s.drawn) (ch:=[z,TO,i1,i2]) (λc hb=>?_) (λc o _ _ hc' e _=>eb c o (λq=>hc' (by simp [q])) (λq=>hc' (by simp [q])) (λq=>hc' (by simp [q])) (λq=>hc' (by simp [q])) e)
       (λc o _ _ hc' e _=>⟨o.slots,eb c o (λq=>hc' (by simp [q])) (λq=>hc' (by simp [q])) (λq=>hc' (by simp [q])) (λq=>hc' (by simp [q])) e⟩)
       (λc o hc' e n=>n) (λc o hc' e=>⟨o,eb c o (λq=>hc' (by simp [q])) (λq=>hc' (by simp [q])) (λq=>hc' (by simp [q])) (λq=>hc' (by simp [q])) e⟩)
       (λc ys e=>e) (λc o u e=>e) (λc ps e=>⟨#[],by rw [e]; simp⟩) (λm hm=>?_) hok0 I.bare
   · have hb':c ∈ [z,TI,TO,i1,i2]:=by
       simp only [List.mem_cons,List.not_mem_nil,or_false] at hb ⊢
       rcases hb with h | h | h | h <;> simp [h]
     have fe:=hf c hb'
     exact ⟨fe.2.2.2.1,fe.2.1,fe.2.2.2.2.1,fe.2.2.2.2.2⟩
   · obtain ⟨o,es,ep,ho,r⟩:=hm
     exact ⟨o,es,ep,eb _ o (Ne.symm (hf z (by simp)).2.1) (Ne.symm (hf TO (by simp)).2.1) (Ne.symm (hf i1 (by simp)).2.1) (Ne.symm (hf i2 (by simp)).2.1) ho,r⟩
 self:=λ_ _ _ _ _ st h=>wpAny_pyIter_zip st.1 h
section
variable {X:Cx}
noncomputable def pK (K:PySem.W.Frag) (ta:TA):TI:=λσ H R=>ta σ H λvs H1=>∃ a b,vs=[.ref a,.ref b]/\(∃ xs,SqL K H1 a xs)/\(∃ ys,SqL K H1 b ys)/\R (Itz K a b) H1
theorem jF {ts:List Expr} {q:Nat} {tp:Pos} {a b:Expr} {ta:TA} {p pos:Pos} (hg:Gl X "zip") (hm:X.mg "zip" = none) (ha:PA X [a,b] ta) (hs:starEach [a,b] X.env=(false,eval a X.env) :: starEach [b] X.env) (hs2:starEach [b] X.env=[(false,eval b X.env)]) :
   PI X (.Tuple ts q tp) (.Call (.Name "zip" p) [a,b] [] pos) (pK X.K ta):=by
 intro pins s σ H R I h
 refine Call_ (cN I hg hm boot_zip (PyProof.Rows.callWith_type1 (thn (ha pos pins s σ H _ I h) λus s1 ⟨vs,H1,I1,r1,q1⟩=>?_) hs (by rw [hs2]; rfl)))
 obtain ⟨l,l',e,⟨xs,hq1⟩,⟨ys,hq2⟩,q⟩:=q1
 subst e
 obtain ⟨u,u',rfl,ru,ru'⟩:=vals2 r1
 cases ru
 cases ru'
 obtain ⟨its1,rv1,pl1,hz1⟩:=I1.list hq1
 obtain ⟨its2,rv2,pl2,hz2⟩:=I1.list hq2
 refine call_zip_2 pl1.isList pl2.isList λh' g1 g2 g3 g4 g5 g6 g7=>?_
 refine wpAny_pyIter_zip (s:={ s1 with heap:=h' }) g1 ?_
 have I2:Inv X pins σ H1 { s1 with heap:=h' }:=I1.kept (t':=s1.toks) g7
 have nn:∀ j,H1 (s1.heap.objs.size + j)=none:=λj=>I1.hok.fresh (by omega)
 refine ⟨s1.heap.objs.size + 4,[s1.heap.objs.size + 4,s1.heap.objs.size + 2,s1.heap.objs.size + 3,s1.heap.objs.size,s1.heap.objs.size + 1],_,_,H1,rfl,I2,ml l l' (s1.heap.objs.size + 4) (s1.heap.objs.size + 2) (s1.heap.objs.size + 3) s1.heap.objs.size (s1.heap.objs.size + 1) (by simp) (Ne.symm (Nat.succ_ne_self _)),⟨g1,g2,⟨_,_,g3⟩,g4,g5⟩,λc hb=>?_,q⟩
 have hb':∃ j,c=s1.heap.objs.size + j:=by
   simp only [List.mem_cons,List.not_mem_nil,or_false] at hb
   rcases hb with h | h | h | h | h
   · exact ⟨_,h⟩
   · exact ⟨_,h⟩
   · exact ⟨_,h⟩
   · exact ⟨0,h⟩
   · exact ⟨_,h⟩
 obtain ⟨j,rfl⟩:=hb'
 exact I1.jB (Nat.le_add_right _ _) (nn j)
end
end Ev
namespace Ev
open PySem PySem.Spec PyProof.Rows L2
noncomputable def Itv (K:PySem.W.Frag) (a:Addr) (n:Nat):L2.It:=
 ⟨λi H=>i < n/\∃ xs x,SqL K H a xs/\xs[n - 1 - i]?=some x,λi H x H'=>H'=H/\∀ xs,SqL K H a xs->xs[n - 1 - i]?=some x,λi _=>n<=i⟩
theorem lR {P:Program} {w:World} {K:PySem.W.Frag} {tg:Expr} (a it:Addr) (n:Nat) :
   Turn P w K tg (Itv K a n) [it] it (λi h=>i<=n/\h.IsRevIter it a ((n:Int) - 1 - (i:Int))) where
 mem:=by simp
 obj:=λi h st b hb=>by
   have e:b=it:=by simpa using hb
   subst e
   obtain ⟨o,e,c,d⟩:=st.2
   exact ⟨o,e,λv z=>by rw [d] at z; cases z⟩
 keep:=λi h h' st k=>⟨st.1,st.2.at λo e=>k it (by simp) o e⟩
 item:=by
   intro X hP hw hK hc i pins s σ H E I hf st hg
   subst hP hw hK
   obtain ⟨hi,xs,x,hq,hx⟩:=hg
   obtain ⟨its,rv,p,hz⟩:=I.list hq
   obtain ⟨u,hu,ru⟩:=rv.get hx
   obtain ⟨f0,f1,f2,f3,f4,f5⟩:=hf it (by simp)
   have st2:=st.2
   rw [show (n:Int) - 1 - (i:Int)=((n - 1 - i:Nat):Int) by omega] at st2
   refine wpAny_pyNext_rev_item st2 p.isList (x:=u) (by simpa using hu) λh' st' sb=>?_
   have I1:Inv X pins σ H { s with heap:=h' }:=I.turned (t':=s.toks) (λb o hb e=>(sb.2 b hb).trans e) f0 f1 f3 f4 f5
   obtain ⟨o,e,c,d⟩:=id st'
   refine ⟨u,rfl,mv (s:={ s with heap:=h' }) e c d (by decide) ⟨x,H,I1,ru,⟨rfl,λys hy=>by rw [I.cL hy hq]; exact hx⟩,⟨hi,?_⟩,λb hb=>(hf b hb).1⟩⟩
   rw [show (n:Int) - 1 - ((i + 1:Nat):Int)=((n - 1 - i:Nat):Int) - 1 by omega]
   exact st'
 done:=by
   intro X hP hw hK hc i pins s σ H E I hf st hg
   subst hP hw hK
   obtain ⟨f0,f1,f2,f3,f4,f5⟩:=hf it (by simp)
   have st2:=st.2
   have hg:n<=i:=hg
   rw [show (n:Int) - 1 - (i:Int)=-1 by have:=st.1; omega] at st2
   exact wpAny_pyNext_rev_end (I.ok.hd hc) st2 λh' eb=>⟨rfl,I.turned (t':=s.toks) (λb o hb e=>eb b o hb e) f0 f1 f3 f4 f5⟩
 self:=λ_ _ _ _ _ st h=>wpAny_pyIter_revIter st.2 h
section
variable {X:Cx} {tg:Expr}
noncomputable def oH (K:PySem.W.Frag) (ta:TA):TI:=λσ H R=>ta σ H λvs H1=>∃ a xs,vs=[.ref a]/\SqL K H1 a xs/\R (Itv K a xs.length) H1
theorem mq:bootBuiltins "reversed" = some (.type "reversed"):=by decide +kernel
theorem lC {a:Expr} {ta:TA} {p pos:Pos} (hg:Gl X "reversed") (hm:X.mg "reversed" = none) (ha:PA X [a] ta) (hs:starEach [a] X.env=[(false,eval a X.env)]):PI X tg (.Call (.Name "reversed" p) [a] [] pos) (oH X.K ta):=by
 intro pins s σ H R I h
 refine Call_ (cN I hg hm mq (PyProof.Rows.callWith_type1 (thn (ha pos pins s σ H _ I h) λus s1 ⟨vs,H1,I1,r1,q1⟩=>?_) hs rfl))
 obtain ⟨l,xs,e,hq,q⟩:=q1
 subst e
 obtain ⟨u,rfl,ru⟩:=vals1 r1
 cases ru
 obtain ⟨its,rv,pl,hz⟩:=I1.list hq
 have hl:=rv.length
 refine call_reversed_list pl.isList ?_
 have st:({ s1 with heap:=s1.heap.push (revObj l ((its.toArray.size:Int) - 1)) }:Shared).heap.IsRevIter s1.heap.objs.size l ((its.toArray.size:Int) - 1):=⟨_,Heap.get?_push_size _ rfl,rfl,rfl⟩
 refine wpAny_pyIter_revIter st ?_
 refine ⟨s1.heap.objs.size,[s1.heap.objs.size],_,_,H1,rfl,I1.kept (t':=s1.toks) λb o e=>Heap.get?_push_of_some _ e,lR l _ xs.length,⟨Nat.zero_le _,?_⟩,λb hb=>?_,q⟩
 · rw [show (xs.length:Int) - 1 - ((0:Nat):Int)=(its.toArray.size:Int) - 1 by rw [List.size_toArray,<- hl]; omega]
   exact st
 · have e:b=s1.heap.objs.size:=by simpa using hb
   subst e
   exact I1.jB (Nat.le_refl _) (I1.hok.fresh (Nat.le_refl _))
end
end Ev
namespace Ev
open PySem PySem.Spec PyProof.Rows L2
theorem mf:∀ (names:List (Str × NameKind)) (n:Nat) (acc:List (Str × Addr)) (x:Str) (c:Addr),(cellsFrom n names acc).lookup x=some c->n<=c\/acc.lookup x=some c
 | [],_,_,_,_,h=>.inr h
 | (y,k) :: r,n,acc,x,c,h=>by
   unfold cellsFrom at h
   split at h
   · rcases mf r (n + 1) _ x c h with q | q
     · exact .inl (by omega)
     · rw [List.lookup_cons] at q
       split at q
       · cases q; exact .inl (Nat.le_refl _)
       · exact .inr q
   · exact mf r n acc x c h
theorem gq:∀ (names:List (Str × NameKind)) (n:Nat) (acc:List (Str × Addr)) (x:Str),(x,NameKind.cell) ∉ names->(cellsFrom n names acc).lookup x=acc.lookup x
 | [],_,_,_,_=>rfl
 | (y,k) :: r,n,acc,x,h=>by
   have h1:(x,NameKind.cell) ∉ r:=λz=>h (List.mem_cons_of_mem _ z)
   unfold cellsFrom
   split
   · rename_i hk
     rw [gq r _ _ x h1,List.lookup_cons]
     have:(x == y)=false:=by
       rw [beq_eq_false_iff_ne]
       rintro rfl
       exact h (by rw [eq_of_beq hk]; exact List.mem_cons_self)
     rw [this]
   · exact gq r n acc x h1
theorem hU:∀ (names:List (Str × NameKind)) (n:Nat) (acc:List (Str × Addr)) (x:Str),(x,NameKind.cell) ∈ names->∃ c,(cellsFrom n names acc).lookup x=some c/\n<=c
 | (y,k) :: r,n,acc,x,h=>by
   unfold cellsFrom
   by_cases hr:(x,NameKind.cell) ∈ r
   · split
     · obtain ⟨c,e,l⟩:=hU r (n + 1) ((y,n) :: acc) x hr
       exact ⟨c,e,by omega⟩
     · exact hU r n acc x hr
   · rcases List.mem_cons.mp h with q | q
     · cases q
       rw [if_pos (by rfl),gq r _ _ _ hr]
       exact ⟨n,by simp [List.lookup_cons],Nat.le_refl _⟩
     · exact absurd q hr
theorem jD:∀ (names:List (Str × NameKind)) (n:Nat) (acc:List (Str × Addr)),(∀ x c,acc.lookup x=some c->c < n)->(∀ x y c,acc.lookup x=some c->acc.lookup y=some c->x=y) ->
   ∀ x y c,(cellsFrom n names acc).lookup x=some c->(cellsFrom n names acc).lookup y=some c->x=y
 | [],_,_,_,h=>h
 | (z,k) :: r,n,acc,hl,h=>by
   unfold cellsFrom
   split
   · refine jD r (n + 1) _ (λx c e=>?_) (λx y c e1 e2=>?_)
     · rw [List.lookup_cons] at e
       split at e
       · cases e; exact Nat.lt_succ_self _
       · exact Nat.lt_succ_of_lt (hl x c e)
     · rw [List.lookup_cons] at e1 e2
       split at e1
       · rename_i q1
         cases e1
         split at e2
         · rename_i q2
           exact (eq_of_beq q1).trans (eq_of_beq q2).symm
         · exact absurd (hl y _ e2) (Nat.lt_irrefl _)
       · split at e2
         · cases e2
           exact absurd (hl x _ e1) (Nat.lt_irrefl _)
         · exact h x y c e1 e2
   · exact jD r n acc hl h
theorem ie:∀ (names:List (Str × NameKind)) (h:Heap) (acc:List (Str × Addr)),(∀ x c,acc.lookup x=some c->∃ v,h.IsCell c v)->∀ x c,(cellsFrom h.objs.size names acc).lookup x=some c->∃ v,(pushCells h names).IsCell c v
 | [],_,_,ha,x,c,e=>ha x c e
 | (z,k) :: r,h,acc,ha,x,c,e=>by
   unfold cellsFrom at e
   unfold pushCells
   split at e
   · rename_i hk
     rw [if_pos hk]
     refine ie r _ ((z,h.objs.size) :: acc) (λy d q=>?_) x c (by rw [Heap.size_push]; exact e)
     rw [List.lookup_cons] at q
     split at q
     · cases q
       exact ⟨none,_,Heap.get?_push_size _ rfl,rfl⟩
     · obtain ⟨v,o,ho,hd⟩:=ha y d q
       exact ⟨v,o,Heap.get?_push_of_some _ ho,hd⟩
   · rename_i hk
     rw [if_neg hk]
     exact ie r h acc ha x c e
noncomputable def bB (env:PySem.Env):List (Str × NameKind)->List (Str × Addr)->List (Str × Addr)
 | [],acc=>acc
 | (n,k) :: r,acc=>if k == .free then (match env.cells.lookup n with | some c=>bB env r ((n,c) :: acc) | none=>bB env r acc) else bB env r acc
theorem gn (env:PySem.Env):∀ (names:List (Str × NameKind)) (acc:List (Str × Addr)),(∀ x ∈ names,x.2=.free->∃ c,env.cells.lookup x.1=some c) ->
   (forIn (m:=Sem) names acc λx cs=>do
     let (name,kind):=x
     if kind == .free then do
       let c <- cellOf env name
       pure (ForInStep.yield ((name,c) :: cs))
     else pure (ForInStep.yield cs))=pure (bB env names acc)
 | [],acc,_=>rfl
 | (n,k) :: r,acc,h=>by
   rw [List.forIn_cons]
   unfold bB
   by_cases hk:(k == .free)=true
   · obtain ⟨c,hc⟩:=h (n,k) List.mem_cons_self (eq_of_beq hk)
     simp only [hk,if_true,cellOf,hc,pure_bind]
     exact gn env r _ λx hx=>h x (List.mem_cons_of_mem _ hx)
   · simp only [hk,Bool.false_eq_true,if_false,pure_bind]
     exact gn env r _ λx hx=>h x (List.mem_cons_of_mem _ hx)
theorem j0 {env:PySem.Env} {scope:Scope} (h:∀ x ∈ scope.names,x.2=.free->∃ c,env.cells.lookup x.1=some c):closureFor scope env=pure (bB env scope.names []):=by
 unfold closureFor
 have:=gn env scope.names [] h
 simp only [bind_pure]
 exact this
theorem cj (env:PySem.Env):∀ (names:List (Str × NameKind)) (acc:List (Str × Addr)) (x:Str) (c:Addr),(∀ y d,acc.lookup y=some d->env.cells.lookup y=some d)->(bB env names acc).lookup x=some c->env.cells.lookup x=some c
 | [],_,x,c,ha,h=>ha x c h
 | (n,k) :: r,acc,x,c,ha,h=>by
   unfold bB at h
   split at h
   · split at h
     · rename_i c' hc
       refine cj env r _ x c (λy d q=>?_) h
       rw [List.lookup_cons] at q
       split at q
       · rename_i qq
         cases q
         rw [eq_of_beq qq]; exact hc
       · exact ha y d q
     · exact cj env r acc x c ha h
   · exact cj env r acc x c ha h
theorem bM (env:PySem.Env):∀ (names:List (Str × NameKind)) (acc:List (Str × Addr)) (x:Str) (c:Addr),(∀ y d,acc.lookup y=some d->env.cells.lookup y=some d)->env.cells.lookup x=some c->((x,NameKind.free) ∈ names\/acc.lookup x=some c)->(bB env names acc).lookup x=some c
 | [],_,x,c,_,_,h=>h.elim (λz=>absurd z (by simp)) id
 | (n,k) :: r,acc,x,c,ha,hc,h=>by
   unfold bB
   split
   · split
     · rename_i c' hc'
       refine bM env r _ x c (λy d q=>?_) hc ?_
       · rw [List.lookup_cons] at q
         split at q
         · rename_i qq
           cases q
           rw [eq_of_beq qq]; exact hc'
         · exact ha y d q
       · by_cases q:x=n
         · subst q
           rw [hc] at hc'; cases hc'
           exact .inr (by simp [List.lookup_cons])
         · rcases h with h | h
           · rcases List.mem_cons.mp h with z | z
             · cases z; exact absurd rfl q
             · exact .inl z
           · refine .inr ?_
             rw [List.lookup_cons,beq_eq_false_iff_ne.mpr q]
             exact h
     · rename_i hc'
       refine bM env r acc x c ha hc ?_
       rcases h with h | h
       · rcases List.mem_cons.mp h with z | z
         · cases z; rw [hc] at hc'; cases hc'
         · exact .inl z
       · exact .inr h
   · rename_i hk
     refine bM env r acc x c ha hc ?_
     rcases h with h | h
     · rcases List.mem_cons.mp h with z | z
       · cases z; exact absurd rfl hk
       · exact .inl z
     · exact .inr h
theorem gL {M:Model} {A:Around} {E:Value->Shared->Prop} {s:Shared} {scope:Scope} {cl:List (Str × Addr)} {env:PySem.Env} {Q:PySem.Env->Shared->Prop}
   (h:Q (newEnv scope s.heap.objs.size env.globals (cellsFrom (s.heap.objs.size + 1) scope.names cl) env.qual none .none (some env) builtinsNs) { s with heap:=pushCells (s.heap.push { cls:=.type "dict",data:=.dict #[] }) scope.names }) :
   wpAny M A (newFunctionEnv scope env.globals cl [] env.qual none .none (some env)) Q E s:=by
 simp only [newFunctionEnv,Option.isSome_some,if_true]
 refine wpAny_bind (wpAny_alloc ?_)
 refine wpAny_bind (wpAny_layCells _ (λname kind cells=>by cases hkc:kind == NameKind.cell <;> simp [hkc]) _ _ _ _ ?_)
 rw [show ({ s with heap:=s.heap.push { cls:=.type "dict",data:=.dict #[] } }:Shared).heap.objs.size=s.heap.objs.size + 1 from Heap.size_push ..]
 exact wpAny_bind (wpAny_pure (wpAny_pure h))
end Ev
namespace Ev
open PySem PySem.Spec PyProof.Rows L2
noncomputable def av (X:Cx) (s:Shared) (H:Hp) (scope:Scope) (N:List Str) (fp:List Addr):Cx:=
 { prog:=X.prog,w:=X.w,K:=X.K,mg:=X.mg,base:=X.base,A:=X.A,N:=N,s₀:=s,H₀:=H
   env:=compEnvC scope (cellsFrom (s.heap.objs.size + 1 + 1) scope.names (bB X.env scope.names [])) (s.heap.objs.size + 1) X.env
   outer:=X.stack,stack:=X.stack,ex:=fp,fn:=λx=>decide ((x,NameKind.cell) ∈ scope.names),calm:=X.calm,pn:=[],xe:=λ_ _=>False }
noncomputable def cZ (σ:L2.St) (caps:List (Option Nat)):L2.St:=caps.map λo=>o.bind λi=>(σ[i]?).join
structure cu (X:Cx) (scope:Scope) (N:List Str) (caps:List (Option Nat)):Prop where
 kind:scope.kind=.function
 loc:∀ x ∈ scope.names,x.2=.local->scope.names.lookup x.1=some .local
 fre:∀ x ∈ scope.names,x.2=.free->X.env.kindOf x.1=some .cell
 one:∀ x,(x,NameKind.free) ∈ scope.names->(x,NameKind.cell) ∉ scope.names
 noboth:∀ x,(x,NameKind.free) ∈ scope.names->(x,NameKind.local) ∉ scope.names
 len:N.length=caps.length + 1
 cap:∀ (j i:Nat),caps[j]?=some (some i)->∃ x,N[j]?=some x/\X.N[i]?=some x/\(x,NameKind.free) ∈ scope.names
 acc:∃ z,N[caps.length]?=some z/\¬ Vis (relabel scope X.env) z
section
variable {X:Cx} {pins:List (Addr × Obj)} {σ:L2.St} {H:Hp} {s:Shared} {scope:Scope} {N:List Str} {caps:List (Option Nat)} {fp:List Addr}
theorem b9 {env:PySem.Env} {x:Str} {names:List (Str × NameKind)} (h:∀ y,(y,NameKind.free) ∈ names->env.kindOf y=some .cell) (hk:env.scope.kind=.function) {k:NameKind}
   (e:(names.map λ(n,k)=>if (k == NameKind.free && env.scope.kind == .function && env.kindOf n == some .cell) then (n,NameKind.cell) else (n,k)).lookup x=some k) :
   (x,k) ∈ names\/((x,NameKind.free) ∈ names/\k=.cell):=by
 induction names with
 | nil=>cases e
 | cons p r ih=>
   obtain ⟨n,q⟩:=p
   rw [List.map_cons] at e
   have hr:∀ y,(y,NameKind.free) ∈ r->env.kindOf y=some .cell:=λy hy=>h y (List.mem_cons_of_mem _ hy)
   have sub:((x,k) ∈ r\/((x,NameKind.free) ∈ r/\k=.cell))->(x,k) ∈ (n,q) :: r\/((x,NameKind.free) ∈ (n,q) :: r/\k=.cell):=λz=>
     z.elim (λy=>.inl (List.mem_cons_of_mem _ y)) λy=>.inr ⟨List.mem_cons_of_mem _ y.1,y.2⟩
   dsimp only at e
   split at e
   · rename_i c
     rw [List.lookup_cons] at e
     split at e
     · rename_i qq
       cases e
       rw [Bool.and_eq_true,Bool.and_eq_true] at c
       rw [eq_of_beq qq,eq_of_beq c.1.1]
       exact .inr ⟨List.mem_cons_self,rfl⟩
     · exact sub (ih hr e)
   · rename_i c
     rw [List.lookup_cons] at e
     split at e
     · rename_i qq
       cases e
       rw [eq_of_beq qq]
       exact .inl List.mem_cons_self
     · exact sub (ih hr e)
theorem dH (I:Inv X pins σ H s) (c:cu X scope N caps):∀ x ∈ scope.names,x.2=.free->∃ d,X.env.cells.lookup x.1=some d:=λx hx hf=>I.ok.has x.1 (.inl (c.fre x hx hf))
theorem jd (I:Inv X pins σ H s) (hf:∀ b ∈ fp,gx X pins H b) (ho:∀ b ∈ fp,∃ o,s.heap.get? b=some o) (c:cu X scope N caps) :
   Inv (av X s H scope N fp) [] (cZ σ caps++[some (.ref s.heap.objs.size)]) (upd H s.heap.objs.size (.lst []))
     { s with heap:=pushCells ((s.heap.push { cls:=.type "list",data:=.seq ([]:List Value).toArray }).push { cls:=.type "dict",data:=.dict #[] }) scope.names }:=by
 have hcl:∀ x d,(bB X.env scope.names []).lookup x=some d->X.env.cells.lookup x=some d:=λx d=>cj X.env scope.names [] x d (λy d z=>by simp at z)
 have kp:∀ b o,s.heap.get? b=some o->(pushCells ((s.heap.push { cls:=.type "list",data:=.seq ([]:List Value).toArray }).push { cls:=.type "dict",data:=.dict #[] }) scope.names).get? b=some o:=λb o e=>
   pushCells_keeps _ _ b o (Heap.get?_push_of_some _ (Heap.get?_push_of_some _ e))
 have sz2:((s.heap.push { cls:=.type "list",data:=.seq ([]:List Value).toArray }).push { cls:=.type "dict",data:=.dict #[] }).objs.size=s.heap.objs.size + 1 + 1:=by rw [Heap.size_push,Heap.size_push]
 have oldc:∀ x d,X.env.cells.lookup x=some d->d < s.heap.objs.size:=λx d e=>by
   obtain ⟨v,o,q,_⟩:=I.cell x d e
   exact Heap.lt_size q
 have cel:∀ x d,(av X s H scope N fp).env.cells.lookup x=some d->s.heap.objs.size + 1 + 1<=d\/X.env.cells.lookup x=some d:=λx d e=>by
   rcases mf _ _ _ x d e with q | q
   · exact .inl q
   · exact .inr (hcl x d q)
 have ok:(av X s H scope N fp).Ok:=by
   refine ⟨I.ok.mod,c.kind,I.ok.glob,I.ok.blt,Nat.le_succ _,?_,?_,?_,I.ok.hd,I.ok.frames,.inl rfl,?_,I.bs,Nat.le_trans I.ok.bsz I.sz,?_,?_,I.stack,I.kq⟩
   · exact jD _ _ _ (λx d e=>Nat.lt_of_lt_of_le (oldc x d (hcl x d e)) (by omega)) λx y d e1 e2=>I.ok.inj x y d (hcl x d e1) (hcl y d e2)
   · intro x hx
     have hfk:∀ y,(y,NameKind.free) ∈ scope.names->X.env.kindOf y=some .cell:=λy hy=>c.fre _ hy rfl
     have fre:(x,NameKind.free) ∈ scope.names->∃ d,(av X s H scope N fp).env.cells.lookup x=some d:=λhm=>by
       obtain ⟨d,hd⟩:=dH I c _ hm rfl
       exact ⟨d,by
         show (cellsFrom _ scope.names _).lookup x=_
         rw [gq _ _ _ x (c.one x hm)]
         exact bM X.env scope.names [] x d (λy e z=>by simp at z) hd (.inl hm)⟩
     have own:(x,NameKind.cell) ∈ scope.names->∃ d,(av X s H scope N fp).env.cells.lookup x=some d:=λhm=>by
       obtain ⟨d,e,_⟩:=hU scope.names (s.heap.objs.size + 1 + 1) (bB X.env scope.names []) x hm
       exact ⟨d,e⟩
     rcases hx with hx | hx
     · rcases b9 hfk I.ok.kind (show (scope.names.map _).lookup x=some .cell from hx) with q | q
       · exact own q
       · exact fre q.1
     · rcases b9 hfk I.ok.kind (show (scope.names.map _).lookup x=some .free from hx) with q | q
       · exact fre q
       · exact fre q.1
   · intro x d hfn e
     have hm:(x,NameKind.cell) ∈ scope.names:=of_decide_eq_true hfn
     obtain ⟨d',e',l⟩:=hU scope.names (s.heap.objs.size + 1 + 1) (bB X.env scope.names []) x hm
     have e2:(cellsFrom (s.heap.objs.size + 1 + 1) scope.names (bB X.env scope.names [])).lookup x=some d:=e
     rw [e'] at e2; cases e2
     exact Nat.le_trans (Nat.le_trans (Nat.le_succ _) (Nat.le_succ _)) l
   · intro b hb
     obtain ⟨o,q⟩:=ho b hb
     have bl:=Heap.lt_size q
     refine ⟨λz=>?_,λx d e z=>?_⟩
     · have z':b=s.heap.objs.size + 1:=z
       rw [z'] at bl
       exact absurd bl (Nat.not_lt.mpr (Nat.le_succ _))
     · subst z
       rcases cel x d e with q | q
       · exact absurd (Nat.lt_of_lt_of_le bl (Nat.le_trans (Nat.le_trans (Nat.le_succ _) (Nat.le_succ _)) q)) (Nat.lt_irrefl _)
       · exact (hf d hb).2.2.2.2.1 x d q rfl
   · intro b o e hb
     rcases (hf b hb).2.2.2.1 with q | q
     · exact I.ok.noex b o e q
     · have:=Nat.lt_of_lt_of_le (Heap.lt_size e) I.ok.bsz
       exact absurd (Nat.lt_of_lt_of_le this q) (Nat.lt_irrefl _)
   · intro b hb hm
     rcases List.mem_cons.mp (I.ju b hm) with q | q
     · exact (hf b hb).2.1 q
     · exact (hf b hb).2.2.1 q
 have hD:(pushCells ((s.heap.push { cls:=.type "list",data:=.seq ([]:List Value).toArray }).push { cls:=.type "dict",data:=.dict #[] }) scope.names).get? s.heap.objs.size=some { cls:=.type "list",data:=.seq ([]:List Value).toArray }:=
   pushCells_keeps _ _ _ _ (Heap.get?_push_of_some _ (Heap.get?_push_size _ rfl))
 have fr:∀ a,s.heap.objs.size<=a->a ≠ s.heap.objs.size->(upd H s.heap.objs.size (.lst [])) a=none:=λa h1 h2=>by rw [ak h2]; exact I.hok.fresh h1
 refine ⟨ok,rfl,I.bare,Un.laid kp (Nat.le_refl _) (I.hok.fresh (Nat.le_refl _)),⟨λ_=>none,?_,λi x v e1 e2 e3=>?_⟩,λx d e=>?_,?_,λx d e=>?_,λp hp=>absurd (show p ∈ ([]:List (Addr × Obj)) from hp) (by simp),?_,?_⟩
 · have:=Heap.Ns.new (s.heap.push { cls:=.type "list",data:=.seq ([]:List Value).toArray }) (.type "dict")
   rw [Heap.size_push] at this
   exact this.keeps (pushCells_keeps _ _)
 · by_cases hi:i < caps.length
   · rw [List.getElem?_append_left (by unfold cZ; rw [List.length_map]; exact hi)] at e2
     unfold cZ at e2
     rw [List.getElem?_map] at e2
     cases hc:caps[i]? with
     | none=>rw [hc] at e2; cases e2
     | some o=>
       rw [hc] at e2
       cases o with
       | none=>cases e2
       | some j=>
         have e2':(σ[j]?).join=some v:=Option.some.inj e2
         have e4:σ[j]?=some (some v):=by
           cases q:σ[j]? with
           | none=>rw [q] at e2'; cases e2'
           | some y=>rw [q] at e2'; exact congrArg some e2'
         obtain ⟨x',g1,g2,g3⟩:=c.cap i j hc
         rw [show (av X s H scope N fp).N=N from rfl,g1] at e1
         cases e1
         have hkc:=c.fre _ g3 rfl
         obtain ⟨m,_,hl⟩:=I.loc
         obtain ⟨u,ru,look⟩:=hl j x v g2 e4 (.inr (.inl hkc))
         refine ⟨u,ru,?_⟩
         rcases look with ⟨k,_⟩ | ⟨k,d,hd,hcell⟩
         · rw [hkc] at k; cases k
         · have e5:(av X s H scope N fp).env.cells.lookup x=some d:=by
             show (cellsFrom _ scope.names _).lookup x=_
             rw [gq _ _ _ x (c.one x g3)]
             exact bM X.env scope.names [] x d (λy e z=>by simp at z) hd (.inl g3)
           have hcell':Heap.IsCell (pushCells ((s.heap.push { cls:=.type "list",data:=.seq ([]:List Value).toArray }).push { cls:=.type "dict",data:=.dict #[] }) scope.names) d (some u):=by
             obtain ⟨o,q1,q2⟩:=hcell
             exact ⟨o,kp _ _ q1,q2⟩
           refine .inr ⟨?_,d,e5,hcell'⟩
           rcases e3 with e3 | e3 | e3
           · exfalso
             rcases b9 (λy hy=>c.fre _ hy rfl) I.ok.kind (show (scope.names.map _).lookup x=some .local from e3) with q | q
             · have q1:=c.loc _ q rfl
               exact c.noboth x g3 q
             · cases q.2
           · exact .inl e3
           · exact .inr e3
   · exfalso
     obtain ⟨z,z1,z2⟩:=c.acc
     have hl:i < N.length:=(List.getElem?_eq_some_iff.mp e1).1
     have:i=caps.length:=by have:=c.len; omega
     subst this
     rw [show (av X s H scope N fp).N=N from rfl,z1] at e1
     cases e1
     exact z2 e3
 · rw [show (av X s H scope N fp).env.cells=cellsFrom (s.heap.objs.size + 1 + 1) scope.names (bB X.env scope.names []) from rfl,<- sz2] at e
   refine ie scope.names _ _ (λy d' q=>?_) x d e
   obtain ⟨v,o,q1,q2⟩:=I.cell y d' (hcl y d' q)
   exact ⟨v,o,Heap.get?_push_of_some _ (Heap.get?_push_of_some _ q1),q2⟩
 · exact fr _ (Nat.le_succ _) (Nat.succ_ne_self _)
 · rcases cel x d e with q | q
   · exact fr d (by omega) (by intro z; omega)
   · rw [ak (Nat.ne_of_lt (oldc x d q))]; exact I.freeC x d q
 · exact I.hok.laid kp (Nat.le_refl _) ⟨Nat.zero_le _,[],0,.nil,hD⟩
 · rw [List.length_append]
   unfold cZ
   rw [List.length_map,show (av X s H scope N fp).N=N from rfl,c.len]
   rfl
end
end Ev
namespace Ev
open PySem PySem.Spec PyProof.Rows L2
noncomputable def PTs (X:Cx) (ifs:List Expr) (t:TT):Prop:=
 ∀ (pins:List (Addr × Obj)) (s:Shared) (σ:L2.St) (H:Hp) (Q:Bool->Hp->Prop),Inv X pins σ H s->t σ H Q ->
   wpAny (model X.prog X.w) X.A (forIn ifs true λc r=>if r=true then do let ok <- isTrue c X.env (eval c X.env); pure (ForInStep.yield ok) else pure (ForInStep.yield r)) (TP X pins σ Q) X.xe s
section
variable {prog:Program} {w:World} {A:Around} {R:Result->Shared->Prop} {s:Shared}
theorem fL {elt target iter:Expr} {ifs:List Expr} {scope:Scope} {pos:Pos} {it acc:Value} {env:PySem.Env} (Iv:Nat->Shared->Prop)
   (step:∀ n s,Iv n s->wpAny (model prog w) A (pyNext it) (λr s₁=>match r with
     | none=>R (.ok .next) s₁
     | some v=>wpAny (model prog w) A (letOwnedTupleGo target it v) (λ_ s₀=>wpAny (model prog w) A (assign target env v) (λ_ s₂=>
         wpAny (model prog w) A (forIn ifs true λc r=>if r=true then do let ok <- isTrue c env (eval c env); pure (ForInStep.yield ok) else pure (ForInStep.yield r)) (λok s₃=>
           if ok=true then wpAny (model prog w) A (eval elt env) (λx s₄=>
             wpAny (model prog w) A (call (.builtin "list.append") [acc,x]) (λ_ s₅=>∃ m,m < n/\Iv m s₅) (λ_ _=>False) s₄) (λ_ _=>False) s₃
           else ∃ m,m < n/\Iv m s₃) (λ_ _=>False) s₂) (λ_ _=>False) s₀) (λ_ _=>False) s₁) (λ_ _=>False) s)
   (n:Nat) (h:Iv n s):codeAny (model prog w) A (.compLoop (.ListComp elt [⟨target,iter,ifs,0⟩] scope pos) 0 it acc env) R s:=by
 have no:∀ {α:Type} {t:Sem α} {Q:α->Shared->Prop} {s:Shared} {E:Value->Shared->Prop},wpAny (model prog w) A t Q (λ_ _=>False) s->wpAny (model prog w) A t Q E s:=λh=>wpAny_mono h (λ_ _ q=>q) λ_ _ q=>q.elim
 refine codeAny_loop rfl Iv (λn s hI=>?_) n h
 show wpAny _ A (Sem.onRaise (compTurn (.ListComp elt [⟨target,iter,ifs,0⟩] scope pos) 0 it acc env) (λx=>do noteFrame x env; theTreesLotGoes x)) _ _ s
 refine wpAny_noted ?_
 rw [compTurn_list]
 refine wpAny_bind (wpAny_standAt (wpAny_bind (thn (no (step n s hI)) λr s₁ h₁=>?_)))
 cases r with
 | none=>exact wpAny_pure h₁
 | some v=>
   refine wpAny_bind (thn (no h₁) λ_ s₀ h₀=>wpAny_bind (thn (no h₀) λ_ s₂ h₂=>wpAny_bind (thn (no h₂) λok s₃ h₃=>?_)))
   cases ok with
   | false=>exact wpAny_pure ⟨rfl,h₃⟩
   | true=>exact wpAny_bind (wpAny_bind (thn (no h₃) λx s₄ h₄=>wpAny_bind (thn (no h₄) λ_ s₅ h₅=>wpAny_pure (wpAny_pure ⟨rfl,h₅⟩))))
end
noncomputable def dk (In:TG->TT->TE->Prop) (caps:List (Option Nat)) (wi:TI):TE:=λσ H Q=>wi σ H λJ H1=>∃ g tt te,In g tt te/\∀ D,H1 D=none ->
 ∃ Z:Nat->Nat->L2.St->Hp->Prop,(∃ m,Z 0 m (cZ σ caps++[some (.ref D)]) (upd H1 D (.lst [])))/\∀ i m σ' H',Z i m σ' H' ->
   (J.stop i H'/\Q (.ref D) H')\/(J.go i H'/\∀ x H2,J.yld i H' x H2->g x σ' H2 λσ2 H3=>tt σ2 H3 λb H4=>
     if b=true then te σ2 H4 λv H5=>∃ vs m',H5 D=some (.lst vs)/\vs.length < sizeLine/\m' < m/\Z (i + 1) m' σ2 (upd H5 D (.lst (vs++[v]))) else ∃ m',m' < m/\Z (i + 1) m' σ2 H4)
theorem cV {X:Cx} {elt tg iter:Expr} {ifs:List Expr} {scope:Scope} {N:List Str} {caps:List (Option Nat)} {pos:Pos} {wi:TI} {In:TG->TT->TE->Prop} (hc:X.calm=true) (c:cu X scope N caps) (hi:PI X tg iter wi)
   (hs:∀ x,foldedSetIterable iter X.env x=pure x)
   (hin:∀ g tt te,In g tt te->∀ s H fp,PG (av X s H scope N fp) tg g/\PTs (av X s H scope N fp) ifs tt/\PE (av X s H scope N fp) elt te) :
   PE X (.ListComp elt [⟨tg,iter,ifs,0⟩] scope pos) (dk In caps wi):=by
 intro pins s σ H Q I h
 rw [eval_ListComp]
 have hcl:=j0 (dH I c)
 refine wpAny_comprehension_free (use:=none) (g:=⟨tg,iter,ifs,0⟩) (gs:=[]) rfl hs hcl c.kind c.loc ?_
 show wpAny _ _ (eval iter X.env) _ _ s
 refine thn (hi pins s σ H _ I h) λv s1 h1=>thn h1 λitv s2 h2=>?_
 obtain ⟨it,fp,tn,J,H2,e,I2,T,st2,f2,g,tt,te,hI,q⟩:=h2
 subst e
 obtain ⟨Z,⟨m0,z0⟩,turn⟩:=q s2.heap.objs.size (I2.hok.fresh (Nat.le_refl _))
 have ho:∀ b ∈ fp,∃ o,s2.heap.get? b=some o:=λb hb=>let ⟨o,e,_⟩:=T.obj _ _ st2 b hb; ⟨o,e⟩
 have I4:=jd (scope:=scope) (N:=N) (caps:=caps) I2 f2 ho c
 obtain ⟨hg,ht,he⟩:=hin g tt te hI s2 H2 fp
 refine wpAny_newObj_type (gL ?_) (by show 0<=sizeLine; decide)
 have hC:(s2.heap.push { cls:=.type "list",dict:=none,data:=.seq ([]:List Value).toArray }).objs.size=s2.heap.objs.size + 1:=Heap.size_push ..
 dsimp only
 rw [hC]
 have kp:∀ b o,s2.heap.get? b=some o->(pushCells ((s2.heap.push { cls:=.type "list",data:=.seq ([]:List Value).toArray }).push { cls:=.type "dict",data:=.dict #[] }) scope.names).get? b=some o:=λb o e=>
   pushCells_keeps _ _ b o (Heap.get?_push_of_some _ (Heap.get?_push_of_some _ e))
 have st4:tn 0 (pushCells ((s2.heap.push { cls:=.type "list",data:=.seq ([]:List Value).toArray }).push { cls:=.type "dict",data:=.dict #[] }) scope.names):=T.keep _ _ _ st2 λb _ o e=>kp b o e
 have stat:∀ {H':Hp},(∀ b ∈ fp,H' b=none)->∀ b ∈ fp,gx (av X s2 H2 scope N fp) [] H' b:=λhn b hb=>
   ⟨hn b hb,(I4.ok.exf b hb).1,I4.ok.exfs b hb,.inl hb,(I4.ok.exf b hb).2,λp hp=>absurd (show p ∈ ([]:List (Addr × Obj)) from hp) (by simp)⟩
 have fr4:∀ b ∈ fp,(upd H2 s2.heap.objs.size (.lst [])) b=none:=λb hb=>by
   obtain ⟨o,e⟩:=ho b hb
   rw [ak (Nat.ne_of_lt (Heap.lt_size e))]; exact (f2 b hb).1
 have loop:codeAny (model X.prog X.w) X.A (.compLoop (.ListComp elt [⟨tg,iter,ifs,0⟩] scope pos) 0 (.ref it) (.ref s2.heap.objs.size) (av X s2 H2 scope N fp).env)
     (compPost (model X.prog X.w) X.A X.xe none (EP X pins σ Q) (.ref s2.heap.objs.size) (s2.heap.objs.size + 1))
     { s2 with heap:=pushCells ((s2.heap.push { cls:=.type "list",data:=.seq ([]:List Value).toArray }).push { cls:=.type "dict",data:=.dict #[] }) scope.names }:=by
   refine fL (λn s'=>∃ i σ' H',Inv (av X s2 H2 scope N fp) [] σ' H' s'/\tn i s'.heap/\(∀ b ∈ fp,H' b=none)/\Z i n σ' H') ?_ m0 ⟨0,_,_,I4,st4,fr4,z0⟩
   rintro n s3 ⟨i,σ3,H3,I3,st3,fr3,w3⟩
   rcases turn i n σ3 H3 w3 with ⟨stop,qn⟩ | ⟨go,step⟩
   · refine thn (T.done (av X s2 H2 scope N fp) rfl rfl rfl hc i [] s3 σ3 H3 _ I3 (stat fr3) st3 stop) λr s5 ⟨hr,I5⟩=>?_
     subst hr
     obtain ⟨m,hn,_⟩:=id I5.loc
     refine ⟨m,hn,λh' sb=>⟨.ref s2.heap.objs.size,H3,?_,rfl,qn⟩⟩
     have lt:∀ b o,s2.heap.get? b=some o->b ≠ s2.heap.objs.size + 1:=λb o e=>Nat.ne_of_lt (Nat.lt_succ_of_lt (Heap.lt_size e))
     have u:=I5.base
     have u':Un (frs X.stack) fp H2 H3 s2.heap h':=⟨λb o e n1 n2 n3=>(sb.2 b (lt b o e)).trans (u.keep b o e n1 n2 n3),λb o e n1 n2 n3=>let ⟨sl,z⟩:=u.slot b o e n1 n2 n3; ⟨sl,(sb.2 b (lt b o e)).trans z⟩,
       u.free,λb o e n1=>let ⟨o',z⟩:=u.there b o e n1; ⟨o',(sb.2 b (lt b o e)).trans z⟩,u.tups,u.frzs,u.tbls⟩
     have fC:H3 (s2.heap.objs.size + 1)=none:=I5.free
     refine I2.oo (s':={ s5 with heap:=h' }) I5.os u' (λb o e=>(I5.hok b o e).fM (λd v hd z=>(sb.2 d ?_).trans z) (λ_ z=>z) λ_ _ z=>z) I5.bare λb hb=>⟨(f2 b hb).2.2.2.1,(f2 b hb).2.1,(f2 b hb).2.2.2.2.1,(f2 b hb).2.2.2.2.2⟩
     rcases hd with hd | hd
     · rw [hd]; exact az e fC
     · exact az hd fC
   · refine thn (T.item (av X s2 H2 scope N fp) rfl rfl rfl hc i [] s3 σ3 H3 _ I3 (stat fr3) st3 go) λr s4 ⟨u,hr,h4⟩=>?_
     subst hr
     refine thn h4 λ_ s5 ⟨x,H5,I5,r5,y5,st5,fr5⟩=>?_
     have I5':=I5.pinned (stat fr5) (T.obj _ _ st5)
     refine thn (hg _ s5 σ3 H5 x u _ I5' r5 (step x H5 y5)) λ_ s6 ⟨σ6,H6,I6,q6⟩=>?_
     have again:∀ {s7:Shared} {σ7:L2.St} {H7:Hp} {m':Nat},Inv (av X s2 H2 scope N fp) ([]++dB fp s5.heap) σ7 H7 s7->m' < n->Z (i + 1) m' σ7 H7 ->
         ∃ m,m < n/\∃ i σ' H',Inv (av X s2 H2 scope N fp) [] σ' H' s7/\tn i s7.heap/\(∀ b ∈ fp,H' b=none)/\Z i m σ' H':=λ{s7 σ7 H7 m'} I7 hm z7=>by
       refine ⟨m',hm,i + 1,σ7,H7,I7.b8,T.keep _ _ _ st5 λb hb o e=>(I7.pin (b,o) (List.mem_append_right _ (List.mem_append_right _ (a7 hb e)))).1,λb hb=>?_,z7⟩
       obtain ⟨o,e,d⟩:=T.obj _ _ st5 b hb
       exact (I7.pin (b,o) (List.mem_append_right _ (List.mem_append_right _ (a7 hb e)))).2.1
     refine thn (ht _ s6 σ6 H6 _ I6 q6) λok s7 ⟨H7,I7,q7⟩=>?_
     cases ok with
     | false=>
       rw [if_neg (by decide)] at q7
       obtain ⟨m',hm,z7⟩:=q7
       exact again I7 hm z7
     | true=>
       rw [if_pos rfl] at q7
       refine thn (he _ s7 σ6 H7 _ I7 q7) λv' s8 ⟨v,H8,I8,r8,vs,m',q8,l8,hm,z8⟩=>?_
       refine thn (cT (X:=av X s2 H2 scope N fp) _ s8 σ6 H8 (.ref s2.heap.objs.size) [v] (.ref s2.heap.objs.size) [v'] (λ_ H9=>H9=upd H8 s2.heap.objs.size (.lst (vs++[v]))) I8 rfl (.cons r8 .nil) ⟨_,vs,v,rfl,rfl,q8,l8,rfl⟩) λ_ s9 ⟨_,H9,I9,_,e9⟩=>?_
       subst e9
       exact again I9 hm z8
 exact codeAny_compStart_list loop (T.self _ 0 _ _ _ st4 loop)
end Ev
namespace Ev
open PySem PySem.Spec PyProof.Rows L2
theorem fN {X:Cx} {gT:TG} {y:Str} {py spos:Pos} {elt tg iter:Expr} {ifs:List Expr} {scope:Scope} {N:List Str} {caps:List (Option Nat)} {pos:Pos} {wi:TI} {In:TG->TT->TE->Prop} (hT:PG X (.Name y py) gT) (hc:X.calm=true) (c:cu X scope N caps) (hi:PI X tg iter wi)
   (hs:∀ x,foldedSetIterable iter X.env x=pure x)
   (hin:∀ g tt te,In g tt te->∀ s H fp,PG (av X s H scope N fp) tg g/\PTs (av X s H scope N fp) ifs tt/\PE (av X s H scope N fp) elt te)
   (hsw:swapsWith (.ListComp elt [⟨tg,iter,ifs,0⟩] scope pos) (some (.Name y py)) spos.line X.env=pure true) :
   PS X (.Assign [.Name y py] (.ListComp elt [⟨tg,iter,ifs,0⟩] scope pos) spos) (pX (dk In caps wi) gT):=by
 intro pins s σ H D I h
 rw [exec_Assign_Name_used _ _ _ _ hsw]
 refine wpAny_bind (wpAny_standAt (wpAny_bind ?_))
 show wpAny _ _ (do let _ <- comprehension (.ListComp elt [⟨tg,iter,ifs,0⟩] scope pos) scope X.env _ (newList []) false _ (some (assign (.Name y py) X.env))) _ _ s
 refine wpAny_bind ?_
 have hcl:=j0 (dH I c)
 refine wpAny_comprehension_free (use:=some (assign (.Name y py) X.env)) (Q:=λ_ s'=>wpAny (model X.prog X.w) X.A (pure ()) (λ_ s''=>wpAny (model X.prog X.w) X.A (pure Flow.next) (SP X pins D) X.xe s'') X.xe s') (g:=⟨tg,iter,ifs,0⟩) (gs:=[]) rfl hs hcl c.kind c.loc ?_
 show wpAny _ _ (eval iter X.env) _ _ s
 refine thn (hi pins s σ H _ I h) λv s1 h1=>thn h1 λitv s2 h2=>?_
 obtain ⟨it,fp,tn,J,H2,e,I2,T,st2,f2,g,tt,te,hI,q⟩:=h2
 subst e
 obtain ⟨Z,⟨m0,z0⟩,turn⟩:=q s2.heap.objs.size (I2.hok.fresh (Nat.le_refl _))
 have ho:∀ b ∈ fp,∃ o,s2.heap.get? b=some o:=λb hb=>let ⟨o,e,_⟩:=T.obj _ _ st2 b hb; ⟨o,e⟩
 have I4:=jd (scope:=scope) (N:=N) (caps:=caps) I2 f2 ho c
 obtain ⟨hg,ht,he⟩:=hin g tt te hI s2 H2 fp
 refine wpAny_newObj_type (gL ?_) (by show 0<=sizeLine; decide)
 have hC:(s2.heap.push { cls:=.type "list",dict:=none,data:=.seq ([]:List Value).toArray }).objs.size=s2.heap.objs.size + 1:=Heap.size_push ..
 dsimp only
 rw [hC]
 have kp:∀ b o,s2.heap.get? b=some o->(pushCells ((s2.heap.push { cls:=.type "list",data:=.seq ([]:List Value).toArray }).push { cls:=.type "dict",data:=.dict #[] }) scope.names).get? b=some o:=λb o e=>
   pushCells_keeps _ _ b o (Heap.get?_push_of_some _ (Heap.get?_push_of_some _ e))
 have st4:tn 0 (pushCells ((s2.heap.push { cls:=.type "list",data:=.seq ([]:List Value).toArray }).push { cls:=.type "dict",data:=.dict #[] }) scope.names):=T.keep _ _ _ st2 λb _ o e=>kp b o e
 have stat:∀ {H':Hp},(∀ b ∈ fp,H' b=none)->∀ b ∈ fp,gx (av X s2 H2 scope N fp) [] H' b:=λhn b hb=>
   ⟨hn b hb,(I4.ok.exf b hb).1,I4.ok.exfs b hb,.inl hb,(I4.ok.exf b hb).2,λp hp=>absurd (show p ∈ ([]:List (Addr × Obj)) from hp) (by simp)⟩
 have fr4:∀ b ∈ fp,(upd H2 s2.heap.objs.size (.lst [])) b=none:=λb hb=>by
   obtain ⟨o,e⟩:=ho b hb
   rw [ak (Nat.ne_of_lt (Heap.lt_size e))]; exact (f2 b hb).1
 have loop:codeAny (model X.prog X.w) X.A (.compLoop (.ListComp elt [⟨tg,iter,ifs,0⟩] scope pos) 0 (.ref it) (.ref s2.heap.objs.size) (av X s2 H2 scope N fp).env)
     (compPost (model X.prog X.w) X.A X.xe (some (assign (.Name y py) X.env)) (λ_ s'=>wpAny (model X.prog X.w) X.A (pure ()) (λ_ s''=>wpAny (model X.prog X.w) X.A (pure Flow.next) (SP X pins D) X.xe s'') X.xe s') (.ref s2.heap.objs.size) (s2.heap.objs.size + 1))
     { s2 with heap:=pushCells ((s2.heap.push { cls:=.type "list",data:=.seq ([]:List Value).toArray }).push { cls:=.type "dict",data:=.dict #[] }) scope.names }:=by
   refine fL (λn s'=>∃ i σ' H',Inv (av X s2 H2 scope N fp) [] σ' H' s'/\tn i s'.heap/\(∀ b ∈ fp,H' b=none)/\Z i n σ' H') ?_ m0 ⟨0,_,_,I4,st4,fr4,z0⟩
   rintro n s3 ⟨i,σ3,H3,I3,st3,fr3,w3⟩
   rcases turn i n σ3 H3 w3 with ⟨stop,qn⟩ | ⟨go,step⟩
   · refine thn (T.done (av X s2 H2 scope N fp) rfl rfl rfl hc i [] s3 σ3 H3 _ I3 (stat fr3) st3 stop) λr s5 ⟨hr,I5⟩=>?_
     subst hr
     obtain ⟨m,hn,_⟩:=id I5.loc
     have I6:Inv X pins σ H3 s5:=by
       have lt:∀ b o,s2.heap.get? b=some o->b ≠ s2.heap.objs.size + 1:=λb o e=>Nat.ne_of_lt (Nat.lt_succ_of_lt (Heap.lt_size e))
       have u:=I5.base
       have u':Un (frs X.stack) fp H2 H3 s2.heap s5.heap:=⟨λb o e n1 n2 n3=>u.keep b o e n1 n2 n3,λb o e n1 n2 n3=>u.slot b o e n1 n2 n3,u.free,λb o e n1=>u.there b o e n1,u.tups,u.frzs,u.tbls⟩
       exact I2.oo (s':=s5) I5.os u' I5.hok I5.bare λb hb=>⟨(f2 b hb).2.2.2.1,(f2 b hb).2.1,(f2 b hb).2.2.2.2.1,(f2 b hb).2.2.2.2.2⟩
     have fC:H3 (s2.heap.objs.size + 1)=none:=I5.free
     have fk:gx X pins H3 (s2.heap.objs.size + 1):=I2.jB (Nat.le_succ _) fC
     obtain ⟨oC,es,ep,hoC,hdC,rC⟩:=id hn
     have hpin:=I6.pinned (fp:=[s2.heap.objs.size + 1]) (λb hb=>by rw [List.mem_singleton.mp hb]; exact fk) (λb hb=>by rw [List.mem_singleton.mp hb]; exact ⟨oC,hoC,λv z=>by rw [hdC] at z; cases z⟩)
     have hmem:(s2.heap.objs.size + 1,oC) ∈ dB [s2.heap.objs.size + 1] s5.heap:=a7 (List.mem_singleton_self _) hoC
     refine thn (hT _ s5 σ H3 (.ref s2.heap.objs.size) (.ref s2.heap.objs.size) _ hpin rfl qn) λ_ s6 ⟨σ6,H6,I7,q7⟩=>?_
     obtain ⟨p1,p2,p3,p4,p5⟩:=I7.pin _ (List.mem_append_right _ (List.mem_append_right _ hmem))
     refine ⟨m,⟨oC,es,ep,p1,hdC,rC⟩,λh' sb=>wpAny_pure (wpAny_pure ?_)⟩
     refine ⟨σ6,H6,?_,q7⟩
     exact (I7.b8).turned (t':=s6.toks) (it:=s2.heap.objs.size + 1) (λb o hb e=>(sb.2 b hb).trans e) p2 p3 fk.2.2.2.1 fk.2.2.2.2.1 fk.2.2.2.2.2
   · refine thn (T.item (av X s2 H2 scope N fp) rfl rfl rfl hc i [] s3 σ3 H3 _ I3 (stat fr3) st3 go) λr s4 ⟨u,hr,h4⟩=>?_
     subst hr
     refine thn h4 λ_ s5 ⟨x,H5,I5,r5,y5,st5,fr5⟩=>?_
     have I5':=I5.pinned (stat fr5) (T.obj _ _ st5)
     refine thn (hg _ s5 σ3 H5 x u _ I5' r5 (step x H5 y5)) λ_ s6 ⟨σ6,H6,I6,q6⟩=>?_
     have again:∀ {s7:Shared} {σ7:L2.St} {H7:Hp} {m':Nat},Inv (av X s2 H2 scope N fp) ([]++dB fp s5.heap) σ7 H7 s7->m' < n->Z (i + 1) m' σ7 H7 ->
         ∃ m,m < n/\∃ i σ' H',Inv (av X s2 H2 scope N fp) [] σ' H' s7/\tn i s7.heap/\(∀ b ∈ fp,H' b=none)/\Z i m σ' H':=λ{s7 σ7 H7 m'} I7 hm z7=>by
       refine ⟨m',hm,i + 1,σ7,H7,I7.b8,T.keep _ _ _ st5 λb hb o e=>(I7.pin (b,o) (List.mem_append_right _ (List.mem_append_right _ (a7 hb e)))).1,λb hb=>?_,z7⟩
       obtain ⟨o,e,d⟩:=T.obj _ _ st5 b hb
       exact (I7.pin (b,o) (List.mem_append_right _ (List.mem_append_right _ (a7 hb e)))).2.1
     refine thn (ht _ s6 σ6 H6 _ I6 q6) λok s7 ⟨H7,I7,q7⟩=>?_
     cases ok with
     | false=>
       rw [if_neg (by decide)] at q7
       obtain ⟨m',hm,z7⟩:=q7
       exact again I7 hm z7
     | true=>
       rw [if_pos rfl] at q7
       refine thn (he _ s7 σ6 H7 _ I7 q7) λv' s8 ⟨v,H8,I8,r8,vs,m',q8,l8,hm,z8⟩=>?_
       refine thn (cT (X:=av X s2 H2 scope N fp) _ s8 σ6 H8 (.ref s2.heap.objs.size) [v] (.ref s2.heap.objs.size) [v'] (λ_ H9=>H9=upd H8 s2.heap.objs.size (.lst (vs++[v]))) I8 rfl (.cons r8 .nil) ⟨_,vs,v,rfl,rfl,q8,l8,rfl⟩) λ_ s9 ⟨_,H9,I9,_,e9⟩=>?_
       subst e9
       exact again I9 hm z8
 exact codeAny_compStart_list loop (T.self _ 0 _ _ _ st4 loop)
end Ev
namespace Hy
open PySem PySem.Spec PyProof.Rows L2
open Ev (D Den ax)
open Classical in
noncomputable def hd (H:Hp) (M:Addr->Prop):Hp:=λb=>if M b then none else H b
theorem aj {H:Hp} {M:Addr->Prop} {b:Addr} {o:HO}:hd H M b=some o ↔ ¬ M b/\H b=some o:=by
 unfold hd
 by_cases h:M b
 · rw [if_pos h]; exact ⟨λz=>(nomatch z),λz=>absurd h z.1⟩
 · rw [if_neg h]; exact ⟨λz=>⟨h,z⟩,λz=>z.2⟩
theorem aq {H H':Hp} {M M':Addr->Prop} (e:af H H') (m:∀ b,M' b->M b):af (hd H M) (hd H' M'):=λb _ h=>aj.mpr ⟨λz=>(aj.mp h).1 (m b z),e b _ (aj.mp h).2⟩
theorem aD {H:Hp} {M:Addr->Prop}:af (hd H M) H:=λ_ _ h=>(aj.mp h).2
inductive Nd where
 | d (x:D) | l (xs:List Nd) | t (xs:List Nd)
structure Ex where
 p:PySem.W.Frag->Hp->HO->Addr->Prop
 mono:∀ {K:PySem.W.Frag} {G G':Hp} {o:HO} {a:Addr},af G G'->p K G o a->p K G' o a
 ext:∀ {K:PySem.W.Frag} {G:Hp} {o:HO} {a:Addr},p K G o a->∃ φ,o=.ext φ
inductive Sl where
 | un | d (x:D) | o (xs:List D) | n (t:Nd) | x (E:Ex)
mutual
inductive aT (K:PySem.W.Frag) (G H:Hp):V->List Addr->Nd->Prop where
 | d {u:V} {x:D} (h:Den K G u x):aT K G H u [] (.d x)
 | l {a:Addr} {vs:List V} {bs:List Addr} {xs:List Nd} (h:H a=some (.lst vs)) (r:aA K G H vs bs xs):aT K G H (.ref a) (a :: bs) (.l xs)
 | t {a:Addr} {vs:List V} {bs:List Addr} {xs:List Nd} (h:H a=some (.tup vs)) (r:aA K G H vs bs xs):aT K G H (.ref a) (a :: bs) (.t xs)
inductive aA (K:PySem.W.Frag) (G H:Hp):List V->List Addr->List Nd->Prop where
 | nil:aA K G H [] [] []
 | cons {v:V} {vs:List V} {b1 b2:List Addr} {s:Nd} {ss:List Nd} (h:aT K G H v b1 s) (r:aA K G H vs b2 ss):aA K G H (v :: vs) (b1++b2) (s :: ss)
end
noncomputable def a8 (K:PySem.W.Frag) (G H:Hp) (v:Option V) (bs:List Addr):Sl->Prop
 | .un=>bs=[]
 | .d x=>bs=[]/\∃ u,v=some u/\Den K G u x
 | .o xs=>∃ a vs,bs=[a]/\v=some (.ref a)/\H a=some (.lst vs)/\ax K G vs xs
 | .n t=>bs.Nodup/\∃ u,v=some u/\aT K G H u bs t
 | .x E=>∃ a o,bs=[a]/\v=some (.ref a)/\H a=some o/\E.p K G o a
section
variable {K:PySem.W.Frag} {G G' H H':Hp}
mutual
theorem aT.frame (g:af G G'):∀ {u:V} {bs:List Addr} {t:Nd},(∀ b ∈ bs,H' b=H b)->aT K G H u bs t->aT K G' H' u bs t
 | _,_,_,_,.d h=>.d (h.mono g)
 | _,_,_,e,.l h r=>.l (by rw [e _ (List.mem_cons_self ..)]; exact h) (aA.frame g (λb hb=>e b (List.mem_cons_of_mem _ hb)) r)
 | _,_,_,e,.t h r=>.t (by rw [e _ (List.mem_cons_self ..)]; exact h) (aA.frame g (λb hb=>e b (List.mem_cons_of_mem _ hb)) r)
theorem aA.frame (g:af G G'):∀ {vs:List V} {bs:List Addr} {xs:List Nd},(∀ b ∈ bs,H' b=H b)->aA K G H vs bs xs->aA K G' H' vs bs xs
 | _,_,_,_,.nil=>.nil
 | _,_,_,e,.cons h r=>.cons (aT.frame g (λb hb=>e b (List.mem_append_left _ hb)) h) (aA.frame g (λb hb=>e b (List.mem_append_right _ hb)) r)
end
mutual
theorem aT.some_of:∀ {u:V} {bs:List Addr} {t:Nd},aT K G H u bs t->∀ b ∈ bs,∃ o,H b=some o
 | _,_,_,.d _,_,z=>nomatch z
 | _,_,_,.l h r,b,z=>(List.mem_cons.mp z).elim (λe=>e ▸ ⟨_,h⟩) λz=>aA.some_of r b z
 | _,_,_,.t h r,b,z=>(List.mem_cons.mp z).elim (λe=>e ▸ ⟨_,h⟩) λz=>aA.some_of r b z
theorem aA.some_of:∀ {vs:List V} {bs:List Addr} {xs:List Nd},aA K G H vs bs xs->∀ b ∈ bs,∃ o,H b=some o
 | _,_,_,.nil,_,z=>nomatch z
 | _,_,_,.cons h r,b,z=>(List.mem_append.mp z).elim (λz=>aT.some_of h b z) λz=>aA.some_of r b z
end
theorem aT.mono (g:af G G') (e:af H H') {u:V} {bs:List Addr} {t:Nd} (h:aT K G H u bs t):aT K G' H' u bs t:=h.frame g λb hb=>by
 obtain ⟨o,q⟩:=h.some_of b hb
 rw [q,e b o q]
theorem a8.mono (g:af G G') (e:af H H') {v:Option V} {bs:List Addr}:∀ {s:Sl},a8 K G H v bs s->a8 K G' H' v bs s
 | .un,h=>h
 | .d _,⟨h,u,e1,h2⟩=>⟨h,u,e1,h2.mono g⟩
 | .o _,⟨a,vs,h1,h2,h3,h4⟩=>⟨a,vs,h1,h2,e _ _ h3,h4.mono g⟩
 | .n _,⟨h0,u,h1,h2⟩=>⟨h0,u,h1,h2.mono g e⟩
 | .x E,⟨a,o,h1,h2,h3,h4⟩=>⟨a,o,h1,h2,e _ _ h3,E.mono g h4⟩
end
noncomputable def own (A:Addr->Prop) (B:Nat->List Addr) (b:Addr):Prop:=A b\/∃ i,b ∈ B i
noncomputable def vw (C:Bool) (A:Addr->Prop) (B:Nat->List Addr):Addr->Prop:=match C with
 | true=>own A B
 | false=>A
structure Sta (K:PySem.W.Frag) (A:Addr->Prop) (H₀:Hp) (τ:List Sl) (B:Nat->List Addr) (σ:L2.St) (H:Hp):Prop where
 same:af H₀ H
 len:σ.length=τ.length
 sl:∀ i s,τ[i]?=some s->a8 K (hd H (own A B)) H (σ[i]?).join (B i) s
 fr:∀ i b,b ∈ B i->H₀ b=none
 uq:∀ i j b,b ∈ B i->b ∈ B j->i=j
 ad:∀ b,A b->∃ o,H₀ b=some o
 bd:∀ i b,b ∈ B i->∃ o,H b=some o
noncomputable def upB (B:Nat->List Addr) (i:Nat) (bs:List Addr):Nat->List Addr:=λj=>if j=i then bs else B j
section
variable {K:PySem.W.Frag} {A:Addr->Prop} {H₀ H H':Hp} {τ:List Sl} {B:Nat->List Addr} {σ:L2.St}
theorem Sta.dm (S:Sta K A H₀ τ B σ H) (b:Addr) (h:own A B b):∃ o,H b=some o:=h.elim (λz=>let ⟨o,q⟩:=S.ad b z; ⟨o,S.same _ _ q⟩) λ⟨i,z⟩=>S.bd i b z
theorem Sta.mono (S:Sta K A H₀ τ B σ H) (e:af H H'):Sta K A H₀ τ B σ H' where
 same:=S.same.trans e
 len:=S.len
 sl:=λi s h=>(S.sl i s h).mono (aq e λ_ z=>z) e
 fr:=S.fr
 uq:=S.uq
 ad:=S.ad
 bd:=λi b h=>let ⟨o,q⟩:=S.bd i b h; ⟨o,e _ _ q⟩
theorem aK {i j:Nat} {bs:List Addr} {b:Addr} (h:b ∈ upB B i bs j):(j=i/\b ∈ bs)\/(j ≠ i/\b ∈ B j):=by
 unfold upB at h
 by_cases e:j=i
 · rw [if_pos e] at h; exact .inl ⟨e,h⟩
 · rw [if_neg e] at h; exact .inr ⟨e,h⟩
theorem Sta.set (S:Sta K A H₀ τ B σ H) (e:af H H') {i:Nat} {v:V} {s:Sl} {bs:List Addr} (hf:∀ b ∈ bs,H b=none/\∃ o,H' b=some o) (h:a8 K (hd H' λb=>own A B b\/b ∈ bs) H' (some v) bs s) :
   Sta K A H₀ (τ.set i s) (upB B i bs) (σ.set i (some v)) H':=by
 have sub:∀ b,own A (upB B i bs) b->own A B b\/b ∈ bs:=λb z=>z.elim (λz=>.inl (.inl z)) λ⟨j,z⟩=>(aK z).elim (λz=>.inr z.2) λz=>.inl (.inr ⟨j,z.2⟩)
 have some_of:∀ b j,b ∈ B j->∃ o,H b=some o:=λb j z=>S.dm b (.inr ⟨j,z⟩)
 refine ⟨S.same.trans e,by rw [List.length_set,List.length_set,S.len],λj t hj=>?_,λj b hb=>?_,λj k b h1 h2=>?_,S.ad,λj b hb=>?_⟩
 · by_cases ej:j=i
   · subst ej
     have hl:j < τ.length:=by
       have:=(List.getElem?_eq_some_iff.mp hj).1
       rwa [List.length_set] at this
     rw [List.getElem?_set_self hl] at hj
     cases hj
     rw [List.getElem?_set_self (by rw [S.len]; exact hl)]
     unfold upB
     rw [if_pos rfl]
     exact h.mono (aq (af.refl _) sub) (af.refl _)
   · rw [List.getElem?_set_ne (λz=>ej z.symm)] at hj
     rw [List.getElem?_set_ne (λz=>ej z.symm)]
     unfold upB
     rw [if_neg ej]
     have q:=S.sl j t hj
     refine q.mono (λb o z=>?_) e
     obtain ⟨z1,z2⟩:=aj.mp z
     refine aj.mpr ⟨λy=>?_,e _ _ z2⟩
     rcases sub b y with y | y
     · exact z1 y
     · rw [(hf b y).1] at z2; cases z2
 · rcases aK hb with ⟨_,z⟩ | ⟨_,z⟩
   · exact S.same.free (hf b z).1
   · exact S.fr j b z
 · rcases aK h1 with ⟨e1,z1⟩ | ⟨e1,z1⟩ <;> rcases aK h2 with ⟨e2,z2⟩ | ⟨e2,z2⟩
   · exact e1.trans e2.symm
   · obtain ⟨o,q⟩:=some_of b k z2; rw [(hf b z1).1] at q; cases q
   · obtain ⟨o,q⟩:=some_of b j z1; rw [(hf b z2).1] at q; cases q
   · exact S.uq j k b z1 z2
 · rcases aK hb with ⟨_,z⟩ | ⟨_,z⟩
   · exact (hf b z).2
   · obtain ⟨o,q⟩:=S.bd j b z; exact ⟨o,e _ _ q⟩
theorem Sta.less (S:Sta K A H₀ τ B σ H) {i:Nat} {s:Sl} {bs:List Addr} (hb:∀ b ∈ bs,b ∈ B i) (h:∀ G:Hp,af (hd H (own A B)) G->(∀ b o,b ∈ B i->b ∉ bs->H b=some o->G b=some o)->a8 K G H (σ[i]?).join bs s):Sta K A H₀ (τ.set i s) (upB B i bs) σ H:=by
 have sub:∀ b,own A (upB B i bs) b->own A B b:=λb z=>z.elim .inl λ⟨j,z⟩=>(aK z).elim (λz=>.inr ⟨i,hb b z.2⟩) λz=>.inr ⟨j,z.2⟩
 refine ⟨S.same,by rw [List.length_set,S.len],λj t hj=>?_,λj b h=>?_,λj k b h1 h2=>?_,S.ad,λj b h=>(aK h).elim (λz=>S.bd i b (hb b z.2)) λz=>S.bd j b z.2⟩
 · by_cases ej:j=i
   · subst ej
     have hl:j < τ.length:=by
       have:=(List.getElem?_eq_some_iff.mp hj).1
       rwa [List.length_set] at this
     rw [List.getElem?_set_self hl] at hj
     cases hj
     unfold upB
     rw [if_pos rfl]
     refine h _ (aq (af.refl _) sub) λb o z1 z2 z3=>aj.mpr ⟨λy=>?_,z3⟩
     rcases y with y | ⟨m,y⟩
     · obtain ⟨_,q⟩:=S.ad b y
       rw [S.fr j b z1] at q; cases q
     · rcases aK y with ⟨e,y⟩ | ⟨e,y⟩
       · exact z2 y
       · exact e (S.uq m j b y z1)
   · rw [List.getElem?_set_ne (λz=>ej z.symm)] at hj
     unfold upB
     rw [if_neg ej]
     exact (S.sl j t hj).mono (aq (af.refl _) sub) (af.refl _)
 · rcases aK h with ⟨e,z⟩ | ⟨_,z⟩
   · exact S.fr i b (hb b z)
   · exact S.fr j b z
 · rcases aK h1 with ⟨e1,z1⟩ | ⟨e1,z1⟩ <;> rcases aK h2 with ⟨e2,z2⟩ | ⟨e2,z2⟩
   · exact e1.trans e2.symm
   · exact absurd (S.uq k i b z2 (hb b z1)) e2
   · exact absurd (S.uq j i b z1 (hb b z2)) e1
   · exact S.uq j k b z1 z2
end
end Hy
namespace Hy
open PySem PySem.Spec PyProof.Rows L2
open Ev (D Den ax aQ bw ao aF aC)
noncomputable def Fr (H H':Hp) (bs:List Addr):Prop:=∀ b ∈ bs,H b=none/\∃ o,H' b=some o
noncomputable def dE (K:PySem.W.Frag) (C:Bool) (τ:List Sl) (s:Sl):TE:=λσ H Q=>∃ A H₀ B,Sta K A H₀ τ B σ H /\
 ∀ v H' bs,af H H'->Fr H H' bs->a8 K (hd H' λb=>vw C A B b\/b ∈ bs) H' (some v) bs s->Q v H'
noncomputable def dA (K:PySem.W.Frag) (C:Bool) (τ:List Sl) (ds:List D):TA:=λσ H Q=>∃ A H₀ B,Sta K A H₀ τ B σ H /\
 ∀ vs H',af H H'->ax K (hd H' (vw C A B)) vs ds->Q vs H'
noncomputable def dT (K:PySem.W.Frag) (τ:List Sl) (c:Bool):TT:=λσ H Q=>∃ A H₀ B,Sta K A H₀ τ B σ H/\∀ H',af H H'->Q c H'
structure Po where
 nx:List Sl->Prop
 rt:Sl->Prop
 bk:List Sl->Prop:=λ_=>False
 ct:List Sl->Prop:=λ_=>False
structure Meets (K:PySem.W.Frag) (A:Addr->Prop) (H₀:Hp) (N:Po) (D:Ends):Prop where
 nx:∀ τ B σ H,N.nx τ->Sta K A H₀ τ B σ H->D.nx σ H
 bk:∀ τ B σ H,N.bk τ->Sta K A H₀ τ B σ H->D.bk σ H
 ct:∀ τ B σ H,N.ct τ->Sta K A H₀ τ B σ H->D.ct σ H
 rt:∀ v H bs s,N.rt s->af H₀ H->Fr H₀ H bs->a8 K (hd H λb=>A b\/b ∈ bs) H (some v) bs s->D.rt v H
noncomputable def dS (K:PySem.W.Frag) (τ:List Sl) (N:Po):TS:=λD σ H=>∃ A H₀ B,Sta K A H₀ τ B σ H/\Meets K A H₀ N D
theorem peW {X:Cx} {e:Expr} {t t':TE} (h:PE X e t) (f:∀ σ H Q,t' σ H Q->t σ H Q):PE X e t':=λpins s σ H Q I q=>h pins s σ H Q I (f σ H Q q)
theorem ptW {X:Cx} {e:Expr} {t t':TT} (h:PT X e t) (f:∀ σ H Q,t' σ H Q->t σ H Q):PT X e t':=λpins s σ H Q I q=>h pins s σ H Q I (f σ H Q q)
theorem pwW {X:Cx} {e:Expr} {t t':TT} (h:PW X e t) (f:∀ σ H Q,t' σ H Q->t σ H Q):PW X e t':=λwh pins s σ H Q I q=>h wh pins s σ H Q I (f σ H Q q)
theorem paW {X:Cx} {e:List Expr} {t t':TA} (h:PA X e t) (f:∀ σ H Q,t' σ H Q->t σ H Q):PA X e t':=λp pins s σ H Q I q=>h p pins s σ H Q I (f σ H Q q)
theorem psW {X:Cx} {e:Stmt} {t t':TS} (h:PS X e t) (f:∀ D σ H,t' D σ H->t D σ H):PS X e t':=λpins s σ H D I q=>h pins s σ H D I (f D σ H q)
theorem kP {X:Cx} {e:List Stmt} {t t':TS} (h:PSs X e t) (f:∀ D σ H,t' D σ H->t D σ H):PSs X e t':=λpins s σ H D I q=>h pins s σ H D I (f D σ H q)
section
variable {K:PySem.W.Frag} {C:Bool} {τ:List Sl} {A:Addr->Prop} {H₀ H H':Hp} {B:Nat->List Addr} {σ:L2.St} {x y z:D} {Q:VK}
theorem iG {b:Addr} (h:vw C A B b):own A B b:=by
 cases C with
 | true=>exact h
 | false=>exact .inl h
theorem Sta.vd (S:Sta K A H₀ τ B σ H) (b:Addr) (h:vw C A B b):∃ o,H b=some o:=S.dm b (iG h)
theorem aP (S:Sta K A H₀ τ B σ H) (k:∀ v H',af H H'->Den K (hd H' (vw C A B)) v x->Q v H'):dE K C τ (.d x) σ H Q:=
 ⟨A,H₀,B,S,λv H' bs e _ ⟨hb,u,eu,h⟩=>by
   cases eu
   exact k v H' e (h.mono (aq (af.refl _) λ_ z=>.inl z))⟩
theorem dJ (h:dE K C τ (.d x) σ H Q):∃ A H₀ B,Sta K A H₀ τ B σ H/\∀ v H',af H H'->Den K (hd H' (vw C A B)) v x->Q v H':=by
 obtain ⟨A,H₀,B,S,k⟩:=h
 exact ⟨A,H₀,B,S,λv H' e d=>k v H' [] e (λ_ z=>nomatch z) ⟨rfl,v,rfl,d.mono (aq (af.refl _) λ_ z=>z.elim id λz=>nomatch z)⟩⟩
theorem cH {ds:List D} {Q:List V->Hp->Prop} (S:Sta K A H₀ τ B σ H) (k:∀ vs H',af H H'->ax K (hd H' (vw C A B)) vs ds->Q vs H'):dA K C τ ds σ H Q:=⟨A,H₀,B,S,k⟩
theorem iD {M:Addr->Prop} {p:Addr} {o:HO} (hM:∀ b,M b->∃ o,H b=some o) (hp:H p=none):hd (upd H p o) M p=some o:=
 aj.mpr ⟨λz=>(by obtain ⟨o,q⟩:=hM p z; rw [hp] at q; cases q),aB⟩
mutual
noncomputable def ndD:Nd->D
 | .d x=>x
 | .l xs=>.lst (ja xs)
 | .t xs=>.tup (ja xs)
noncomputable def ja:List Nd->List D
 | []=>[]
 | x :: xs=>ndD x :: ja xs
end
noncomputable def fzD:Sl->Option D
 | .un=>none
 | .d x=>some x
 | .o xs=>some (.lst xs)
 | .n t=>some (ndD t)
 | .x _=>none
mutual
theorem aT.den {G G':Hp} (g:af G G'):∀ {u:V} {bs:List Addr} {t:Nd},(∀ b ∈ bs,∀ o,H b=some o->G' b=some o)->aT K G H u bs t->Den K G' u (ndD t)
 | _,_,_,_,.d h=>h.mono g
 | _,_,_,e,.l h r=>.lst (SqL.of (e _ (List.mem_cons_self ..) _ h)) (aA.den g (λb hb=>e b (List.mem_cons_of_mem _ hb)) r)
 | _,_,_,e,.t h r=>.tup (SqT.of (e _ (List.mem_cons_self ..) _ h)) (aA.den g (λb hb=>e b (List.mem_cons_of_mem _ hb)) r)
theorem aA.den {G G':Hp} (g:af G G'):∀ {vs:List V} {bs:List Addr} {xs:List Nd},(∀ b ∈ bs,∀ o,H b=some o->G' b=some o)->aA K G H vs bs xs->ax K G' vs (ja xs)
 | _,_,_,_,.nil=>.nil
 | _,_,_,e,.cons h r=>.cons (aT.den g (λb hb=>e b (List.mem_append_left _ hb)) h) (aA.den g (λb hb=>e b (List.mem_append_right _ hb)) r)
end
theorem a8.den {G G':Hp} {v:Option V} {bs:List Addr} {s:Sl} (h:a8 K G H v bs s) (g:af G G') (hv:∀ b ∈ bs,∀ o,H b=some o->G' b=some o) (e:fzD s=some x):∃ u,v=some u/\Den K G' u x:=by
 cases s with
 | un=>cases e
 | d y=>cases e; obtain ⟨_,u,e,q⟩:=h; exact ⟨u,e,q.mono g⟩
 | o xs=>
   cases e
   obtain ⟨a,vs,rfl,h2,h3,h4⟩:=h
   exact ⟨_,h2,.lst (SqL.of (hv a (List.mem_cons_self ..) _ h3)) (h4.mono g)⟩
 | n t=>
   cases e
   obtain ⟨_,u,e,q⟩:=h
   exact ⟨u,e,q.den g hv⟩
 | x E=>cases e
theorem slot_of {i:Nat} {u:V} (h:(σ[i]?).join=some u):σ[i]?=some (some u):=by
 cases e:σ[i]? with
 | none=>rw [e] at h; cases h
 | some o=>rw [e] at h; exact congrArg some h
end
section
variable {X:Cx} {C:Bool} {τ:List Sl} {x y z:D} {a b e:Expr} {es:List Expr} {pos:Pos}
theorem aa (i:Nat) {n:Str} {x:D} (h:τ[i]?=some (.d x):=by rfl) (hN:X.N[i]?=some n:=by rfl) (hv:Vis X.env.scope n:=by first | exact Or.inl rfl | exact Or.inr (Or.inl rfl) | exact Or.inr (Or.inr rfl))
   (hd:(n == ("__debug__" : Str))=false:=by decide) (hcd:(n == ("__classdict__" : Str))=false:=by decide):PE X (.Name n pos) (dE X.K C τ (.d x)):=peW (cE hN hv hd hcd) λσ H Q q=>by
 obtain ⟨A,H₀,B,S,k⟩:=dJ q
 obtain ⟨_,u,e,d⟩:=S.sl i _ h
 exact ⟨u,slot_of e,k u H (af.refl _) (d.mono (aq (af.refl _) λ_ z=>iG z))⟩
theorem dF (i:Nat) {n:Str} {s:Sl} {x:D} (h:τ[i]?=some s:=by rfl) (hx:fzD s=some x:=by rfl) (hN:X.N[i]?=some n:=by rfl) (hv:Vis X.env.scope n:=by first | exact Or.inl rfl | exact Or.inr (Or.inl rfl) | exact Or.inr (Or.inr rfl))
   (hd:(n == ("__debug__" : Str))=false:=by decide) (hcd:(n == ("__classdict__" : Str))=false:=by decide):PE X (.Name n pos) (dE X.K false τ (.d x)):=peW (cE hN hv hd hcd) λσ H Q q=>by
 obtain ⟨A,H₀,B,S,k⟩:=dJ q
 obtain ⟨u,e,d⟩:=(S.sl i _ h).den (G':=Hy.hd H A) (aq (af.refl _) λ_ z=>.inl z) (λb hb o ho=>aj.mpr ⟨λz=>(by obtain ⟨_,q⟩:=S.ad b z; rw [S.fr i b hb] at q; cases q),ho⟩) hx
 exact ⟨u,slot_of e,k u H (af.refl _) d⟩
theorem kI {v:V} (h:PE X e (tC v)) (d:∀ H,Den X.K H v x):PE X e (dE X.K C τ (.d x)):=peW h λσ H Q q=>by
 obtain ⟨A,H₀,B,S,k⟩:=dJ q
 exact k v H (af.refl _) (d _)
theorem ah {i j}:PE X (.Constant (.int i) j pos) (dE X.K C τ (.d (.int i))):=kI aY λ_=>.int
theorem oW {b j}:PE X (.Constant (.bool b) j pos) (dE X.K C τ (.d (.bl b))):=kI qw λ_=>.bl
theorem jJ {n:Str} {i:Int} (hm:∃ t,X.mg n=some (.int i t)) (hg:Gl X n:=by rfl) (hd:(n == ("__debug__" : Str))=false:=by decide):PE X (.Name n pos) (dE X.K C τ (.d (.int i))):=by
 obtain ⟨t,hm⟩:=hm
 exact kI (kE (v:=.int i) hg hm ⟨t,rfl⟩ hd) λ_=>.int
theorem aN {s:Sl} (h:PE X e (dE X.K C τ s)) (hx:fzD s=some x:=by rfl):PE X e (dE X.K C τ (.d x)):=peW h λσ H Q q=>by
 obtain ⟨A,H₀,B,S,k⟩:=dJ q
 refine ⟨A,H₀,B,S,λv H' bs e hf q=>?_⟩
 have vd:=S.vd (C:=C)
 obtain ⟨u,e1,d⟩:=q.den (G':=Hy.hd H' (vw C A B)) (aq (af.refl _) λ_ z=>.inl z) (λb hb o ho=>aj.mpr ⟨λz=>(by obtain ⟨_,q⟩:=vd b z; rw [(hf b hb).1] at q; cases q),ho⟩) hx
 cases e1
 exact k v H' e d
noncomputable def flat:D->Bool
 | .tup _=>false
 | .lst _=>false
 | _=>true
theorem bb {K:PySem.W.Frag} {G G':Hp} {v:V} (h:Den K G v x) (f:flat x=true):Den K G' v x:=by
 cases h with
 | non=>exact .non
 | bl=>exact .bl
 | int=>exact .int
 | str=>exact .str
 | tup _ _=>cases f
 | lst _ _=>cases f
noncomputable def bu (X:Cx) (f:Value->Value->Sem Value) (x y z:D):Prop:=∃ r:R2,OpR X f r /\
 ∀ (M:Addr->Prop) (v w:V) (H:Hp) (Q:VK),(∀ b,M b->∃ o,H b=some o)->Den X.K (hd H M) v x->Den X.K (hd H M) w y->(∀ u H',af H H'->Den X.K (hd H' M) u z->Q u H')->r v w H Q
theorem two {r:R2} (hr:∀ (M:Addr->Prop) (v w:V) (H:Hp) (Q:VK),(∀ b,M b->∃ o,H b=some o)->Den X.K (hd H M) v x->Den X.K (hd H M) w y->(∀ u H',af H H'->Den X.K (hd H' M) u z->Q u H')->r v w H Q) :
   ∀ σ H Q,dE X.K C τ (.d z) σ H Q->tOp r (dE X.K C τ (.d x)) (dE X.K C τ (.d y)) σ H Q:=by
 intro σ H Q h
 obtain ⟨A,H₀,B,S,k⟩:=dJ h
 refine aP S λv H1 e1 d1=>aP (S.mono e1) λw H2 e2 d2=>hr (vw C A B) v w H2 Q ((S.mono e1).mono e2).vd (d1.mono (aq e2 λ_ z=>z)) d2 λu H' e3 d3=>k u H' (e1.trans (e2.trans e3)) d3
theorem aH {op:Operator} (ha:PE X a (dE X.K C τ (.d x))) (hb:PE X b (dE X.K C τ (.d y))) (ho:bu X (binaryOp op) x y z):PE X (.BinOp a op b pos) (dE X.K C τ (.d z)):=by
 obtain ⟨r,h1,h2⟩:=ho
 exact peW (cy h1 ha hb) (two h2)
theorem dn {op:CmpOp} (ha:PE X a (dE X.K C τ (.d x))) (hb:PE X b (dE X.K C τ (.d y))) (ho:bu X (compareOp op) x y z) (hm:behindInMarks op b=false:=by first | exact lK _ | rfl):PE X (.Compare a [op] [b] pos) (dE X.K C τ (.d z)):=by
 obtain ⟨r,h1,h2⟩:=ho
 exact peW (nE h1 ha hb hm) (two h2)
theorem ma {t:TE} {c:Bool} (h:∀ σ H Q,dE X.K false τ (.d (.bl c)) σ H Q->t σ H Q):∀ σ H Q,dT X.K τ c σ H Q->t σ H λx H'=>∃ k,x=.bl k/\Q k H':=λσ H Q ⟨A,H₀,B,S,k⟩=>
 h σ H _ (aP S λv H' e d=>by cases d; exact ⟨c,rfl,k H' e⟩)
theorem bt {op:CmpOp} {c:Bool} (ha:PE X a (dE X.K false τ (.d x))) (hb:PE X b (dE X.K false τ (.d y))) (ho:bu X (compareOp op) x y (.bl c)) (hm:behindInMarks op b=false:=by first | exact lK _ | rfl):PT X (.Compare a [op] [b] pos) (dT X.K τ c):=by
 obtain ⟨r,h1,h2⟩:=ho
 exact ptW (nB h1 ha hb hm) (ma (two h2))
theorem bT {c:Bool} (h:PE X e (dE X.K false τ (.d (.bl c)))) (he:∀ whole,isTrue e X.env whole=(do let v <- whole; standAt e.pos; holding [v] (truthy v)):=by intro _; rfl):PT X e (dT X.K τ c):=
 ptW (js h he) (ma λ_ _ _ q=>q)
theorem jl {g:Int->Int->V} {P:Int->Int->Prop} {i j:Int} (hc:P i j) (hz:∀ K H,Den K H (g i j) z):∀ (M:Addr->Prop) (v w:V) (H:Hp) (Q:VK),(∀ b,M b->∃ o,H b=some o)->Den X.K (hd H M) v (.int i)->Den X.K (hd H M) w (.int j) ->
   (∀ u H',af H H'->Den X.K (hd H' M) u z->Q u H')->rI P g v w H Q:=λ_ v w H Q _ d1 d2 k=>by
 cases d1
 cases d2
 exact ⟨i,j,rfl,rfl,hc,k _ H (af.refl _) (hz _ _)⟩
theorem gj {g:Int->Int->V} {i j:Int} (hz:∀ K H,Den K H (g i j) z):∀ (M:Addr->Prop) (v w:V) (H:Hp) (Q:VK),(∀ b,M b->∃ o,H b=some o)->Den X.K (hd H M) v (.int i)->Den X.K (hd H M) w (.int j) ->
   (∀ u H',af H H'->Den X.K (hd H' M) u z->Q u H')->rI0 g v w H Q:=λ_ v w H Q _ d1 d2 k=>by
 cases d1
 cases d2
 exact ⟨i,j,rfl,rfl,k _ H (af.refl _) (hz _ _)⟩
variable {i j:Int}
theorem aX:bu X (binaryOp .Add) (.int i) (.int j) (.int (i + j)):=⟨_,iK,gj λ_ _=>.int⟩
theorem mI:bu X (binaryOp .Sub) (.int i) (.int j) (.int (i - j)):=⟨_,pF,gj λ_ _=>.int⟩
theorem rM:bu X (binaryOp .BitOr) (.int i) (.int j) (.int (Builtin.bitOr i j)):=⟨_,qy,gj λ_ _=>.int⟩
theorem aQ.ok' {i j:Int} (h:aQ i j):IntMulOk i j:=by
 have b:∀ {k:Int} {n:Nat},k.natAbs.log2 < n->Builtin.Int.intBits k<=n:=λ{k n} q=>by
   unfold Builtin.Int.intBits
   split
   · exact Nat.zero_le _
   · exact q
 rcases h with h | h | ⟨h1,h2⟩
 · exact .of_left (b h)
 · exact .of_right (b h)
 · exact .of_bits (Nat.le_trans (b h1) (by decide)) (Nat.le_trans (b h2) (by decide))
theorem bO (h:aQ i j):bu X (binaryOp .Mult) (.int i) (.int j) (.int (i * j)):=⟨rI aQ λi j=>.int (i * j),opI λ_ _ _ _ _ _ _ hc q=>mul_int q (aQ.ok' hc),jl h λ_ _=>.int⟩
theorem hX (h:bw j):bu X (binaryOp .FloorDiv) (.int i) (.int j) (.int (i.fdiv j)):=⟨rI (λ_ j=>bw j) λi j=>.int (i.fdiv j),opI λ_ _ _ _ _ _ _ hc q=>floordiv_int hc.1 q (.inl (PyProof.noPylong_of_log2 hc.2)),jl h λ_ _=>.int⟩
theorem eV (h:j ≠ 0):bu X (binaryOp .Mod) (.int i) (.int j) (.int (i.fmod j)):=⟨_,kF,jl h λ_ _=>.int⟩
theorem qJ (h:mR i j):bu X (binaryOp .Pow) (.int i) (.int j) (.int (i ^ j.toNat)):=⟨_,oO,jl h λ_ _=>.int⟩
theorem qc (h:mR i j):bu X (binaryOp .LShift) (.int i) (.int j) (.int (i * 2 ^ j.toNat)):=⟨_,pJ,jl h λ_ _=>.int⟩
theorem mw:bu X (compareOp .Lt) (.int i) (.int j) (.bl (decide (i < j))):=⟨_,qp,gj λ_ _=>.bl⟩
theorem jO:bu X (compareOp .LtE) (.int i) (.int j) (.bl (decide (i<=j))):=⟨_,p9,gj λ_ _=>.bl⟩
theorem l6:bu X (compareOp .Gt) (.int i) (.int j) (.bl (decide (j < i))):=⟨_,q0,gj λ_ _=>.bl⟩
theorem rg:bu X (compareOp .GtE) (.int i) (.int j) (.bl (decide (j<=i))):=⟨_,qQ,gj λ_ _=>.bl⟩
theorem jz:bu X (compareOp .Eq) (.int i) (.int j) (.bl (decide (i=j))):=⟨_,pW,λ_ v w H Q _ d1 d2 k=>by
 cases d1
 cases d2
 exact ⟨rfl,by rw [show decide (V.int i=V.int j)=decide (i=j) by simp]; exact k _ H (af.refl _) .bl⟩⟩
theorem oD:bu X (compareOp .NotEq) (.int i) (.int j) (.bl (!decide (i=j))):=⟨_,qh,λ_ v w H Q _ d1 d2 k=>by
 cases d1
 cases d2
 exact ⟨rfl,by rw [show decide (V.int i=V.int j)=decide (i=j) by simp]; exact k _ H (af.refl _) .bl⟩⟩
theorem p8 (h:PE X a (dE X.K C τ (.d (.int i)))):PE X (.UnaryOp .USub a pos) (dE X.K C τ (.d (.int (-i)))):=peW (qM pB h) λσ H Q q=>by
 obtain ⟨A,H₀,B,S,k⟩:=dJ q
 refine aP S λv H1 e1 d1=>?_
 cases d1
 exact ⟨i,rfl,k _ H1 e1 .int⟩
theorem kL {e:Expr}:PE X e λ_ _ _=>False:=λ_ _ _ _ _ _ h=>h.elim
theorem pw_no {e:Expr}:PW X e λ_ _ _=>False:=λ_ _ _ _ _ _ _ h=>h.elim
variable {p q:Bool} {c:Expr} {rest:List Expr}
theorem bQ {op} {s:Sl} (h:PE X a (dE X.K C τ s)):PE X (.BoolOp op [a] pos) (dE X.K C τ s):=pP h
theorem dq (ha:PE X a (dE X.K C τ (.d (.bl p)))) (hb:p=true->PE X (.BoolOp .And (b :: rest) pos) (dE X.K C τ (.d (.bl q)))):PE X (.BoolOp .And (a :: b :: rest) pos) (dE X.K C τ (.d (.bl (p && q)))):=by
 cases p with
 | false=>
   refine peW (lB ha kL) λσ H Q z=>?_
   obtain ⟨A,H₀,B,S,k⟩:=dJ z
   exact aP S λv H' e d=>by cases d; exact ⟨_,rfl,k _ H' e .bl⟩
 | true=>
   refine peW (lB ha (hb rfl)) λσ H Q z=>?_
   obtain ⟨A,H₀,B,S,k⟩:=dJ z
   exact aP S λv H' e d=>by cases d; exact ⟨_,rfl,aP (S.mono e) λv H2 e2 d2=>k v H2 (e.trans e2) d2⟩
theorem nP (ha:PE X a (dE X.K C τ (.d (.bl p)))) (hb:p=false->PE X (.BoolOp .Or (b :: rest) pos) (dE X.K C τ (.d (.bl q)))):PE X (.BoolOp .Or (a :: b :: rest) pos) (dE X.K C τ (.d (.bl (p || q)))):=by
 cases p with
 | true=>
   refine peW (ot ha kL) λσ H Q z=>?_
   obtain ⟨A,H₀,B,S,k⟩:=dJ z
   exact aP S λv H' e d=>by cases d; exact ⟨_,rfl,k _ H' e .bl⟩
 | false=>
   refine peW (ot ha (hb rfl)) λσ H Q z=>?_
   obtain ⟨A,H₀,B,S,k⟩:=dJ z
   exact aP S λv H' e d=>by cases d; exact ⟨_,rfl,aP (S.mono e) λv H2 e2 d2=>k v H2 (e.trans e2) d2⟩
theorem nY (ha:PE X a (dE X.K C τ (.d (.bl p)))):PE X (.UnaryOp .Not a pos) (dE X.K C τ (.d (.bl (!p)))):=peW (pH ha) λσ H Q z=>by
 obtain ⟨A,H₀,B,S,k⟩:=dJ z
 exact aP S λv H' e d=>by cases d; exact ⟨_,rfl,k _ H' e .bl⟩
theorem jv (ha:PT X a (dT X.K τ p)):PW X (.BoolOp .And [a] pos) (dT X.K τ p):=pw_and1 ha
theorem gS (ha:PT X a (dT X.K τ p)):PW X (.BoolOp .Or [a] pos) (dT X.K τ p):=pw_or1 ha
theorem ko (ha:PT X a (dT X.K τ p)) (hb:p=true->PW X (.BoolOp .And (b :: rest) pos) (dT X.K τ q)):PW X (.BoolOp .And (a :: b :: rest) pos) (dT X.K τ (p && q)):=by
 cases p with
 | false=>exact pwW (pw_and ha pw_no) λσ H Q ⟨A,H₀,B,S,k⟩=>⟨A,H₀,B,S,λH' e=>gB (k H' e)⟩
 | true=>exact pwW (pw_and ha (hb rfl)) λσ H Q ⟨A,H₀,B,S,k⟩=>⟨A,H₀,B,S,λH' e=>iu (⟨A,H₀,B,S.mono e,λH2 e2=>k H2 (e.trans e2)⟩)⟩
theorem jG (ha:PT X a (dT X.K τ p)) (hb:p=false->PW X (.BoolOp .Or (b :: rest) pos) (dT X.K τ q)):PW X (.BoolOp .Or (a :: b :: rest) pos) (dT X.K τ (p || q)):=by
 cases p with
 | true=>exact pwW (pw_or ha pw_no) λσ H Q ⟨A,H₀,B,S,k⟩=>⟨A,H₀,B,S,λH' e=>iu (k H' e)⟩
 | false=>exact pwW (pw_or ha (hb rfl)) λσ H Q ⟨A,H₀,B,S,k⟩=>⟨A,H₀,B,S,λH' e=>gB (⟨A,H₀,B,S.mono e,λH2 e2=>k H2 (e.trans e2)⟩)⟩
theorem bD (ha:PT X a (dT X.K τ p)):PT X (.UnaryOp .Not a pos) (dT X.K τ (!p)):=ptW (mE ha) λσ H Q ⟨A,H₀,B,S,k⟩=>⟨A,H₀,B,S,λH' e=>k H' e⟩
theorem qT {s:Sl} (hc:PT X c (dT X.K τ p)) (ha:p=true->PE X a (dE X.K C τ s)) (hb:p=false->PE X b (dE X.K C τ s)):PE X (.IfExp c a b pos) (dE X.K C τ s):=by
 have fin:∀ {σ H H' Q} {A:Addr->Prop} {H₀ B},Sta X.K A H₀ τ B σ H->(∀ v H' bs,af H H'->Fr H H' bs->a8 X.K (hd H' λb=>vw C A B b\/b ∈ bs) H' (some v) bs s->Q v H')->af H H'->dE X.K C τ s σ H' Q:=λS k e=>
   ⟨_,_,_,S.mono e,λv H2 bs e2 hf h=>k v H2 bs (e.trans e2) (λb hb=>⟨e.free (hf b hb).1,(hf b hb).2⟩) h⟩
 cases p with
 | true=>exact peW (i8 hc (ha rfl) kL) λσ H Q ⟨A,H₀,B,S,k⟩=>⟨A,H₀,B,S,λH' e=>iu (fin S k e)⟩
 | false=>exact peW (i8 hc kL (hb rfl)) λσ H Q ⟨A,H₀,B,S,k⟩=>⟨A,H₀,B,S,λH' e=>gB (fin S k e)⟩
theorem ft {op op':CmpOp} (ha:PE X a (dE X.K C τ (.d x))) (hb:PE X b (dE X.K C τ (.d y))) (hc:PE X c (dE X.K C τ (.d z))) (h1:bu X (compareOp op) x y (.bl p)) (h2:bu X (compareOp op') y z (.bl q))
   (hm:lastMarks [op,op'] [b,c]=false:=by with_unfolding_all rfl):PE X (.Compare a [op,op'] [b,c] pos) (dE X.K C τ (.d (.bl (p && q))))/\(C=false->PT X (.Compare a [op,op'] [b,c] pos) (dT X.K τ (p && q))):=by
 obtain ⟨r,o1,k1⟩:=h1
 obtain ⟨r',o2,k2⟩:=h2
 have key:∀ σ H Q,dE X.K C τ (.d (.bl (p && q))) σ H Q->jt r r' (dE X.K C τ (.d x)) (dE X.K C τ (.d y)) (dE X.K C τ (.d z)) σ H Q:=λσ H Q h=>by
   obtain ⟨A,H₀,B,S,k⟩:=dJ h
   refine aP S λv H1 e1 d1=>aP (S.mono e1) λw H2 e2 d2=>k1 (vw C A B) v w H2 _ ((S.mono e1).mono e2).vd (d1.mono (aq e2 λ_ z=>z)) d2 λu H3 e3 d3=>?_
   cases d3
   refine ⟨p,rfl,?_⟩
   cases p with
   | false=>exact gB (k _ H3 (e1.trans (e2.trans e3)) .bl)
   | true=>exact iu (aP (((S.mono e1).mono e2).mono e3) λw' H4 e4 d4=>k2 (vw C A B) w w' H4 Q ((((S.mono e1).mono e2).mono e3).mono e4).vd (d2.mono (aq (e3.trans e4) λ_ z=>z)) d4 λu H5 e5 d5=>k u H5 (e1.trans (e2.trans (e3.trans (e4.trans e5)))) d5)
 exact ⟨peW (mz o1 o2 ha hb hc hm) key,λhC=>by subst hC; exact ptW (lD o1 o2 ha hb hc hm) (ma key)⟩
theorem ag:PA X [] (dA X.K C τ []):=paW bj λσ H Q ⟨A,H₀,B,S,k⟩=>k [] H (af.refl _) .nil
theorem ae {ds:List D} (ha:PE X e (dE X.K C τ (.d x))) (hr:PA X es (dA X.K C τ ds)) (hs:starEach (e :: es) X.env=(false,eval e X.env) :: starEach es X.env:=by rfl):PA X (e :: es) (dA X.K C τ (x :: ds)):=paW (aw ha hr hs) λσ H Q ⟨A,H₀,B,S,k⟩=>
 aP S λv H1 e1 d1=>cH (S.mono e1) λvs H2 e2 d2=>k _ H2 (e1.trans e2) (.cons (d1.mono (aq e2 λ_ z=>z)) d2)
theorem kM {ds:List D} {m} (h:PA X es (dA X.K C τ ds)) (hl:Nat.ble ds.length 1000=true:=by rfl):PE X (.Tuple es m pos) (dE X.K C τ (.d (.tup ds))):=peW (hW h) λσ H Q q=>by
 obtain ⟨A,H₀,B,S,k⟩:=dJ q
 refine cH S λvs H1 e1 d1=>⟨by rw [d1.length]; exact Nat.le_of_lt (gH (Nat.le_of_ble_eq_true hl)),λp hp=>k _ _ (e1.trans (ao hp _)) ?_⟩
 exact .tup (SqT.of (iD (S.mono e1).vd hp)) (d1.mono (aq (ao hp _) λ_ z=>z))
theorem bA {ds:List D} (h:PA X es (dA X.K C τ ds)) (hl:Nat.ble ds.length 1000=true:=by rfl):PE X (.List es pos) (dE X.K C τ (.o ds)):=peW (pe h) λσ H Q ⟨A,H₀,B,S,k⟩=>
 cH S λvs H1 e1 d1=>⟨by rw [d1.length]; exact Nat.le_of_lt (gH (Nat.le_of_ble_eq_true hl)),λp hp=>k _ _ [p] (e1.trans (ao hp _)) (λb hb=>by
   obtain rfl:=List.mem_singleton.mp hb
   exact ⟨e1.free hp,_,aB⟩) ⟨p,vs,rfl,rfl,aB,d1.mono λb o z=>by
     obtain ⟨z1,z2⟩:=aj.mp z
     refine aj.mpr ⟨λy=>?_,ao hp _ _ _ z2⟩
     rcases y with y | y
     · exact z1 y
     · rw [List.mem_singleton.mp y] at z2; rw [hp] at z2; cases z2⟩⟩
end
end Hy
namespace Hy
open PySem PySem.Spec PyProof.Rows L2
open Ev (D Den ax aQ bw ao aF aC)
noncomputable def spD (K:PySem.W.Frag) (Φ:List D->Sl->Prop):Sp:=λvs H Q _=>∃ A ds s,(∀ b,A b->∃ o,H b=some o)/\ax K (hd H A) vs ds/\Φ ds s /\
 ∀ v H' bs,af H H'->Fr H H' bs->a8 K (hd H' λb=>A b\/b ∈ bs) H' (some v) bs s->Q v H'
noncomputable def Cal (P:Program) (w:World) (K:PySem.W.Frag) (mg:Str->Option Value) (base:Heap) (k:Nat) (n:Str) (Φ:List D->Sl->Prop):Prop:=
 ∃ f fd ps,aL P w K mg base CX0 k f fd ps (spD K Φ)/\mg n=some (.ref f)/\PySem.W.keepIn K (.ref f)=true/\Binds K fd ps []
theorem Cal.mono {P:Program} {w:World} {K:PySem.W.Frag} {mg:Str->Option Value} {base:Heap} {j k:Nat} {n:Str} {Φ:List D->Sl->Prop} (c:Cal P w K mg base j n Φ) (h:j<=k):Cal P w K mg base k n Φ:=
 let ⟨f,fd,ps,F,r⟩:=c; ⟨f,fd,ps,F.mono h,r⟩
noncomputable def ar:List Str:=["len","abs","max","min","int","bool","list","tuple","str","isinstance","range","enumerate","all","zip","sorted","sum","any","reversed"]
structure Bk (X:Cx) (k:Nat):Prop where
 room:cB k X.A
 calm:X.calm=true
 blt:∀ x ∈ ar,X.mg x=none
 po:PassesOwn (model X.prog X.w) X.A X.env X.xe
section
variable {X:Cx} {C:Bool} {τ:List Sl} {x y z:D} {a b e:Expr} {es:List Expr} {pos p:Pos} {k:Nat} {s:Sl} {ds:List D} {i j:Int}
theorem x_call {n:Str} {Φ:List D->Sl->Prop} (B:Bk X k) (c:Cal X.prog X.w X.K X.mg X.base k n Φ) (ha:PA X (e :: es) (dA X.K C τ ds)) (h:Φ ds s) (hg:Gl X n:=by rfl) (hdb:(n == ("__debug__" : Str))=false:=by decide)
   (he:starEach (e :: es) X.env=(false,eval e X.env) :: starEach es X.env:=by rfl) (hpl:(backTo pos (starEach es X.env)).any (·.1)=false:=by rfl):PE X (.Call (.Name n p) (e :: es) [] pos) (dE X.K C τ s):=by
 obtain ⟨f,fd,ps,F,hm,hk,hb⟩:=c
 refine peW (bE F B.room hg hm hk hb .nil dR ha hdb he hpl) λσ H Q ⟨A,H₀,B,S,q⟩=>cH S λvs H1 e1 d1=>?_
 rw [List.append_nil]
 exact ⟨vw C A B,ds,s,(S.mono e1).vd,d1,h,λv H' bs e2 hf h2=>q v H' bs (e1.trans e2) (λb hb=>⟨e1.free (hf b hb).1,(hf b hb).2⟩) h2⟩
noncomputable def jj (X:Cx) (f:Value) (ds:List D) (s:Sl):Prop:=∃ r:List V->Hp->VK->Prop,df X f r /\
 ∀ (M:Addr->Prop) (vs:List V) (H:Hp) (Q:VK),(∀ b,M b->∃ o,H b=some o)->ax X.K (hd H M) vs ds->(∀ u H' bs,af H H'->Fr H H' bs->a8 X.K (hd H' λb=>M b\/b ∈ bs) H' (some u) bs s->Q u H')->r vs H Q
theorem mr {r:List V->Hp->VK->Prop} (hr:∀ (M:Addr->Prop) (vs:List V) (H:Hp) (Q:VK),(∀ b,M b->∃ o,H b=some o)->ax X.K (hd H M) vs ds->(∀ u H' bs,af H H'->Fr H H' bs->a8 X.K (hd H' λb=>M b\/b ∈ bs) H' (some u) bs s->Q u H')->r vs H Q) :
   ∀ σ H Q,dE X.K C τ s σ H Q->tCB r (dA X.K C τ ds) σ H Q:=λσ H Q ⟨A,H₀,B,S,q⟩=>
 cH S λvs H1 e1 d1=>hr (vw C A B) vs H1 Q (S.mono e1).vd d1 λv H' bs e2 hf h2=>q v H' bs (e1.trans e2) (λb hb=>⟨e1.free (hf b hb).1,(hf b hb).2⟩) h2
theorem bg {n:Str} {id:String} (B:Bk X k) (ha:PA X (e :: es) (dA X.K C τ ds)) (c:jj X (.builtin id) ds s) (hn:n ∈ ar:=by decide) (hg:Gl X n:=by rfl) (hv:bootBuiltins n=some (.builtin id):=by decide +kernel) (h1:n ≠ "__name__":=by decide) (hdb:(n == ("__debug__" : Str))=false:=by decide)
   (he:starEach (e :: es) X.env=(false,eval e X.env) :: starEach es X.env:=by rfl) (hpl:(backTo pos (starEach es X.env)).any (·.1)=false:=by rfl):PE X (.Call (.Name n p) (e :: es) [] pos) (dE X.K C τ s):=by
 obtain ⟨r,h1,h2⟩:=c
 exact peW (iV h1 hg (B.blt _ hn) hv ha (by assumption) hdb he hpl) (mr h2)
theorem qE {n:Str} {T:String} (B:Bk X k) (ha:PA X (e :: es) (dA X.K C τ ds)) (c:jj X (.type T) ds s) (hn:n ∈ ar:=by decide) (hg:Gl X n:=by rfl) (hv:bootBuiltins n=some (.type T):=by decide +kernel) (h1:n ≠ "__name__":=by decide) (hdb:(n == ("__debug__" : Str))=false:=by decide)
   (he:starEach (e :: es) X.env=(false,eval e X.env) :: starEach es X.env:=by rfl) (hpl:(backTo pos (starEach es X.env)).any (·.1)=false:=by rfl):PE X (.Call (.Name n p) (e :: es) [] pos) (dE X.K C τ s):=by
 obtain ⟨r,h1,h2⟩:=c
 exact peW (k8 h1 hg (B.blt _ hn) hv ha (by assumption) hdb he hpl) (mr h2)
theorem gu {K:PySem.W.Frag} {H:Hp} {M:Addr->Prop} {v:V} (h:Den K (hd H M) v x):a8 K (hd H λb=>M b\/b ∈ ([]:List Addr)) H (some v) [] (.d x):=⟨rfl,v,rfl,h.mono (aq (af.refl _) λ_ z=>z.elim id λz=>nomatch z)⟩
theorem eH {H H':Hp}:Fr H H' []:=λ_ z=>nomatch z
theorem bh {xs:List D}:jj X (.builtin "len") [.lst xs] (.d (.int xs.length)):=⟨_,ia,λM vs H Q _ d q=>by
 cases d with
 | cons d r=>
   cases r
   cases d with
   | lst h r=>
     refine ⟨_,_,rfl,.inl (aC aD h),?_⟩
     rw [r.length]
     exact q _ H [] (af.refl _) eH (gu .int)⟩
noncomputable def qL (i:Int):Int:=if i < 0 then -i else i
theorem qX:jj X (.builtin "abs") [.int i] (.d (.int (qL i))):=⟨_,l4,λM vs H Q _ d q=>by
 cases d with
 | cons d r=>
   cases r
   cases d
   exact ⟨_,rfl,q _ H [] (af.refl _) eH (gu .int)⟩⟩
theorem qo (hc:X.calm=true):jj X (.builtin "min") [.int i,.int j] (.d (.int (if j < i then j else i))):=⟨_,k7 hc,λM vs H Q _ d q=>by
 cases d with
 | cons d r=>
   cases r with
   | cons d' r=>
     cases r
     cases d
     cases d'
     exact ⟨_,_,rfl,q _ H [] (af.refl _) eH (gu .int)⟩⟩
theorem jM {K:PySem.W.Frag} {H:Hp} {M:Addr->Prop} {p:Addr} {vs:List V} {xs:List D} (hp:H p=none) (d:ax K (hd H M) vs xs) :
   af H (upd H p (.lst vs))/\Fr H (upd H p (.lst vs)) [p]/\a8 K (hd (upd H p (.lst vs)) λb=>M b\/b ∈ [p]) (upd H p (.lst vs)) (some (.ref p)) [p] (.o xs):=
 ⟨ao hp _,λb hb=>by
   obtain rfl:=List.mem_singleton.mp hb
   exact ⟨hp,_,aB⟩,p,vs,rfl,rfl,aB,d.mono λb o z=>by
     obtain ⟨z1,z2⟩:=aj.mp z
     refine aj.mpr ⟨λy=>?_,ao hp _ _ _ z2⟩
     rcases y with y | y
     · exact z1 y
     · rw [List.mem_singleton.mp y] at z2; rw [hp] at z2; cases z2⟩
theorem lZ {xs:List D}:jj X (.type "list") [.lst xs] (.o xs):=⟨_,iN,λM vs H Q _ d q=>by
 cases d with
 | cons d r=>
   cases r
   cases d with
   | lst h r=>
     refine ⟨_,_,rfl,.inl (aC aD h),λp hp=>?_⟩
     obtain ⟨z1,z2,z3⟩:=jM (K:=X.K) (M:=M) hp r
     exact q _ _ [p] z1 z2 z3⟩
theorem lS {K:PySem.W.Frag} {H:Hp} {vs:List V} {ds:List D} {i:Int} {d:D} (r:ax K H vs ds) (h:atI ds i=some d):∃ v,atI vs i=some v/\Den K H v d:=by
 unfold atI at h ⊢
 rw [r.length]
 cases e:ixN ds.length i with
 | none=>rw [e] at h; cases h
 | some j=>rw [e] at h; exact r.get h
noncomputable def pD (X:Cx) (x y z:D):Prop:=∃ r:R2,IxR X r /\
 ∀ (M:Addr->Prop) (v w:V) (H:Hp) (Q:VK),(∀ b,M b->∃ o,H b=some o)->Den X.K (hd H M) v x->Den X.K (hd H M) w y->(∀ u H',af H H'->Den X.K (hd H' M) u z->Q u H')->r v w H Q
theorem aU (ha:PE X a (dE X.K C τ (.d x))) (hb:PE X b (dE X.K C τ (.d y))) (ho:pD X x y z) (hs:ip b:=by exact λ_ _=>rfl):PE X (.Subscript a b pos) (dE X.K C τ (.d z)):=by
 obtain ⟨r,h1,h2⟩:=ho
 exact peW (dW h1 ha hb hs) (two h2)
theorem aS {xs:List D} (h:atI xs i=some z):pD X (.lst xs) (.int i) z:=⟨_,kG,λM v w H Q _ d1 d2 q=>by
 cases d2
 cases d1 with
 | lst hs r=>
   obtain ⟨v,e,d⟩:=lS r h
   exact ⟨_,_,_,_,rfl,rfl,aC aD hs,e,q _ H (af.refl _) d⟩⟩
theorem cO {xs:List D} (h:atI xs i=some z):pD X (.tup xs) (.int i) z:=⟨_,cP,λM v w H Q _ d1 d2 q=>by
 cases d2
 cases d1 with
 | tup hs r=>
   obtain ⟨v,e,d⟩:=lS r h
   exact ⟨_,_,_,_,rfl,rfl,aF aD hs,e,q _ H (af.refl _) d⟩⟩
noncomputable def dO (K:PySem.W.Frag) (τ:List Sl) (c:Option Int):TO:=λσ H Q=>∃ A H₀ B,Sta K A H₀ τ B σ H/\∀ H',af H H'->Q c H'
theorem qi {e:Option Expr} {t t':TO} (h:PO X e t) (f:∀ σ H Q,t' σ H Q->t σ H Q):PO X e t':=λpins s σ H Q I q=>h pins s σ H Q I (f σ H Q q)
theorem eF:PO X none (dO X.K τ none):=qi mO λσ H Q ⟨A,H₀,B,S,k⟩=>k H (af.refl _)
theorem cK (h:PE X e (dE X.K false τ (.d (.int i)))):PO X (some e) (dO X.K τ (some i)):=qi (nh h) λσ H Q ⟨A,H₀,B,S,k⟩=>aP S λv H1 e1 d1=>by
 cases d1
 exact ⟨_,rfl,k H1 e1⟩
noncomputable def cutD (xs:List D) (lo hi:Option Int):List D:=(xs.drop (HT.sIx xs.length 0 lo)).take (HT.sIx xs.length xs.length hi - HT.sIx xs.length 0 lo)
theorem jR {lo hi:Option Expr} {l u:Option Int} {xs:List D} {p2:Pos} (ha:PE X a (dE X.K C τ (.d (.lst xs)))) (hl:PO X lo (dO X.K τ l)) (hu:PO X hi (dO X.K τ u)):PE X (.Subscript a (.Slice lo hi none p2) pos) (dE X.K C τ (.o (cutD xs l u))):=
 peW (lH m9 ha hl hu) λσ H Q ⟨A,H₀,B,S,k⟩=>aP S λv H1 e1 d1=>⟨A,H₀,B,S.mono e1,λH2 e2=>⟨A,H₀,B,(S.mono e1).mono e2,λH3 e3=>by
   cases d1 with
   | @lst _ ws _ h r=>
     have h:=aC (e2.trans e3) (aC aD h)
     refine ⟨_,_,rfl,h,λp hp=>?_⟩
     have r:=r.mono (aq (e2.trans e3) λ_ z=>z)
     have r':ax X.K (hd H3 (vw C A B)) (kU ws l u) (cutD xs l u):=by
       unfold kU cutD
       rw [r.length]
       exact (r.drop _).take _
     obtain ⟨z1,z2,z3⟩:=jM (K:=X.K) hp r'
     exact k _ _ [p] (e1.trans (e2.trans (e3.trans z1))) (λb hb=>⟨(e1.trans (e2.trans e3)).free (z2 b hb).1,(z2 b hb).2⟩) z3⟩⟩
inductive Ty where
 | int | bool | str | list | tuple
noncomputable def tyN:Ty->String
 | .int=>"int" | .bool=>"bool" | .str=>"str" | .list=>"list" | .tuple=>"tuple"
noncomputable def qg:D->String
 | .non=>"NoneType" | .bl _=>"bool" | .int _=>"int" | .str _=>"str" | .tup _=>"tuple" | .lst _=>"list"
noncomputable def ji:Ty->D->Bool
 | .int,.int _=>true
 | .int,.bl _=>true
 | .bool,.bl _=>true
 | .str,.str _=>true
 | .list,.lst _=>true
 | .tuple,.tup _=>true
 | _,_=>false
theorem pA (K:PySem.W.Frag) (d:D) (t:Ty):PySem.W.kitOne K (.type (qg d)) (.type (tyN t))=some (ji t d):=by
 cases d <;> cases t <;> (show PySem.W.kitOne K (.type _) (.type _)=some _) <;> with_unfolding_all rfl
theorem oB (t:Ty):df X (.builtin "isinstance") (λxs H Q=>∃ G x d,af G H/\xs=[x,.ty (tyN t)]/\Den X.K G x d/\Q (.bl (ji t d)) H):=by
 intro pins s σ H xs us Q I r q
 obtain ⟨G,x,d,sg,rfl,dx,q⟩:=q
 obtain ⟨u,w,rfl,rx,rt⟩:∃ u w,us=[u,w]/\RelV x u/\RelV (.ty (tyN t)) w:=by
   cases r with
   | cons r1 r=>cases r with
     | cons r2 r=>cases r; exact ⟨_,_,rfl,r1,r2⟩
 cases (show w=Value.type (tyN t) from rt)
 have kt:=pA X.K d t
 have fin:∀ tk,EP X pins σ Q (.bool (ji t d)) { s with toks:=tk }:=λtk=>⟨.bl _,H,I.tok _,rfl,q⟩
 cases dx with
 | non=>cases (show u=Value.none from rx); exact PySem.W.kia_one PySem.W.kitx_none I.kIn True.intro kt (λz=>nomatch z) fin
 | bl=>cases (show u=Value.bool _ from rx); exact PySem.W.kia_one PySem.W.kitx_bool I.kIn True.intro kt (λz=>nomatch z) fin
 | int=>obtain ⟨t',z⟩:=(show ∃ t,u=Value.int _ t from rx); cases z; exact PySem.W.kia_one PySem.W.kitx_int I.kIn True.intro kt (λz=>nomatch z) fin
 | str=>obtain ⟨t',z⟩:=(show ∃ t,u=Value.str _ t from rx); cases z; exact PySem.W.kia_one PySem.W.kitx_str I.kIn True.intro kt (λz=>nomatch z) fin
 | tup h r1=>
   cases (show u=Value.ref _ from rx)
   obtain ⟨its,_,⟨o,h1,h2,_⟩,_⟩:=I.tuple (aF sg h)
   exact PySem.W.kia_one PySem.W.kitx_tuple I.kIn ⟨o,h1,h2⟩ kt (λz=>nomatch z) fin
 | lst h r1=>
   cases (show u=Value.ref _ from rx)
   obtain ⟨its,_,⟨o,n,h1,h2,_⟩,_⟩:=I.list (aC sg h)
   exact PySem.W.kia_one PySem.W.kitx_list I.kIn ⟨o,h1,h2⟩ kt (λz=>nomatch z) fin
theorem fE {n:Str} {q:Pos} (t:Ty) (B:Bk X k) (ha:PE X a (dE X.K false τ (.d x))) (hn:n ∈ ar:=by decide) (ht:bootBuiltins n=some (.type (tyN t)):=by decide +kernel) (hg:Gl X "isinstance":=by rfl) (hg':Gl X n:=by rfl) (h1:n ≠ "__name__":=by decide) (hdb:(n == ("__debug__" : Str))=false:=by decide)
   (he:starEach [a,.Name n q] X.env=(false,eval a X.env) :: starEach [.Name n q] X.env:=by rfl) (hpl:(backTo pos (starEach [.Name n q] X.env)).any (·.1)=false:=by rfl):PE X (.Call (.Name "isinstance" p) [a,.Name n q] [] pos) (dE X.K C τ (.d (.bl (ji t x)))):=by
 refine peW (iV (oB t) hg (B.blt _ (by decide)) (by decide +kernel) (aw ha (aw (nH (v:=.ty (tyN t)) hg' (B.blt _ hn) ht rfl h1 hdb) bj) he) (by decide) (by decide) he hpl) λσ H Q q=>?_
 obtain ⟨A,H₀,B,S,k⟩:=dJ q
 exact aP S λv H1 e1 d1=>⟨_,v,x,aD,rfl,d1,k _ H1 e1 .bl⟩
end
end Hy
namespace Hy
open PySem PySem.Spec PyProof.Rows L2
open Ev (D Den ax aQ bw ao aF aC)
section
variable {K:PySem.W.Frag} {A:Addr->Prop} {H₀ H H':Hp} {τ:List Sl} {B:Nat->List Addr} {σ:L2.St}
theorem Sta.put (S:Sta K A H₀ τ B σ H) {i:Nat} {a:Addr} {xs ys:List D} {vs:List V} (hi:τ[i]?=some (.o xs)) (hB:B i=[a]) (d:ax K (hd H (own A B)) vs ys):Sta K A H₀ (τ.set i (.o ys)) B σ (upd H a (.lst vs)):=by
 have ha:own A B a:=.inr ⟨i,by rw [hB]; exact List.mem_singleton.mpr rfl⟩
 have ne:∀ b,b ≠ a->upd H a (.lst vs) b=H b:=λb h=>ak h
 have sm:af (hd H (own A B)) (hd (upd H a (.lst vs)) (own A B)):=λb o z=>by
   obtain ⟨z1,z2⟩:=aj.mp z
   exact aj.mpr ⟨z1,by rw [ne b (λe=>z1 (e ▸ ha))]; exact z2⟩
 have f0:H₀ a=none:=S.fr i a (by rw [hB]; exact List.mem_singleton.mpr rfl)
 have hs:af H₀ (upd H a (.lst vs)):=λb o z=>by rw [ne b (λe=>by rw [e,f0] at z; cases z)]; exact S.same b o z
 refine ⟨hs,by rw [List.length_set,S.len],λj t hj=>?_,S.fr,S.uq,S.ad,λj b hb=>?_⟩
 · by_cases ej:j=i
   · subst ej
     have hl:=(List.getElem?_eq_some_iff.mp hi).1
     rw [List.getElem?_set_self hl] at hj
     cases hj
     obtain ⟨a',vs',e1,e2,_,_⟩:=S.sl j _ hi
     rw [hB] at e1
     cases e1
     exact ⟨a,vs,hB,e2,aB,d.mono sm⟩
   · rw [List.getElem?_set_ne (λz=>ej z.symm)] at hj
     have q:=S.sl j t hj
     have off:∀ b ∈ B j,b ≠ a:=λb hb e=>ej (S.uq j i a (e ▸ hb) (by rw [hB]; exact List.mem_singleton.mpr rfl))
     cases t with
     | un=>exact q
     | d x=>obtain ⟨z,u,e,d⟩:=q; exact ⟨z,u,e,d.mono sm⟩
     | o zs=>
       obtain ⟨c,ws,z1,z2,z3,z4⟩:=q
       exact ⟨c,ws,z1,z2,by rw [ne c (off c (by rw [z1]; exact List.mem_singleton.mpr rfl))]; exact z3,z4.mono sm⟩
     | n t=>
       obtain ⟨z0,u,z1,z2⟩:=q
       exact ⟨z0,u,z1,z2.frame sm λb hb=>ne b (off b hb)⟩
     | x E=>
       obtain ⟨c,o,z1,z2,z3,z4⟩:=q
       exact ⟨c,o,z1,z2,by rw [ne c (off c (by rw [z1]; exact List.mem_singleton.mpr rfl))]; exact z3,E.mono sm z4⟩
 · by_cases e:b=a
   · subst e; exact ⟨_,aB⟩
   · rw [ne b e]; exact S.bd j b hb
theorem Sta.fz (S:Sta K A H₀ τ B σ H) {i:Nat} {s:Sl} {x:D} (hi:τ[i]?=some s) (hx:fzD s=some x):Sta K A H₀ (τ.set i (.d x)) (upB B i []) σ H:=
 S.less (λ_ z=>nomatch z) λG g hv=>by
   obtain ⟨u,e,d⟩:=(S.sl i s hi).den (G':=G) g (λb hb o ho=>hv b o hb (λz=>nomatch z) ho) hx
   exact ⟨rfl,u,e,d⟩
theorem Sta.un (S:Sta K A H₀ τ B σ H) (i:Nat):Sta K A H₀ (τ.set i .un) (upB B i []) σ H:=S.less (λ_ z=>nomatch z) λG g hv=>rfl
end
section
variable {X:Cx} {C:Bool} {τ:List Sl} {x y z:D} {a b e c:Expr} {es:List Expr} {pos p:Pos} {k:Nat} {s:Sl} {ds:List D} {N:Po} {st:Stmt} {rest body els:List Stmt}
theorem aR (h:N.nx τ):PSs X [] (dS X.K τ N):=kP cU λD σ H ⟨A,H₀,B,S,M⟩=>M.nx τ B σ H h S
theorem bf {M:List Sl->Prop} (h1:PS X st (dS X.K τ { N with nx:=M })) (h2:∀ τ',M τ'->PSs X rest (dS X.K τ' N)):PSs X (st :: rest) (dS X.K τ N):=by
 have h:PSs X rest λD σ H=>∃ τ',M τ'/\dS X.K τ' N D σ H:=λpins s σ H D I ⟨τ',m,q⟩=>h2 τ' m pins s σ H D I q
 exact kP (bG h1 h) λD σ H ⟨A,H₀,B,S,Me⟩=>⟨A,H₀,B,S,λτ' B' σ' H' m S'=>⟨τ',m,A,H₀,B',S',Me⟩,Me.bk,Me.ct,Me.rt⟩
theorem qr (i:Nat) {s:Sl} {x:D} (h:PSs X rest (dS X.K (τ.set i (.d x)) N)) (hi:τ[i]?=some s:=by rfl) (hx:fzD s=some x:=by rfl):PSs X rest (dS X.K τ N):=kP h λD σ H ⟨A,H₀,B,S,Me⟩=>⟨A,H₀,_,S.fz hi hx,Me⟩
theorem aE (i:Nat) {n:Str} {p:Pos} (hN:X.N.Nodup) (he:PE X e (dE X.K true τ s)) (hr:PSs X rest (dS X.K (τ.set i s) N)) (hi:X.N[i]?=some n:=by rfl) (hx:Loc X.env.scope n:=by first | exact .inl rfl | exact .inr rfl) (hs:swapsWith e (some (.Name n p)) pos.line X.env=pure false:=by rfl)
   (hf:X.fn n=true\/X.env.scope.names.lookup n=some .local:=by first | exact .inl rfl | exact .inr rfl | assumption):PSs X (.Assign [.Name n p] e pos :: rest) (dS X.K τ N):=
 bf (M:=(·=τ.set i s)) (psW (iO hN hi hx he hs hf) λD σ H ⟨A,H₀,B,S,Me⟩=>⟨A,H₀,B,S,λv H' bs e hf h=>Me.nx _ _ _ _ rfl (S.set e hf h)⟩) λ_ e=>e ▸ hr
theorem mB (he:PE X e (dE X.K true τ s)) (hr:PSs X rest (dS X.K τ N)) (hs:swapsWith e none pos.line X.env=pure false:=by rfl):PSs X (.Expr e pos :: rest) (dS X.K τ N):=
 bf (M:=(·=τ)) (psW (ig he hs) λD σ H ⟨A,H₀,B,S,Me⟩=>⟨A,H₀,B,S,λv H' bs e hf h=>Me.nx _ _ _ _ rfl (S.mono e)⟩) λ_ e=>e ▸ hr
theorem aW (he:PE X e (dE X.K false τ s)) (h:N.rt s):PSs X (.Return (some e) pos :: rest) (dS X.K τ N):=
 bf (M:=λ_=>False) (psW (cG he) λD σ H ⟨A,H₀,B,S,Me⟩=>⟨A,H₀,B,S,λv H' bs e hf q=>Me.rt v H' bs s h (S.same.trans e) (λb hb=>⟨S.same.free (hf b hb).1,(hf b hb).2⟩) q⟩) λ_ e=>e.elim
theorem jL (i:Nat) {n:Str} (h:N.rt s) (hi:τ[i]?=some s:=by rfl) (h0:s ≠ .un:=by exact nofun) (hN:X.N[i]?=some n:=by rfl) (hv:Vis X.env.scope n:=by first | exact Or.inl rfl | exact Or.inr (Or.inl rfl) | exact Or.inr (Or.inr rfl))
   (hd:(n == ("__debug__" : Str))=false:=by decide) (hcd:(n == ("__classdict__" : Str))=false:=by decide):PSs X (.Return (some (.Name n p)) pos :: rest) (dS X.K τ N):=
 bf (M:=λ_=>False) (psW (cG (cE hN hv hd hcd)) λD σ H ⟨A,H₀,B,S,Me⟩=>by
   have q:=S.sl i s hi
   obtain ⟨u,e⟩:∃ u,(σ[i]?).join=some u:=by
     cases s with
     | un=>exact absurd rfl h0
     | d x=>obtain ⟨_,u,e,_⟩:=q; exact ⟨u,e⟩
     | o xs=>obtain ⟨_,_,_,e,_⟩:=q; exact ⟨_,e⟩
     | n t=>obtain ⟨_,u,e,_⟩:=q; exact ⟨u,e⟩
     | x E=>obtain ⟨_,_,_,e,_⟩:=q; exact ⟨_,e⟩
   rw [e] at q
   exact ⟨u,slot_of e,Me.rt u H (B i) s h S.same (λb hb=>⟨S.fr i b hb,S.bd i b hb⟩) (q.mono (aq (af.refl _) λb z=>z.elim .inl λz=>.inr ⟨i,z⟩) (af.refl _))⟩) λ_ e=>e.elim
theorem oh {H H':Hp} {σ:L2.St} {D:Ends} {A:Addr->Prop} {H₀:Hp} {B:Nat->List Addr} (S:Sta X.K A H₀ τ B σ H) (Me:Meets X.K A H₀ N D) (e:af H H'):dS X.K τ N D σ H':=⟨A,H₀,B,S.mono e,Me⟩
theorem rD {t:Bool} (hc:PT X c (dT X.K τ t)) (ha:t=true->PSs X body (dS X.K τ N)) (hb:t=false->PSs X els (dS X.K τ N)):PS X (.If c body els pos) (dS X.K τ N):=by
 cases t with
 | true=>exact psW (fZ hc (ha rfl) cS) λD σ H ⟨A,H₀,B,S,Me⟩=>⟨A,H₀,B,S,λH' e=>iu (oh S Me e)⟩
 | false=>exact psW (fZ hc cS (hb rfl)) λD σ H ⟨A,H₀,B,S,Me⟩=>⟨A,H₀,B,S,λH' e=>gB (oh S Me e)⟩
theorem lx {t:Bool} {M:List Sl->Prop} (hc:PT X c (dT X.K τ t)) (ha:t=true->PSs X body (dS X.K τ { N with nx:=M })) (hb:t=false->PSs X els (dS X.K τ { N with nx:=M })) (hr:∀ τ',M τ'->PSs X rest (dS X.K τ' N)):PSs X (.If c body els pos :: rest) (dS X.K τ N):=
 bf (rD hc ha hb) hr
theorem kK {t:Bool} (hc:PT X c (dT X.K τ t)) (ha:t=true->PSs X body (dS X.K τ { N with nx:=λ_=>False })) (hr:t=false->PSs X rest (dS X.K τ N)):PSs X (.If c body [] pos :: rest) (dS X.K τ N):=by
 cases t with
 | true=>exact lx (M:=λ_=>False) hc ha (λz=>nomatch z) λ_ z=>z.elim
 | false=>exact lx (M:=(·=τ)) hc (λz=>nomatch z) (λ_=>aR rfl) λ_ e=>e ▸ hr rfl
theorem bZ {t:Bool} (hc:PT X c (dT X.K τ t)) (ht:t=false) (hr:PSs X rest (dS X.K τ N)):PSs X (.If c body [] pos :: rest) (dS X.K τ N):=kK hc (λz=>by rw [ht] at z; cases z) λ_=>hr
theorem i5 (i:Nat) {n:Str} {xs:List D} {ap cp:Pos} (he:PE X e (dE X.K true τ (.d x))) (hl:xs.length < 1000000) (hr:PSs X rest (dS X.K (τ.set i (.o (xs++[x]))) N)) (hi:τ[i]?=some (.o xs):=by rfl) (hN:X.N[i]?=some n:=by rfl)
   (hv:Vis X.env.scope n:=by first | exact Or.inl rfl | exact Or.inr (Or.inl rfl) | exact Or.inr (Or.inr rfl)) (hd:(n == ("__debug__" : Str))=false:=by decide) (hcd:(n == ("__classdict__" : Str))=false:=by decide)
   (hfew:((backTo cp (starEach [e] X.env)).all (λx=>!x.1) && (backToKw cp (keywordEach [] X.env)).all (λx=>x.1.isSome) && decide (([e]:List Expr).length + ([]:List Keyword).length + (if ([]:List Keyword).isEmpty then 0 else 1) < 30))=true:=by rfl)
   (hline:(ap.endLine == cp.line)=true:=by rfl) (hst:starEach [e] X.env=(false,eval e X.env) :: starEach [] X.env:=by rfl) (hpl:(backTo cp (starEach [] X.env)).any (·.1)=false:=by rfl)
   (hs:swapsWith (.Call (.Attribute (.Name n p) "append" ap) [e] [] cp) none pos.line X.env=pure false:=by rfl) (hbase:attributeBase (.Name n p) "append" X.env (eval (.Name n p) X.env)=eval (.Name n p) X.env:=by rfl) :
   PSs X (.Expr (.Call (.Attribute (.Name n p) "append" ap) [e] [] cp) pos :: rest) (dS X.K τ N):=
 bf (M:=(·=τ.set i (.o (xs++[x])))) (psW (ig (n8 PySem.F.plainAttrs_list PySem.F.slot_list_append PySem.F.type_list_append cT (cE hN hv hd hcd) (aw he bj hst) hbase hfew hline hst hpl) hs) λD σ H ⟨A,H₀,B,S,Me⟩=>by
   obtain ⟨l,vs,hb,e1,e2,d⟩:=S.sl i _ hi
   refine ⟨_,slot_of e1,.inl ⟨rfl,_,SqL.of e2⟩,aP S λv H1 e3 d1=>⟨l,vs,v,rfl,rfl,e3 _ _ e2,by rw [d.length]; exact Nat.lt_trans hl (by decide),?_⟩⟩
   exact Me.nx _ _ _ _ rfl ((S.mono e3).put hi hb ((d.mono (aq e3 λ_ z=>z)).append (.cons d1 .nil)))) λ_ e=>e ▸ hr
end
end Hy
namespace Hy
open PySem PySem.Spec PyProof.Rows L2
open Ev (D Den ax ao aF aC Ite Itz Itv qY pK oH ky jF lC av cZ cu PTs cV dk)
noncomputable def Yl (K:PySem.W.Frag) (J:L2.It) (xs:List D) (G:Hp):Prop:=∀ H,af G H->(∀ i,xs.length<=i->J.stop i H)/\∀ (i:Nat) (h:i < xs.length),J.go i H /\
 ∀ x H',J.yld i H x H'->af H H'/\∀ M:Addr->Prop,(∀ b,M b->∃ o,H b=some o)->af G (hd H M)->Den K (hd H' M) x xs[i]
noncomputable def dI (K:PySem.W.Frag) (τ:List Sl) (xs:List D):TI:=λσ H R=>∃ A H₀ B,Sta K A H₀ τ B σ H/\∀ J H',af H H'->Yl K J xs (hd H' (own A B))->R J H'
noncomputable def dG (K:PySem.W.Frag) (τ:List Sl) (x:D) (τ':List Sl):TG:=λv σ H Q=>∃ A H₀ B,Sta K A H₀ τ B σ H/\Den K (hd H (own A B)) v x/\∀ σ' B',Sta K A H₀ τ' B' σ' H->Q σ' H
theorem piW {X:Cx} {tg e:Expr} {t t':TI} (h:PI X tg e t) (f:∀ σ H Q,t' σ H Q->t σ H Q):PI X tg e t':=λpins s σ H Q I q=>h pins s σ H Q I (f σ H Q q)
theorem pgW {X:Cx} {e:Expr} {t t':TG} (h:PG X e t) (f:∀ v σ H Q,t' v σ H Q->t v σ H Q):PG X e t':=λpins s σ H v u Q I r q=>h pins s σ H v u Q I r (f v σ H Q q)
section
variable {K:PySem.W.Frag} {G:Hp} {a:Addr} {vs:List V} {xs:List D}
theorem mZ (h:SqL K G a vs) (r:ax K G vs xs):Yl K (Itl K a) xs G:=by
 intro H sg
 have hl:=r.length
 refine ⟨λi hi=>⟨vs,aC sg h,by omega⟩,λi hi=>?_⟩
 obtain ⟨v,hv,dv⟩:=r.get (List.getElem?_eq_getElem hi)
 refine ⟨⟨vs,v,aC sg h,hv⟩,λx H' ⟨e1,e2⟩=>?_⟩
 subst e1
 have ex:x=v:=by have:=e2 vs (aC sg h); rw [hv] at this; exact (Option.some.inj this).symm
 subst ex
 exact ⟨af.refl _,λM _ sv=>dv.mono sv⟩
noncomputable def eB (lo:Int) (n:Nat):List D:=(List.range n).map λk=>D.int (lo + (k:Nat))
theorem au (lo:Int) (n:Nat):(eB lo n).length=n:=by simp [eB]
theorem hZ (lo:Int) (n i:Nat) (h:i < (eB lo n).length):(eB lo n)[i]=.int (lo + (i:Nat)):=by simp [eB]
theorem my (lo:Int) (n:Nat):Yl K (Itr lo n) (eB lo n) G:=by
 intro H sg
 refine ⟨λi hi=>by rw [au] at hi; exact hi,λi hi=>?_⟩
 have hi':i < n:=by rw [au] at hi; exact hi
 refine ⟨hi',λx H' ⟨e1,e2⟩=>?_⟩
 subst e1 e2
 refine ⟨af.refl _,λM _ sv=>?_⟩
 rw [hZ]
 exact .int
noncomputable def hE (xs:List D):List D:=(List.range xs.length).map λi=>D.tup [.int (i:Nat),xs.getD i .non]
theorem dZ (xs:List D):(hE xs).length=xs.length:=by simp [hE]
theorem j7 (xs:List D) (i:Nat) (h:i < (hE xs).length):(hE xs)[i]=.tup [.int (i:Nat),xs.getD i .non]:=by simp [hE]
theorem pN (h:SqL K G a vs) (r:ax K G vs xs):Yl K (Ite K a) (hE xs) G:=by
 intro H sg
 have hl:=r.length
 have el:=dZ xs
 refine ⟨λi hi=>⟨vs,aC sg h,by omega⟩,λi hi=>?_⟩
 have hi':i < xs.length:=by omega
 obtain ⟨v,hv,dv⟩:=r.get (List.getElem?_eq_getElem hi')
 refine ⟨⟨vs,v,aC sg h,hv⟩,λy H' ⟨p,x,hp,e0,e1,e2⟩=>?_⟩
 subst e0 e1
 have ex:x=v:=by have:=e2 vs (aC sg h); rw [hv] at this; exact (Option.some.inj this).symm
 subst ex
 refine ⟨ao hp _,λM hM sv=>?_⟩
 rw [j7,show xs.getD i .non=xs[i] by simp [List.getD,hi']]
 exact .tup (SqT.of (iD hM hp)) (.cons .int (.cons (dv.mono (sv.trans (aq (ao hp _) λ_ z=>z))) .nil))
end
section
variable {X:Cx} {C:Bool} {τ:List Sl} {x y z:D} {a b e c tg it:Expr} {es:List Expr} {pos p q:Pos} {k:Nat} {s:Sl} {xs:List D} {N:Po} {st:Stmt} {rest body els:List Stmt}
theorem a5 (h:PE X it (dE X.K true τ (.d (.lst xs)))):PI X tg it (dI X.K τ xs):=piW (nA h) λσ H R ⟨A,H₀,B,S,k⟩=>aP S λv H1 e1 d1=>by
 cases d1 with
 | lst h r=>exact ⟨_,rfl,⟨_,aC aD h⟩,k _ H1 e1 (mZ h r)⟩
theorem cw {n:Int} (B:Bk X k) (h:PE X a (dE X.K false τ (.d (.int n)))) (h1:-(2 ^ 62)<=n) (h2:n < 2 ^ 62) (hg:Gl X "range":=by rfl) (hs:starEach [a] X.env=[(false,eval a X.env)]:=by rfl):PI X tg (.Call (.Name "range" p) [a] [] pos) (dI X.K τ (eB 0 n.toNat)):=
 piW (kT hg (B.blt _ (by decide)) (ae h ag hs) hs) λσ H R ⟨A,H₀,B,S,k⟩=>cH S λvs H1 e1 d1=>by
   cases d1 with
   | cons d r=>
     cases r
     cases d
     exact ⟨n,rfl,h1,h2,k _ H1 e1 (my 0 _)⟩
theorem pj {m n:Int} (B:Bk X k) (h:PE X a (dE X.K false τ (.d (.int m)))) (h':PE X b (dE X.K false τ (.d (.int n)))) (h1:-(2 ^ 62)<=m/\m < 2 ^ 62/\-(2 ^ 62)<=n/\n < 2 ^ 62) (hg:Gl X "range":=by rfl) (hs:starEach [a,b] X.env=[(false,eval a X.env),(false,eval b X.env)]:=by rfl)
   (hs2:starEach [b] X.env=[(false,eval b X.env)]:=by rfl):PI X tg (.Call (.Name "range" p) [a,b] [] pos) (dI X.K τ (eB m (n - m).toNat)):=
 piW (kS hg (B.blt _ (by decide)) (ae h (ae h' ag hs2) (by rw [hs,hs2])) hs hs2) λσ H R ⟨A,H₀,B,S,k⟩=>cH S λvs H1 e1 d1=>by
   cases d1 with
   | cons d r=>
     cases r with
     | cons d' r=>
       cases r
       cases d
       cases d'
       exact ⟨m,n,rfl,h1,k _ H1 e1 (my m _)⟩
theorem qx {ts:List Expr} {m:Nat} {tp:Pos} (B:Bk X k) (h:PE X a (dE X.K true τ (.d (.lst xs)))) (hg:Gl X "enumerate":=by rfl) (hs:starEach [a] X.env=[(false,eval a X.env)]:=by rfl):PI X (.Tuple ts m tp) (.Call (.Name "enumerate" p) [a] [] pos) (dI X.K τ (hE xs)):=
 piW (ky hg (B.blt _ (by decide)) (ae h ag hs) hs) λσ H R ⟨A,H₀,B,S,k⟩=>cH S λvs H1 e1 d1=>by
   cases d1 with
   | cons d r=>
     cases r
     cases d with
     | lst h r=>exact ⟨_,rfl,⟨_,aC aD h⟩,k _ H1 e1 (pN h r)⟩
theorem pV (i:Nat) {n:Str} (hN:X.N.Nodup) (hi:X.N[i]?=some n:=by rfl) (hx:Loc X.env.scope n:=by first | exact .inl rfl | exact .inr rfl) (hf:X.fn n=true\/X.env.scope.names.lookup n=some .local:=by first | exact .inl rfl | exact .inr rfl | assumption):PG X (.Name n p) (dG X.K τ x (τ.set i (.d x))):=
 pgW (cX (i:=i) hN hi hx hf) λv σ H Q ⟨A,H₀,B,S,d,k⟩=>k _ _ (S.set (af.refl _) (bs:=[]) (λ_ z=>nomatch z) (gu d))
theorem oi (i j:Nat) {n m:Str} {p2 pt:Pos} {md:Nat} (hc:X.calm=true) (hN:X.N.Nodup) (hi:X.N[i]?=some n:=by rfl) (hj:X.N[j]?=some m:=by rfl) (hx:Loc X.env.scope n:=by first | exact .inl rfl | exact .inr rfl) (hy:Loc X.env.scope m:=by first | exact .inl rfl | exact .inr rfl)
   (hf:X.fn n=true\/X.env.scope.names.lookup n=some .local:=by first | exact .inl rfl | exact .inr rfl | assumption) (hf':X.fn m=true\/X.env.scope.names.lookup m=some .local:=by first | exact .inl rfl | exact .inr rfl | assumption) :
   PG X (.Tuple [.Name n p,.Name m p2] md pt) (dG X.K τ (.tup [x,y]) ((τ.set i (.d x)).set j (.d y))):=by
 refine pgW (oE hc (fF (cX (i:=i) hN hi hx hf) (fF (cX (i:=j) hN hj hy hf') nK))) λv σ H Q ⟨A,H₀,B,S,d,k⟩=>?_
 cases d with
 | tup h r=>
   cases r with
   | cons d1 r=>
     cases r with
     | cons d2 r=>
       cases r
       have S1:=S.set (i:=i) (af.refl _) (bs:=[]) (λ_ z=>nomatch z) (gu d1)
       have sub:∀ b,own A (upB B i []) b->own A B b:=λb z=>z.elim .inl λ⟨j,z⟩=>(aK z).elim (λz=>nomatch z.2) λz=>.inr ⟨j,z.2⟩
       exact ⟨_,_,rfl,aF aD h,rfl,_,_,rfl,_,_,rfl,rfl,k _ _ (S1.set (i:=j) (af.refl _) (bs:=[]) (λ_ z=>nomatch z) (gu (d2.mono (aq (af.refl _) sub))))⟩
theorem Sta.base {K:PySem.W.Frag} {A:Addr->Prop} {H₀ H:Hp} {τ:List Sl} {B:Nat->List Addr} {σ:L2.St} (S:Sta K A H₀ τ B σ H):af H₀ (hd H λb=>∃ i,b ∈ B i)/\Sta K A (hd H λb=>∃ i,b ∈ B i) τ B σ H:=by
 have s0:af H₀ (hd H λb=>∃ i,b ∈ B i):=λb o h=>aj.mpr ⟨λ⟨i,z⟩=>(by rw [S.fr i b z] at h; cases h),S.same _ _ h⟩
 exact ⟨s0,aD,S.len,S.sl,λi b hb=>by
   cases e:hd H (λb=>∃ i,b ∈ B i) b with
   | none=>rfl
   | some o=>exact absurd ⟨i,hb⟩ (aj.mp e).1,S.uq,λb hb=>let ⟨o,q⟩:=S.ad b hb; ⟨o,s0 _ _ q⟩,S.bd⟩
theorem Sta.back {K:PySem.W.Frag} {A:Addr->Prop} {H₀ G H:Hp} {τ:List Sl} {B:Nat->List Addr} {σ:L2.St} (S:Sta K A G τ B σ H) (s:af H₀ G) (ad:∀ b,A b->∃ o,H₀ b=some o):Sta K A H₀ τ B σ H:=
 ⟨s.trans S.same,S.len,S.sl,λi b hb=>s.free (S.fr i b hb),S.uq,ad,S.bd⟩
theorem n9 {M:Nat->List Sl->Prop} {T:Nat->List Sl->List Sl} (B:Bk X k) (hi:PI X tg it (dI X.K τ xs)) (h0:M 0 τ) (hg:∀ i (h:i < xs.length) τ',M i τ'->PG X tg (dG X.K τ' xs[i] (T i τ')))
   (hb:∀ i,i < xs.length->∀ τ',M i τ'->PSs X body (dS X.K (T i τ') { N with nx:=M (i + 1),ct:=M (i + 1),bk:=N.nx })) (hn:∀ τ',M xs.length τ'->N.nx τ')
   (hs:∀ x,foldedSetIterable it X.env x=pure x:=by intro _; rfl):PS X (.For tg it body [] pos) (dS X.K τ N):=by
 have hg':PG X tg λv σ H Q=>∃ (i:Nat) (h:i < xs.length) (τ':List Sl),M i τ'/\dG X.K τ' xs[i] (T i τ') v σ H Q:=λpins s σ H v u Q I r ⟨i,h,τ',m,q⟩=>hg i h τ' m pins s σ H v u Q I r q
 have hb':PSs X body λD σ H=>∃ i τ',i < xs.length/\M i τ'/\dS X.K (T i τ') { N with nx:=M (i + 1),ct:=M (i + 1),bk:=N.nx } D σ H:=λpins s σ H D I ⟨i,τ',h,m,q⟩=>hb i h τ' m pins s σ H D I q
 refine psW (pg B.po B.calm hi hg' hb' hs) λD σ H ⟨A,H₀,B,S,Me⟩=>⟨A,H₀,B,S,λJ H1 e1 yl=>?_⟩
 obtain ⟨s0,S1⟩:=(S.mono e1).base
 have sub:∀ {H'},af (hd H1 λb=>∃ i,b ∈ B i) H'->af (hd H1 (own A B)) H':=λe=>(aq (af.refl _) λ_ z=>.inr z).trans e
 refine ⟨λi m σ' H'=>m=xs.length - i/\i<=xs.length/\∃ τ' B',M i τ'/\Sta X.K A (hd H1 λb=>∃ i,b ∈ B i) τ' B' σ' H',⟨xs.length,rfl,Nat.zero_le _,τ,B,h0,S1⟩,?_⟩
 rintro i m σ' H' ⟨rfl,hi,τ',B',hM,S'⟩
 obtain ⟨y1,y2⟩:=yl H' (sub S'.same)
 by_cases hlt:i < xs.length
 · obtain ⟨g,y⟩:=y2 i hlt
   refine .inr ⟨g,λσ2 H2=>∃ τ2 B2,M (i + 1) τ2/\Sta X.K A (hd H1 λb=>∃ i,b ∈ B i) τ2 B2 σ2 H2,λσ2 H2 q=>⟨xs.length - (i + 1),by omega,rfl,hlt,q⟩,λx H2 hy=>?_⟩
   obtain ⟨e2,dx⟩:=y x H2 hy
   have S2:=S'.mono e2
   refine ⟨i,hlt,τ',hM,A,_,B',S2,dx (own A B') S'.dm ?_,λσ3 B3 S3=>⟨i,τ',hlt,hM,A,_,B3,S3,?_⟩⟩
   · intro b o z
     obtain ⟨z1,z2⟩:=aj.mp z
     have z3:hd H1 (λb=>∃ i,b ∈ B i) b=some o:=aj.mpr ⟨λy=>z1 (.inr y),z2⟩
     refine aj.mpr ⟨λy=>?_,S'.same _ _ z3⟩
     rcases y with y | ⟨l,y⟩
     · exact z1 (.inl y)
     · rw [S'.fr l b y] at z3; cases z3
   · exact ⟨λτ3 B3 σ3 H3 m S3=>⟨τ3,B3,m,S3⟩,λτ3 B3 σ3 H3 m S3=>Me.nx τ3 B3 σ3 H3 m (S3.back s0 S.ad),λτ3 B3 σ3 H3 m S3=>⟨τ3,B3,m,S3⟩,
       λv H3 bs s3 hr e3 hf q=>Me.rt v H3 bs s3 hr (s0.trans e3) (λb hb=>⟨s0.free (hf b hb).1,(hf b hb).2⟩) q⟩
 · have e:i=xs.length:=by omega
   subst e
   exact .inl ⟨y1 _ (Nat.le_refl _),Me.nx τ' B' σ' H' (hn τ' hM) (S'.back s0 S.ad)⟩
theorem bX (j:Nat) {n:Str} (M:Nat->List Sl->Prop) {g:Nat->D} (B:Bk X k) (hN:X.N.Nodup) (hi:PI X (.Name n p) it (dI X.K τ xs)) (hx:∀ i (h:i < xs.length),xs[i]=g i) (h0:M 0 τ)
   (hb:∀ i,i < xs.length->∀ τ',M i τ'->PSs X body (dS X.K (τ'.set j (.d (g i))) { N with nx:=M (i + 1),ct:=M (i + 1),bk:=λ_=>False }))
   (hr:∀ τ',M xs.length τ'->PSs X rest (dS X.K τ' N)) (hs:∀ x,foldedSetIterable it X.env x=pure x:=by intro _; rfl) (hi':X.N[j]?=some n:=by rfl) (hl:Loc X.env.scope n:=by first | exact .inl rfl | exact .inr rfl)
   (hf:X.fn n=true\/X.env.scope.names.lookup n=some .local:=by first | exact .inl rfl | exact .inr rfl | assumption):PSs X (.For (.Name n p) it body [] pos :: rest) (dS X.K τ N):=
 bf (M:=M xs.length) (n9 (M:=M) (T:=λi τ'=>τ'.set j (.d (g i))) B hi h0 (λi h τ' m=>by rw [hx i h]; exact pV j hN hi' hl hf)
   (λi h τ' m=>kP (hb i h τ' m) λD σ H ⟨A,H₀,B,S,Me⟩=>⟨A,H₀,B,S,Me.nx,λ_ _ _ _ z=>z.elim,Me.ct,Me.rt⟩) (λ_ m=>m) hs) hr
theorem o9 (j l:Nat) {n m:Str} {p2 pt:Pos} {md:Nat} (M:Nat->List Sl->Prop) {g g':Nat->D} (B:Bk X k) (hN:X.N.Nodup) (hi:PI X (.Tuple [.Name n p,.Name m p2] md pt) it (dI X.K τ xs)) (hx:∀ i (h:i < xs.length),xs[i]=.tup [g i,g' i]) (h0:M 0 τ)
   (hb:∀ i,i < xs.length->∀ τ',M i τ'->PSs X body (dS X.K ((τ'.set j (.d (g i))).set l (.d (g' i))) { N with nx:=M (i + 1),ct:=M (i + 1),bk:=λ_=>False }))
   (hr:∀ τ',M xs.length τ'->PSs X rest (dS X.K τ' N)) (hs:∀ x,foldedSetIterable it X.env x=pure x:=by intro _; rfl) (hi':X.N[j]?=some n:=by rfl) (hj':X.N[l]?=some m:=by rfl) (hl:Loc X.env.scope n:=by first | exact .inl rfl | exact .inr rfl) (hl':Loc X.env.scope m:=by first | exact .inl rfl | exact .inr rfl)
   (hf:X.fn n=true\/X.env.scope.names.lookup n=some .local:=by first | exact .inl rfl | exact .inr rfl | assumption) (hf':X.fn m=true\/X.env.scope.names.lookup m=some .local:=by first | exact .inl rfl | exact .inr rfl | assumption):PSs X (.For (.Tuple [.Name n p,.Name m p2] md pt) it body [] pos :: rest) (dS X.K τ N):=
 bf (M:=M xs.length) (n9 (M:=M) (T:=λi τ'=>(τ'.set j (.d (g i))).set l (.d (g' i))) B hi h0 (λi h τ' m=>by rw [hx i h]; exact oi j l B.calm hN hi' hj' hl hl' hf hf')
   (λi h τ' m=>kP (hb i h τ' m) λD σ H ⟨A,H₀,B,S,Me⟩=>⟨A,H₀,B,S,Me.nx,λ_ _ _ _ z=>z.elim,Me.ct,Me.rt⟩) (λ_ m=>m) hs) hr
theorem cx {n:Nat} (i:Nat) (h:i < (eB 0 n).length):(eB 0 n)[i]=.int (i:Nat):=by rw [hZ,Int.zero_add]
theorem i4 {bs:List Int} (i:Nat) (h:i < (bs.map D.int).length):(bs.map D.int)[i]=.int (bs.getD i 0):=by
 have:i < bs.length:=by simpa using h
 simp [this]
theorem qU {bs:List Int} (i:Nat) (h:i < (hE (bs.map D.int)).length):(hE (bs.map D.int))[i]=.tup [.int (i:Nat),.int (bs.getD i 0)]:=by
 have:i < bs.length:=by rw [dZ] at h; simpa using h
 rw [j7]
 simp [this]
end
end Hy
namespace Hy
open PySem PySem.Spec PyProof.Rows L2
open Ev (D Den ax ao aF aC av cZ cu PTs cV dk fN)
noncomputable def slot:List Str->Str->Option Nat
 | [],_=>none
 | y :: r,x=>if x=y then some 0 else (slot r x).map (· + 1)
theorem slot_get:∀ {N:List Str} {x:Str} {i:Nat},slot N x=some i->N[i]?=some x
 | [],_,_,h=>by cases h
 | y :: r,x,i,h=>by
   unfold slot at h
   split at h
   · cases h; rename_i e; rw [e]; rfl
   · cases e:slot r x with
     | none=>rw [e] at h; cases h
     | some j=>rw [e] at h; cases h; simpa using slot_get e
noncomputable def lG (scope sc:Scope):Scope:={ scope with names:=scope.names.map λ(n,k)=>if (k == .free && sc.kind == .function && sc.names.lookup n == some .cell) then (n,.cell) else (n,k) }
noncomputable def bNm (scope:Scope):List Str:=(scope.names.filter λp=>(p.2 == .local || p.2 == .cell || p.2 == .free) && p.1 != (".0" : Str)).map (·.1)
noncomputable def bCp (No:List Str) (scope:Scope):List (Option Nat):=(bNm scope).map λx=>if (x,NameKind.free) ∈ scope.names then slot No x else none
noncomputable def bOk (sc scope:Scope):Bool:=
 scope.kind == .function && scope.names.all (λp=>p.2 != .local || scope.names.lookup p.1 == some .local) && scope.names.all (λp=>p.2 != .free || sc.names.lookup p.1 == some .cell)
   && scope.names.all (λp=>p.2 != .free || (!decide ((p.1,NameKind.cell) ∈ scope.names) && !decide ((p.1,NameKind.local) ∈ scope.names))) && decide (bNm scope++[("#" : Str)]).Nodup
   && (lG scope sc).names.all (λp=>p.1 != ("#" : Str))
theorem lU {a b:Bool} (h:(a && b)=true):a=true/\b=true:=by rw [Bool.and_eq_true] at h; exact h
theorem mL {x:Str} {q:NameKind}:∀ {names:List (Str × NameKind)},names.lookup x=some q->(x,q) ∈ names
 | (y,k) :: r,h=>by
   rw [List.lookup_cons] at h
   split at h
   · rename_i e; cases h; rw [eq_of_beq e]; exact List.mem_cons_self ..
   · exact List.mem_cons_of_mem _ (mL h)
theorem dU {X:Cx} {scope:Scope} (h:bOk X.env.scope scope=true):cu X scope (bNm scope++[("#" : Str)]) (bCp X.N scope)/\(bNm scope++[("#" : Str)]).Nodup:=by
 unfold bOk at h
 obtain ⟨h,h6⟩:=lU h
 obtain ⟨h,h5⟩:=lU h
 obtain ⟨h,h4⟩:=lU h
 obtain ⟨h,h3⟩:=lU h
 obtain ⟨h1,h2⟩:=lU h
 rw [List.all_eq_true] at h2 h3 h4 h6
 refine ⟨⟨eq_of_beq h1,λx hx hk=>?_,λx hx hk=>?_,λx hx hm=>?_,λx hx hm=>?_,?_,λj i hj=>?_,?_⟩,of_decide_eq_true h5⟩
 · have:=h2 x hx; rw [hk] at this; simpa using this
 · have:=h3 x hx; rw [hk] at this; show X.env.scope.names.lookup x.1=_; simpa using this
 · have:=h4 _ hx; simp [hm] at this
 · have:=h4 _ hx; simp [hm] at this
 · unfold bCp; rw [List.length_append,List.length_map]; rfl
 · unfold bCp at hj
   rw [List.getElem?_map] at hj
   cases e:(bNm scope)[j]? with
   | none=>rw [e] at hj; cases hj
   | some x=>
     rw [e] at hj
     simp only [Option.map_some,Option.some.injEq] at hj
     split at hj
     · exact ⟨x,by rw [List.getElem?_append_left (List.getElem?_eq_some_iff.mp e).1]; exact e,slot_get hj,by assumption⟩
     · cases hj
 · refine ⟨("#" : Str),?_,λhv=>?_⟩
   · unfold bCp; rw [List.length_map,List.getElem?_append_right (Nat.le_refl _),Nat.sub_self]; rfl
   · have key:∀ q,(lG scope X.env.scope).names.lookup ("#" : Str) ≠ some q:=λq hq=>by
       have:=h6 _ (mL hq)
       simp at this
     rcases hv with hv | hv | hv <;> exact key _ hv
noncomputable abbrev cpX (X:Cx) (s:Shared) (H:Hp) (scope:Scope) (fp:List Addr):Cx:=av X s H scope (bNm scope++[("#" : Str)]) fp
theorem Bk.comp {X:Cx} {k:Nat} (B:Bk X k) (s:Shared) (H:Hp) (scope:Scope) (fp:List Addr):Bk (cpX X s H scope fp) k:=⟨B.room,B.calm,B.blt,PassesOwn.never⟩
noncomputable def aV (τ:List Sl) (caps:List (Option Nat)):List Sl:=caps.map λo=>match o with
 | some i=>match τ[i]? with
   | some (.d x)=>.d x
   | _=>.un
 | none=>.un
theorem iE {X:Cx}:PTs X [] λ_ H Q=>Q true H:=λpins s σ H Q I q=>by
 show wpAny _ _ (pure true) _ _ _
 exact wpAny_pure ⟨H,I,q⟩
section
variable {X:Cx} {C:Bool} {τ:List Sl} {x y z:D} {a b e c tg it elt:Expr} {es ifs:List Expr} {pos p q:Pos} {k:Nat} {xs:List D} {scope:Scope}
structure Cmp (X:Cx) (elt tg it:Expr) (ifs:List Expr) (scope:Scope) (τ:List Sl) (ys:List D):Prop where
 ex:∃ (In:TG->TT->TE->Prop) (caps:List (Option Nat)) (N:List Str) (wi:TI),cu X scope N caps/\PI X tg it wi/\(∀ g tt te,In g tt te->∀ s H fp,PG (av X s H scope N fp) tg g/\PTs (av X s H scope N fp) ifs tt/\PE (av X s H scope N fp) elt te) /\
   ∀ C σ H Q,dE X.K C τ (.o ys) σ H Q->dk In caps wi σ H Q
 hs:∀ x,foldedSetIterable it X.env x=pure x
 hc:X.calm=true
theorem fI {ys:List D} (h:Cmp X elt tg it ifs scope τ ys):PE X (.ListComp elt [⟨tg,it,ifs,0⟩] scope pos) (dE X.K C τ (.o ys)):=by
 obtain ⟨In,caps,N,wi,h1,h2,h3,h4⟩:=h.ex
 exact peW (cV h.hc h1 h2 h.hs h3) (h4 C)
theorem iq (i:Nat) {n:Str} {p spos:Pos} {rest:List Stmt} {N:Po} {ys:List D} {s:Sl} (hN:X.N.Nodup) (h:Cmp X elt tg it ifs scope τ ys) (hz:s=.o ys\/s=.d (.lst ys)) (hr:PSs X rest (dS X.K (τ.set i s) N)) (hi:X.N[i]?=some n:=by rfl) (hx:Loc X.env.scope n:=by first | exact .inl rfl | exact .inr rfl)
   (hsw:swapsWith (.ListComp elt [⟨tg,it,ifs,0⟩] scope pos) (some (.Name n p)) spos.line X.env=pure true:=by rfl) (hf:X.fn n=true\/X.env.scope.names.lookup n=some .local:=by first | exact .inl rfl | exact .inr rfl | assumption) :
   PSs X (.Assign [.Name n p] (.ListComp elt [⟨tg,it,ifs,0⟩] scope pos) spos :: rest) (dS X.K τ N):=by
 obtain ⟨In,caps,N',wi,h1,h2,h3,h4⟩:=h.ex
 have h5:∀ σ H Q,dE X.K true τ s σ H Q->dk In caps wi σ H Q:=by
   rcases hz with rfl | rfl
   · exact h4 true
   · intro σ H Q q
     obtain ⟨A,H₀,B,S,k⟩:=dJ q
     refine h4 true σ H Q ⟨A,H₀,B,S,λv H' bs e hf q=>?_⟩
     obtain ⟨u,e1,d⟩:=q.den (G':=Hy.hd H' (vw true A B)) (aq (af.refl _) λ_ z=>.inl z) (λb hb o ho=>aj.mpr ⟨λz=>(by obtain ⟨_,q⟩:=S.vd (C:=true) b z; rw [(hf b hb).1] at q; cases q),ho⟩) rfl
     cases e1
     exact k v H' e d
 exact bf (M:=(·=τ.set i s)) (psW (fN (cX (i:=i) hN hi hx hf) h.hc h1 h2 h.hs h3 hsw) λD σ H ⟨A,H₀,B,S,Me⟩=>h5 _ _ _ ⟨A,H₀,B,S,λv H' bs e hf h=>Me.nx _ _ _ _ rfl (S.set e hf h)⟩) λ_ e=>e ▸ hr
theorem mH {T:Nat->List Sl} {t:Nat->Bool} {f:Nat->D} (B:Bk X k) (hc:bOk X.env.scope scope=true) (hi:PI X tg it (dI X.K τ xs)) (hT:∀ i,(T i).length=(aV τ (bCp X.N scope)++[Sl.un]).length/\∀ (l:Nat) (x:D),(aV τ (bCp X.N scope)++[Sl.un])[l]?=some (.d x)->(T i)[l]?=some (.d x))
   (hg:∀ i (h:i < xs.length) s H fp,PG (cpX X s H scope fp) tg (dG X.K (aV τ (bCp X.N scope)++[Sl.un]) xs[i] (T i)))
   (ht:∀ i,i < xs.length->∀ s H fp,PTs (cpX X s H scope fp) ifs (dT X.K (T i) (t i)))
   (he:∀ i,i < xs.length->t i=true->∀ s H fp,PE (cpX X s H scope fp) elt (dE X.K true (T i) (.d (f i)))) (hl:xs.length < 1000000) (hs:∀ x,foldedSetIterable it X.env x=pure x:=by intro _; rfl) :
   Cmp X elt tg it ifs scope τ (((List.range xs.length).filter t).map f):=by
 obtain ⟨cap,_⟩:=dU hc
 generalize hτ:aV τ (bCp X.N scope)++[Sl.un]=τb at *
 refine ⟨⟨λg tt te=>g=(λv σ H Q=>∃ (i:Nat) (h:i < xs.length),dG X.K τb xs[i] (T i) v σ H Q)/\tt=(λσ H Q=>∃ i,i < xs.length/\dT X.K (T i) (t i) σ H Q)/\te=(λσ H Q=>∃ i,i < xs.length/\t i=true/\dE X.K true (T i) (.d (f i)) σ H Q),_,_,_,cap,hi,?_,?_⟩,hs,B.calm⟩
 · rintro g tt te ⟨rfl,rfl,rfl⟩ s H fp
   exact ⟨λpins s' σ H' v u Q I r ⟨i,h,q⟩=>hg i h s H fp pins s' σ H' v u Q I r q,λpins s' σ H' Q I ⟨i,h,q⟩=>ht i h s H fp pins s' σ H' Q I q,λpins s' σ H' Q I ⟨i,h,h',q⟩=>he i h h' s H fp pins s' σ H' Q I q⟩
 rintro C σ H Q ⟨A,H₀,B,S,kk⟩
 refine ⟨A,H₀,B,S,λJ H1 e1 yl=>⟨_,_,_,⟨rfl,rfl,rfl⟩,λD hD=>?_⟩⟩
 have S1:=S.mono e1
 have nD:¬ own A B D:=λz=>by obtain ⟨o,q⟩:=S1.dm D z; rw [hD] at q; cases q
 have noN:∀ (l:Nat) (t:Nd),τb[l]?=some (.n t)->0 ≠ 0:=λl t h=>by
   exfalso
   rw [<- hτ] at h
   have:=List.mem_of_getElem? h
   rcases List.mem_append.mp this with z | z
   · unfold aV at z
     obtain ⟨o,_,ho⟩:=List.mem_map.mp z
     split at ho
     · split at ho <;> cases ho
     · cases ho
   · cases List.mem_singleton.mp z
 have slots:∀ {σ':L2.St} {H':Hp},af H1 H'->(∃ o,H' D=some o)->σ'.length=τb.length->(∀ (l:Nat) (s:Sl),τb[l]?=some s->a8 X.K (hd H' λb=>own A B b\/b=D) H' (σ'[l]?).join [] s)->Sta X.K (λb=>own A B b\/b=D) H' τb (λ_=>[]) σ' H':=λ{σ' H'} e1 e2 e3 e4=>
   ⟨af.refl _,e3,λl s h=>(e4 l s h).mono (aq (af.refl _) λ_ z=>z.elim id λ⟨_,z⟩=>(nomatch z)) (af.refl _),λ_ _ z=>(nomatch z),λ_ _ _ z=>(nomatch z),λb z=>z.elim (λz=>let ⟨o,q⟩:=S1.dm b z; ⟨o,e1 _ _ q⟩) λz=>z ▸ e2,λ_ _ z=>(nomatch z)⟩
 refine ⟨λi m σ' H'=>m=xs.length - i/\i<=xs.length/\af H1 H'/\(∃ vs,H' D=some (.lst vs)/\vs.length<=i/\ax X.K (hd H' λb=>own A B b\/b=D) vs (((List.range i).filter t).map f)) /\
   σ'.length=τb.length/\∀ (l:Nat) (s:Sl),τb[l]?=some s->a8 X.K (hd H' λb=>own A B b\/b=D) H' (σ'[l]?).join [] s,⟨xs.length,rfl,Nat.zero_le _,ao hD _,⟨[],aB,Nat.le_refl _,.nil⟩,?_,λl s h=>?_⟩,?_⟩
 · rw [<- hτ]; unfold cZ aV; rw [List.length_append,List.length_append,List.length_map,List.length_map]; rfl
 · have hv:af (hd H (own A B)) (hd (upd H1 D (.lst [])) λb=>own A B b\/b=D):=λb o z=>by
     obtain ⟨z1,z2⟩:=aj.mp z
     have z2:=e1 _ _ z2
     have ne:b ≠ D:=λz=>by rw [z,hD] at z2; cases z2
     exact aj.mpr ⟨λy=>y.elim z1 ne,by rw [ak ne]; exact z2⟩
   cases s with
   | un=>rfl
   | d x=>
     rw [<- hτ] at h
     have hlt:l < (bCp X.N scope).length:=by
       rcases Nat.lt_or_ge l (bCp X.N scope).length with h' | h'
       · exact h'
       · exfalso
         rw [List.getElem?_append_right (by unfold aV; rw [List.length_map]; exact h')] at h
         cases e:l - (aV τ (bCp X.N scope)).length with
         | zero=>rw [e] at h; cases h
         | succ n=>rw [e] at h; cases h
     rw [List.getElem?_append_left (by unfold aV; rw [List.length_map]; exact hlt)] at h
     rw [List.getElem?_append_left (by unfold cZ; rw [List.length_map]; exact hlt)]
     unfold aV at h
     unfold cZ
     rw [List.getElem?_map] at h ⊢
     cases e:(bCp X.N scope)[l]? with
     | none=>rw [e] at h; cases h
     | some o=>
       rw [e] at h
       cases o with
       | none=>cases h
       | some i=>
         simp only [Option.map_some,Option.some.injEq] at h
         split at h
         · rename_i x' hx'
           cases h
           obtain ⟨_,u,eu,d⟩:=S.sl i _ hx'
           exact ⟨rfl,u,by simpa using eu,d.mono hv⟩
         · cases h
   | o xs'=>
     exfalso
     rw [<- hτ] at h
     have:=List.mem_of_getElem? h
     rcases List.mem_append.mp this with z | z
     · unfold aV at z
       obtain ⟨o,_,ho⟩:=List.mem_map.mp z
       split at ho
       · split at ho <;> cases ho
       · cases ho
     · cases List.mem_singleton.mp z
   | n t'=>
     exfalso
     rw [<- hτ] at h
     have:=List.mem_of_getElem? h
     rcases List.mem_append.mp this with z | z
     · unfold aV at z
       obtain ⟨o,_,ho⟩:=List.mem_map.mp z
       split at ho
       · split at ho <;> cases ho
       · cases ho
     · cases List.mem_singleton.mp z
   | x E'=>
     exfalso
     rw [<- hτ] at h
     have:=List.mem_of_getElem? h
     rcases List.mem_append.mp this with z | z
     · unfold aV at z
       obtain ⟨o,_,ho⟩:=List.mem_map.mp z
       split at ho
       · split at ho <;> cases ho
       · cases ho
     · cases List.mem_singleton.mp z
 rintro i m σ' H' ⟨rfl,hi,e2,⟨vs,hv1,hv2,hv3⟩,hlen,hsl⟩
 obtain ⟨y1,y2⟩:=yl H' (aD.trans e2)
 by_cases hlt:i < xs.length
 · obtain ⟨g,y⟩:=y2 i hlt
   refine .inr ⟨g,λx H2 hy=>?_⟩
   obtain ⟨e3,dx⟩:=y x H2 hy
   have S2:Sta X.K (λb=>own A B b\/b=D) H' τb (λ_=>[]) σ' H':=slots e2 ⟨_,hv1⟩ hlen hsl
   have o0:∀ b,own (λb=>own A B b\/b=D) (λ_=>([]:List Addr)) b->own A B b\/b=D:=λb z=>z.elim id λ⟨_,z⟩=>(nomatch z)
   have dx':=dx _ S2.dm (λb o z=>by
     obtain ⟨z1,z2⟩:=aj.mp z
     exact aj.mpr ⟨λy=>(o0 b y).elim z1 λy=>(by rw [y,hD] at z2; cases z2),e2 _ _ z2⟩)
   refine ⟨i,hlt,_,_,_,S2.mono e3,dx',λσ2 B2 S3=>?_⟩
   have hB2:∀ j b,b ∈ B2 j->b ≠ D:=λj b hb z=>by
     have:=S3.fr j b hb
     rw [z,hv1] at this
     cases this
   have back:∀ {H5:Hp},af H2 H5->σ2.length=τb.length/\∀ (l:Nat) (s:Sl),τb[l]?=some s->a8 X.K (hd H5 λb=>own A B b\/b=D) H5 (σ2[l]?).join [] s:=λ{H5} e5=>by
     refine ⟨S3.len.trans (hT i).1,λl s h=>?_⟩
     cases s with
     | un=>rfl
     | d x=>
       obtain ⟨_,u,eu,d⟩:=S3.sl l _ ((hT i).2 l x h)
       exact ⟨rfl,u,eu,d.mono (aq e5 λ_ z=>.inl z)⟩
     | o xs'=>exact absurd (hsl l _ h) (λ⟨_,_,z,_⟩=>(nomatch z))
     | n t'=>exact absurd rfl (noN l t' h)
     | x E'=>exact absurd (hsl l _ h) (λ⟨_,_,z,_⟩=>(nomatch z))
   refine ⟨i,hlt,_,_,_,S3,λH4 e4=>?_⟩
   cases ht:t i with
   | false=>
     rw [if_neg Bool.false_ne_true]
     obtain ⟨b1,b2⟩:=back e4
     refine ⟨xs.length - (i + 1),by omega,rfl,hlt,e2.trans (e3.trans e4),⟨vs,e4 _ _ (e3 _ _ hv1),by omega,?_⟩,b1,b2⟩
     rw [List.range_succ,List.filter_append,List.map_append,List.filter_cons,ht]
     simpa using hv3.mono (aq (e3.trans e4) λ_ z=>z)
   | true=>
     rw [if_pos rfl]
     refine ⟨i,hlt,ht,aP (S3.mono e4) λv H5 e5 d5=>?_⟩
     have e6:=e3.trans (e4.trans e5)
     have hv5:=e6 _ _ hv1
     refine ⟨vs,xs.length - (i + 1),hv5,Nat.lt_trans (Nat.lt_of_le_of_lt hv2 (Nat.lt_trans hlt hl)) (by decide),by omega,rfl,hlt,?_,?_⟩
     · intro b o z
       have ne:b ≠ D:=λy=>by rw [y,hD] at z; cases z
       rw [ak ne]
       exact e6 _ _ (e2 _ _ z)
     have sm:af (hd H5 λb=>own A B b\/b=D) (hd (upd H5 D (.lst (vs++[v]))) λb=>own A B b\/b=D):=λb o z=>by
       obtain ⟨z1,z2⟩:=aj.mp z
       exact aj.mpr ⟨z1,by rw [ak λy=>z1 (.inr y)]; exact z2⟩
     obtain ⟨b1,b2⟩:=back (e4.trans e5)
     refine ⟨⟨vs++[v],aB,by rw [List.length_append]; exact Nat.succ_le_succ hv2,?_⟩,b1,λl s h=>?_⟩
     · rw [List.range_succ,List.filter_append,List.map_append,List.filter_cons,ht,if_pos rfl]
       refine ax.append (hv3.mono ((aq e6 λ_ z=>z).trans sm)) (.cons (d5.mono ((aq (af.refl _) λ_ z=>.inl z).trans sm)) .nil)
     · cases s with
       | un=>rfl
       | d x=>obtain ⟨z1,u,eu,d⟩:=b2 l _ h; exact ⟨z1,u,eu,d.mono sm⟩
       | o xs'=>exact absurd (hsl l _ h) (λ⟨_,_,z,_⟩=>(nomatch z))
       | n t'=>exact absurd rfl (noN l t' h)
       | x E'=>exact absurd (hsl l _ h) (λ⟨_,_,z,_⟩=>(nomatch z))
 · have e:i=xs.length:=by omega
   subst e
   refine .inl ⟨y1 _ (Nat.le_refl _),kk _ _ [D] (e1.trans e2) (λb hb=>?_) ⟨D,vs,rfl,rfl,hv1,hv3.mono (aq (af.refl _) λb z=>z.elim (λz=>.inl (iG z)) λz=>.inr (List.mem_singleton.mp z))⟩⟩
   obtain rfl:=List.mem_singleton.mp hb
   exact ⟨e1.free hD,_,hv1⟩
theorem cmp (j:Nat) {n:Str} {g f:Nat->D} (B:Bk X k) (hi:PI X (.Name n p) it (dI X.K τ xs)) (hx:∀ i (h:i < xs.length),xs[i]=g i) (hl:xs.length < 1000000)
   (he:∀ i,i < xs.length->∀ s H fp,PE (cpX X s H scope fp) elt (dE X.K true ((aV τ (bCp X.N scope)++[Sl.un]).set j (.d (g i))) (.d (f i))))
   (hc:bOk X.env.scope scope=true:=by kernel_rfl) (hu:(aV τ (bCp X.N scope)++[Sl.un])[j]?=some .un:=by rfl) (hN:(bNm scope++[("#" : Str)])[j]?=some n:=by rfl) (hv:∀ s H fp,Loc (cpX X s H scope fp).env.scope n:=by intro _ _ _; first | exact .inl rfl | exact .inr rfl)
   (hf:∀ s H fp,(cpX X s H scope fp).fn n=true\/(cpX X s H scope fp).env.scope.names.lookup n=some .local:=by intro _ _ _; first | exact .inr rfl | exact .inl rfl) (hs:∀ x,foldedSetIterable it X.env x=pure x:=by intro _; rfl) :
   Cmp X elt (.Name n p) it [] scope τ ((List.range xs.length).map f):=by
 have h:=mH (T:=λi=>(aV τ (bCp X.N scope)++[Sl.un]).set j (.d (g i))) (t:=λ_=>true) (f:=f) (elt:=elt) (ifs:=[]) B hc hi (λi=>⟨List.length_set,λl x h=>?_⟩) (λi h s H fp=>?_) (λi h s H fp=>?_) (λi h _ s H fp=>he i h s H fp) hl hs
 · rwa [List.filter_eq_self.mpr λ_ _=>rfl] at h
 · rw [List.getElem?_set_ne (λz=>by rw [<- z,hu] at h; cases h)]
   exact h
 · rw [hx i h]
   exact pV j (dU hc).2 hN (hv s H fp) (hf s H fp)
 · exact λpins s' σ H' Q I ⟨A,H₀,B,S,q⟩=>iE pins s' σ H' Q I (q H' (af.refl _))
end
section
variable {P:Program} {w:World} {K:PySem.W.Frag} {mg:Str->Option Value} {base:Heap}
noncomputable def o8 (N:List Str) (ds:List D):List Sl:=ds.map .d++List.replicate (N.length - ds.length) .un
noncomputable abbrev Xc (P:Program) (w:World) (K:PySem.W.Frag) (mg:Str->Option Value) (base:Heap) (N:List Str) (qual:Str) (st:Stmt) (f:Addr) (cdv:Value) (A:Around) (outer:List Env) (s:Shared) (H:Hp) (E:XK):Cx:=(iX CX0 P w K mg base N qual (ai st) f cdv A outer s H E).nox
theorem fnD {x qual:Str} {st:Stmt} {f:Addr} {fd:FuncData} {N ps:List Str} {k:Nat} {Φ:List D->Sl->Prop} (F:Fun K x qual st f fd) (S:ay N ps (ai st)) (hb:∀ x ∈ ar,mg x=none) (len:∀ ds r,Φ ds r->ds.length=ps.length)
   (body:∀ ds r,Φ ds r->∀ cdv A outer s H E,Bk (Xc P w K mg base N qual st f cdv A outer s H E) k->PSs (Xc P w K mg base N qual st f cdv A outer s H E) (bq st) (dS K (o8 N ds) { nx:=λ_=>r=.d .non,rt:=λr'=>r'=r })) :
   aL P w K mg base CX0 (k + 1) f fd ps (spD K Φ):=by
 refine F.ok S (λvs H Q E ⟨A,ds,r,_,d,h,_⟩=>d.length.trans (len ds r h)) λcdv A outer s H vs Q E hr ⟨A',ds,r,ha,d,h,q⟩=>⟨_,body ds r h cdv A outer s H E ⟨hr,rfl,hb,PassesOwn.never⟩,A',H,λ_=>[],⟨af.refl _,?_,λi s hi=>?_,λ_ _ z=>(nomatch z),λ_ _ _ z=>(nomatch z),ha,λ_ _ z=>(nomatch z)⟩,λτ B σ H' h S=>?_,λ_ _ _ _ h=>h.elim,λ_ _ _ _ h=>h.elim,λv H' bs s h e hf z=>?_⟩
 · unfold L2.start o8
   simp [d.length]
 · have hl:=d.length
   unfold o8 at hi
   unfold L2.start
   by_cases hlt:i < ds.length
   · rw [List.getElem?_append_left (by simpa using hlt),List.getElem?_map,List.getElem?_eq_getElem hlt] at hi
     cases hi
     obtain ⟨v,e,dv⟩:=d.get (List.getElem?_eq_getElem hlt)
     refine ⟨rfl,v,?_,dv.mono (aq (af.refl _) λ_ z=>z.elim id λ⟨_,z⟩=>(nomatch z))⟩
     rw [List.getElem?_append_left (by simpa [hl] using hlt),List.getElem?_map,e]
     rfl
   · rw [List.getElem?_append_right (by simpa using hlt),List.getElem?_replicate] at hi
     split at hi
     · cases hi; rfl
     · cases hi
 · obtain rfl:=(h:r=_)
   exact q .non H' [] S.same eH (gu .non)
 · obtain rfl:=(h:s=r)
   exact q v H' bs e hf z
theorem m8 {K:PySem.W.Frag} {Φ:List D->Sl->Prop} (hΦ:∀ ns:List Int,ns.length<=63->Φ [.lst (ns.map .int)] (.d (.bl true))) (H:Hp) (a:Addr) (ns:List Int) (hl:ns.length<=63) (hS:SqL K H a (ns.map V.int)):spD K Φ [.ref a] H (λv _=>v=.bl true) λ_ _ _=>False:=by
 have hh:hd H (λ_=>False)=H:=by funext b; unfold hd; rw [if_neg id]
 refine ⟨λ_=>False,_,_,λ_ z=>z.elim,.cons (.lst (vs:=ns.map V.int) (by rw [hh]; exact hS) ?_) .nil,hΦ ns hl,λv H' bs _ _ h=>?_⟩
 · clear hl hS
   induction ns with
   | nil=>exact .nil
   | cons n ns ih=>exact .cons .int ih
 · obtain ⟨_,u,e,d⟩:=h
   cases e
   cases d
   rfl
end
end Hy
namespace Hy
open PySem PySem.Spec PyProof.Rows L2
open Ev (D Den ax aQ bw ao aF aC)
section
variable {X:Cx} {C:Bool} {τ:List Sl} {x y z:D} {a b e:Expr} {es:List Expr} {pos p:Pos} {k:Nat} {s:Sl} {ds:List D} {i j:Int}
theorem fY {K:PySem.W.Frag} {H:Hp}:∀ {vs:List V} {ns:List Int},ax K H vs (ns.map .int)->vs=ns.map V.int
 | _,[],h=>by cases h; rfl
 | _,n :: ns,h=>by
   cases h with
   | cons d r=>cases d; rw [fY r]; rfl
theorem fG:∀ {ns:List Int} {us:List Value},Vals (ns.map V.int) us->∃ xs:List (Int × Tok),us=xs.map (λp=>Value.int p.1 p.2)/\xs.map (·.1)=ns
 | [],_,h=>by cases h; exact ⟨[],rfl,rfl⟩
 | n :: ns,_,h=>by
   cases h with
   | cons rv rs=>
     obtain ⟨xs,rfl,rfl⟩:=fG rs
     obtain ⟨t,rfl⟩:=(show ∃ t,_=Value.int n t from rv)
     exact ⟨(n,t) :: xs,rfl,rfl⟩
theorem mj (hc:X.calm=true):df X (.builtin "sum") (λxs H Q=>∃ (p:Addr) (ns:List Int),xs=[.ref p]/\SqL X.K H p (ns.map V.int)/\Q (.int ns.sum) H):=by
 intro pins s σ H xs us Q I r q
 obtain ⟨p,ns,rfl,h,q⟩:=q
 obtain ⟨u,rfl,ru⟩:∃ u,us=[u]/\RelV (.ref p) u:=by
   cases r with
   | cons r1 r=>cases r; exact ⟨_,rfl,r1⟩
 cases (show u=Value.ref _ from ru)
 obtain ⟨its,rv,pl,hz⟩:=I.list h
 obtain ⟨xs,rfl,hx⟩:=fG rv
 refine sum_intListG (xs:=xs.toArray) (I.ok.hd hc) (by have:=pl.isList; simpa [intItems] using this) λh' tk t' k=>?_
 refine ⟨.int ns.sum,H,I.kept k,⟨t',?_⟩,q⟩
 rw [List.size_toArray,preSum_eq,List.take_of_length_le (by simp),hx]
theorem ox (hc:X.calm=true) (ns:List Int) {xs:List D} (hx:xs=ns.map .int):jj X (.builtin "sum") [.lst xs] (.d (.int ns.sum)):=⟨_,mj hc,λM vs H Q _ d q=>by
 subst hx
 cases d with
 | cons d r=>
   cases r
   cases d with
   | lst h r=>
     cases fY r
     exact ⟨_,_,rfl,aC aD h,q _ H [] (af.refl _) eH (gu .int)⟩⟩
theorem nX:OpR X (binaryOp .Add) (λx y H Q=>∃ l b xs zs,x=.ref l/\y=.ref b/\SqL X.K H l xs/\SqL X.K H b zs/\xs.length + zs.length<=sizeLine/\∀ p,H p=none->Q (.ref p) (upd H p (.lst (xs++zs)))):=by
 intro pins s σ H x y v u Q I rx ry h
 obtain ⟨l,b,xs,zs,rfl,rfl,hH,hB,hz,q⟩:=h
 cases rx
 cases ry
 obtain ⟨its,r,pl,_⟩:=I.list hH
 obtain ⟨its2,r2,pl2,_⟩:=I.list hB
 have hl:=r.length
 have hl2:=r2.length
 obtain ⟨⟨cls,dd,data,sl⟩,ho,hc,n,hd⟩:=pl.isList
 obtain ⟨⟨cls2,dd2,data2,sl2⟩,ho2,hc2,n2,hd2⟩:=pl2.isList
 simp only at hc hd hc2 hd2
 subst hc hd hc2 hd2
 have e:its.toArray++its2.toArray=(its++its2).toArray:=by simp
 refine concat_meets ⟨_,ho,rfl⟩ ⟨_,ho2,rfl⟩ noFill_list_add seq_list_add PySem.F.slot_list_add PySem.F.entry_list_add (PySem.F.args_list_add_2 _ _) (list_addW l b its.toArray its2.toArray n n2 dd dd2 sl sl2 (by rw [List.size_toArray,List.size_toArray]; omega)) ⟨ho,ho2,?_⟩
 rw [e]
 exact ⟨.ref _,_,I.rJ (t':=s.toks) (r.append r2) (by rw [List.length_append]; omega),rfl,q _ I.fresh⟩
theorem fX {xs ys:List D} (ha:PE X a (dE X.K C τ (.d (.lst xs)))) (hb:PE X b (dE X.K C τ (.d (.lst ys)))) (hl:xs.length + ys.length < 1000000):PE X (.BinOp a .Add b pos) (dE X.K C τ (.o (xs++ys))):=peW (cy nX ha hb) λσ H Q ⟨A,H₀,B,S,k⟩=>
 aP S λv H1 e1 d1=>aP (S.mono e1) λw H2 e2 d2=>by
   cases d1 with
   | lst h1 r1=>cases d2 with
     | lst h2 r2=>
       refine ⟨_,_,_,_,rfl,rfl,aC (aD.trans e2) h1,aC aD h2,by rw [r1.length,r2.length]; exact Nat.le_of_lt (Nat.lt_trans hl (by decide)),λp hp=>?_⟩
       obtain ⟨z1,z2,z3⟩:=jM (K:=X.K) hp ((r1.mono (aq e2 λ_ z=>z)).append r2)
       exact k _ _ [p] (e1.trans (e2.trans z1)) (λb hb=>⟨(e1.trans e2).free (z2 b hb).1,(z2 b hb).2⟩) z3
theorem mkL (h:i.natAbs < 2 ^ 60):aQ i j:=.inl (by
 rcases Nat.eq_zero_or_pos i.natAbs with z | z
 · rw [z]; decide
 · exact Nat.lt_trans ((Nat.log2_lt (by omega)).mpr h) (by decide))
theorem mkR (h:j.natAbs < 2 ^ 60):aQ i j:=.inr (.inl (by
 rcases Nat.eq_zero_or_pos j.natAbs with z | z
 · rw [z]; decide
 · exact Nat.lt_trans ((Nat.log2_lt (by omega)).mpr h) (by decide)))
theorem mkD (h0:j ≠ 0) (h:j.natAbs < 2 ^ 62):bw j:=⟨h0,Nat.lt_trans ((Nat.log2_lt (by omega)).mpr h) (by decide)⟩
end
theorem aO {α:Type} {xs:List α} {i:Nat} {x:α} (h:xs[i]?=some x):atI xs (i:Int)=some x:=by
 unfold atI ixN
 have:=(List.getElem?_eq_some_iff.mp h).1
 rw [if_pos (by omega),if_pos (by omega)]
 simpa using h
theorem bo {ns:List Int} {i:Int} (h0:0<=i) (h:i.toNat < ns.length):atI (ns.map D.int) i=some (.int (ns.getD i.toNat 0)):=by
 obtain ⟨n,rfl⟩:=Int.eq_ofNat_of_zero_le h0
 exact aO (by
   have h:n < ns.length:=h
   simp [h])
theorem dQ {xs:List D} (n:Nat):cutD xs none (some (n:Int))=xs.take n:=by
 unfold cutD
 rw [HT.fq,HT.i0,List.drop_zero,Nat.sub_zero]
 rcases Nat.le_total n xs.length with h | h
 · rw [Nat.min_eq_left h]
 · rw [Nat.min_eq_right h,List.take_of_length_le (Nat.le_refl _),List.take_of_length_le h]
theorem ny {xs:List D} (m n:Nat):cutD xs (some (m:Int)) (some (n:Int))=(xs.take n).drop m:=by
 unfold cutD
 rw [HT.fq,HT.fq]
 rw [<- List.drop_take]
 rcases Nat.le_total n xs.length with h | h
 · rw [Nat.min_eq_left h]
   rcases Nat.le_total m xs.length with h' | h'
   · rw [Nat.min_eq_left h']
   · rw [Nat.min_eq_right h',List.drop_eq_nil_of_le (by simp; omega),List.drop_eq_nil_of_le (by simp; omega)]
 · rw [Nat.min_eq_right h,List.take_of_length_le (Nat.le_refl _),List.take_of_length_le h]
   rcases Nat.le_total m xs.length with h' | h'
   · rw [Nat.min_eq_left h']
   · rw [Nat.min_eq_right h',List.drop_eq_nil_of_le (Nat.le_refl _),List.drop_eq_nil_of_le h']
theorem getD_none {α:Type} {xs:List α} {i:Nat} {d:α} (h:xs.length<=i):xs.getD i d=d:=by simp [List.getD,h]
theorem ex1 {α:Type} {p:α->Prop} {a:α} (h:p a):∃ a,p a:=⟨a,h⟩
theorem ex2 {α:Type} {p:α->α->Prop} {a b:α} (h:p a b):∃ a b,p a b:=⟨a,b,h⟩
theorem ex3 {α:Type} {p:α->α->α->Prop} {a b c:α} (h:p a b c):∃ a b c,p a b c:=⟨a,b,c,h⟩
end Hy
namespace Hy
open PySem PySem.Spec PyProof.Rows L2
open Ev (D Den ax)
noncomputable def Dfn (K:PySem.W.Frag) (x:Str) (st:Stmt) (f:Addr):Prop:=PySem.W.nsIn K mainGlobals x=some (some (.ref f))/\(∃ oc od kV dc pm an cd ct sl,K.lookup f=some ⟨oc,od,.func (PySem.W.fnOf x x (ck st) (bq st) (ai st) .none kV dc pm an cd ct),sl⟩/\PySem.W.codeIn K cd x=true)/\PySem.W.keepIn K (.ref f)=true
noncomputable def BdA (x:Str) (st:Stmt) (ps:List Str):Prop:=∀ (kV dc pm:Value) (an:Option Addr) (cd ct:Value) (us:List Value),us.length=ps.length->bindArgs (PySem.W.fnOf x x (ck st) (bq st) (ai st) .none kV dc pm an cd ct) ⟨us,[]⟩=pure (ps.zip us)
noncomputable def nsL (K:PySem.W.Frag):List Str->Prop
 | []=>True
 | x :: r=>PySem.W.nsIn K mainGlobals x=some none/\nsL K r
section
variable {P:Program} {w:World} {K:PySem.W.Frag} {h:Heap} {mg:Str->Option Value} {base:Heap} {x:Str} {st:Stmt} {f:Addr} {ps:List Str} {k:Nat} {Φ:List D->Sl->Prop}
theorem Dfn.of {oc:Value} {od an:Option Addr} {kV dc pm cd ct:Value} {sl:Array (Option Value)} (a:PySem.W.nsIn K mainGlobals x=some (some (.ref f))) (l:K.lookup f=some ⟨oc,od,.func (PySem.W.fnOf x x (ck st) (bq st) (ai st) .none kV dc pm an cd ct),sl⟩) (c:PySem.W.codeIn K cd x=true) (k:PySem.W.keepIn K (.ref f)=true):Dfn K x st f:=⟨a,⟨_,_,_,_,_,_,_,_,_,l,c⟩,k⟩
theorem nsL.none (X:K.In h) (G:h.Ns mainGlobals mg):∀ {l:List Str},nsL K l->∀ x ∈ l,mg x=none
 | _ :: _,z,x,m=>by
   rcases List.mem_cons.mp m with rfl | m
   · exact PySem.W.mg_none_of X G z.1
   · exact nsL.none X G z.2 x m
theorem Dfn.fn (d:Dfn K x st f) (X:K.In h) (G:h.Ns mainGlobals mg) (b:BdA x st ps):∃ fd,Fun K x x st f fd/\mg x=some (.ref f)/\PySem.W.keepIn K (.ref f)=true/\Binds K fd ps []:=by
 obtain ⟨a,⟨oc,od,kV,dc,pm,an,cd,ct,sl,l,c'⟩,q⟩:=d
 have F:=l9 l c' q
 exact ⟨_,F,PySem.W.mg_of X G a,q,F.binds (b kV dc pm an cd ct)⟩
theorem Dfn.cal (d:Dfn K x st f) (X:K.In h) (G:h.Ns mainGlobals mg) (b:BdA x st ps) (o:∀ fd,Fun K x x st f fd->aL P w K mg base CX0 k f fd ps (spD K Φ)):Cal P w K mg base k x Φ:=by
 obtain ⟨fd,F,h1,h2,h3⟩:=d.fn X G b
 exact ⟨f,fd,ps,o fd F,h1,h2,h3⟩
end
theorem bd1 {Q:List Value->Prop} (h:∀ a,Q [a]):∀ us:List Value,us.length=1->Q us:=λus e=>match us,e with | [a],_=>h a
theorem bd2 {Q:List Value->Prop} (h:∀ a b,Q [a,b]):∀ us:List Value,us.length=2->Q us:=λus e=>match us,e with | [a,b],_=>h a b
theorem bd3 {Q:List Value->Prop} (h:∀ a b c,Q [a,b,c]):∀ us:List Value,us.length=3->Q us:=λus e=>match us,e with | [a,b,c],_=>h a b c
theorem bd4 {Q:List Value->Prop} (h:∀ a b c d,Q [a,b,c,d]):∀ us:List Value,us.length=4->Q us:=λus e=>match us,e with | [a,b,c,d],_=>h a b c d
end Hy
namespace Hy
open PySem PySem.Spec PyProof.Rows L2
open Ev (D Den ax ao aF aC)
noncomputable def fS:List Nat->Nd->Option Nd
 | [],t=>some t
 | i :: p,.l xs=>(xs[i]?).bind (fS p)
 | i :: p,.t xs=>(xs[i]?).bind (fS p)
 | _ :: _,.d _=>none
noncomputable def cv:List Nat->Nd->Nd->Nd
 | [],_,n=>n
 | i :: p,.l xs,n=>.l (xs.set i (cv p (xs.getD i (.d .non)) n))
 | i :: p,.t xs,n=>.t (xs.set i (cv p (xs.getD i (.d .non)) n))
 | _ :: _,.d x,_=>.d x
noncomputable def bR (H:Hp):List Nat->V->V->Prop
 | [],u,v=>v=u
 | i :: p,u,v=>∃ a vs w,u=.ref a/\(H a=some (.lst vs)\/H a=some (.tup vs))/\vs[i]?=some w/\bR H p w v
theorem bR.mono {H H':Hp} (e:af H H'):∀ {p:List Nat} {u v:V},bR H p u v->bR H' p u v
 | [],_,_,h=>h
 | _ :: _,_,_,⟨a,vs,w,h1,h2,h3,h4⟩=>⟨a,vs,w,h1,h2.elim (λz=>.inl (e _ _ z)) (λz=>.inr (e _ _ z)),h3,h4.mono e⟩
theorem bR.snoc {H:Hp} {i:Nat} {a:Addr} {vs:List V} {w:V}:∀ {p:List Nat} {u:V},bR H p u (.ref a)->(H a=some (.lst vs)\/H a=some (.tup vs))->vs[i]?=some w->bR H (p++[i]) u w
 | [],_,h,h1,h2=>⟨a,vs,w,h.symm,h1,h2,rfl⟩
 | _ :: _,_,⟨b,us,x,z1,z2,z3,z4⟩,h1,h2=>⟨b,us,x,z1,z2,z3,z4.snoc h1 h2⟩
section
variable {K:PySem.W.Frag} {G H:Hp}
theorem aA.length:∀ {vs:List V} {bs:List Addr} {xs:List Nd},aA K G H vs bs xs->vs.length=xs.length
 | _,_,_,.nil=>rfl
 | _,_,_,.cons _ r=>congrArg (· + 1) r.length
theorem aA.part:∀ {vs:List V} {bs:List Addr} {xs:List Nd} {i:Nat} {c:Nd},aA K G H vs bs xs->xs[i]?=some c->∃ v l m r,vs[i]?=some v/\bs=l++(m++r)/\aT K G H v m c /\
   ∀ {G' H':Hp} {m':List Addr} {c':Nd},af G G'->(∀ b,b ∈ l\/b ∈ r->H' b=H b)->aT K G' H' v m' c'->aA K G' H' vs (l++(m'++r)) (xs.set i c')
 | _,_,_,_,_,.nil,e=>by cases e
 | _,_,_,0,_,.cons (b1:=b1) (b2:=b2) h r,e=>by
   cases e
   exact ⟨_,[],b1,b2,rfl,rfl,h,λg e h'=>by rw [List.nil_append]; exact .cons h' (r.frame g λb hb=>e b (.inr hb))⟩
 | _,_,_,i + 1,c,.cons (b1:=b1) h r,e=>by
   obtain ⟨v,l,m,q,h1,h2,h3,h4⟩:=aA.part (i:=i) (c:=c) r (by simpa using e)
   refine ⟨v,b1++l,m,q,by simpa using h1,by rw [h2,List.append_assoc],h3,λ{G' H' m' c'} g e h'=>?_⟩
   rw [List.append_assoc]
   exact .cons (h.frame g λb hb=>e b (.inl (List.mem_append_left _ hb))) (h4 g (λb hb=>e b (hb.elim (λz=>.inl (List.mem_append_right _ z)) .inr)) h')
theorem aT.focus:∀ (p:List Nat) {u:V} {bs:List Addr} {t c:Nd},aT K G H u bs t->fS p t=some c->∃ v l m r,bR H p u v/\bs=l++(m++r)/\aT K G H v m c /\
   ∀ {G' H':Hp} {m':List Addr} {c':Nd},af G G'->(∀ b,b ∈ l\/b ∈ r->H' b=H b)->aT K G' H' v m' c'->aT K G' H' u (l++(m'++r)) (cv p t c')
 | [],u,bs,tr,c,h,e=>by
   cases e
   exact ⟨u,[],bs,[],rfl,by simp,h,λg _ h'=>by simpa [cv] using h'⟩
 | i :: p,_,_,.l xs,c,.l (a:=a) (bs:=bs) hH r,e=>by
   rw [fS] at e
   cases ei:xs[i]? with
   | none=>rw [ei] at e; cases e
   | some x=>
     rw [ei] at e
     obtain ⟨v,l,m,q,h1,h2,h3,h4⟩:=r.part ei
     obtain ⟨w,l',m',q',g1,g2,g3,g4⟩:=aT.focus p h3 e
     refine ⟨w,a :: (l++l'),m',q'++q,⟨a,_,v,rfl,.inl hH,h1,g1⟩,by rw [h2,g2]; simp,g3,λ{G' H' m2 c2} g e2 h'=>?_⟩
     have k1:=g4 g (λb hb=>e2 b (hb.elim (λz=>.inl (List.mem_cons_of_mem _ (List.mem_append_right _ z))) λz=>.inr (List.mem_append_left _ z))) h'
     have k2:=h4 g (λb hb=>e2 b (hb.elim (λz=>.inl (List.mem_cons_of_mem _ (List.mem_append_left _ z))) λz=>.inr (List.mem_append_right _ z))) k1
     rw [cv,show xs.getD i (.d .non)=x by simp [List.getD,ei]]
     have k3:=aT.l (G:=G') (K:=K) (a:=a) (by rw [e2 a (.inl (List.mem_cons_self ..))]; exact hH) k2
     simpa using k3
 | i :: p,_,_,.t xs,c,.t (a:=a) (bs:=bs) hH r,e=>by
   rw [fS] at e
   cases ei:xs[i]? with
   | none=>rw [ei] at e; cases e
   | some x=>
     rw [ei] at e
     obtain ⟨v,l,m,q,h1,h2,h3,h4⟩:=r.part ei
     obtain ⟨w,l',m',q',g1,g2,g3,g4⟩:=aT.focus p h3 e
     refine ⟨w,a :: (l++l'),m',q'++q,⟨a,_,v,rfl,.inr hH,h1,g1⟩,by rw [h2,g2]; simp,g3,λ{G' H' m2 c2} g e2 h'=>?_⟩
     have k1:=g4 g (λb hb=>e2 b (hb.elim (λz=>.inl (List.mem_cons_of_mem _ (List.mem_append_right _ z))) λz=>.inr (List.mem_append_left _ z))) h'
     have k2:=h4 g (λb hb=>e2 b (hb.elim (λz=>.inl (List.mem_cons_of_mem _ (List.mem_append_left _ z))) λz=>.inr (List.mem_append_right _ z))) k1
     rw [cv,show xs.getD i (.d .non)=x by simp [List.getD,ei]]
     have k3:=aT.t (G:=G') (K:=K) (a:=a) (by rw [e2 a (.inl (List.mem_cons_self ..))]; exact hH) k2
     simpa using k3
theorem bR.det:∀ {p:List Nat} {u v w:V},bR H p u v->bR H p u w->v=w
 | [],_,_,_,h,h'=>h.trans h'.symm
 | _ :: _,_,_,_,⟨a,vs,x,h1,h2,h3,h4⟩,⟨b,us,y,g1,g2,g3,g4⟩=>by
   rw [h1] at g1
   cases g1
   have e:vs=us:=by
     rcases h2 with h2 | h2 <;> rcases g2 with g2 | g2 <;> rw [h2] at g2 <;> cases g2 <;> rfl
   subst e
   rw [h3] at g3
   cases g3
   exact h4.det g4
theorem a8.frame {G' H':Hp} (g:af G G') {v:Option V} {bs:List Addr}:∀ {s:Sl},(∀ b ∈ bs,H' b=H b)->a8 K G H v bs s->a8 K G' H' v bs s
 | .un,_,h=>h
 | .d _,_,⟨h,u,e1,h2⟩=>⟨h,u,e1,h2.mono g⟩
 | .o _,e,⟨a,vs,h1,h2,h3,h4⟩=>⟨a,vs,h1,h2,by rw [e a (by rw [h1]; exact List.mem_cons_self ..)]; exact h3,h4.mono g⟩
 | .n _,e,⟨h0,u,h1,h2⟩=>⟨h0,u,h1,h2.frame g e⟩
 | .x E,e,⟨a,o,h1,h2,h3,h4⟩=>⟨a,o,h1,h2,by rw [e a (by rw [h1]; exact List.mem_cons_self ..)]; exact h3,E.mono g h4⟩
theorem jP {l r b0 b1:List Addr} {a:Addr} (h:(l++((a :: b0)++r)).Nodup) (h1:b1.Nodup) (hb:∀ b ∈ b1,b ∈ b0\/(b ∉ l/\b ≠ a/\b ∉ r)):(l++((a :: b1)++r)).Nodup:=by
 obtain ⟨z1,z2,z3⟩:=List.nodup_append.mp h
 rw [List.cons_append] at z2
 obtain ⟨z4,z5⟩:=List.nodup_cons.mp z2
 obtain ⟨z6,z7,z8⟩:=List.nodup_append.mp z5
 refine List.nodup_append.mpr ⟨z1,?_,λx hx y hy=>?_⟩
 · rw [List.cons_append]
   refine List.nodup_cons.mpr ⟨λz=>?_,List.nodup_append.mpr ⟨h1,z7,λx hx y hy=>?_⟩⟩
   · rcases List.mem_append.mp z with z | z
     · rcases hb a z with q | q
       · exact z4 (List.mem_append_left _ q)
       · exact q.2.1 rfl
     · exact z4 (List.mem_append_right _ z)
   · rcases hb x hx with q | q
     · exact z8 x q y hy
     · exact λe=>q.2.2 (e ▸ hy)
 · rw [List.cons_append] at hy
   rcases List.mem_cons.mp hy with q | q
   · exact z3 x hx y (by rw [q]; exact List.mem_append_left _ (List.mem_cons_self ..))
   · rcases List.mem_append.mp q with q | q
     · rcases hb y q with q | q
       · exact z3 x hx y (List.mem_append_left _ (List.mem_cons_of_mem _ q))
       · exact λe=>q.1 (e ▸ hx)
     · exact z3 x hx y (List.mem_append_right _ q)
theorem Sta.putN {A:Addr->Prop} {H₀:Hp} {τ:List Sl} {B:Nat->List Addr} {σ:L2.St} {i:Nat} {t:Nd} {p:List Nat} {xs:List Nd} (S:Sta K A H₀ τ B σ H) (hi:τ[i]?=some (.n t)) (hp:fS p t=some (.l xs)) :
   ∃ u a vs bs0,(σ[i]?).join=some u/\bR H p u (.ref a)/\H a=some (.lst vs)/\aA K (hd H (own A B)) H vs bs0 xs/\bs0.Nodup/\own A B a/\(∀ b ∈ bs0,own A B b/\b ≠ a) /\
     ∀ {H1:Hp} {vs':List V} {bs1:List Addr} {xs':List Nd},af H H1->bs1.Nodup->(∀ b ∈ bs1,b ∈ bs0\/(H b=none/\∃ o,H1 b=some o))->aA K (hd (upd H1 a (.lst vs')) λb=>own A B b\/b ∈ bs1) (upd H1 a (.lst vs')) vs' bs1 xs' ->
       ∃ B',Sta K A H₀ (τ.set i (.n (cv p t (.l xs')))) B' σ (upd H1 a (.lst vs')):=by
 obtain ⟨nd,u,eu,ok⟩:=S.sl i _ hi
 obtain ⟨v,l,m,r,pv,hbs,okc,back⟩:=ok.focus p hp
 cases okc with
 | @l a vs bs0 _ hH r0=>
   have mem:∀ b,b ∈ l\/b=a\/b ∈ bs0\/b ∈ r->b ∈ B i:=λb hb=>by
     rw [hbs]
     rcases hb with z | z | z | z
     · exact List.mem_append_left _ z
     · exact List.mem_append_right _ (by rw [z]; exact List.mem_append_left _ (List.mem_cons_self ..))
     · exact List.mem_append_right _ (List.mem_append_left _ (List.mem_cons_of_mem _ z))
     · exact List.mem_append_right _ (List.mem_append_right _ z)
   have nd':=nd
   rw [hbs] at nd'
   obtain ⟨n1,n2,n3⟩:=List.nodup_append.mp nd'
   rw [List.cons_append] at n2
   obtain ⟨n4,n5⟩:=List.nodup_cons.mp n2
   obtain ⟨n6,_,_⟩:=List.nodup_append.mp n5
   have ha:own A B a:=.inr ⟨i,mem a (.inr (.inl rfl))⟩
   refine ⟨u,a,vs,bs0,eu,pv,hH,r0,n6,ha,λb hb=>⟨.inr ⟨i,mem b (.inr (.inr (.inl hb)))⟩,λz=>n4 (z ▸ List.mem_append_left _ hb)⟩,λ{H1 vs' bs1 xs'} e h1 hb hx=>?_⟩
   have keep:∀ b o,b ≠ a->H b=some o->upd H1 a (.lst vs') b=H b:=λb o ne h=>by rw [ak ne,e _ _ h,h]
   have la:∀ b,b ∈ l\/b ∈ r->b ≠ a:=λb hb z=>by
     rcases hb with q | q
     · exact n3 b q a (List.mem_append_left _ (List.mem_cons_self ..)) z
     · exact n4 (z ▸ List.mem_append_right _ q)
   have fresh:∀ b ∈ bs1,b ∈ bs0\/(b ∉ l/\b ≠ a/\b ∉ r):=λb hb1=>by
     rcases hb b hb1 with q | ⟨q,_⟩
     · exact .inl q
     · have no:∀ c,c ∈ B i->b ≠ c:=λc hc z=>by obtain ⟨o,hc⟩:=S.bd i c hc; rw [<- z,q] at hc; cases hc
       exact .inr ⟨λz=>no b (mem b (.inl z)) rfl,no a (mem a (.inr (.inl rfl))),λz=>no b (mem b (.inr (.inr (.inr z)))) rfl⟩
   have sub:∀ b,own A (upB B i (l++((a :: bs1)++r))) b->own A B b\/b ∈ bs1:=λb z=>by
     rcases z with z | ⟨j,z⟩
     · exact .inl (.inl z)
     · rcases aK z with ⟨_,z⟩ | ⟨_,z⟩
       · rcases List.mem_append.mp z with z | z
         · exact .inl (.inr ⟨i,mem b (.inl z)⟩)
         · rw [List.cons_append] at z
           rcases List.mem_cons.mp z with z | z
           · exact .inl (z ▸ ha)
           · rcases List.mem_append.mp z with z | z
             · exact .inr z
             · exact .inl (.inr ⟨i,mem b (.inr (.inr (.inr z)))⟩)
       · exact .inl (.inr ⟨j,z⟩)
   have sm:af (hd H (own A B)) (hd (upd H1 a (.lst vs')) (own A (upB B i (l++((a :: bs1)++r))))):=λb o z=>by
     obtain ⟨z1,z2⟩:=aj.mp z
     refine aj.mpr ⟨λy=>?_,by rw [keep b o (λq=>z1 (q ▸ ha)) z2]; exact z2⟩
     rcases sub b y with y | y
     · exact z1 y
     · rcases hb b y with q | ⟨q,_⟩
       · exact z1 (.inr ⟨i,mem b (.inr (.inr (.inl q)))⟩)
       · rw [q] at z2; cases z2
   have hs:af H₀ (upd H1 a (.lst vs')):=λb o z=>by
     have f0:=S.fr i a (mem a (.inr (.inl rfl)))
     rw [ak (λq=>by rw [q,f0] at z; cases z)]
     exact e _ _ (S.same _ _ z)
   refine ⟨upB B i (l++((a :: bs1)++r)),hs,by rw [List.length_set,S.len],λj s hj=>?_,λj b z=>?_,λj k b z1 z2=>?_,S.ad,λj b z=>?_⟩
   · by_cases ej:j=i
     · subst ej
       have hl:=(List.getElem?_eq_some_iff.mp hi).1
       rw [List.getElem?_set_self hl] at hj
       cases hj
       unfold upB
       rw [if_pos rfl]
       refine ⟨jP nd' h1 fresh,u,eu,back sm (λb hb=>?_) (.l aB (hx.frame (aq (af.refl _) sub) λ_ _=>rfl))⟩
       obtain ⟨o,q⟩:=S.bd j b (mem b (hb.elim .inl λz=>.inr (.inr (.inr z))))
       exact keep b o (la b hb) q
     · rw [List.getElem?_set_ne (λz=>ej z.symm)] at hj
       unfold upB
       rw [if_neg ej]
       refine (S.sl j s hj).frame sm λb hb=>?_
       obtain ⟨o,q⟩:=S.bd j b hb
       exact keep b o (λz=>ej (S.uq j i a (z ▸ hb) (mem a (.inr (.inl rfl))))) q
   · rcases aK z with ⟨_,z⟩ | ⟨_,z⟩
     · rcases sub b (.inr ⟨i,by unfold upB; rw [if_pos rfl]; exact z⟩) with y | y
       · rcases List.mem_append.mp z with z | z
         · exact S.fr i b (mem b (.inl z))
         · rw [List.cons_append] at z
           rcases List.mem_cons.mp z with z | z
           · exact S.fr i b (mem b (.inr (.inl z)))
           · rcases List.mem_append.mp z with z | z
             · rcases hb b z with q | ⟨q,_⟩
               · exact S.fr i b (mem b (.inr (.inr (.inl q))))
               · exact S.same.free q
             · exact S.fr i b (mem b (.inr (.inr (.inr z))))
       · rcases hb b y with q | ⟨q,_⟩
         · exact S.fr i b (mem b (.inr (.inr (.inl q))))
         · exact S.same.free q
     · exact S.fr j b z
   · have inB:∀ {c},c ∈ l++((a :: bs1)++r)->c ∈ B i\/H c=none:=λ{c} z=>by
       rcases List.mem_append.mp z with z | z
       · exact .inl (mem c (.inl z))
       · rw [List.cons_append] at z
         rcases List.mem_cons.mp z with z | z
         · exact .inl (mem c (.inr (.inl z)))
         · rcases List.mem_append.mp z with z | z
           · rcases hb c z with q | ⟨q,_⟩
             · exact .inl (mem c (.inr (.inr (.inl q))))
             · exact .inr q
           · exact .inl (mem c (.inr (.inr (.inr z))))
     have cross:∀ {j},j ≠ i->b ∈ B j->b ∈ l++((a :: bs1)++r)->False:=λ{j} nj y1 y2=>by
       rcases inB y2 with q | q
       · exact nj (S.uq j i b y1 q)
       · obtain ⟨o,w⟩:=S.bd j b y1; rw [q] at w; cases w
     rcases aK z1 with ⟨e1,y1⟩ | ⟨e1,y1⟩ <;> rcases aK z2 with ⟨e2,y2⟩ | ⟨e2,y2⟩
     · exact e1.trans e2.symm
     · exact (cross e2 y2 y1).elim
     · exact (cross e1 y1 y2).elim
     · exact S.uq j k b y1 y2
   · rcases aK z with ⟨_,z⟩ | ⟨_,z⟩
     · by_cases e':b=a
       · exact ⟨_,by rw [e']; exact aB⟩
       · rw [ak e']
         have old:b ∈ B i->∃ o,H1 b=some o:=λq=>let ⟨o,w⟩:=S.bd i b q; ⟨o,e _ _ w⟩
         rcases List.mem_append.mp z with z | z
         · exact old (mem b (.inl z))
         · rw [List.cons_append] at z
           rcases List.mem_cons.mp z with z | z
           · exact absurd z e'
           · rcases List.mem_append.mp z with z | z
             · rcases hb b z with q | ⟨_,q⟩
               · exact old (mem b (.inr (.inr (.inl q))))
               · exact q
             · exact old (mem b (.inr (.inr (.inr z))))
     · by_cases e':b=a
       · exact ⟨_,by rw [e']; exact aB⟩
       · rw [ak e']
         obtain ⟨o,w⟩:=S.bd j b z
         exact ⟨o,e _ _ w⟩
end
end Hy
namespace Hy
open PySem PySem.Spec PyProof.Rows L2
open Ev (D Den ax ao aF aC)
noncomputable def dP (K:PySem.W.Frag) (τ:List Sl) (i:Nat) (p:List Nat):TE:=λσ H Q=>∃ A H₀ B,Sta K A H₀ τ B σ H/\∀ u v H',(σ[i]?).join=some u->af H H'->bR H' p u v->Q v H'
noncomputable def kN:Sl->Option Nd
 | .un=>none
 | .d x=>some (.d x)
 | .o xs=>some (.l (xs.map .d))
 | .n t=>some t
 | .x _=>none
section
variable {K:PySem.W.Frag} {G H:Hp}
theorem l5:∀ {vs:List V} {xs:List D},ax K G vs xs->aA K G H vs [] (xs.map .d)
 | _,_,.nil=>.nil
 | _,_,.cons h r=>.cons (b1:=[]) (b2:=[]) (.d h) (l5 r)
theorem a8.nd {v:V} {bs:List Addr} {s:Sl} {c:Nd} (h:a8 K G H (some v) bs s) (e:kN s=some c):aT K G H v bs c/\bs.Nodup:=by
 cases s with
 | un=>cases e
 | d x=>cases e; obtain ⟨rfl,u,eu,d⟩:=h; cases eu; exact ⟨.d d,List.nodup_nil⟩
 | o xs=>cases e; obtain ⟨a,vs,rfl,e2,h3,h4⟩:=h; cases e2; exact ⟨.l h3 (l5 h4),by simp⟩
 | n t=>cases e; obtain ⟨h0,u,eu,h2⟩:=h; cases eu; exact ⟨h2,h0⟩
 | x E=>cases e
theorem aA.snoc {v:V} {c:Nd} {b2:List Addr} (h:aT K G H v b2 c):∀ {vs:List V} {bs:List Addr} {xs:List Nd},aA K G H vs bs xs->aA K G H (vs++[v]) (bs++b2) (xs++[c])
 | _,_,_,.nil=>by have:=aA.cons h .nil; rw [List.append_nil] at this; exact this
 | _,_,_,.cons h1 r=>by rw [List.append_assoc]; exact .cons h1 (aA.snoc h r)
theorem aA.put {v:V} {c:Nd} {b2:List Addr} (h:aT K G H v b2 c):∀ {vs:List V} {bs:List Addr} {xs:List Nd} (j:Nat),j < xs.length->aA K G H vs bs xs->∃ l r,(∀ b,b ∈ l\/b ∈ r->b ∈ bs)/\(bs.Nodup->(l++r).Nodup)/\aA K G H (vs.set j v) (l++(b2++r)) (xs.set j c)
 | _,_,_,_,hj,.nil=>absurd hj (Nat.not_lt_zero _)
 | _,_,_,0,_,.cons (b1:=b1) (b2:=b3) h1 r=>⟨[],b3,λb hb=>List.mem_append_right _ (hb.elim (λz=>nomatch z) id),λn=>(List.nodup_append.mp n).2.1,by rw [List.nil_append]; exact .cons h r⟩
 | _,_,_,j + 1,hj,.cons (b1:=b1) (b2:=b3) h1 r=>by
   obtain ⟨l,q,z1,z2,z3⟩:=aA.put h j (by simpa using hj) r
   refine ⟨b1++l,q,λb hb=>?_,λn=>?_,by rw [List.append_assoc]; exact .cons h1 z3⟩
   · rcases hb with hb | hb
     · exact (List.mem_append.mp hb).elim (List.mem_append_left _) λz=>List.mem_append_right _ (z1 b (.inl z))
     · exact List.mem_append_right _ (z1 b (.inr hb))
   · obtain ⟨n1,n2,n3⟩:=List.nodup_append.mp n
     rw [List.append_assoc]
     refine List.nodup_append.mpr ⟨n1,z2 n2,λx hx y hy=>n3 x hx y (z1 y ?_)⟩
     exact (List.mem_append.mp hy)
theorem Sta.nd {A:Addr->Prop} {H₀:Hp} {τ:List Sl} {B:Nat->List Addr} {σ:L2.St} (S:Sta K A H₀ τ B σ H) {i:Nat} {s:Sl} {c:Nd} (hi:τ[i]?=some s) (hc:kN s=some c):Sta K A H₀ (τ.set i (.n c)) (upB B i (B i)) σ H:=
 S.less (λ_ z=>z) λG' g _=>by
   have q:=S.sl i s hi
   obtain ⟨u,e⟩:∃ u,(σ[i]?).join=some u:=by
     cases s with
     | un=>cases hc
     | d x=>obtain ⟨_,u,e,_⟩:=q; exact ⟨u,e⟩
     | o xs=>obtain ⟨_,_,_,e,_⟩:=q; exact ⟨_,e⟩
     | n t=>obtain ⟨_,u,e,_⟩:=q; exact ⟨u,e⟩
     | x E=>cases hc
   rw [e] at q ⊢
   obtain ⟨q1,q2⟩:=q.nd hc
   exact ⟨q2,u,rfl,q1.frame g λ_ _=>rfl⟩
end
section
variable {X:Cx} {C:Bool} {τ:List Sl} {x y z:D} {a b e o ix:Expr} {es:List Expr} {pos p q:Pos} {k:Nat} {s:Sl} {N:Po} {rest:List Stmt} {i:Nat} {t c:Nd} {pt:List Nat} {xs:List Nd} {j:Int} {m:Nat}
theorem rO (i:Nat) {s:Sl} {c:Nd} (h:PSs X rest (dS X.K (τ.set i (.n c)) N)) (hi:τ[i]?=some s:=by rfl) (hc:kN s=some c:=by rfl):PSs X rest (dS X.K τ N):=kP h λD σ H ⟨A,H₀,B,S,Me⟩=>⟨A,H₀,_,S.nd hi hc,Me⟩
theorem jN (i:Nat) {n:Str} {t:Nd} (h:τ[i]?=some (.n t):=by rfl) (hN:X.N[i]?=some n:=by rfl) (hv:Vis X.env.scope n:=by first | exact Or.inl rfl | exact Or.inr (Or.inl rfl) | exact Or.inr (Or.inr rfl))
   (hd:(n == ("__debug__" : Str))=false:=by decide) (hcd:(n == ("__classdict__" : Str))=false:=by decide):PE X (.Name n pos) (dP X.K τ i []):=peW (cE hN hv hd hcd) λσ H Q ⟨A,H₀,B,S,k⟩=>by
 obtain ⟨_,u,e,_⟩:=S.sl i _ h
 exact ⟨u,slot_of e,k u u H e (af.refl _) rfl⟩
theorem Sta.at {K:PySem.W.Frag} {A:Addr->Prop} {H₀ H:Hp} {τ:List Sl} {B:Nat->List Addr} {σ:L2.St} (S:Sta K A H₀ τ B σ H) (hi:τ[i]?=some (.n t)) (hp:fS pt t=some c):∃ u v m,(σ[i]?).join=some u/\bR H pt u v/\aT K (hd H (own A B)) H v m c/\∀ b ∈ m,b ∈ B i:=by
 obtain ⟨_,u,e,ok⟩:=S.sl i _ hi
 obtain ⟨v,l,m,r,h1,h2,h3,_⟩:=ok.focus pt hp
 exact ⟨u,v,m,e,h1,h3,λb hb=>by rw [h2]; exact List.mem_append_right _ (List.mem_append_left _ hb)⟩
theorem nL {K:PySem.W.Frag} {G H:Hp} {vs:List V} {bs:List Addr} {m:Nat} (r:aA K G H vs bs xs) (hm:m < xs.length):∃ v,vs[m]?=some v:=⟨vs[m]'(by rw [r.length]; exact hm),List.getElem?_eq_getElem _⟩
theorem pT {n m:Nat} {j:Int} (h:ixN n j=some m):m < n:=by
 unfold ixN at h
 split at h
 · split at h
   · cases h; omega
   · cases h
 · split at h
   · cases h; omega
   · cases h
theorem oq (ha:PE X a (dP X.K τ i pt)) (hb:PE X b (dE X.K false τ (.d (.int j)))) (hi:τ[i]?=some (.n t)) (hp:fS pt t=some (.l xs)) (hj:ixN xs.length j=some m) (hs:ip b:=by exact λ_ _=>rfl):PE X (.Subscript a b pos) (dP X.K τ i (pt++[m])):=
 peW (dW kG ha hb hs) λσ H Q ⟨A,H₀,B,S,k⟩=>⟨A,H₀,B,S,λu v H1 eu e1 pv=>aP (S.mono e1) λw H2 e2 d2=>by
   cases d2
   obtain ⟨u',v',m',eu',pv',ok,_⟩:=((S.mono e1).mono e2).at hi hp
   rw [eu] at eu'
   cases eu'
   obtain rfl:=(pv.mono e2).det pv'
   cases ok with
   | @l ad vs _ _ hH r=>
     obtain ⟨x,hx⟩:=nL r (pT hj)
     exact ⟨ad,vs,j,x,rfl,rfl,SqL.of hH,by unfold atI; rw [r.length,hj]; exact hx,k u x H2 eu (e1.trans e2) (pv'.snoc (.inl hH) hx)⟩⟩
theorem jy {ap cp:Pos} (ho:PE X o (dP X.K τ i pt)) (he:PE X e (dE X.K true τ s)) (hi:τ[i]?=some (.n t)) (hp:fS pt t=some (.l xs)) (hc:kN s=some c) (hl:xs.length < 1000000) (hr:PSs X rest (dS X.K (τ.set i (.n (cv pt t (.l (xs++[c]))))) N))
   (hfew:((backTo cp (starEach [e] X.env)).all (λx=>!x.1) && (backToKw cp (keywordEach [] X.env)).all (λx=>x.1.isSome) && decide (([e]:List Expr).length + ([]:List Keyword).length + (if ([]:List Keyword).isEmpty then 0 else 1) < 30))=true:=by rfl)
   (hline:(ap.endLine == cp.line)=true:=by rfl) (hst:starEach [e] X.env=(false,eval e X.env) :: starEach [] X.env:=by rfl) (hpl:(backTo cp (starEach [] X.env)).any (·.1)=false:=by rfl)
   (hs:swapsWith (.Call (.Attribute o "append" ap) [e] [] cp) none pos.line X.env=pure false:=by rfl) (hbase:attributeBase o "append" X.env (eval o X.env)=eval o X.env:=by rfl) :
   PSs X (.Expr (.Call (.Attribute o "append" ap) [e] [] cp) pos :: rest) (dS X.K τ N):=
 bf (M:=(·=τ.set i (.n (cv pt t (.l (xs++[c])))))) (psW (ig (n8 PySem.F.plainAttrs_list PySem.F.slot_list_append PySem.F.type_list_append cT ho (aw he bj hst) hbase hfew hline hst hpl) hs) λD σ H ⟨A,H₀,B,S,Me⟩=>by
   refine ⟨A,H₀,B,S,λu v H1 eu e1 pv=>?_⟩
   have S1:=S.mono e1
   obtain ⟨u',l,vs,bs0,eu',pv',hH,r0,nd0,hal,hown,put⟩:=S1.putN hi hp
   rw [eu] at eu'
   cases eu'
   obtain rfl:=pv.det pv'
   refine ⟨.inl ⟨rfl,_,SqL.of hH⟩,A,H₀,B,S1,λw H2 bs e2 hf hw=>⟨l,vs,w,rfl,rfl,e2 _ _ hH,by rw [r0.length]; exact Nat.lt_trans hl (by decide),?_⟩⟩
   obtain ⟨nw,ndw⟩:=hw.nd hc
   have off:∀ b ∈ bs,b ≠ l:=λb hb z=>by rw [z] at hb; rw [(hf l hb).1] at hH; cases hH
   have sm:af (hd H2 λb=>own A B b\/b ∈ bs) (hd (upd H2 l (.lst (vs++[w]))) λb=>own A B b\/b ∈ bs0++bs):=λb o z=>by
     obtain ⟨z1,z2⟩:=aj.mp z
     refine aj.mpr ⟨λy=>z1 ?_,by rw [ak (λy:b=l=>z1 (.inl (by rw [y]; exact hal)))]; exact z2⟩
     rcases y with y | y
     · exact .inl y
     · exact (List.mem_append.mp y).elim (λz=>.inl (hown b z).1) .inr
   have sm0:af (hd H1 (own A B)) (hd (upd H2 l (.lst (vs++[w]))) λb=>own A B b\/b ∈ bs0++bs):=λb o z=>by
     obtain ⟨z1,z2⟩:=aj.mp z
     refine aj.mpr ⟨λy=>?_,by rw [ak (λy:b=l=>z1 (by rw [y]; exact hal))]; exact e2 _ _ z2⟩
     rcases y with y | y
     · exact z1 y
     · rcases List.mem_append.mp y with y | y
       · exact z1 (hown b y).1
       · rw [(hf b y).1] at z2; cases z2
   obtain ⟨B',S'⟩:=put (H1:=H2) (vs':=vs++[w]) (bs1:=bs0++bs) (xs':=xs++[c]) e2 (List.nodup_append.mpr ⟨nd0,ndw,λx hx y hy z=>by
       obtain ⟨o,q⟩:=r0.some_of x hx
       rw [z,(hf y hy).1] at q; cases q⟩)
     (λb hb=>(List.mem_append.mp hb).elim .inl λz=>.inr (hf b z))
     (aA.snoc (nw.frame sm λb hb=>ak (off b hb)) (r0.frame sm0 λb hb=>by
       obtain ⟨o,q⟩:=r0.some_of b hb
       rw [ak (hown b hb).2,e2 _ _ q,q]))
   exact Me.nx _ B' _ _ rfl S') λ_ e=>e ▸ hr
end
end Hy
namespace Ev
open PySem PySem.Spec PyProof.Rows L2
mutual
noncomputable def eqD:D->D->Bool
 | .non,.non=>true
 | .bl a,.bl b=>a == b
 | .bl a,.int j=>(if a then 1 else 0) == j
 | .int i,.bl b=>i == (if b then 1 else 0)
 | .int a,.int b=>a == b
 | .str a,.str b=>a == b
 | .tup xs,.tup ys=>ee xs ys
 | .lst xs,.lst ys=>ee xs ys
 | .non,.bl _ | .non,.int _ | .non,.str _ | .non,.tup _ | .non,.lst _=>false
 | .bl _,.non | .bl _,.str _ | .bl _,.tup _ | .bl _,.lst _=>false
 | .int _,.non | .int _,.str _ | .int _,.tup _ | .int _,.lst _=>false
 | .str _,.non | .str _,.bl _ | .str _,.int _ | .str _,.tup _ | .str _,.lst _=>false
 | .tup _,.non | .tup _,.bl _ | .tup _,.int _ | .tup _,.str _ | .tup _,.lst _=>false
 | .lst _,.non | .lst _,.bl _ | .lst _,.int _ | .lst _,.str _ | .lst _,.tup _=>false
noncomputable def ee:List D->List D->Bool
 | [],[]=>true
 | x :: xs,y :: ys=>eqD x y && ee xs ys
 | [],_ :: _=>false
 | _ :: _,[]=>false
end
mutual
noncomputable def toP:D->PyData
 | .non=>.none
 | .bl b=>.bool b
 | .int i=>.int i
 | .str x=>.str x
 | .tup xs=>.tuple (c9 xs)
 | .lst xs=>.list (c9 xs)
noncomputable def c9:List D->List PyData
 | []=>[]
 | x :: xs=>toP x :: c9 xs
end
mutual
noncomputable def cln:D->Bool
 | .str x=>PyData.strOk x
 | .tup xs=>c0 xs
 | .lst xs=>c0 xs
 | .non | .bl _ | .int _=>true
noncomputable def c0:List D->Bool
 | []=>true
 | x :: xs=>cln x && c0 xs
end
mutual
noncomputable def dep:D->Nat
 | .tup xs=>cY xs + 1
 | .lst xs=>cY xs + 1
 | .non | .bl _ | .int _ | .str _=>0
noncomputable def cY:List D->Nat
 | []=>0
 | x :: xs=>max (dep x) (cY xs)
end
noncomputable def bP (x:D):Prop:=cln x=true/\dep x<=64
noncomputable instance (x:D):Decidable (bP x):=inferInstanceAs (Decidable (_/\_))
mutual
theorem cW:∀ x y:D,PyData.eqv (toP x) (toP y)=eqD x y
 | .non,y=>by cases y <;> simp [toP,PyData.eqv,eqD]
 | .bl a,y=>by cases y <;> simp [toP,PyData.eqv,eqD]
 | .int a,y=>by cases y <;> simp [toP,PyData.eqv,eqD]
 | .str a,y=>by cases y <;> simp [toP,PyData.eqv,eqD]
 | .tup xs,.tup ys=>by simp only [toP,PyData.eqv,eqD]; exact gm xs ys
 | .lst xs,.lst ys=>by simp only [toP,PyData.eqv,eqD]; exact gm xs ys
 | .tup xs,.non=>by simp [toP,PyData.eqv,eqD]
 | .tup xs,.bl _=>by simp [toP,PyData.eqv,eqD]
 | .tup xs,.int _=>by simp [toP,PyData.eqv,eqD]
 | .tup xs,.str _=>by simp [toP,PyData.eqv,eqD]
 | .tup xs,.lst _=>by simp [toP,PyData.eqv,eqD]
 | .lst xs,.non=>by simp [toP,PyData.eqv,eqD]
 | .lst xs,.bl _=>by simp [toP,PyData.eqv,eqD]
 | .lst xs,.int _=>by simp [toP,PyData.eqv,eqD]
 | .lst xs,.str _=>by simp [toP,PyData.eqv,eqD]
 | .lst xs,.tup _=>by simp [toP,PyData.eqv,eqD]
theorem gm:∀ xs ys:List D,PyData.eqvAll (c9 xs) (c9 ys)=ee xs ys
 | [],[]=>by simp [c9,PyData.eqvAll,ee]
 | [],_ :: _=>by simp [c9,PyData.eqvAll,ee]
 | _ :: _,[]=>by simp [c9,PyData.eqvAll,ee]
 | x :: xs,y :: ys=>by simp only [c9,PyData.eqvAll,ee]; rw [cW x y,gm xs ys]
end
mutual
theorem ea:∀ x:D,(toP x).canLay0=cln x
 | .non=>by simp [toP,PyData.canLay0,cln]
 | .bl _=>by simp [toP,PyData.canLay0,cln]
 | .int _=>by simp [toP,PyData.canLay0,cln]
 | .str _=>by simp [toP,PyData.canLay0,cln]
 | .tup xs=>by simp only [toP,PyData.canLay0,cln]; exact gh xs
 | .lst xs=>by simp only [toP,PyData.canLay0,cln]; exact gh xs
theorem gh:∀ xs:List D,PyData.canLayAll0 (c9 xs)=c0 xs
 | []=>by simp [c9,PyData.canLayAll0,c0]
 | x :: xs=>by simp only [c9,PyData.canLayAll0,c0]; rw [ea x,gh xs]
end
mutual
theorem fj:∀ x:D,(toP x).depth=dep x
 | .non=>by simp [toP,PyData.depth,dep]
 | .bl _=>by simp [toP,PyData.depth,dep]
 | .int _=>by simp [toP,PyData.depth,dep]
 | .str _=>by simp [toP,PyData.depth,dep]
 | .tup xs=>by simp only [toP,PyData.depth,dep]; rw [fv xs]
 | .lst xs=>by simp only [toP,PyData.depth,dep]; rw [fv xs]
theorem fv:∀ xs:List D,PyData.depthAll (c9 xs)=cY xs
 | []=>by simp [c9,PyData.depthAll,cY]
 | x :: xs=>by simp only [c9,PyData.depthAll,cY]; rw [fj x,fv xs]
end
theorem bH {x:D} (h:bP x):SeqAt.shaped (toP x)=true:=by
 unfold SeqAt.shaped
 rw [ea,fj,h.1,Bool.true_and]
 exact decide_eq_true h.2
section
variable {X:Cx} {pins:List (Addr × Obj)} {σ:L2.St} {H G:Hp} {s:Shared}
mutual
theorem bc (I:Inv X pins σ H s) (e:af G H):∀ {v:V} {d:D} {u:Value},Den X.K G v d->RelV v u->∃ as,Reads s.heap u (toP d) as
 | _,_,_,.non,r=>by cases r; exact ⟨_,.none⟩
 | _,_,_,.bl,r=>by cases r; exact ⟨_,.bool _⟩
 | _,_,_,.int,r=>by obtain ⟨t,rfl⟩:=r; exact ⟨_,.int _ _⟩
 | _,_,_,.str,r=>by obtain ⟨t,rfl⟩:=r; exact ⟨_,.str _ _⟩
 | _,_,_,.tup h q,r=>by
   cases r
   obtain ⟨its,rv,⟨o,h1,h2,n,h3⟩,_⟩:=I.tuple (aF e h)
   obtain ⟨as,z⟩:=eL I e q rv
   exact ⟨_,.tuple h1 h2 h3 (by simpa using z)⟩
 | _,_,_,.lst h q,r=>by
   cases r
   obtain ⟨its,rv,⟨o,n,h1,h2,_,h3⟩,_⟩:=I.list (aC e h)
   obtain ⟨as,z⟩:=eL I e q rv
   exact ⟨_,.list h1 h2 h3 (by simpa using z)⟩
theorem eL (I:Inv X pins σ H s) (e:af G H):∀ {vs:List V} {ds:List D} {us:List Value},ax X.K G vs ds->Vals vs us->∃ as,ReadsAll s.heap us (c9 ds) as
 | _,_,_,.nil,.nil=>⟨_,.nil⟩
 | _,_,_,.cons h q,.cons r rs=>by
   obtain ⟨as,z⟩:=bc I e h r
   obtain ⟨bs,z'⟩:=eL I e q rs
   exact ⟨_,.cons z z'⟩
end
end
end Ev
namespace Hy
open PySem PySem.Spec PyProof.Rows L2
open Ev (D Den ax ao aF aC Itz Itv pK oH jF lC eqD bP bc bH cW)
section
variable {X:Cx} {C:Bool} {τ:List Sl} {x y z:D} {a b e c tg it elt:Expr} {es ifs:List Expr} {pos p q:Pos} {k:Nat} {s:Sl} {N:Po} {rest body:List Stmt} {ds xs ys:List D} {i j:Int} {scope:Scope}
noncomputable def fO (xs ys:List D):List D:=(xs.zip ys).map λp=>.tup [p.1,p.2]
theorem bY:(fO xs ys).length=min xs.length ys.length:=by simp [fO]
theorem jS (i:Nat) (h:i < (fO xs ys).length):(fO xs ys)[i]=.tup [xs.getD i .non,ys.getD i .non]:=by
 rw [bY] at h
 simp [fO,show i < xs.length by omega,show i < ys.length by omega]
theorem oY {K:PySem.W.Frag} {G:Hp} {a b:Addr} {vs ws:List V} (h:SqL K G a vs) (r:ax K G vs xs) (h':SqL K G b ws) (r':ax K G ws ys):Yl K (Itz K a b) (fO xs ys) G:=by
 intro H sg
 have hl:=r.length
 have hl':=r'.length
 refine ⟨λi hi=>⟨vs,ws,aC sg h,aC sg h',by rw [bY] at hi; omega⟩,λi hi=>?_⟩
 have hi':=hi
 rw [bY] at hi'
 obtain ⟨v,hv,dv⟩:=r.get (List.getElem?_eq_getElem (show i < xs.length by omega))
 obtain ⟨w,hw,dw⟩:=r'.get (List.getElem?_eq_getElem (show i < ys.length by omega))
 refine ⟨⟨vs,ws,v,w,aC sg h,aC sg h',hv,hw⟩,λy H' ⟨p,x1,x2,hp,e0,e1,e2,e3⟩=>?_⟩
 subst e0 e1
 have ex:x1=v:=by have:=e2 vs (aC sg h); rw [hv] at this; exact (Option.some.inj this).symm
 have ey:x2=w:=by have:=e3 ws (aC sg h'); rw [hw] at this; exact (Option.some.inj this).symm
 subst ex ey
 refine ⟨ao hp _,λM hM sv=>?_⟩
 rw [jS,show xs.getD i .non=xs[i] by simp [show i < xs.length by omega],show ys.getD i .non=ys[i] by simp [show i < ys.length by omega]]
 have up:=sv.trans (aq (ao hp (.tup [x1,x2])) λ_ z=>z)
 exact .tup (SqT.of (iD hM hp)) (.cons (dv.mono up) (.cons (dw.mono up) .nil))
theorem qk {ts:List Expr} {m:Nat} {tp:Pos} (B:Bk X k) (h:PE X a (dE X.K true τ (.d (.lst xs)))) (h':PE X b (dE X.K true τ (.d (.lst ys)))) (hg:Gl X "zip":=by rfl) (hs:starEach [a,b] X.env=(false,eval a X.env) :: starEach [b] X.env:=by rfl) (hs2:starEach [b] X.env=[(false,eval b X.env)]:=by rfl) :
   PI X (.Tuple ts m tp) (.Call (.Name "zip" p) [a,b] [] pos) (dI X.K τ (fO xs ys)):=
 piW (jF hg (B.blt _ (by decide)) (ae h (ae h' ag hs2) hs) hs hs2) λσ H R ⟨A,H₀,B,S,k⟩=>cH S λvs H1 e1 d1=>by
   cases d1 with
   | cons d r=>
     cases r with
     | cons d' r=>
       cases r
       cases d with
       | lst h r=>cases d' with
         | lst h' r'=>exact ⟨_,_,rfl,⟨_,aC aD h⟩,⟨_,aC aD h'⟩,k _ H1 e1 (oY h r h' r')⟩
theorem oT (hu:X.A.units + 64 < cLine):OpR X (compareOp .Eq) (λx y H Q=>∃ G d e,af G H/\Den X.K G x d/\Den X.K G y e/\bP d/\bP e/\Q (.bl (eqD d e)) H):=by
 intro pins s σ H x y v u Q I rx ry ⟨G,d,e,sg,dx,dy,o1,o2,q⟩
 obtain ⟨as,r1⟩:=bc I sg dx rx
 obtain ⟨bs,r2⟩:=bc I sg dy ry
 exact eq_dataH r1 r2 (bH o1) (bH o2) hu ⟨.bl _,H,I,by rw [cW]; rfl,q⟩
theorem oU (hu:X.A.units + 64 < cLine):OpR X (compareOp .NotEq) (λx y H Q=>∃ G d e,af G H/\Den X.K G x d/\Den X.K G y e/\bP d/\bP e/\Q (.bl (!eqD d e)) H):=by
 intro pins s σ H x y v u Q I rx ry ⟨G,d,e,sg,dx,dy,o1,o2,q⟩
 obtain ⟨as,r1⟩:=bc I sg dx rx
 obtain ⟨bs,r2⟩:=bc I sg dy ry
 exact ne_dataH r1 r2 (bH o1) (bH o2) hu ⟨.bl _,H,I,by rw [cW]; rfl,q⟩
theorem om (B:Bk X k) (h1:bP x) (h2:bP y):bu X (compareOp .Eq) x y (.bl (eqD x y)):=⟨_,oT B.room.units,λM v w H Q _ d1 d2 q=>⟨_,x,y,aD,d1,d2,h1,h2,q _ H (af.refl _) .bl⟩⟩
theorem ql (B:Bk X k) (h1:bP x) (h2:bP y):bu X (compareOp .NotEq) x y (.bl (!eqD x y)):=⟨_,oU B.room.units,λM v w H Q _ d1 d2 q=>⟨_,x,y,aD,d1,d2,h1,h2,q _ H (af.refl _) .bl⟩⟩
variable {u v:Str}
theorem eW:∀ {bs:List Bool} {us:List Value},Vals (bs.map V.bl) us->us=bs.map Value.bool
 | [],_,h=>by cases h; rfl
 | b :: bs,_,h=>by
   cases h with
   | cons rv rs=>rw [eW rs,show _=Value.bool b from rv]; rfl
theorem lz (hc:X.calm=true):df X (.builtin "all") (λxs H Q=>∃ (p:Addr) (bs:List Bool),xs=[.ref p]/\SqL X.K H p (bs.map V.bl)/\Q (.bl (bs.all id)) H):=by
 intro pins s σ H xs us Q I r q
 obtain ⟨p,bs,rfl,h,q⟩:=q
 obtain ⟨u,rfl,ru⟩:∃ u,us=[u]/\RelV (.ref p) u:=by
   cases r with
   | cons r1 r=>cases r; exact ⟨_,rfl,r1⟩
 cases (show u=Value.ref _ from ru)
 obtain ⟨its,rv,pl,hz⟩:=I.list h
 obtain rfl:=eW rv
 have lt:∀ a,s.heap.IsList a (bs.map Value.bool).toArray->a ≠ s.heap.objs.size:=λa ⟨o,z,_⟩=>Nat.ne_of_lt (Heap.lt_size z)
 refine call_all_walk (wpAny_pyIter_list pl.isList ⟨_,_,_,_,_,_,λi=>(bs.map Value.bool)[i]? == some (Value.bool true),rfl,Walks.list (A:=X.A.in1) (I.ok.hd hc) _ _ (lt _ pl.isList) (bs.map Value.bool).toArray,⟨⟨_,Heap.get?_push_size _ rfl,rfl,rfl⟩,?_⟩,λi v s' Q' E' hP hQ=>?_,λh' tk hk=>?_⟩)
 · obtain ⟨o,z1,z2⟩:=pl.isList
   exact ⟨o,Heap.get?_push_of_some _ z1,z2⟩
 · have hP':(bs.map Value.bool)[i]?=some v:=by simpa using hP
   obtain ⟨c,_,rfl⟩:=List.mem_map.mp (List.mem_of_getElem? hP')
   refine wpAny_truthy_bool ?_
   have hQ:Q' ((bs.map Value.bool)[i]? == some (Value.bool true)) s':=hQ
   rw [hP'] at hQ
   cases c
   · exact hQ
   · exact hQ
 · refine ⟨.bl (bs.all id),H,I.kept (t':=tk) λb' o z=>?_,?_,q⟩
   · refine hk b' o (λhm=>?_) (Heap.get?_push_of_some _ z)
     have:b'=s.heap.objs.size:=by simpa using hm
     exact absurd (Heap.lt_size z) (by rw [this]; exact Nat.lt_irrefl _)
   · have e:∀ bs:List Bool,bs.all id=(List.range (bs.map Value.bool).toArray.size).all λi=>(bs.map Value.bool)[i]? == some (Value.bool true):=λbs=>by
       rw [List.size_toArray,List.length_map]
       induction bs with
       | nil=>rfl
       | cons b bs ih=>
         rw [List.all_cons,ih,List.length_cons,List.range_succ_eq_map,List.all_cons,List.all_map]
         congr 1
         cases b <;> rfl
     rw [e]; rfl
theorem kb {K:PySem.W.Frag} {H:Hp}:∀ {vs:List V} {bs:List Bool},ax K H vs (bs.map .bl)->vs=bs.map V.bl
 | _,[],h=>by cases h; rfl
 | _,_ :: _,h=>by
   cases h with
   | cons d r=>cases d; rw [kb r]; rfl
theorem gO (hc:X.calm=true) (bs:List Bool) (hx:xs=bs.map .bl):jj X (.builtin "all") [.lst xs] (.d (.bl (bs.all id))):=⟨_,lz hc,λM vs H Q _ d q=>by
 subst hx
 cases d with
 | cons d r=>
   cases r
   cases d with
   | lst h r=>
     cases kb r
     exact ⟨_,_,rfl,aC aD h,q _ H [] (af.refl _) eH (gu .bl)⟩⟩
end
end Hy
namespace Hy
open PySem PySem.Spec PyProof.Rows L2
open Ev (D Den ax ao aF aC av cZ cu PTs cV dk)
section
variable {X:Cx} {C:Bool} {τ:List Sl} {x y z:D} {a b e c tg it elt o:Expr} {es ifs:List Expr} {pos p q:Pos} {k:Nat} {s:Sl} {N:Po} {rest body:List Stmt} {ds xs ys:List D} {i j:Int} {scope:Scope}
end
end Hy
namespace Hy
open PySem PySem.Spec PyProof.Rows L2
open Ev (D Den ax ao aF aC av cZ cu PTs cV dk)
section
variable {X:Cx} {C:Bool} {τ τ':List Sl} {x y z:D} {a b e c tg it elt o ix:Expr} {es ifs:List Expr} {pos p q:Pos} {k:Nat} {s:Sl} {N:Po} {rest body:List Stmt} {ds xs ys:List D} {i:Nat} {j:Int} {scope:Scope}
noncomputable def dGs (K:PySem.W.Frag) (τ:List Sl) (xs:List D) (τ':List Sl):TGs:=λvs σ H Q=>∃ A H₀ B,Sta K A H₀ τ B σ H/\ax K (hd H (own A B)) vs xs/\∀ σ' B',Sta K A H₀ τ' B' σ' H->Q σ' H
theorem rh {es:List Expr} {t t':TGs} (h:PGs X es t) (f:∀ v σ H Q,t' v σ H Q->t v σ H Q):PGs X es t':=λpins s σ H v u Q I r q=>h pins s σ H v u Q I r (f v σ H Q q)
theorem q9 (i:Nat) {n:Str} (hN:X.N.Nodup) (h:PGs X es (dGs X.K (τ.set i (.d x)) xs τ')) (hi:X.N[i]?=some n:=by rfl) (hx:Loc X.env.scope n:=by first | exact .inl rfl | exact .inr rfl) (hf:X.fn n=true\/X.env.scope.names.lookup n=some .local:=by first | exact .inl rfl | exact .inr rfl | assumption):PGs X (.Name n p :: es) (dGs X.K τ (x :: xs) τ'):=
 rh (fF (cX (i:=i) hN hi hx hf) h) λv σ H Q ⟨A,H₀,B,S,d,k⟩=>by
   cases d with
   | cons d r=>
     have sub:∀ b,own A (upB B i []) b->own A B b:=λb z=>z.elim .inl λ⟨j,z⟩=>(aK z).elim (λz=>nomatch z.2) λz=>.inr ⟨j,z.2⟩
     exact ⟨_,_,rfl,A,H₀,_,S.set (af.refl _) (bs:=[]) (λ_ z=>nomatch z) (gu d),r.mono (aq (af.refl _) sub),k⟩
theorem rN (T:Nat->List Sl) {f:Nat->D} (B:Bk X k) (hi:PI X tg it (dI X.K τ xs)) (hl:xs.length < 1000000) (hT:∀ i,(T i).length=(aV τ (bCp X.N scope)++[Sl.un]).length/\∀ (l:Nat) (x:D),(aV τ (bCp X.N scope)++[Sl.un])[l]?=some (.d x)->(T i)[l]?=some (.d x))
   (hg:∀ i (h:i < xs.length) s H fp,PG (cpX X s H scope fp) tg (dG X.K (aV τ (bCp X.N scope)++[.un]) xs[i] (T i)))
   (he:∀ i,i < xs.length->∀ s H fp,PE (cpX X s H scope fp) elt (dE X.K true (T i) (.d (f i)))) (hc:bOk X.env.scope scope=true:=by kernel_rfl) (hs:∀ x,foldedSetIterable it X.env x=pure x:=by intro _; rfl) :
   Cmp X elt tg it [] scope τ ((List.range xs.length).map f):=by
 have h:=mH (T:=T) (t:=λ_=>true) (f:=f) (elt:=elt) (ifs:=[]) B hc hi hT hg (λi h s H fp=>λpins s' σ H' Q I ⟨A,H₀,B,S,q⟩=>iE pins s' σ H' Q I (q H' (af.refl _))) (λi h _ s H fp=>he i h s H fp) hl hs
 rwa [List.filter_eq_self.mpr λ_ _=>rfl] at h
structure oQ (X:Cx) (elt tg it:Expr) (ifs:List Expr) (scope:Scope) (τ:List Sl) (ns:List Nd):Prop where
 ex:∃ (In:TG->TT->TE->Prop) (caps:List (Option Nat)) (N:List Str) (wi:TI),cu X scope N caps/\PI X tg it wi/\(∀ g tt te,In g tt te->∀ s H fp,PG (av X s H scope N fp) tg g/\PTs (av X s H scope N fp) ifs tt/\PE (av X s H scope N fp) elt te) /\
   ∀ C σ H Q,dE X.K C τ (.n (.l ns)) σ H Q->dk In caps wi σ H Q
 hs:∀ x,foldedSetIterable it X.env x=pure x
 hc:X.calm=true
theorem ng {T:Nat->List Sl} {f:Nat->Nd} {S':Nat->Sl} (B:Bk X k) (hc:bOk X.env.scope scope=true) (hi:PI X tg it (dI X.K τ xs)) (hT:∀ i,(T i).length=(aV τ (bCp X.N scope)++[Sl.un]).length/\∀ (l:Nat) (x:D),(aV τ (bCp X.N scope)++[Sl.un])[l]?=some (.d x)->(T i)[l]?=some (.d x))
   (hg:∀ i (h:i < xs.length) s H fp,PG (cpX X s H scope fp) tg (dG X.K (aV τ (bCp X.N scope)++[.un]) xs[i] (T i)))
   (he:∀ i,i < xs.length->∀ s H fp,PE (cpX X s H scope fp) elt (dE X.K true (T i) (S' i))) (hn:∀ i,i < xs.length->kN (S' i)=some (f i)) (hl:xs.length < 1000000) (hs:∀ x,foldedSetIterable it X.env x=pure x:=by intro _; rfl) :
   oQ X elt tg it [] scope τ ((List.range xs.length).map f):=by
 obtain ⟨cap,_⟩:=dU hc
 generalize hτ:aV τ (bCp X.N scope)++[Sl.un]=τb at *
 refine ⟨⟨λg tt te=>g=(λv σ H Q=>∃ (i:Nat) (h:i < xs.length),dG X.K τb xs[i] (T i) v σ H Q)/\tt=(λσ H Q=>Q true H)/\te=(λσ H Q=>∃ i,i < xs.length/\dE X.K true (T i) (S' i) σ H Q),_,_,_,cap,hi,?_,?_⟩,hs,B.calm⟩
 · rintro g tt te ⟨rfl,rfl,rfl⟩ s H fp
   exact ⟨λpins s' σ H' v u Q I r ⟨i,h,q⟩=>hg i h s H fp pins s' σ H' v u Q I r q,iE,λpins s' σ H' Q I ⟨i,h,q⟩=>he i h s H fp pins s' σ H' Q I q⟩
 rintro C σ H Q ⟨A,H₀,B,S,kk⟩
 refine ⟨A,H₀,B,S,λJ H1 e1 yl=>⟨_,_,_,⟨rfl,rfl,rfl⟩,λD hD=>?_⟩⟩
 have S1:=S.mono e1
 have flat:∀ (l:Nat) (s:Sl),τb[l]?=some s->s=.un\/∃ x,s=.d x:=λl s h=>by
   rw [<- hτ] at h
   rcases List.mem_append.mp (List.mem_of_getElem? h) with z | z
   · unfold aV at z
     obtain ⟨o,_,ho⟩:=List.mem_map.mp z
     split at ho
     · split at ho
       · exact .inr ⟨_,ho.symm⟩
       · exact .inl ho.symm
     · exact .inl ho.symm
   · exact .inl (List.mem_singleton.mp z)
 have slots:∀ {σ':L2.St} {H':Hp} {rs:List Addr},af H1 H'->(∃ o,H' D=some o)->(∀ b ∈ rs,∃ o,H' b=some o)->σ'.length=τb.length->(∀ (l:Nat) (s:Sl),τb[l]?=some s->a8 X.K (hd H' λb=>own A B b\/b=D\/b ∈ rs) H' (σ'[l]?).join [] s)->Sta X.K (λb=>own A B b\/b=D\/b ∈ rs) H' τb (λ_=>[]) σ' H':=λ{σ' H' rs} e1 e2 e5 e3 e4=>
   ⟨af.refl _,e3,λl s h=>(e4 l s h).mono (aq (af.refl _) λ_ z=>z.elim id λ⟨_,z⟩=>(nomatch z)) (af.refl _),λ_ _ z=>(nomatch z),λ_ _ _ z=>(nomatch z),λb z=>z.elim (λz=>let ⟨o,q⟩:=S1.dm b z; ⟨o,e1 _ _ q⟩) λz=>z.elim (λz=>z ▸ e2) (e5 b),λ_ _ z=>(nomatch z)⟩
 refine ⟨λi m σ' H'=>m=xs.length - i/\i<=xs.length/\af H1 H'/\(∃ vs rs,H' D=some (.lst vs)/\vs.length<=i/\aA X.K (hd H' λb=>own A B b\/b=D\/b ∈ rs) H' vs rs ((List.range i).map f)/\(D :: rs).Nodup/\(∀ b ∈ rs,H1 b=none) /\
   σ'.length=τb.length/\∀ (l:Nat) (s:Sl),τb[l]?=some s->a8 X.K (hd H' λb=>own A B b\/b=D\/b ∈ rs) H' (σ'[l]?).join [] s),⟨xs.length,rfl,Nat.zero_le _,ao hD _,[],[],aB,Nat.le_refl _,.nil,by simp,λ_ z=>(nomatch z),?_,λl s h=>?_⟩,?_⟩
 · rw [<- hτ]; unfold cZ aV; rw [List.length_append,List.length_append,List.length_map,List.length_map]; rfl
 · have hv:af (hd H (own A B)) (hd (upd H1 D (.lst [])) λb=>own A B b\/b=D\/b ∈ ([]:List Addr)):=λb o z=>by
     obtain ⟨z1,z2⟩:=aj.mp z
     have z2:=e1 _ _ z2
     have ne:b ≠ D:=λz=>by rw [z,hD] at z2; cases z2
     exact aj.mpr ⟨λy=>y.elim z1 λy=>y.elim ne λy=>(nomatch y),by rw [ak ne]; exact z2⟩
   rcases flat l s h with rfl | ⟨x,rfl⟩
   · rfl
   · rw [<- hτ] at h
     have hlt:l < (bCp X.N scope).length:=by
       rcases Nat.lt_or_ge l (bCp X.N scope).length with h' | h'
       · exact h'
       · exfalso
         rw [List.getElem?_append_right (by unfold aV; rw [List.length_map]; exact h')] at h
         cases e:l - (aV τ (bCp X.N scope)).length with
         | zero=>rw [e] at h; cases h
         | succ n=>rw [e] at h; cases h
     rw [List.getElem?_append_left (by unfold aV; rw [List.length_map]; exact hlt)] at h
     rw [List.getElem?_append_left (by unfold cZ; rw [List.length_map]; exact hlt)]
     unfold aV at h
     unfold cZ
     rw [List.getElem?_map] at h ⊢
     cases e:(bCp X.N scope)[l]? with
     | none=>rw [e] at h; cases h
     | some o=>
       rw [e] at h
       cases o with
       | none=>cases h
       | some i=>
         simp only [Option.map_some,Option.some.injEq] at h
         split at h
         · rename_i x' hx'
           cases h
           obtain ⟨_,u,eu,d⟩:=S.sl i _ hx'
           exact ⟨rfl,u,by simpa using eu,d.mono hv⟩
         · cases h
 rintro i m σ' H' ⟨rfl,hi,e2,vs,rs,hv1,hv2,hv3,hnd,hfr,hlen,hsl⟩
 obtain ⟨y1,y2⟩:=yl H' (aD.trans e2)
 have rsd:∀ b ∈ rs,∃ o,H' b=some o:=hv3.some_of
 by_cases hlt:i < xs.length
 · obtain ⟨g,y⟩:=y2 i hlt
   refine .inr ⟨g,λx H2 hy=>?_⟩
   obtain ⟨e3,dx⟩:=y x H2 hy
   have S2:=slots e2 ⟨_,hv1⟩ rsd hlen hsl
   have o0:∀ b,own (λb=>own A B b\/b=D\/b ∈ rs) (λ_=>([]:List Addr)) b->own A B b\/b=D\/b ∈ rs:=λb z=>z.elim id λ⟨_,z⟩=>(nomatch z)
   have dx':=dx _ S2.dm (λb o z=>by
     obtain ⟨z1,z2⟩:=aj.mp z
     exact aj.mpr ⟨λy=>(o0 b y).elim z1 λy=>y.elim (λy=>(by rw [y,hD] at z2; cases z2)) λy=>(by rw [hfr b y] at z2; cases z2),e2 _ _ z2⟩)
   refine ⟨i,hlt,_,_,_,S2.mono e3,dx',λσ2 B2 S3=>?_⟩
   refine iu ⟨i,hlt,_,_,_,S3,λv H5 bs e5 hf5 d5=>?_⟩
   obtain ⟨nv,ndv⟩:=d5.nd (hn i hlt)
   have e6:=e3.trans e5
   have hv5:=e6 _ _ hv1
   have bsD:∀ b ∈ bs,b ≠ D:=λb hb z=>by have:=(hf5 b hb).1; rw [z,e3 _ _ hv1] at this; cases this
   have bsR:∀ b ∈ bs,b ∉ rs:=λb hb z=>by obtain ⟨o,q⟩:=rsd b z; have:=(hf5 b hb).1; rw [e3 _ _ q] at this; cases this
   refine ⟨vs,xs.length - (i + 1),hv5,Nat.lt_trans (Nat.lt_of_le_of_lt hv2 (Nat.lt_trans hlt hl)) (by decide),by omega,rfl,hlt,?_,vs++[v],rs++bs,aB,by rw [List.length_append]; exact Nat.succ_le_succ hv2,?_,?_,?_,S3.len.trans (hT i).1,λl s h=>?_⟩
   · intro b o z
     have ne:b ≠ D:=λy=>by rw [y,hD] at z; cases z
     rw [ak ne]
     exact e6 _ _ (e2 _ _ z)
   · rw [List.range_succ,List.map_append]
     have sm1:af (hd H5 λb=>vw true (λb=>own A B b\/b=D\/b ∈ rs) B2 b\/b ∈ bs) (hd (upd H5 D (.lst (vs++[v]))) λb=>own A B b\/b=D\/b ∈ rs++bs):=λb o z=>by
       obtain ⟨z1,z2⟩:=aj.mp z
       refine aj.mpr ⟨λy=>z1 ?_,by rw [ak (λy:b=D=>z1 (.inl (.inl (.inr (.inl y)))))]; exact z2⟩
       rcases y with y | y | y
       · exact .inl (.inl (.inl y))
       · exact .inl (.inl (.inr (.inl y)))
       · exact (List.mem_append.mp y).elim (λy=>.inl (.inl (.inr (.inr y)))) .inr
     have sm2:af (hd H' λb=>own A B b\/b=D\/b ∈ rs) (hd (upd H5 D (.lst (vs++[v]))) λb=>own A B b\/b=D\/b ∈ rs++bs):=λb o z=>by
       obtain ⟨z1,z2⟩:=aj.mp z
       refine aj.mpr ⟨λy=>?_,by rw [ak (λy:b=D=>z1 (.inr (.inl y)))]; exact e6 _ _ z2⟩
       rcases y with y | y | y
       · exact z1 (.inl y)
       · exact z1 (.inr (.inl y))
       · rcases List.mem_append.mp y with y | y
         · exact z1 (.inr (.inr y))
         · have:=(hf5 b y).1; rw [e3 _ _ z2] at this; cases this
     refine aA.snoc (nv.frame sm1 λb hb=>ak (bsD b hb)) (hv3.frame sm2 λb hb=>?_)
     obtain ⟨o,q⟩:=rsd b hb
     rw [ak (λz:b=D=>(List.nodup_cons.mp hnd).1 (by rw [<- z]; exact hb)),e6 _ _ q,q]
   · obtain ⟨n1,n2⟩:=List.nodup_cons.mp hnd
     refine List.nodup_cons.mpr ⟨λz=>?_,List.nodup_append.mpr ⟨n2,ndv,λx hx y hy z=>bsR y hy (z ▸ hx)⟩⟩
     exact (List.mem_append.mp z).elim n1 λz=>bsD D z rfl
   · intro b hb
     rcases List.mem_append.mp hb with z | z
     · exact hfr b z
     · exact (e2.trans e3).free (hf5 b z).1
   · rcases flat l s h with rfl | ⟨x,rfl⟩
     · rfl
     · obtain ⟨_,u,eu,d⟩:=S3.sl l _ ((hT i).2 l x h)
       refine ⟨rfl,u,eu,d.mono λb o z=>?_⟩
       obtain ⟨z1,z2⟩:=aj.mp z
       refine aj.mpr ⟨λy=>?_,by rw [ak (λy:b=D=>z1 (.inl (.inr (.inl y))))]; exact e5 _ _ z2⟩
       rcases y with y | y | y
       · exact z1 (.inl (.inl y))
       · exact z1 (.inl (.inr (.inl y)))
       · rcases List.mem_append.mp y with y | y
         · exact z1 (.inl (.inr (.inr y)))
         · rw [(hf5 b y).1] at z2; cases z2
 · have e:i=xs.length:=by omega
   subst e
   refine .inl ⟨y1 _ (Nat.le_refl _),kk _ _ (D :: rs) (e1.trans e2) (λb hb=>?_) ⟨hnd,_,rfl,.l hv1 (hv3.frame (aq (af.refl _) λb z=>?_) λ_ _=>rfl)⟩⟩
   · rcases List.mem_cons.mp hb with rfl | z
     · exact ⟨e1.free hD,_,hv1⟩
     · exact ⟨e1.free (hfr b z),rsd b z⟩
   · rcases z with z | z
     · exact .inl (iG z)
     · exact .inr ((List.mem_cons.mp z).elim .inl .inr)
theorem rK (j:Nat) {n:Str} {g:Nat->D} {f:Nat->Nd} {S':Nat->Sl} (B:Bk X k) (hi:PI X (.Name n p) it (dI X.K τ xs)) (hx:∀ i (h:i < xs.length),xs[i]=g i) (hl:xs.length < 1000000)
   (he:∀ i,i < xs.length->∀ s H fp,PE (cpX X s H scope fp) elt (dE X.K true ((aV τ (bCp X.N scope)++[Sl.un]).set j (.d (g i))) (S' i))) (hn:∀ i,i < xs.length->kN (S' i)=some (f i))
   (hc:bOk X.env.scope scope=true:=by kernel_rfl) (hu:(aV τ (bCp X.N scope)++[Sl.un])[j]?=some .un:=by rfl) (hN:(bNm scope++[("#" : Str)])[j]?=some n:=by rfl) (hv:∀ s H fp,Loc (cpX X s H scope fp).env.scope n:=by intro _ _ _; first | exact .inl rfl | exact .inr rfl)
   (hf:∀ s H fp,(cpX X s H scope fp).fn n=true\/(cpX X s H scope fp).env.scope.names.lookup n=some .local:=by intro _ _ _; first | exact .inr rfl | exact .inl rfl) (hs:∀ x,foldedSetIterable it X.env x=pure x:=by intro _; rfl) :
   oQ X elt (.Name n p) it [] scope τ ((List.range xs.length).map f):=by
 refine ng (T:=λi=>(aV τ (bCp X.N scope)++[Sl.un]).set j (.d (g i))) B hc hi (λi=>⟨List.length_set,λl x h=>?_⟩) (λi h s H fp=>?_) he hn hl hs
 · rw [List.getElem?_set_ne (λz=>by rw [<- z,hu] at h; cases h)]
   exact h
 · rw [hx i h]
   exact pV j (dU hc).2 hN (hv s H fp) (hf s H fp)
end
end Hy
namespace Hy
open PySem PySem.Spec PyProof.Rows L2
open Ev (D Den ax ao aF aC av cZ cu PTs cV dk)
section
variable {X:Cx} {C:Bool} {τ τ':List Sl} {x y z:D} {a b e c tg it elt o ix:Expr} {es ifs:List Expr} {pos p q:Pos} {k:Nat} {s:Sl} {N:Po} {rest body:List Stmt} {ds xs ys:List D} {i:Nat} {scope:Scope}
theorem rF (j l:Nat) {n m:Str} {p2 pt:Pos} {md:Nat} {g g' f:Nat->D} (B:Bk X k) (hi:PI X (.Tuple [.Name n p,.Name m p2] md pt) it (dI X.K τ xs)) (hx:∀ i (h:i < xs.length),xs[i]=.tup [g i,g' i]) (hl:xs.length < 1000000)
   (he:∀ i,i < xs.length->∀ s H fp,PE (cpX X s H scope fp) elt (dE X.K true (((aV τ (bCp X.N scope)++[Sl.un]).set j (.d (g i))).set l (.d (g' i))) (.d (f i))))
   (hc:bOk X.env.scope scope=true:=by kernel_rfl) (hu:(aV τ (bCp X.N scope)++[Sl.un])[j]?=some .un:=by rfl) (hu':(aV τ (bCp X.N scope)++[Sl.un])[l]?=some .un:=by rfl) (hN:(bNm scope++[("#" : Str)])[j]?=some n:=by rfl) (hN':(bNm scope++[("#" : Str)])[l]?=some m:=by rfl) (hv:∀ s H fp,Loc (cpX X s H scope fp).env.scope n:=by intro _ _ _; first | exact .inl rfl | exact .inr rfl) (hv':∀ s H fp,Loc (cpX X s H scope fp).env.scope m:=by intro _ _ _; first | exact .inl rfl | exact .inr rfl)
   (hf:∀ s H fp,(cpX X s H scope fp).fn n=true\/(cpX X s H scope fp).env.scope.names.lookup n=some .local:=by intro _ _ _; first | exact .inr rfl | exact .inl rfl) (hf':∀ s H fp,(cpX X s H scope fp).fn m=true\/(cpX X s H scope fp).env.scope.names.lookup m=some .local:=by intro _ _ _; first | exact .inr rfl | exact .inl rfl) (hs:∀ x,foldedSetIterable it X.env x=pure x:=by intro _; rfl) :
   Cmp X elt (.Tuple [.Name n p,.Name m p2] md pt) it [] scope τ ((List.range xs.length).map f):=
 rN (λi=>((aV τ (bCp X.N scope)++[Sl.un]).set j (.d (g i))).set l (.d (g' i))) B hi hl (λi=>⟨by rw [List.length_set,List.length_set],λr x h=>by
     rw [List.getElem?_set_ne (λz=>by rw [<- z,hu'] at h; cases h),List.getElem?_set_ne (λz=>by rw [<- z,hu] at h; cases h)]
     exact h⟩)
   (λi h s H fp=>by rw [hx i h]; exact oi j l (B.comp s H scope fp).calm (dU hc).2 hN hN' (hv s H fp) (hv' s H fp) (hf s H fp) (hf' s H fp)) he hc hs
end
end Hy
namespace Hy
open PySem PySem.Spec PyProof.Rows L2
open Ev (D Den ax ao aF aC)
section
variable {X:Cx} {C:Bool} {τ:List Sl} {x y z:D} {a b e o ix:Expr} {es:List Expr} {pos p q:Pos} {k:Nat} {s:Sl} {N:Po} {rest:List Stmt} {i j:Nat} {t c:Nd} {pt:List Nat} {xs:List Nd} {m:Nat}
theorem set_same {α:Type} {xs:List α} {i:Nat} {y:α} (h:xs[i]?=some y):xs.set i y=xs:=by
 obtain ⟨h1,h2⟩:=List.getElem?_eq_some_iff.mp h
 rw [<- h2]
 exact List.set_getElem_self h1
end
end Hy
namespace Hy
open PySem PySem.Spec PyProof.Rows L2
open Ev (D Den ax)
mutual
noncomputable def gF:Nd->Bool
 | .d x=>flat x
 | .l xs=>dj xs
 | .t xs=>dj xs
noncomputable def dj:List Nd->Bool
 | []=>true
 | x :: xs=>gF x && dj xs
end
noncomputable def rL:Sl->Bool
 | .un=>true
 | .d x=>flat x
 | .o xs=>xs.all flat
 | .n t=>gF t
 | .x _=>false
section
variable {K:PySem.W.Frag} {G G' H:Hp}
mutual
theorem aT.fl:∀ {u:V} {bs:List Addr} {t:Nd},aT K G H u bs t->gF t=true->aT K G' H u bs t
 | _,_,_,.d h,f=>.d (bb h (by rw [gF] at f; exact f))
 | _,_,_,.l h r,f=>.l h (aA.fl r (by rw [gF] at f; exact f))
 | _,_,_,.t h r,f=>.t h (aA.fl r (by rw [gF] at f; exact f))
theorem aA.fl:∀ {vs:List V} {bs:List Addr} {ts:List Nd},aA K G H vs bs ts->dj ts=true->aA K G' H vs bs ts
 | _,_,_,.nil,_=>.nil
 | _,_,_,.cons h r,f=>by
   rw [dj,Bool.and_eq_true] at f
   exact .cons (aT.fl h f.1) (aA.fl r f.2)
end
theorem ku:∀ {vs:List V} {xs:List D},ax K G vs xs->xs.all flat=true->ax K G' vs xs
 | _,_,.nil,_=>.nil
 | _,_,.cons h r,f=>by
   rw [List.all_cons,Bool.and_eq_true] at f
   exact .cons (bb h f.1) (ku r f.2)
theorem a8.fl {v:Option V} {bs:List Addr}:∀ {s:Sl},a8 K G H v bs s->rL s=true->a8 K G' H v bs s
 | .un,h,_=>h
 | .d _,⟨h,u,e1,h2⟩,f=>⟨h,u,e1,bb h2 f⟩
 | .o _,⟨a,vs,h1,h2,h3,h4⟩,f=>⟨a,vs,h1,h2,h3,ku h4 f⟩
 | .n _,⟨h0,u,h1,h2⟩,f=>⟨h0,u,h1,h2.fl f⟩
end
theorem nJ {X:Cx} {τ:List Sl} {elt tg it:Expr} {ifs:List Expr} {pos p spos:Pos} {scope:Scope} {rest:List Stmt} {N:Po} {ns:List Nd} {s0:Sl} {x:D} (i j:Nat) {n:Str} (hN:X.N.Nodup) (h:oQ X elt tg it ifs scope (τ.set j (.d x)) ns) (f:dj ns=true) (hr:PSs X rest (dS X.K (τ.set i (.n (.l ns))) N))
   (hj:τ[j]?=some s0:=by rfl) (hx:fzD s0=some x:=by rfl) (hi:X.N[i]?=some n:=by rfl) (hl:Loc X.env.scope n:=by first | exact .inl rfl | exact .inr rfl)
   (hsw:swapsWith (.ListComp elt [⟨tg,it,ifs,0⟩] scope pos) (some (.Name n p)) spos.line X.env=pure true:=by rfl) (hf:X.fn n=true\/X.env.scope.names.lookup n=some .local:=by first | exact .inl rfl | exact .inr rfl | assumption) :
   PSs X (.Assign [.Name n p] (.ListComp elt [⟨tg,it,ifs,0⟩] scope pos) spos :: rest) (dS X.K τ N):=by
 obtain ⟨In,caps,N',wi,h1,h2,h3,h4⟩:=h.ex
 exact bf (M:=(·=τ.set i (.n (.l ns)))) (psW (Ev.fN (cX (i:=i) hN hi hl hf) h.hc h1 h2 h.hs h3 hsw) λD σ H ⟨A,H₀,B,S,Me⟩=>h4 true _ _ _ ⟨A,H₀,_,S.fz hj hx,λv H' bs e hf h=>Me.nx _ _ _ _ rfl (S.set e hf (h.fl (show gF (.l ns)=true by rw [gF]; exact f)))⟩) λ_ e=>e ▸ hr
end Hy
namespace Lc
open PySem PySem.Spec PyProof.Rows L2
open PySem.AutoSeq1 (wpAny_loadPart')
open PySem.MeetsSeq PySem.MeetsSeq2 PySem.MeetsSeq3 PySem.SeqRoads2 PySem.SeqAt
open Ev (D Den ax eqD bP toP)
noncomputable def eh (op:CmpOp) (A:Around) (s:Shared) (y x:Value) (b:Bool):Prop:=
 ∀ (prog:Program) (w:World) (E:Value->Shared->Prop) (Q:Value->Shared->Prop),Q (.bool b) s->wpAny (model prog w) A (richCompare op y x) Q E s
theorem mW (l b:Addr) (items items2:Array Value) (n n2:Nat) (dd dd2:Option Addr) (sl sl2:Array (Option Value)) (j:Nat) (h1:j < items.size) (h2:j < items2.size) (c:Bool) (k:Nat) :
   ∀ i:Nat,j - i=k->i<=j->Meets (Builtin.«list.__eq__.loop» ⟨[.ref l,.ref b,rawInt i,rawInt 0],[]⟩)
     (λA R s=>s.heap.get? l=some { cls:=.type "list",dict:=dd,data:=.seq items n,slots:=sl }/\s.heap.get? b=some { cls:=.type "list",dict:=dd2,data:=.seq items2 n2,slots:=sl2 } /\
       (∀ m (_:m < j) (z1:m < items.size) (z2:m < items2.size),EqAt A.in1 s items[m] items2[m] true)/\EqAt A.in1 s items[j] items2[j] false/\eh .Lt A.in1 s items[j] items2[j] c /\
       R (.ok (.ret (.bool c))) s):=by
 induction k with
 | zero=>
   intro i hk hij prog w A R s h
   obtain ⟨hp,g,d,tk,os⟩:=s; obtain ⟨hl,hb,he,hn,hc,h⟩:=h
   obtain rfl:i=j:=by omega
   wp_walk using wpAny_loadPart' hl,wpAny_loadPart' hb
   have hi1:items[((i:Nat):Int).toNat]?=some items[i]:=by simp [h1]
   have hi2:items2[((i:Nat):Int).toNat]?=some items2[i]:=by simp [h2]
   rw [hi1,hi2]
   refine wpAny_bind (hn prog w _ _ ?_)
   wp_walk using wpAny_loadPart' hl,wpAny_loadPart' hb
   rw [hi1,hi2]
   refine wpAny_bind (hc prog w _ _ ?_)
   wp_walk
   exact h
 | succ k ih=>
   intro i hk hij prog w A R s h
   obtain ⟨hp,g,d,tk,os⟩:=s; obtain ⟨hl,hb,he,hn,hc,h⟩:=h
   wp_walk using wpAny_loadPart' hl,wpAny_loadPart' hb
   have hlt:i < items.size:=by omega
   have hlt2:i < items2.size:=by omega
   have hi1:items[((i:Nat):Int).toNat]?=some items[i]:=by simp [hlt]
   have hi2:items2[((i:Nat):Int).toNat]?=some items2[i]:=by simp [hlt2]
   have hcc:((i:Int) + 1)=((i + 1:Nat):Int):=by push_cast; rfl
   rw [hi1,hi2]
   refine wpAny_bind (he i (by omega) hlt hlt2 prog w _ _ ?_)
   wp_walk
   rw [hcc]
   exact ⟨plainId_quiet plain_eq_loop _,codeAny_builtin entry_eq_loop (by
     rw [Around.under_plainId plain_eq_loop _]
     exact ih (i + 1) (by omega) (by omega) prog w A R _ ⟨hl,hb,he,hn,hc,h⟩)⟩
theorem mY (l b:Addr) (items items2:Array Value) (n n2:Nat) (dd dd2:Option Addr) (sl sl2:Array (Option Value)) (j:Nat) (h1:j < items.size) (h2:j < items2.size) (c:Bool) (k:Nat) :
   ∀ i:Nat,j - i=k->i<=j->Meets (Builtin.«list.__eq__.loop» ⟨[.ref l,.ref b,rawInt i,rawInt 4],[]⟩)
     (λA R s=>s.heap.get? l=some { cls:=.type "list",dict:=dd,data:=.seq items n,slots:=sl }/\s.heap.get? b=some { cls:=.type "list",dict:=dd2,data:=.seq items2 n2,slots:=sl2 } /\
       (∀ m (_:m < j) (z1:m < items.size) (z2:m < items2.size),EqAt A.in1 s items[m] items2[m] true)/\EqAt A.in1 s items[j] items2[j] false/\eh .Gt A.in1 s items[j] items2[j] c /\
       R (.ok (.ret (.bool c))) s):=by
 induction k with
 | zero=>
   intro i hk hij prog w A R s h
   obtain ⟨hp,g,d,tk,os⟩:=s; obtain ⟨hl,hb,he,hn,hc,h⟩:=h
   obtain rfl:i=j:=by omega
   wp_walk using wpAny_loadPart' hl,wpAny_loadPart' hb
   have hi1:items[((i:Nat):Int).toNat]?=some items[i]:=by simp [h1]
   have hi2:items2[((i:Nat):Int).toNat]?=some items2[i]:=by simp [h2]
   rw [hi1,hi2]
   refine wpAny_bind (hn prog w _ _ ?_)
   wp_walk using wpAny_loadPart' hl,wpAny_loadPart' hb
   rw [hi1,hi2]
   refine wpAny_bind (hc prog w _ _ ?_)
   wp_walk
   exact h
 | succ k ih=>
   intro i hk hij prog w A R s h
   obtain ⟨hp,g,d,tk,os⟩:=s; obtain ⟨hl,hb,he,hn,hc,h⟩:=h
   wp_walk using wpAny_loadPart' hl,wpAny_loadPart' hb
   have hlt:i < items.size:=by omega
   have hlt2:i < items2.size:=by omega
   have hi1:items[((i:Nat):Int).toNat]?=some items[i]:=by simp [hlt]
   have hi2:items2[((i:Nat):Int).toNat]?=some items2[i]:=by simp [hlt2]
   have hcc:((i:Int) + 1)=((i + 1:Nat):Int):=by push_cast; rfl
   rw [hi1,hi2]
   refine wpAny_bind (he i (by omega) hlt hlt2 prog w _ _ ?_)
   wp_walk
   rw [hcc]
   exact ⟨plainId_quiet plain_eq_loop _,codeAny_builtin entry_eq_loop (by
     rw [Around.under_plainId plain_eq_loop _]
     exact ih (i + 1) (by omega) (by omega) prog w A R _ ⟨hl,hb,he,hn,hc,h⟩)⟩
theorem nV (l b:Addr) (items items2:Array Value) (n n2:Nat) (dd dd2:Option Addr) (sl sl2:Array (Option Value)) (j:Nat) (h1:j < items.size) (h2:j < items2.size) (c:Bool) :
   Meets (Builtin.«list.__lt__» ⟨[.ref l,.ref b],[]⟩)
     (λA R s=>s.heap.get? l=some { cls:=.type "list",dict:=dd,data:=.seq items n,slots:=sl }/\s.heap.get? b=some { cls:=.type "list",dict:=dd2,data:=.seq items2 n2,slots:=sl2 } /\
       (∀ m (_:m < j) (z1:m < items.size) (z2:m < items2.size),EqAt A.in1 s items[m] items2[m] true)/\EqAt A.in1 s items[j] items2[j] false/\eh .Lt A.in1 s items[j] items2[j] c /\
       R (.ok (.ret (.bool c))) s):=by
 intro prog w A R s h
 obtain ⟨hp,g,d,tk,os⟩:=s; obtain ⟨hl,hb,he,hn,hc,h⟩:=h
 have f3:=AutoSeq1.sub_list_list
 wp_walk using wpAny_loadPart' hl,wpAny_loadPart' hb
 exact ⟨plainId_quiet plain_eq_loop _,codeAny_builtin entry_eq_loop (by
   rw [Around.under_plainId plain_eq_loop _]
   exact mW l b items items2 n n2 dd dd2 sl sl2 j h1 h2 c _ 0 rfl (Nat.zero_le _) prog w A R _ ⟨hl,hb,he,hn,hc,h⟩)⟩
theorem eh.lt {A:Around} {s:Shared} {l b:Addr} {items items2:Array Value} {j:Nat} {c:Bool} (hl:s.heap.IsList l items) (hb:s.heap.IsList b items2) (hu:A.units < cLine) (h1:j < items.size) (h2:j < items2.size)
   (he:∀ m (_:m < j) (z1:m < items.size) (z2:m < items2.size),EqAt A.in1 s items[m] items2[m] true) (hn:EqAt A.in1 s items[j] items2[j] false) (hc:eh .Lt A.in1 s items[j] items2[j] c):eh .Lt A s (.ref l) (.ref b) c:=λprog w E Q h=>by
 obtain ⟨⟨cls,dd,data,sl⟩,ho,hc1,n,hd⟩:=id hl
 obtain ⟨⟨cls2,dd2,data2,sl2⟩,ho2,hc2,n2,hd2⟩:=id hb
 simp only at hc1 hd hc2 hd2
 subst hc1 hd hc2 hd2
 exact richCompare_meets_room (op:=.Lt) ⟨_,ho,rfl⟩ ⟨_,ho2,rfl⟩ F.slot_list_lt F.entry_list_lt (F.args_list_lt_2 _ _) (nV l b items items2 n n2 dd dd2 sl sl2 j h1 h2 c)
   ⟨ho,ho2,he,hn,hc,show Value.bool c ≠ Value.notImplemented/\Q (.bool c) s from ⟨(λx=>nomatch x),h⟩⟩ hu
theorem nu (l b:Addr) (items items2:Array Value) (n n2:Nat) (dd dd2:Option Addr) (sl sl2:Array (Option Value)) (j:Nat) (h1:j < items.size) (h2:j < items2.size) (c:Bool) :
   Meets (Builtin.«list.__gt__» ⟨[.ref l,.ref b],[]⟩)
     (λA R s=>s.heap.get? l=some { cls:=.type "list",dict:=dd,data:=.seq items n,slots:=sl }/\s.heap.get? b=some { cls:=.type "list",dict:=dd2,data:=.seq items2 n2,slots:=sl2 } /\
       (∀ m (_:m < j) (z1:m < items.size) (z2:m < items2.size),EqAt A.in1 s items[m] items2[m] true)/\EqAt A.in1 s items[j] items2[j] false/\eh .Gt A.in1 s items[j] items2[j] c /\
       R (.ok (.ret (.bool c))) s):=by
 intro prog w A R s h
 obtain ⟨hp,g,d,tk,os⟩:=s; obtain ⟨hl,hb,he,hn,hc,h⟩:=h
 have f3:=AutoSeq1.sub_list_list
 wp_walk using wpAny_loadPart' hl,wpAny_loadPart' hb
 exact ⟨plainId_quiet plain_eq_loop _,codeAny_builtin entry_eq_loop (by
   rw [Around.under_plainId plain_eq_loop _]
   exact mY l b items items2 n n2 dd dd2 sl sl2 j h1 h2 c _ 0 rfl (Nat.zero_le _) prog w A R _ ⟨hl,hb,he,hn,hc,h⟩)⟩
theorem eh.gt {A:Around} {s:Shared} {l b:Addr} {items items2:Array Value} {j:Nat} {c:Bool} (hl:s.heap.IsList l items) (hb:s.heap.IsList b items2) (hu:A.units < cLine) (h1:j < items.size) (h2:j < items2.size)
   (he:∀ m (_:m < j) (z1:m < items.size) (z2:m < items2.size),EqAt A.in1 s items[m] items2[m] true) (hn:EqAt A.in1 s items[j] items2[j] false) (hc:eh .Gt A.in1 s items[j] items2[j] c):eh .Gt A s (.ref l) (.ref b) c:=λprog w E Q h=>by
 obtain ⟨⟨cls,dd,data,sl⟩,ho,hc1,n,hd⟩:=id hl
 obtain ⟨⟨cls2,dd2,data2,sl2⟩,ho2,hc2,n2,hd2⟩:=id hb
 simp only at hc1 hd hc2 hd2
 subst hc1 hd hc2 hd2
 exact richCompare_meets_room (op:=.Gt) ⟨_,ho,rfl⟩ ⟨_,ho2,rfl⟩ F.slot_list_gt F.entry_list_gt (F.args_list_gt_2 _ _) (nu l b items items2 n n2 dd dd2 sl sl2 j h1 h2 c)
   ⟨ho,ho2,he,hn,hc,show Value.bool c ≠ Value.notImplemented/\Q (.bool c) s from ⟨(λx=>nomatch x),h⟩⟩ hu
inductive LtW:D->D->Prop where
 | int {i j:Int} (h:i < j):LtW (.int i) (.int j)
 | lst {xs ys:List D} {j:Nat} {x y:D} (hx:xs[j]?=some x) (hy:ys[j]?=some y) (he:∀ m,m < j->∃ x y,xs[m]?=some x/\ys[m]?=some y/\eqD x y=true/\eqD y x=true) (hn:eqD x y=false) (hn':eqD y x=false) (h:LtW x y):LtW (.lst xs) (.lst ys)
section
variable {X:Cx} {pins:List (Addr × Obj)} {σ:L2.St} {H G:Hp} {s:Shared}
open Ev (cln c0 dep cY bc cW ea fj)
theorem d8:∀ {xs:List D} {j:Nat} {x:D},c0 xs=true->xs[j]?=some x->cln x=true/\dep x<=cY xs
 | y :: ys,0,x,h,e=>by
   cases e
   rw [c0,Bool.and_eq_true] at h
   rw [cY]
   exact ⟨h.1,Nat.le_max_left _ _⟩
 | y :: ys,j + 1,x,h,e=>by
   rw [c0,Bool.and_eq_true] at h
   obtain ⟨h1,h2⟩:=d8 (xs:=ys) h.2 e
   rw [cY]
   exact ⟨h1,Nat.le_trans h2 (Nat.le_max_right _ _)⟩
theorem eg {K:PySem.W.Frag} {G:Hp}:∀ {vs:List V} {xs:List D} {us:List Value},ax K G vs xs->Vals vs us->∀ {j:Nat} {x:D},xs[j]?=some x->∃ v u,us[j]?=some u/\Den K G v x/\RelV v u
 | _,_,_,.cons d r,.cons q qs,0,x,e=>by cases e; exact ⟨_,_,rfl,d,q⟩
 | _,_,_,.cons d r,.cons q qs,j + 1,x,e=>eg r qs (j:=j) e
 | _,_,_,.nil,.nil,_,_,e=>by cases e
theorem eA (I:Inv X pins σ H s) (e:af G H) {A:Around} {v v':V} {x y:D} {u u':Value} (d:Den X.K G v x) (r:RelV v u) (d':Den X.K G v' y) (r':RelV v' u') (c1:cln x=true) (c2:cln y=true) (hu:A.units + dep x < cLine):EqAt A s u u' (eqD x y):=by
 obtain ⟨as,z1⟩:=bc I e d r
 obtain ⟨bs,z2⟩:=bc I e d' r'
 rw [<- cW]
 refine eqAt_reads _ _ A s u u' as bs z1 z2 (by rw [ea]; exact c1) (by rw [ea]; exact c2) ?_
 rw [fj]
 exact Nat.lt_of_le_of_lt (Nat.add_le_add_left (Nat.min_le_left _ _) _) hu
theorem ou (I:Inv X pins σ H s) (e:af G H) {x y:D} (h:LtW x y):∀ {A:Around} {v v':V} {u u':Value},Den X.K G v x->RelV v u->Den X.K G v' y->RelV v' u'->cln x=true->cln y=true->A.units + dep x < cLine->A.units + dep y < cLine->eh .Lt A s u u' true/\eh .Gt A s u' u true:=by
 induction h with
 | int h=>
   intro A v v' u u' d r d' r' _ _ _ _
   cases d; cases d'
   obtain ⟨t,rfl⟩:=r
   obtain ⟨t',rfl⟩:=r'
   refine ⟨λprog w E Q q=>(PyProof.Rows.lt_int (by rw [decide_eq_true h]; exact q):wpAny (model prog w) A (compareOp .Lt _ _) Q E s),λprog w E Q q=>(PyProof.Rows.gt_int (by rw [decide_eq_true (show _ from h)]; exact q):wpAny (model prog w) A (compareOp .Gt _ _) Q E s)⟩
 | @lst xs ys j x y hx hy he hn hn' _ ih=>
   intro A v v' u u' d r d' r' c1 c2 u1 u2
   rw [cln] at c1 c2
   rw [dep] at u1 u2
   cases d with
   | lst z q=>
   cases d' with
   | lst z' q'=>
   cases r; cases r'
   obtain ⟨its,rv,pl,_⟩:=I.list (Ev.aC e z)
   obtain ⟨its2,rv2,pl2,_⟩:=I.list (Ev.aC e z')
   obtain ⟨a,b,e1,da,ra⟩:=eg q rv hx
   obtain ⟨a',b',e1',da',ra'⟩:=eg q' rv2 hy
   obtain ⟨c3,k3⟩:=d8 c1 hx
   obtain ⟨c4,k4⟩:=d8 c2 hy
   have s1:=(List.getElem?_eq_some_iff.mp e1).1
   have s2:=(List.getElem?_eq_some_iff.mp e1').1
   have g1:its.toArray[j]'(by simpa using s1)=b:=by simpa using (List.getElem?_eq_some_iff.mp e1).2
   have g2:its2.toArray[j]'(by simpa using s2)=b':=by simpa using (List.getElem?_eq_some_iff.mp e1').2
   have i1:∀ A:Around,A.in1.units=A.units + 1:=λ_=>rfl
   obtain ⟨r1,r2⟩:=ih (A:=A.in1) da ra da' ra' c3 c4 (by rw [i1]; omega) (by rw [i1]; omega)
   have eqs:∀ m,m < j->∀ (z1:m < its.toArray.size) (z2:m < its2.toArray.size),EqAt A.in1 s its.toArray[m] its2.toArray[m] true/\EqAt A.in1 s its2.toArray[m] its.toArray[m] true:=λm hm z1 z2=>by
     obtain ⟨x',y',f1,f2,f3,f3'⟩:=he m hm
     obtain ⟨a,b,e2,da,ra⟩:=eg q rv f1
     obtain ⟨a',b',e2',da',ra'⟩:=eg q' rv2 f2
     obtain ⟨c3,k3⟩:=d8 c1 f1
     obtain ⟨c4,k4⟩:=d8 c2 f2
     have g1:its.toArray[m]=b:=by simpa using (List.getElem?_eq_some_iff.mp e2).2
     have g2:its2.toArray[m]=b':=by simpa using (List.getElem?_eq_some_iff.mp e2').2
     rw [g1,g2]
     have k1:=eA (A:=A.in1) I e da ra da' ra' c3 c4 (by rw [i1]; omega)
     have k2:=eA (A:=A.in1) I e da' ra' da ra c4 c3 (by rw [i1]; omega)
     rw [f3] at k1
     rw [f3'] at k2
     exact ⟨k1,k2⟩
   have n1:=eA (A:=A.in1) I e da ra da' ra' c3 c4 (by rw [i1]; omega)
   have n2:=eA (A:=A.in1) I e da' ra' da ra c4 c3 (by rw [i1]; omega)
   rw [hn] at n1
   rw [hn'] at n2
   refine ⟨eh.lt (pl.isList) (pl2.isList) (by omega) (j:=j) (by simpa using s1) (by simpa using s2) (λm hm z1 z2=>(eqs m hm z1 z2).1) (by rw [g1,g2]; exact n1) (by rw [g1,g2]; exact r1),
     eh.gt (pl2.isList) (pl.isList) (by omega) (j:=j) (by simpa using s2) (by simpa using s1) (λm hm z1 z2=>(eqs m hm z2 z1).2) (by rw [g1,g2]; exact n2) (by rw [g1,g2]; exact r2)⟩
end
end Lc
namespace Hy
open PySem PySem.Spec PyProof.Rows L2
open Ev (D Den ax bP)
theorem qd {X:Cx} {k:Nat} {x y:D} (B:Bk X k) (h1:bP x) (h2:bP y) (h:Lc.LtW x y):bu X (compareOp .Lt) x y (.bl true):=⟨λx y H Q=>∃ G d e,af G H/\Den X.K G x d/\Den X.K G y e/\bP d/\bP e/\Lc.LtW d e/\Q (.bl true) H,
 λpins s σ H x y v u Q I rx ry ⟨G,d,e,sg,dx,dy,o1,o2,w,q⟩=>(Lc.ou I sg w dx rx dy ry o1.1 o2.1 (Nat.lt_of_le_of_lt (Nat.add_le_add_left o1.2 _) B.room.units) (Nat.lt_of_le_of_lt (Nat.add_le_add_left o2.2 _) B.room.units)).1 _ _ _ _ ⟨.bl true,H,I,rfl,q⟩,
 λM v w H Q _ d1 d2 q=>⟨_,x,y,aD,d1,d2,h1,h2,h,q _ H (af.refl _) .bl⟩⟩
theorem pY {X:Cx} {k:Nat} {x y:D} (B:Bk X k) (h1:bP x) (h2:bP y) (h:Lc.LtW y x):bu X (compareOp .Gt) x y (.bl true):=⟨λx y H Q=>∃ G d e,af G H/\Den X.K G x d/\Den X.K G y e/\bP d/\bP e/\Lc.LtW e d/\Q (.bl true) H,
 λpins s σ H x y v u Q I rx ry ⟨G,d,e,sg,dx,dy,o1,o2,w,q⟩=>(Lc.ou I sg w dy ry dx rx o2.1 o1.1 (Nat.lt_of_le_of_lt (Nat.add_le_add_left o2.2 _) B.room.units) (Nat.lt_of_le_of_lt (Nat.add_le_add_left o1.2 _) B.room.units)).2 _ _ _ _ ⟨.bl true,H,I,rfl,q⟩,
 λM v w H Q _ d1 d2 q=>⟨_,x,y,aD,d1,d2,h1,h2,h,q _ H (af.refl _) .bl⟩⟩
end Hy
namespace Hy
open PySem PySem.Spec PyProof.Rows L2
open Ev (D Den ax)
noncomputable def But (d:Addr) (H H':Hp):Prop:=∀ b o,b ≠ d->H b=some o->H' b=some o
theorem But.same {H H':Hp} {d:Addr} (e:af H H'):But d H H':=λb o _ h=>e b o h
theorem But.trans {H H1 H2:Hp} {d:Addr} (a:But d H H1) (b:But d H1 H2):But d H H2:=λc o n h=>b c o n (a c o n h)
theorem But.hd {H H':Hp} {d:Addr} {M:Addr->Prop} (e:But d H H') (h:M d):af (Hy.hd H M) (Hy.hd H' M):=λb o z=>by
 obtain ⟨z1,z2⟩:=aj.mp z
 exact aj.mpr ⟨z1,e b o (λy=>z1 (y ▸ h)) z2⟩
noncomputable def Hid (M:Addr->Prop) (H:Hp) (d:Addr):Prop:=M d/\∀ b,M b->∃ o,H b=some o
theorem Hid.but {M:Addr->Prop} {H H':Hp} {d:Addr} (h:Hid M H d) (e:But d H H') (hd:∃ o,H' d=some o):Hid M H' d:=⟨h.1,λb z=>by
 by_cases q:b=d
 · rw [q]; exact hd
 · obtain ⟨o,y⟩:=h.2 b z
   exact ⟨o,e b o q y⟩⟩
theorem Hid.same {M:Addr->Prop} {H H':Hp} {d:Addr} (h:Hid M H d) (e:af H H'):Hid M H' d:=⟨h.1,λb z=>let ⟨o,y⟩:=h.2 b z; ⟨o,e b o y⟩⟩
noncomputable def du (P:Program) (w:World) (K:PySem.W.Frag) (mg:Str->Option Value) (base:Heap) (k:Nat) (n:Str) (sp:Sp):Prop:=
 ∃ f fd ps,aL P w K mg base CX0 k f fd ps sp/\mg n=some (.ref f)/\PySem.W.keepIn K (.ref f)=true/\Binds K fd ps []
theorem du.mono {P:Program} {w:World} {K:PySem.W.Frag} {mg:Str->Option Value} {base:Heap} {j k:Nat} {n:Str} {sp:Sp} (c:du P w K mg base j n sp) (h:j<=k):du P w K mg base k n sp:=
 let ⟨f,fd,ps,F,r⟩:=c; ⟨f,fd,ps,F.mono h,r⟩
noncomputable def H00:Hp:=λ_=>none
theorem jU {K:PySem.W.Frag} {G:Hp} {v:V} {x:D} (h:Den K H00 v x):Den K G v x:=h.mono λ_ o z=>nomatch (show none=some o from z)
section
variable {K:PySem.W.Frag} {A:Addr->Prop} {H₀ H H':Hp} {τ:List Sl} {B:Nat->List Addr} {σ:L2.St}
theorem Sta.hid (S:Sta K A H₀ τ B σ H) {i:Nat} {a:Addr} (hB:B i=[a]):Hid (own A B) H a:=⟨.inr ⟨i,by rw [hB]; exact List.mem_singleton.mpr rfl⟩,S.dm⟩
theorem Sta.but (S:Sta K A H₀ τ B σ H) {i:Nat} {a:Addr} {E E':Ex} {o':HO} (hi:τ[i]?=some (.x E)) (hB:B i=[a]) (e:But a H H') (ho:H' a=some o') (d:E'.p K (hd H' (own A B)) o' a):Sta K A H₀ (τ.set i (.x E')) B σ H':=by
 have sm:af (hd H (own A B)) (hd H' (own A B)):=e.hd (S.hid hB).1
 have f0:H₀ a=none:=S.fr i a (by rw [hB]; exact List.mem_singleton.mpr rfl)
 have hs:af H₀ H':=λb o z=>e b o (λq=>by rw [q,f0] at z; cases z) (S.same b o z)
 refine ⟨hs,by rw [List.length_set,S.len],λj t hj=>?_,S.fr,S.uq,S.ad,λj b hb=>((S.hid hB).but e ⟨_,ho⟩).2 b (.inr ⟨j,hb⟩)⟩
 by_cases ej:j=i
 · subst ej
   have hl:=(List.getElem?_eq_some_iff.mp hi).1
   rw [List.getElem?_set_self hl] at hj
   cases hj
   obtain ⟨a',o,e1,e2,_,_⟩:=S.sl j _ hi
   rw [hB] at e1
   cases e1
   exact ⟨a,o',hB,e2,ho,d⟩
 · rw [List.getElem?_set_ne (λz=>ej z.symm)] at hj
   have off:∀ b ∈ B j,b ≠ a:=λb hb e=>ej (S.uq j i a (e ▸ hb) (by rw [hB]; exact List.mem_singleton.mpr rfl))
   have ne:∀ b ∈ B j,H' b=H b:=λb hb=>by
     obtain ⟨o,q⟩:=S.bd j b hb
     rw [q]
     exact e b o (off b hb) q
   exact (S.sl j t hj).frame sm ne
end
noncomputable def pG (K:PySem.W.Frag) (E:Ex) (sp:Sp) (ds:List D) (z:D):Prop:=∀ (M:Addr->Prop) (d:Addr) (o:HO) (vs:List V) (H:Hp) (Q:VK) (E0:XK),Hid M H d->H d=some o->E.p K (hd H M) o d->ax K (hd H M) vs ds ->
 (∀ v H' o',But d H H'->H' d=some o'->E.p K (hd H' M) o' d->Den K H00 v z->Q v H')->sp (.ref d :: vs) H Q E0
noncomputable def dM (K:PySem.W.Frag) (τ:List Sl) (z:D):TE:=λσ H Q=>∃ A H₀ B,Sta K A H₀ τ B σ H/\∀ v H',Sta K A H₀ τ B σ H'->Den K H00 v z->Q v H'
noncomputable def dAM (K:PySem.W.Frag) (τ:List Sl) (ds:List D):TA:=λσ H Q=>∃ A H₀ B,Sta K A H₀ τ B σ H/\∀ vs H',Sta K A H₀ τ B σ H'->ax K H00 vs ds->Q vs H'
noncomputable def dTM (K:PySem.W.Frag) (τ:List Sl) (c:Bool):TT:=λσ H Q=>∃ A H₀ B,Sta K A H₀ τ B σ H/\∀ H',Sta K A H₀ τ B σ H'->Q c H'
section
variable {X:Cx} {τ:List Sl} {x y z:D} {a b e c:Expr} {es:List Expr} {pos p q:Pos} {k:Nat} {s:Sl} {ds:List D} {N:Po} {rest body:List Stmt}
theorem mx {K:PySem.W.Frag} {G:Hp}:∀ {vs:List V} {ds:List D},ax K H00 vs ds->ax K G vs ds
 | _,_,.nil=>.nil
 | _,_,.cons h r=>.cons (jU h) (mx r)
theorem jx (i:Nat) {n nk:Str} {E:Ex} {sp:Sp} (Bb:Bk X k) (cl:du X.prog X.w X.K X.mg X.base k n sp) (hL:pG X.K E sp ds z) (hi:τ[i]?=some (.x E)) (ha:PA X es (dA X.K true τ ds)) (hN:X.N[i]?=some nk:=by rfl)
   (hv:Vis X.env.scope nk:=by first | exact Or.inl rfl | exact Or.inr (Or.inl rfl) | exact Or.inr (Or.inr rfl)) (hd1:(nk == ("__debug__" : Str))=false:=by decide) (hcd:(nk == ("__classdict__" : Str))=false:=by decide)
   (hg:Gl X n:=by rfl) (hdb:(n == ("__debug__" : Str))=false:=by decide) (he:starEach (.Name nk q :: es) X.env=(false,eval (.Name nk q) X.env) :: starEach es X.env:=by rfl) (hpl:(backTo pos (starEach es X.env)).any (·.1)=false:=by rfl) :
   PE X (.Call (.Name n p) (.Name nk q :: es) [] pos) (dM X.K τ z):=by
 obtain ⟨f,fd,ps,F,hm,hk,hb⟩:=cl
 refine peW (bE F Bb.room hg hm hk hb .nil dR (aw (cE (i:=i) hN hv hd1 hcd) ha he) hdb he hpl) λσ H Q ⟨A,H₀,B,S,kk⟩=>?_
 obtain ⟨d,o,h1,h2,h3,h4⟩:=S.sl i _ hi
 refine ⟨_,slot_of h2,cH S λvs H1 e1 d1=>?_⟩
 have S1:=S.mono e1
 obtain ⟨d',o1,g1,g2,g3,g4⟩:=S1.sl i _ hi
 rw [h2] at g2
 cases g2
 show sp (_++[]) _ _ _
 rw [List.append_nil]
 refine hL (own A B) d o1 vs H1 Q _ (S1.hid h1) g3 g4 d1 λv H' o' b1 h' p' dv=>kk v H' ?_ dv
 have:=S1.but hi h1 b1 h' p'
 rwa [show τ.set i (.x E)=τ from set_same hi] at this
theorem rA {op:Operator} {i:Int} (ha:PE X a (dE X.K true τ (.d (.int i)))) (hb:PE X b (dM X.K τ y)) (ho:bu X (binaryOp op) (.int i) y z) (f:flat z=true:=by rfl):PE X (.BinOp a op b pos) (dM X.K τ z):=by
 obtain ⟨r,h1,h2⟩:=ho
 exact peW (cy h1 ha hb) λσ H Q ⟨A,H₀,B,S,kk⟩=>aP S λv H1 e1 d1=>⟨A,H₀,B,S.mono e1,λw H2 S2 d2=>h2 (own A B) v w H2 Q S2.dm (bb d1 rfl) (jU d2) λu H' e3 d3=>kk u H' (S2.mono e3) (bb d3 f)⟩
theorem qA {op:Operator} {j:Int} (ha:PE X a (dM X.K τ x)) (hb:PE X b (dE X.K true τ (.d (.int j)))) (ho:bu X (binaryOp op) x (.int j) z) (f:flat z=true:=by rfl):PE X (.BinOp a op b pos) (dM X.K τ z):=by
 obtain ⟨r,h1,h2⟩:=ho
 exact peW (cy h1 ha hb) λσ H Q ⟨A,H₀,B,S,kk⟩=>⟨A,H₀,B,S,λv H1 S1 d1=>aP S1 λw H2 e2 d2=>h2 (own A B) v w H2 Q (S1.mono e2).dm (jU d1) (bb d2 rfl) λu H' e3 d3=>kk u H' ((S1.mono e2).mono e3) (bb d3 f)⟩
theorem qO (h:PE X e (dM X.K τ z)) (hs:starEach [e] X.env=(false,eval e X.env) :: starEach [] X.env:=by rfl):PA X [e] (dAM X.K τ [z]):=paW (aw h bj hs) λσ H Q ⟨A,H₀,B,S,kk⟩=>⟨A,H₀,B,S,λv H' S' d=>kk [v] H' S' (.cons d .nil)⟩
theorem mD (h:PE X e (dE X.K true τ (.d x))) (hr:PA X es (dAM X.K τ ds)) (f:flat x=true:=by rfl) (hs:starEach (e :: es) X.env=(false,eval e X.env) :: starEach es X.env:=by rfl):PA X (e :: es) (dAM X.K τ (x :: ds)):=paW (aw h hr hs) λσ H Q ⟨A,H₀,B,S,kk⟩=>aP S λv H1 e1 d1=>⟨A,H₀,B,S.mono e1,λvs H' S' d=>kk (v :: vs) H' S' (.cons (bb d1 f) d)⟩
theorem pf {n:Str} {Φ:List D->Sl->Prop} (Bb:Bk X k) (cl:Cal X.prog X.w X.K X.mg X.base k n Φ) (ha:PA X (e :: es) (dAM X.K τ ds)) (h:Φ ds (.d z)) (f:flat z=true:=by rfl) (hg:Gl X n:=by rfl) (hdb:(n == ("__debug__" : Str))=false:=by decide)
   (he:starEach (e :: es) X.env=(false,eval e X.env) :: starEach es X.env:=by rfl) (hpl:(backTo pos (starEach es X.env)).any (·.1)=false:=by rfl):PE X (.Call (.Name n p) (e :: es) [] pos) (dM X.K τ z):=by
 obtain ⟨f',fd,ps,F,hm,hk,hb⟩:=cl
 refine peW (bE F Bb.room hg hm hk hb .nil dR ha hdb he hpl) λσ H Q ⟨A,H₀,B,S,kk⟩=>⟨A,H₀,B,S,λvs H1 S1 d1=>?_⟩
 show spD X.K Φ (_++[]) _ _ _
 rw [List.append_nil]
 exact ⟨own A B,ds,.d z,S1.dm,mx d1,h,λv H' bs e2 _ ⟨_,u,eu,h2⟩=>by cases eu; exact kk v H' (S1.mono e2) (bb h2 f)⟩
theorem pR {c:Bool} (h:PE X e (dM X.K τ (.bl c))) (he:∀ whole,isTrue e X.env whole=(do let v <- whole; standAt e.pos; holding [v] (truthy v)):=by intro _; rfl):PT X e (dTM X.K τ c):=
 ptW (js h he) λσ H Q ⟨A,H₀,B,S,kk⟩=>⟨A,H₀,B,S,λv H' S' d=>by cases d; exact ⟨c,rfl,kk H' S'⟩⟩
theorem lM (i:Nat) {n:Str} (hN:X.N.Nodup) (he:PE X e (dM X.K τ z)) (hr:PSs X rest (dS X.K (τ.set i (.d z)) N)) (hi:X.N[i]?=some n:=by rfl) (hx:Loc X.env.scope n:=by first | exact .inl rfl | exact .inr rfl) (hs:swapsWith e (some (.Name n p)) pos.line X.env=pure false:=by rfl)
   (hf:X.fn n=true\/X.env.scope.names.lookup n=some .local:=by first | exact .inl rfl | exact .inr rfl | assumption):PSs X (.Assign [.Name n p] e pos :: rest) (dS X.K τ N):=
 bf (M:=(·=τ.set i (.d z))) (psW (iO hN hi hx he hs hf) λD σ H ⟨A,H₀,B,S,Me⟩=>⟨A,H₀,B,S,λv H' S' d=>Me.nx _ _ _ _ rfl (S'.set (af.refl _) (bs:=[]) (λ_ z=>nomatch z) ⟨rfl,v,rfl,jU d⟩)⟩) λ_ e=>e ▸ hr
theorem qI {t:Bool} (hc:PT X c (dTM X.K τ t)) (ht:t=false) (hr:PSs X rest (dS X.K τ N)):PSs X (.If c body [] pos :: rest) (dS X.K τ N):=
 bf (M:=(·=τ)) (psW (fZ hc cS cU) λD σ H ⟨A,H₀,B,S,Me⟩=>⟨A,H₀,B,S,λH' S'=>by subst ht; exact gB (Me.nx _ _ _ _ rfl S')⟩) λ_ e=>e ▸ hr
end
noncomputable def spR (K:PySem.W.Frag) (Φ:Ex->List D->Sl->Prop):Sp:=λvs H Q _=>∃ (A:Addr->Prop) (d:Addr) (o:HO) (us:List V) (E:Ex) (ds:List D) (s:Sl),vs=.ref d :: us/\(∀ b,A b->∃ o,H b=some o)/\¬ A d/\H d=some o/\E.p K (hd H λb=>A b\/b=d) o d/\ax K (hd H λb=>A b\/b=d) us ds/\Φ E ds s /\
 ∀ v H' bs,af (hd H (·=d)) H'->Fr (hd H (·=d)) H' bs->a8 K (hd H' λb=>A b\/b ∈ bs) H' (some v) bs s->Q v H'
section
variable {P:Program} {w:World} {K:PySem.W.Frag} {mg:Str->Option Value} {base:Heap}
theorem fnR {x qual:Str} {st:Stmt} {f:Addr} {fd:FuncData} {N ps:List Str} {k:Nat} {Φ:Ex->List D->Sl->Prop} (F:Fun K x qual st f fd) (S:ay N ps (ai st)) (hb:∀ x ∈ ar,mg x=none) (len:∀ E ds r,Φ E ds r->ds.length + 1=ps.length)
   (body:∀ E ds r,Φ E ds r->∀ cdv A outer s H E0,Bk (Xc P w K mg base N qual st f cdv A outer s H E0) k->PSs (Xc P w K mg base N qual st f cdv A outer s H E0) (bq st) (dS K (.x E :: (ds.map .d++List.replicate (N.length - (ds.length + 1)) .un)) { nx:=λ_=>False,rt:=λr'=>r'=r })) :
   aL P w K mg base CX0 (k + 1) f fd ps (spR K Φ):=by
 refine F.ok S (λvs H Q E ⟨A,d,o,us,_,ds,r,hvs,_,_,_,_,dd,h,_⟩=>by rw [hvs,List.length_cons,dd.length]; exact len _ ds r h) λcdv A outer s H vs Q E hr ⟨A',d,o,us,E',ds,r,hvs,ha,nd,hd,hp,dd,h,q⟩=>?_
 subst hvs
 have ow:∀ b,own A' (λi=>if i=0 then [d] else []) b ↔ (A' b\/b=d):=λb=>by
   refine ⟨λz=>z.elim .inl λ⟨i,z⟩=>?_,λz=>z.elim .inl λz=>.inr ⟨0,by simp [z]⟩⟩
   by_cases e:i=0
   · simp only [if_pos e] at z; exact .inr (List.mem_singleton.mp z)
   · simp only [if_neg e] at z; cases z
 have hB:∀ i b,b ∈ (if i=0 then [d] else []:List Addr)->i=0/\b=d:=λi b z=>by
   by_cases e:i=0
   · rw [if_pos e] at z; exact ⟨e,List.mem_singleton.mp z⟩
   · rw [if_neg e] at z; cases z
 have vw:af (Hy.hd H λb=>A' b\/b=d) (Hy.hd H (own A' λi=>if i=0 then [d] else [])):=aq (af.refl _) λb z=>(ow b).mp z
 refine ⟨_,body E' ds r h cdv A outer s H E ⟨hr,rfl,hb,PassesOwn.never⟩,A',Hy.hd H (·=d),λi=>if i=0 then [d] else [],⟨aD,?_,λi s hi=>?_,λi b z=>?_,λi j b z1 z2=>((hB i b z1).1).trans ((hB j b z2).1).symm,λb z=>?_,λi b z=>⟨o,by rw [(hB i b z).2]; exact hd⟩⟩,λτ B σ H' h S=>h.elim,λ_ _ _ _ h=>h.elim,λ_ _ _ _ h=>h.elim,λv H' bs s h e hf z=>?_⟩
 · unfold L2.start
   simp [dd.length]
 · have hl:=dd.length
   unfold L2.start
   match i,hi with
   | 0,hi=>
     cases hi
     exact ⟨d,o,rfl,rfl,hd,E'.mono vw hp⟩
   | i + 1,hi=>
     rw [List.getElem?_cons_succ] at hi
     show a8 K _ H ((((us.map some)++_)[i]?).join) _ s
     by_cases hlt:i < ds.length
     · rw [List.getElem?_append_left (by simpa using hlt),List.getElem?_map,List.getElem?_eq_getElem hlt] at hi
       cases hi
       obtain ⟨v,e,dv⟩:=dd.get (List.getElem?_eq_getElem hlt)
       refine ⟨rfl,v,?_,dv.mono vw⟩
       rw [List.getElem?_append_left (by simpa [hl] using hlt),List.getElem?_map,e]
       rfl
     · rw [List.getElem?_append_right (by simpa using hlt),List.getElem?_replicate] at hi
       split at hi
       · cases hi; rfl
       · cases hi
 · rw [(hB i b z).2]
   unfold Hy.hd
   rw [if_pos rfl]
 · obtain ⟨o,y⟩:=ha b z
   exact ⟨o,aj.mpr ⟨λe=>nd (e ▸ z),y⟩⟩
 · obtain rfl:=(h:s=r)
   exact q v H' bs e hf z
end
section
variable {X:Cx} {τ:List Sl} {es:List Expr} {pos p q pr:Pos} {k:Nat} {s:Sl} {ds:List D} {N:Po} {rest:List Stmt}
theorem oV (i:Nat) {n nk:Str} {E:Ex} {Φ:Ex->List D->Sl->Prop} (Bb:Bk X k) (cl:du X.prog X.w X.K X.mg X.base k n (spR X.K Φ)) (hΦ:Φ E ds s) (h:N.rt s) (hi:τ[i]?=some (.x E)) (ha:PA X es (dA X.K true τ ds)) (hN:X.N[i]?=some nk:=by rfl)
   (hv:Vis X.env.scope nk:=by first | exact Or.inl rfl | exact Or.inr (Or.inl rfl) | exact Or.inr (Or.inr rfl)) (hd1:(nk == ("__debug__" : Str))=false:=by decide) (hcd:(nk == ("__classdict__" : Str))=false:=by decide)
   (hg:Gl X n:=by rfl) (hdb:(n == ("__debug__" : Str))=false:=by decide) (he:starEach (.Name nk q :: es) X.env=(false,eval (.Name nk q) X.env) :: starEach es X.env:=by rfl) (hpl:(backTo pos (starEach es X.env)).any (·.1)=false:=by rfl) :
   PSs X (.Return (some (.Call (.Name n p) (.Name nk q :: es) [] pos)) pr :: rest) (dS X.K τ N):=by
 obtain ⟨f,fd,ps,F,hm,hk,hb⟩:=cl
 refine bf (M:=λ_=>False) (psW (cG (bE F Bb.room hg hm hk hb .nil dR (aw (cE (i:=i) hN hv hd1 hcd) ha he) hdb he hpl)) λD σ H ⟨A,H₀,B,S,Me⟩=>?_) λ_ e=>e.elim
 obtain ⟨d,o,h1,h2,h3,h4⟩:=S.sl i _ hi
 refine ⟨_,slot_of h2,cH S λvs H1 e1 d1=>?_⟩
 have S1:=S.mono e1
 obtain ⟨d',o1,g1,g2,g3,g4⟩:=S1.sl i _ hi
 rw [h2] at g2
 cases g2
 show spR X.K Φ (_++[]) _ _ _
 rw [List.append_nil]
 have md:d ∈ B i:=by rw [h1]; exact List.mem_singleton.mpr rfl
 have f0:H₀ d=none:=S.fr i d md
 have vwS:af (Hy.hd H1 (own A B)) (Hy.hd H1 λb=>(own A B b/\b ≠ d)\/b=d):=aq (af.refl _) λb z=>z.elim (·.1) λz=>.inr ⟨i,z ▸ md⟩
 refine ⟨λb=>own A B b/\b ≠ d,d,o1,vs,E,ds,s,rfl,λb z=>S1.dm b z.1,λz=>z.2 rfl,g3,E.mono vwS g4,d1.mono vwS,hΦ,λv H' bs e2 fr z=>Me.rt v H' bs s h (λb o y=>e2 b o (aj.mpr ⟨(λq=>by rw [q,f0] at y; cases y),S1.same b o y⟩)) (λb hb=>⟨?_,(fr b hb).2⟩) (z.mono (aq (af.refl _) λb y=>y.elim (λy=>.inl ⟨.inl y,λq=>?_⟩) .inr) (af.refl _))⟩
 · cases y:H₀ b with
   | none=>rfl
   | some o=>
     have:=(fr b hb).1
     rw [aj.mpr ⟨(λq=>by rw [show b=d from q,f0] at y; cases y),S1.same b o y⟩] at this
     cases this
 · obtain ⟨o,y'⟩:=S.ad b y
   rw [q,f0] at y'
   cases y'
end
end Hy
namespace Hy
open PySem PySem.Spec PyProof.Rows L2
open Ev (D Den ax aQ bw ao aF aC)
section
variable {X:Cx} {i:Int}
theorem mC {ns:List Int}:bu X (compareOp .NotIn) (.int i) (.lst (ns.map .int)) (.bl (!ns.any λw=>decide (w=i))):=⟨_,g9,λM x' y' H Q _ d1 d2 q=>by
 cases d1
 cases d2 with
 | @lst ad vs _ h r=>
   cases fY r
   refine ⟨_,_,rfl,.inl (aC aD h),rfl,?_,?_⟩
   · rw [List.all_map,List.all_eq_true]; intro _ _; rfl
   · have e:(ns.any λw=>decide (w=i))=inV (.int i) (ns.map V.int):=by unfold inV; rw [List.any_map]; congr 1
     rw [if_pos rfl]
     rw [e] at q
     exact q _ H (af.refl _) .bl⟩
end
end Hy
namespace L2
open PySem PySem.Spec PyProof.Rows
section
variable {κ:Type} [DecidableEq κ]
noncomputable def gy (kvs:List (κ × V)) (k:κ):Option V:=(kvs.find? λkv=>decide (kv.1=k)).map (·.2)
noncomputable def putK (kvs:List (κ × V)) (k:κ) (v:V):List (κ × V):=
 if (kvs.any λkv=>decide (kv.1=k))=true then kvs.map (λkv=>if kv.1=k then (kv.1,v) else kv) else kvs++[(k,v)]
theorem gb {p:κ × V} {r:List (κ × V)} {k:κ} (e:p.1=k):gy (p :: r) k=some p.2:=by simp [gy,List.find?_cons,e]
theorem gg {p:κ × V} {r:List (κ × V)} {k:κ} (e:¬ p.1=k):gy (p :: r) k=gy r k:=by simp [gy,List.find?_cons,e]
theorem jn (k:κ):∀ kvs:List (κ × V),(kvs.any λkv=>decide (kv.1=k))=(gy kvs k).isSome
 | []=>rfl
 | p :: r=>by
   rw [List.any_cons]
   by_cases e:p.1=k
   · simp only [gb e,decide_eq_true e,Bool.true_or,Option.isSome_some]
   · rw [gg e,decide_eq_false e,Bool.false_or]; exact jn k r
theorem iZ.kO {o:Option V} {u:Option Value} (r:iZ o u):o.isSome=u.isSome:=by
 cases o with
 | none=>cases u with
   | none=>rfl
   | some _=>exact (show False from r).elim
 | some _=>cases u with
   | none=>exact (show False from r).elim
   | some _=>rfl
theorem KV.val {kvs:List (κ × V)} {vs:List (κ × Value)} (r:KV kvs vs) (k:κ):iZ (gy kvs k) (valueAt vs k):=by
 unfold KV at r
 induction r with
 | nil=>exact True.intro
 | @cons p q ps qs h t ih=>
   obtain ⟨h1,h2⟩:=h
   by_cases e:p.1=k
   · have e':q.1=k:=h1.symm.trans e
     have b:valueAt (q :: qs) k=some q.2:=by simp [valueAt,List.find?_cons,e']
     rw [gb e,b]; exact h2
   · have e':¬ q.1=k:=λz=>e (h1.trans z)
     have b:valueAt (q :: qs) k=valueAt qs k:=by simp [valueAt,List.find?_cons,e']
     rw [gg e,b]; exact ih
theorem KV.any {kvs:List (κ × V)} {vs:List (κ × Value)} (r:KV kvs vs) (k:κ):(kvs.any λkv=>decide (kv.1=k))=vs.any λkv=>decide (kv.1=k):=by
 unfold KV at r
 induction r with
 | nil=>rfl
 | cons h t ih=>rw [List.any_cons,List.any_cons,ih,h.1]
theorem KV.pS {kvs:List (κ × V)} {vs:List (κ × Value)} (r:KV kvs vs) (k:κ) {y:V} {u:Value} (ry:RelV y u) :
   KV (kvs.map λkv=>if kv.1=k then (kv.1,y) else kv) (vs.map λkv=>if kv.1=k then (kv.1,u) else kv):=by
 unfold KV at r ⊢
 induction r with
 | nil=>exact .nil
 | @cons p q ps qs h t ih=>
   rw [List.map_cons,List.map_cons]
   refine .cons ?_ ih
   obtain ⟨h1,h2⟩:=h
   by_cases e:p.1=k
   · rw [if_pos e,if_pos (h1.symm.trans e)]; exact ⟨h1,ry⟩
   · rw [if_neg e,if_neg (λz=>e (h1.trans z))]; exact ⟨h1,h2⟩
theorem KV.put {kvs:List (κ × V)} {vs:List (κ × Value)} (r:KV kvs vs) (k:κ) {y:V} {u:Value} (ry:RelV y u):KV (putK kvs k y) (stored vs k u):=by
 unfold putK stored
 rw [r.any k]
 by_cases e:(vs.any λkv=>decide (kv.1=k))=true
 · rw [if_pos e,if_pos e]; exact r.pS k ry
 · rw [if_neg e,if_neg e]; exact Paired.snoc r ⟨rfl,ry⟩
end
noncomputable abbrev KT (H:Hp):List (List Key × V)->List (List Key × Addr × Value)->Prop:=Paired λp q=>p.1=q.1/\H q.2.1=some (.tup (p.1.map kV))/\RelV p.2 q.2.2
theorem KT.val {H:Hp} {kvs:List (List Key × V)} {xs:List (List Key × Addr × Value)} (r:KT H kvs xs) (k:List Key):iZ (gy kvs k) ((atKey xs k).map (·.2)):=by
 induction r with
 | nil=>exact True.intro
 | @cons p q ps qs h t ih=>
   obtain ⟨h1,_,h2⟩:=h
   by_cases e:p.1=k
   · have e':q.1=k:=h1.symm.trans e
     have b:atKey (q :: qs) k=some q.2:=by simp [atKey,List.find?_cons,e']
     rw [gb e,b]; exact h2
   · have e':¬ q.1=k:=λz=>e (h1.trans z)
     have b:atKey (q :: qs) k=atKey qs k:=by simp [atKey,List.find?_cons,e']
     rw [gg e,b]; exact ih
theorem KT.pS {H:Hp} {kvs:List (List Key × V)} {xs:List (List Key × Addr × Value)} (r:KT H kvs xs) (k:List Key) {y:V} {u:Value} (ry:RelV y u) :
   KT H (kvs.map λkv=>if kv.1=k then (kv.1,y) else kv) (xs.map (putAt k u)):=by
 induction r with
 | nil=>exact .nil
 | @cons p q ps qs h t ih=>
   rw [List.map_cons,List.map_cons]
   refine .cons ?_ ih
   obtain ⟨h1,h2,h3⟩:=h
   unfold putAt
   by_cases e:p.1=k
   · rw [if_pos e,if_pos (h1.symm.trans e)]; exact ⟨h1,h2,ry⟩
   · rw [if_neg e,if_neg (λz=>e (h1.trans z))]; exact ⟨h1,h2,h3⟩
theorem KT.put {H:Hp} {kvs:List (List Key × V)} {xs:List (List Key × Addr × Value)} (r:KT H kvs xs) (k:List Key) {b:Addr} {y:V} {u:Value} (hb:H b=some (.tup (k.map kV))) (ry:RelV y u) :
   KT H (putK kvs k y) (storedH xs k b u):=by
 have e:(kvs.any λkv=>decide (kv.1=k))=(atKey xs k).isSome:=by
   rw [jn,(r.val k).kO,Option.isSome_map]
 unfold putK storedH
 rw [e]
 by_cases q:(atKey xs k).isSome=true
 · rw [if_pos q,if_pos q]; exact r.pS k ry
 · rw [if_neg q,if_neg q]; exact Paired.snoc r ⟨rfl,hb,ry⟩
theorem KT.keeps {H H':Hp} {kvs:List (List Key × V)} {xs:List (List Key × Addr × Value)} (r:KT H kvs xs) (ht:∀ b ys,H b=some (.tup ys)->H' b=some (.tup ys)):KT H' kvs xs:=
 Paired.pI r λ_ _ z=>⟨z.1,ht _ _ z.2.1,z.2.2⟩
section
variable {P:Program} {w:World} {H:Hp} {h:Heap} {a:Addr}
end
noncomputable def pZ (H:Hp) (a:Addr) (y:V) (r:Option V):Prop:=∃ kvs k,Rd H a (.dK kvs)/\y=kV k/\r=gy kvs k
noncomputable def p6 (H:Hp) (a:Addr) (y v:V) (H':Hp):Prop:=∃ kvs k,H a=some (.dK kvs)/\y=kV k/\kvs.length < sizeLine/\H'=upd H a (.dK (putK kvs k v))
theorem pZ.k {H:Hp} {a:Addr} {kvs:List (Key × V)} {k:Key} (e:H a=some (.dK kvs)):pZ H a (kV k) (gy kvs k):=⟨kvs,k,.inl e,rfl,rfl⟩
theorem p6.k {H:Hp} {a:Addr} {kvs:List (Key × V)} {k:Key} {v:V} (e:H a=some (.dK kvs)) (hl:kvs.length < sizeLine):p6 H a (kV k) v (upd H a (.dK (putK kvs k v))):=⟨kvs,k,e,rfl,hl,rfl⟩
section
variable {X:Cx} {pins:List (Addr × Obj)} {σ:St} {H:Hp} {s:Shared} {a:Addr} {y v:V} {u r:Value} {o:Option V} {A:Around} {E:Value->Shared->Prop}
theorem Inv.big (I:Inv X pins σ H s):sysModules < s.heap.objs.size:=by
 have h:mainGlobals < s.heap.objs.size:=(I.mod.glob.keeps I.bk).lt
 exact Nat.lt_trans (by decide) h
theorem nS {h':Heap} {t':Nat} {ob:HO} (I:Inv X pins σ H s) (mu:Mut (H a)) (hs:Heap.SameBut a s.heap h') (he:∃ q,h'.get? a=some q) (new:bN X.prog X.w (upd H a ob) h' a ob) :
   Inv X pins σ (upd H a ob) { s with heap:=h',toks:=t' }:=
 I.write (x:=a) (e:=a) mu (.inl rfl) (λb q hb z=>(hs.2 b hb).trans z) he new
end
section
variable {X:Cx} {pins:List (Addr × Obj)} {σ:St} {H:Hp} {s:Shared} {a:Addr} {kvs:List (Key × V)} {k:Key} {u:Value} {A:Around} {E:Value->Shared->Prop}
end
noncomputable def qB (i:Expr):Prop:=∀ ov iv,subscripted i false ov iv=operate [ov,iv] (getItem ov iv)
theorem mM {prog:Program} {w:World} {A:Around} {E:Value->Shared->Prop} {s:Shared} {env:Env} {value slice:Expr} {pos:Pos} {T id:String} {Q:Value->Shared->Prop}
   (hl:typeLookup (.type T) "__getitem__" = pure (some (.builtin id))) (hs:qB slice)
   (h:wpAny (model prog w) A (eval value env) (λo s₁=>wpAny (model prog w) A (eval slice env) (λi s₂=>s₂.TypeIs o T/\wpAny (model prog w) A (getItem o i) Q E s₂) E s₁) E s) :
   wpAny (model prog w) A (eval (.Subscript value slice pos) env) Q E s:=by
 refine Subscript_ (wpAny_mono h (λo s₁ h₁=>wpAny_mono h₁ (λi s₂ h₂=>?_) λ_ _ x=>x) λ_ _ x=>x)
 obtain ⟨hT,h₂⟩:=h₂
 unfold subscriptTail
 refine wpAny_bind ?_
 rw [getitemInPython_of_ne hT.not_modules]
 refine wpAny_bind (wpAny_specialOf hT hl ?_)
 have fin:wpAny (model prog w) A (subscripted slice false o i) (λr s₃=>wpAny (model prog w) A (letTemporaryGo value o r >>= λ_=>pure r) Q E s₃) E s₂:=by
   rw [hs o i]
   exact wpAny_operating (wpAny_mono h₂ (λr s₃ h₃=>wpAny_bind (wpAny_letTemporaryGo (wpAny_pure h₃))) λ_ _ x=>x)
 first
   | exact wpAny_pure (wpAny_bind fin)
   | exact wpAny_bind (wpAny_pure (wpAny_bind fin))
   | exact wpAny_bind fin
section
variable {X:Cx} {o i e value:Expr} {pos pos' tpos:Pos} {td ty tv:TE}
end
section
variable {X:Cx} {pos:Pos}
end
section
variable {X:Cx} {pins:List (Addr × Obj)} {σ:St} {H:Hp} {s:Shared} {a:Addr} {y d:V} {u r:Value} {o:Option V} {A:Around} {E:Value->Shared->Prop}
end
section
variable {X:Cx} {o e f:Expr} {apos cpos:Pos} {td ty tx:TE}
end
end L2
namespace L2
open PySem PySem.Spec PyProof.Rows PySem.SeqAt
section
variable {P:Program} {w:World} {A:Around} {E:Value->Shared->Prop} {s:Shared}
theorem k9 {b:Bool} {Q:Int->Shared->Prop} (h:Q (hashInt (if b then 1 else 0)) { s with toks:=s.toks + 1 }) :
   wpAny (model P w) A (pyHash (.bool b)) Q E s:=by
 have hT:s.TypeIs (.bool b) "bool":=rfl
 unfold pyHash
 have hv:[Value.bool b].any Value.onHeap=false:=rfl
 refine wpAny_bind ?_
 rw [cRoomFor,if_neg (by rw [hv]; exact Bool.false_ne_true)]; refine wpAny_pure ?_
 refine wpAny_bind (wpAny_specialOf hT F.slot_bool_hash.lookup ?_)
 show wpAny _ _ (if (some (Value.builtin "int.__hash__") == some Value.none)=true then _ else _) Q E s
 rw [if_neg (by rw [beq_builtin_none]; exact Bool.false_ne_true)]
 refine wpAny_bind (wpAny_specialOf hT F.slot_bool_hash.lookup ?_)
 show wpAny _ _ (callSpecialIfBoundUnlessNone? (.bool b) "__hash__" _ >>= _) Q E s
 refine wpAny_bind (wpAny_callSpecialIfBoundUnlessNone?_slot hT F.slot_bool_hash
   (wpAny_call_entry F.slot_bool_hash hT F.entry_int_hash
     (show wpAny _ _ (do ret (<- mkInt (rawHash (if b then 1 else 0)))) _ _ s from wpAny_ret_mkInt ?_) (F.args_int_hash_1 _)))
 have hr:=rawHash_range (if b then 1 else 0)
 show wpAny _ _ (if (decide (-(2:Int) ^ 63<=rawHash (if b then 1 else 0)) && decide (rawHash (if b then 1 else 0) < 2 ^ 63))=true then _ else _) Q E _
 rw [if_pos (by rw [decide_eq_true hr.1,decide_eq_true hr.2]; rfl)]
 exact wpAny_pure h
noncomputable def HK (P:Program) (w:World) (A:Around) (h:Heap) (v:Value) (x:Int) (d:Nat):Prop:=
 ∀ (s:Shared) (E:Value->Shared->Prop) (Q:Int->Shared->Prop),s.heap=h->Q x { s with toks:=s.toks + d }->wpAny (model P w) A (pyHash v) Q E s
theorem gN {a:Addr} {u v:Value} {x y:Int} {m n:Nat} {Q:Int->Shared->Prop} (hu:A.units < cLine) (hk:IsTup s.heap a #[u,v]) (h1:∀ B,B.units<=A.units + 1->HK P w B s.heap u x m) (h2:∀ B,B.units<=A.units + 1->HK P w B s.heap v y n)
   (h:Q (reduceHash (Builtin.Tuple.tupleHashOf [x,y])) { s with toks:=s.toks + (m + n + 1) }):wpAny (model P w) A (pyHash (.ref a)) Q E s:=by
 obtain ⟨o,ho,hc,k,hd⟩:=hk
 have hT:s.TypeIs (.ref a) "tuple":=⟨o,ho,hc⟩
 unfold pyHash
 refine wpAny_bind (wpAny_cRoomFor_or (.inr hu) ?_)
 refine wpAny_bind (wpAny_specialOf hT F.slot_tuple_hash.lookup ?_)
 show wpAny _ _ (if (some (Value.builtin "tuple.__hash__") == some Value.none)=true then _ else _) Q E s
 rw [if_neg (by rw [beq_builtin_none]; exact Bool.false_ne_true)]
 refine wpAny_bind (wpAny_specialOf hT F.slot_tuple_hash.lookup ?_)
 show wpAny _ _ (callSpecialIfBoundUnlessNone? (.ref a) "__hash__" _ >>= _) Q E s
 refine wpAny_bind (wpAny_callSpecialIfBoundUnlessNone?_slot hT F.slot_tuple_hash (wpAny_call_entry F.slot_tuple_hash hT F.entry_tuple_hash ?_ (F.args_tuple_hash_1 _)))
 show wpAny _ _ (Builtin.Tuple.tupleItemsOf (.ref a) >>= _) _ _ s
 refine wpAny_bind (wpAny_tupleItemsOf ho hd ?_)
 refine wpAny_bind ?_
 rw [<- Array.forIn_toList]
 refine wpAny_forIn_list _
   (λrest (b:Array Int) s'=>(rest=[u,v]/\b=#[]/\s'=s)\/(rest=[v]/\b=#[x]/\s'={ s with toks:=s.toks + m })\/(rest=[]/\b=#[x,y]/\s'={ s with toks:=s.toks + (m + n) }))
   _ ?_ ?_ _ _ (.inl ⟨rfl,rfl,rfl⟩)
 · rintro z rest b s' (⟨e,rfl,rfl⟩ | ⟨e,rfl,rfl⟩ | ⟨e,_⟩)
   · cases e
     refine wpAny_bind (h1 _ ?_ _ _ _ rfl ?_)
     · exact Nat.le_refl _
     · exact wpAny_pure (.inr (.inl ⟨rfl,rfl,rfl⟩))
   · cases e
     refine wpAny_bind (h2 _ ?_ _ _ _ rfl ?_)
     · exact Nat.le_refl _
     · exact wpAny_pure (.inr (.inr ⟨rfl,rfl,by simp [Nat.add_assoc]⟩))
   · cases e
 · rintro b s' (⟨e,_⟩ | ⟨e,_⟩ | ⟨_,rfl,rfl⟩)
   · cases e
   · cases e
   show wpAny _ _ (retInt (Builtin.Tuple.tupleHashOf [x,y])) _ _ _
   refine wpAny_ret_mkInt ?_
   show wpAny _ _ (if (decide (-(2:Int) ^ 63<=Builtin.Tuple.tupleHashOf [x,y]) && decide (Builtin.Tuple.tupleHashOf [x,y] < 2 ^ 63))=true then _ else _) Q E _
   unfold reduceHash at h
   by_cases hr:(decide (-(2:Int) ^ 63<=Builtin.Tuple.tupleHashOf [x,y]) && decide (Builtin.Tuple.tupleHashOf [x,y] < 2 ^ 63))=true
   · rw [if_pos hr]
     rw [if_pos hr] at h
     exact wpAny_pure (by simpa [Nat.add_assoc] using h)
   · rw [if_neg hr]
     rw [if_neg hr] at h
     exact wpAny_bind (wpAny_rule (wpAny_pure (by simpa [Nat.add_assoc] using h)))
theorem fD {a:Addr} {u v:Value} {n:Nat} {Q:Bool->Shared->Prop} (hk:IsTup s.heap a #[u,v]) (h1:∀ A E Q,Q true s->wpAny (model P w) A (eqIsQuiet n u) Q E s) (h2:∀ A E Q,Q true s->wpAny (model P w) A (eqIsQuiet n v) Q E s) (h:Q true s) :
   wpAny (model P w) A (eqIsQuiet (n + 1) (.ref a)) Q E s:=by
 obtain ⟨o,ho,hc,k,hd⟩:=hk
 have hT:s.TypeIs (.ref a) "tuple":=⟨o,ho,hc⟩
 unfold eqIsQuiet
 refine wpAny_bind (wpAny_specialOf hT F.slot_tuple_eq.lookup ?_)
 show wpAny _ _ (isInstance (.ref a) (.type "tuple") >>= _) _ _ s
 refine wpAny_bind (wpAny_isInstance hT isSubtype_tuple_tuple ?_)
 simp only [Bool.not_true,Bool.false_eq_true,if_false]
 refine wpAny_bind (wpAny_seqItems ho hd ?_)
 refine wpAny_bind ?_
 show wpAny _ _ (forIn #[u,v] _ _) _ _ s
 rw [<- Array.forIn_toList]
 refine wpAny_forIn_list _ (λrest r s'=>r.1=none/\s'=s/\∀ z ∈ rest,z=u\/z=v) _ ?_ ?_ _ _ ⟨rfl,rfl,λz hz=>by simpa using hz⟩
 · rintro z rest r s' ⟨hr,rfl,hall⟩
   have hz:∀ A E Q,Q true s'->wpAny (model P w) A (eqIsQuiet n z) Q E s':=by
     rcases hall z List.mem_cons_self with rfl | rfl
     · exact h1
     · exact h2
   refine wpAny_bind (hz _ _ _ ?_)
   simp only [Bool.not_true,Bool.false_eq_true,if_false]
   exact wpAny_pure ⟨rfl,rfl,λx hx=>hall x (List.mem_cons_of_mem _ hx)⟩
 · rintro ⟨r1,r2⟩ s' ⟨hr,rfl,_⟩
   simp only at hr
   subst hr
   exact wpAny_pure h
theorem kJ {a b:Addr} {u v u' v':Value} {p q:Bool} (hu:A.units < cLine) (ha:IsTup s.heap a #[u,v]) (hb:IsTup s.heap b #[u',v']) (h1:EqAt A.in1 s u u' p) (h2:EqAt A.in1 s v v' q) (hs:a=b->(p && q)=true):EqAt A s (.ref a) (.ref b) (p && q):=by
 by_cases z:a=b
 · subst z
   rw [hs rfl]
   exact .same _
 · have:=EqAt.of_refs z (RcAt.tuples (e:=λj=>if j=0 then p else q) ha hb hu λj j1 j2=>by
     match j,j1 with
     | 0,_=>exact h1
     | 1,_=>exact h2)
   have e:((List.range (min (#[u,v]:Array Value).size (#[u',v']:Array Value).size)).all (λj=>if j=0 then p else q) && (#[u,v]:Array Value).size == (#[u',v']:Array Value).size)=(p && q):=by
     show (p && (q && true) && true)=(p && q)
     cases p <;> cases q <;> rfl
   rw [e] at this
   exact this
end
noncomputable abbrev eP:=Int × Int × Bool
noncomputable def isN (h:Heap) (k:eP) (a:Addr):Prop:=∃ t c t',IsTup h a #[.int k.1 t,.ref c]/\IsTup h c #[.int k.2.1 t',.bool k.2.2]
theorem iM {h:Heap} {a:Addr} {x y:Array Value} (p:IsTup h a x) (q:IsTup h a y):x=y:=by
 obtain ⟨o,ho,_,n,hd⟩:=p
 obtain ⟨o',ho',_,n',hd'⟩:=q
 rw [ho] at ho'; cases ho'
 rw [hd] at hd'; cases hd'; rfl
theorem isN.inj {h:Heap} {a:Addr} {x y:eP} (p:isN h x a) (q:isN h y a):x=y:=by
 obtain ⟨t,c,t',h1,h2⟩:=p
 obtain ⟨u,d,u',g1,g2⟩:=q
 have e:=iM h1 g1
 simp only [Array.mk.injEq,List.cons.injEq,Value.int.injEq,Value.ref.injEq,and_true] at e
 obtain ⟨⟨e1,_⟩,rfl⟩:=e
 have e:=iM h2 g2
 simp only [Array.mk.injEq,List.cons.injEq,Value.int.injEq,Value.bool.injEq,and_true] at e
 obtain ⟨⟨e2,_⟩,e3⟩:=e
 obtain ⟨_,_,_⟩:=x
 obtain ⟨_,_,_⟩:=y
 simp_all
theorem jW {h h':Heap} {a d:Addr} {x:Array Value} {o:Obj} {es ep} (p:IsTup h a x) (ho:h.get? d=some o) (hd:o.data=.dict es ep) (hs:Heap.SameBut d h h'):IsTup h' a x:=by
 obtain ⟨o',ho',hc,n,hd'⟩:=p
 have hne:a ≠ d:=by
   rintro rfl
   rw [ho] at ho'; cases ho'
   rw [hd] at hd'; exact nomatch hd'
 exact ⟨o',(hs.2 a hne).trans ho',hc,n,hd'⟩
noncomputable def qz (k:eP):Int:=reduceHash (Builtin.Tuple.tupleHashOf [hashInt k.1,reduceHash (Builtin.Tuple.tupleHashOf [hashInt k.2.1,hashInt (if k.2.2 then 1 else 0)])])
noncomputable def jk (P:Program) (w:World):HeapKind P w eP where
 is:=isN
 hash:=qz
 draws:=λ_=>5
 room:=λA=>A.units + 8 < cLine
 inj:=isN.inj
 keeps:=λ⟨t,c,t',h1,h2⟩ ho hd hs=>⟨t,c,t',jW h1 ho hd hs,jW h2 ho hd hs⟩
 pyHash:=λ{A E s k a Q} hu hk h=>by
   obtain ⟨t,c,t',h1,h2⟩:=hk
   refine gN (m:=1) (n:=3) (by omega) h1 (λB _ s' E' Q' _ hq=>wpAny_pyHash_int hq) (λB hB s' E' Q' e hq=>?_) h
   exact gN (m:=1) (n:=1) (by omega) (by rw [e]; exact h2) (λC _ s'' E'' Q'' _ hq=>wpAny_pyHash_int hq) (λC _ s'' E'' Q'' _ hq=>k9 hq) hq
 eqBool:=λ{A E s x y a b Q} hu hx hy h=>by
   have key:EqAt A s (.ref a) (.ref b) ((x.1 == y.1) && ((x.2.1 == y.2.1) && (x.2.2 == y.2.2))):=by
     obtain ⟨t,c,t',h1,h2⟩:=id hx
     obtain ⟨u,d,u',g1,g2⟩:=id hy
     refine kJ (by omega) h1 g1 (.int_int _ _ _ _) (kJ (show A.units + 1 < cLine by omega) h2 g2 (.int_int _ _ _ _) (.bool_bool _ _) λz=>?_) λz=>?_
     · subst z
       have e:=iM h2 g2
       simp only [Array.mk.injEq,List.cons.injEq,Value.int.injEq,Value.bool.injEq,and_true] at e
       rw [e.1.1,e.2,beq_self_eq_true,beq_self_eq_true]; rfl
     · subst z
       rw [hx.inj hy]
       simp
   refine key _ _ _ _ ?_
   have e:decide (x=y)=((x.1 == y.1) && ((x.2.1 == y.2.1) && (x.2.2 == y.2.2))):=by
     obtain ⟨x1,x2,x3⟩:=x
     obtain ⟨y1,y2,y3⟩:=y
     rw [Bool.eq_iff_iff]
     simp
   rw [<- e]
   exact h
 quiet:=λ{A E s k a Q} hk h=>by
   obtain ⟨t,c,t',h1,h2⟩:=hk
   exact fD h1 (λ_ _ _ q=>wpAny_pure q) (λ_ _ _ q=>fD h2 (λ_ _ _ q=>wpAny_pure q) (λ_ _ _ q=>wpAny_pure q) q) h
end L2
namespace L2
open PySem PySem.Spec PyProof.Rows
noncomputable abbrev NE:=List (eP × Addr × Value)
noncomputable def dN (P:Program) (w:World) (a:Addr) (xs:NE):HO:=.ext λh=>(a == sysModules)=false/\∃ o es ep,h.get? a=some o/\o.ExactDict/\o.data=.dict es ep/\es.toList=xs.map (entryOfKey (jk P w))/\(xs.map (·.1)).Nodup
noncomputable def di (K:PySem.W.Frag) (H:Hp) (k:eP) (b:Addr):Prop:=∃ c,SqT K H b [.int k.1,.ref c]/\SqT K H c [.int k.2.1,.bl k.2.2]
structure iS (P:Program) (w:World) (K:PySem.W.Frag) (H:Hp) (d:Addr) (xs:NE):Prop where
 at_:H d=some (dN P w d xs)
 key:∀ x ∈ xs,di K H x.1 x.2.1
section
variable {X:Cx} {pins:List (Addr × Obj)} {σ:St} {H:Hp} {s:Shared} {d b:Addr} {xs:NE} {k:eP} {A:Around} {E:Value->Shared->Prop}
theorem fg (I:Inv X pins σ H s) (q:di X.K H k b):isN s.heap k b:=by
 obtain ⟨c,h1,h2⟩:=q
 obtain ⟨its,r,t,_⟩:=I.tuple h1
 obtain ⟨its',r',t',_⟩:=I.tuple h2
 cases r with
 | cons a1 r1=>cases r1 with
   | cons a2 r2=>cases r2 with
     | nil=>
       cases r' with
       | cons b1 s1=>cases s1 with
         | cons b2 s2=>cases s2 with
           | nil=>
             obtain ⟨u,rfl⟩:=a1
             cases (show _=Value.ref c from a2)
             obtain ⟨u',rfl⟩:=b1
             cases (show _=Value.bool _ from b2)
             exact ⟨_,c,_,t,t'⟩
theorem lP (I:Inv X pins σ H s) (D:iS X.prog X.w X.K H d xs):(d == sysModules)=false/\s.heap.DictOfH (jk X.prog X.w) d xs:=by
 obtain ⟨⟨h0,o,es,ep,h1,h2,h3,h4,h5⟩,_⟩:=(show bN X.prog X.w H s.heap d (dN X.prog X.w d xs) from I.hok d _ D.at_)
 exact ⟨h0,o,es,ep,h1,h2,h3,h4,λx hx=>fg I (D.key x hx),h5⟩
noncomputable def oa (P:Program) (w:World) (K:PySem.W.Frag) (td ty:TE):TE:=λσ H Q=>td σ H λx H1=>ty σ H1 λy H2=>∃ d b k xs p v,x=.ref d/\y=.ref b/\iS P w K H2 d xs/\di K H2 k b/\atKey xs k=some p/\RelV v p.2/\Q v H2
noncomputable def qR (P:Program) (w:World) (K:PySem.W.Frag) (ty td:TE):TE:=λσ H Q=>ty σ H λy H1=>td σ H1 λx H2=>∃ d b k xs,x=.ref d/\y=.ref b/\iS P w K H2 d xs/\di K H2 k b/\Q (.bl (!(atKey xs k).isSome)) H2
noncomputable def qK (P:Program) (w:World) (K:PySem.W.Frag) (td ty tv:TE):TS:=λD σ H=>tv σ H λv H1=>td σ H1 λx H2=>ty σ H2 λy H3=>∃ d b k xs,x=.ref d/\y=.ref b/\iS P w K H3 d xs/\di K H3 k b/\xs.length<=sizeLine/\∀ u,RelV v u->D.nx σ (upd H3 d (dN P w d (storedH xs k b u)))
noncomputable def qW (P:Program) (w:World):TE:=λ_ H Q=>∀ p,H p=none->Q (.ref p) (upd H p (dN P w p []))
variable {o i e value:Expr} {pos pos':Pos} {td ty tv:TE}
theorem m7 (hu:X.A.units + 16 < cLine) (ho:PE X o td) (hi:PE X i ty) (hs:qB i):PE X (.Subscript o i pos) (oa X.prog X.w X.K td ty):=by
 intro pins s σ H Q I h
 refine mM PySem.F.slot_dict_getitem.lookup hs (thn (ho pins s σ H _ I h) λu s1 ⟨x,H1,I1,rx,q1⟩=>thn (hi pins s1 σ H1 _ I1 q1) λiv s2 ⟨y,H2,I2,ry,d,b,k,xs,p,v,ex,ey,D,g,hp,rv,q2⟩=>?_)
 subst ex ey
 obtain rfl:u=Value.ref d:=rx
 obtain rfl:iv=Value.ref b:=ry
 obtain ⟨_,dd⟩:=lP I2 D
 exact ⟨dd.typeIs,wpAny_getItem_heap (show X.A.units + 1 + 8 < cLine by omega) (fg I2 g) dd hp ⟨v,H2,I2.tok _,rv,q2⟩⟩
theorem nc (hu:X.A.units + 16 < cLine) (hi:PE X i ty) (ho:PE X o td):PC X .NotIn i o (qR X.prog X.w X.K ty td):=by
 intro pins s σ H Q I h
 refine thn (hi pins s σ H _ I h) λiv s1 ⟨y,H1,I1,ry,q1⟩=>thn (ho pins s1 σ H1 _ I1 q1) λu s2 ⟨x,H2,I2,rx,d,b,k,xs,ex,ey,D,g,q2⟩=>?_
 subst ex ey
 obtain rfl:u=Value.ref d:=rx
 obtain rfl:iv=Value.ref b:=ry
 obtain ⟨hd,dd⟩:=lP I2 D
 exact wpAny_notIn_heap (show X.A.units + 1 + 8 < cLine by omega) (fg I2 g) hd dd ⟨.bl _,H2,I2.tok _,rfl,q2⟩
theorem mT (hu:X.A.units + 16 < cLine) (ho:PE X o td) (hi:PE X i ty) (hv:PE X value tv) (hs:swapsWith value (some (.Subscript o i pos')) pos.line X.env=pure false) :
   PS X (.Assign [.Subscript o i pos'] value pos) (qK X.prog X.w X.K td ty tv):=by
 intro pins s σ H D I h
 refine wpAny_Assign_Subscript (thn (hv pins s σ H _ I h) λr s1 ⟨v,H1,I1,rv,q1⟩=>thn (ho pins s1 σ H1 _ I1 q1) λu s2 ⟨x,H2,I2,rx,q2⟩=>thn (hi pins s2 σ H2 _ I2 q2) λiv s3 ⟨y,H3,I3,ry,d,b,k,xs,ex,ey,D',g,hl,q3⟩=>?_) hs
 subst ex ey
 obtain rfl:u=Value.ref d:=rx
 obtain rfl:iv=Value.ref b:=ry
 obtain ⟨hd,dd⟩:=lP I3 D'
 refine wpAny_setItem_heap (hsz:=hl) (show X.A.units + 1 + 8 < cLine by omega) (fg I3 g) dd λh' dd' hs=>⟨σ,_,?_,q3 r rv⟩
 obtain ⟨q,es,ep,hq,h2,h3,h4,_,h5⟩:=dd'
 refine nS I3 (by rw [D'.at_]; exact True.intro) hs ⟨q,hq⟩ ⟨⟨hd,q,es,ep,hq,h2,h3,h4,h5⟩,⟨q,hq⟩,λa1 a2 ⟨z0,o,es,ep,z1,z2⟩ hk=>⟨z0,o,es,ep,hk o z1,z2⟩⟩
theorem m3:PE X (.Dict [] [] pos) (qW X.prog X.w):=λpins s σ H Q I h=>
 wpAny_Dict_empty ⟨.ref s.heap.objs.size,_,I.laid (a:=s.heap.objs.size) (o:=dN X.prog X.w s.heap.objs.size []) (t':=s.toks) (λ_ _ q=>Heap.get?_push_of_some _ q) (Nat.le_refl _)
   ⟨⟨beq_eq_false_iff_ne.mpr (Ne.symm (Nat.ne_of_lt I.big)),_,#[],0,Heap.get?_push_size _ rfl,⟨rfl,rfl,rfl⟩,rfl,rfl,List.nodup_nil⟩,⟨_,Heap.get?_push_size _ rfl⟩,λa1 a2 ⟨z0,o,es,ep,z1,z2⟩ hk=>⟨z0,o,es,ep,hk o z1,z2⟩⟩,rfl,h _ (I.hok.fresh (Nat.le_refl _))⟩
end
end L2
namespace K53
open PySem PySem.Spec PyProof.Rows L2 Hy
noncomputable def top (i:Nat):Stmt:=PySem.Challenge.pw_signsmooth_k53_staircases_numbered.main.body.getD i (.Pass ⟨0,0,0,0⟩)
theorem d0:ay ["_law_cell_here","_law_bases","_law_row","_law_base","_law_k","_law_mixed"] ["_law_cell_here","_law_bases"] (ai (top 27)):=⟨rfl,rfl,rfl,by decide +kernel,rfl,by decide +kernel,by decide +kernel⟩
theorem eT:ay ["_law_n","_law_row","_law_many","_law_wider"] ["_law_n"] (ai (top 32)):=⟨rfl,rfl,rfl,by decide +kernel,rfl,by decide +kernel,by decide +kernel⟩
theorem eD:ay ["_law_rows","_law_columns","_law_one","_law_other","_law_total","_law_factor","_law_k"] ["_law_rows","_law_columns"] (ai (top 33)):=⟨rfl,rfl,rfl,by decide +kernel,rfl,by decide +kernel,by decide +kernel⟩
theorem kZ:ay ["_law_script","_law_k"] ["_law_script","_law_k"] (ai (top 26)):=⟨rfl,rfl,rfl,by decide +kernel,rfl,by decide +kernel,by decide +kernel⟩
theorem eG:ay ["thing"] ["thing"] (ai (top 9)):=⟨rfl,rfl,rfl,by decide +kernel,rfl,by decide +kernel,by decide +kernel⟩
theorem gU:ay ["table","j"] ["table","j"] (ai (top 10)):=⟨rfl,rfl,rfl,by decide +kernel,rfl,by decide +kernel,by decide +kernel⟩
theorem e8:ay ["marks","i","j"] ["marks","i","j"] (ai (top 16)):=⟨rfl,rfl,rfl,by decide +kernel,rfl,by decide +kernel,by decide +kernel⟩
theorem ed:ay ["marks","i"] ["marks","i"] (ai (top 15)):=⟨rfl,rfl,rfl,by decide +kernel,rfl,by decide +kernel,by decide +kernel⟩
theorem i9:ay ["thing"] ["thing"] (ai (top 5)):=⟨rfl,rfl,rfl,by decide +kernel,rfl,by decide +kernel,by decide +kernel⟩
theorem gw:ay ["thing","least","most"] ["thing","least","most"] (ai (top 6)):=⟨rfl,rfl,rfl,by decide +kernel,rfl,by decide +kernel,by decide +kernel⟩
theorem dr:ay ["thing"] ["thing"] (ai (top 14)):=⟨rfl,rfl,rfl,by decide +kernel,rfl,by decide +kernel,by decide +kernel⟩
theorem eZ:ay ["thing"] ["thing"] (ai (top 13)):=⟨rfl,rfl,rfl,by decide +kernel,rfl,by decide +kernel,by decide +kernel⟩
theorem fB:ay ["thing"] ["thing"] (ai (top 17)):=⟨rfl,rfl,rfl,by decide +kernel,rfl,by decide +kernel,by decide +kernel⟩
theorem dh:ay ["shape","place","state","mark","j","begun"] ["shape","place","state","mark"] (ai (top 19)):=⟨rfl,rfl,rfl,by decide +kernel,rfl,by decide +kernel,by decide +kernel⟩
theorem cb:ay ["known","shape","place","state","filled"] ["known","shape","place","state"] (ai (top 20)):=⟨rfl,rfl,rfl,by decide +kernel,rfl,by decide +kernel,by decide +kernel⟩
theorem bI:ay ["known","shape","place","state","column_bit"] ["known","shape","place","state"] (ai (top 21)):=⟨rfl,rfl,rfl,by decide +kernel,rfl,by decide +kernel,by decide +kernel⟩
theorem ef:ay ["marks","shape","known","state","number","place","mark"] ["marks"] (ai (top 22)):=⟨rfl,rfl,rfl,by decide +kernel,rfl,by decide +kernel,by decide +kernel⟩
theorem gC:ay ["rows","columns"] ["rows","columns"] (ai (top 18)):=⟨rfl,rfl,rfl,by decide +kernel,rfl,by decide +kernel,by decide +kernel⟩
theorem cq:ay ["known","shape","number","marks","state","left","place","empty","mark"] ["known","shape","number"] (ai (top 24)):=⟨rfl,rfl,rfl,by decide +kernel,rfl,by decide +kernel,by decide +kernel⟩
theorem eU:ay ["rows","columns","number","known"] ["rows","columns","number"] (ai (top 23)):=⟨rfl,rfl,rfl,by decide +kernel,rfl,by decide +kernel,by decide +kernel⟩
theorem cF:ay ["_law_marks","_law_i","_law_j"] ["_law_marks"] (ai (top 31)):=⟨rfl,rfl,rfl,by decide +kernel,rfl,by decide +kernel,by decide +kernel⟩
theorem jH:ay ["_law_thing"] ["_law_thing"] (ai (top 28)):=⟨rfl,rfl,rfl,by decide +kernel,rfl,by decide +kernel,by decide +kernel⟩
theorem de:ay ["_law_found","_law_rows","_law_columns","_law_row"] ["_law_found","_law_rows","_law_columns"] (ai (top 34)):=⟨rfl,rfl,rfl,by decide +kernel,rfl,by decide +kernel,by decide +kernel⟩
theorem bC:ay ["_law_marks","_law_many","_law_handed","_law_number","_law_found"] ["_law_marks","_law_many"] (ai (top 35)):=⟨rfl,rfl,rfl,by decide +kernel,rfl,by decide +kernel,by decide +kernel⟩
theorem fT:ay ["_law_rows","_law_columns","_law_number","_law_many","_law_found","_law_kept"] ["_law_rows","_law_columns","_law_number","_law_many"] (ai (top 36)):=⟨rfl,rfl,rfl,by decide +kernel,rfl,by decide +kernel,by decide +kernel⟩
theorem eo:ay ["_law_clear","_law_found","_law_first","_law_some","_law_one","_law_longer","_law_row"] ["_law_clear"] (ai (top 29)):=⟨rfl,rfl,rfl,by decide +kernel,rfl,by decide +kernel,by decide +kernel⟩
theorem fR:ay ["_law_cell_here","_law_many","_law_wide","_law_marks","_law_clear","_law_part","_law_some","_law_row"] ["_law_cell_here","_law_many","_law_wide"] (ai (top 30)):=⟨rfl,rfl,rfl,by decide +kernel,rfl,by decide +kernel,by decide +kernel⟩
theorem mh:ay ["_law_script","_law_parts","_law_rows","_law_columns","_law_many","_law_cells","_law_cell_here"] ["_law_script"] (ai (top 37)):=⟨rfl,rfl,rfl,by decide +kernel,rfl,by decide +kernel,by decide +kernel⟩
end K53
namespace K53
open PySem PySem.Spec PyProof.Rows L2 Hy
open Ev (D Den ax aQ bw)
noncomputable def fK (ds:List D) (r:Sl):Prop:=∃ (ns:List Int) (k:Nat),ds=[.lst (ns.map .int),.int k]/\r=.d (.int (ns.getD k 0))
noncomputable def fA:Int->List Int->List Int
 | _,[]=>[]
 | c,b :: r=>c.fmod b :: fA (c.fdiv b) r
noncomputable def mU (c:Int) (bs:List Int):Int:=bs.foldl (λc b=>c.fdiv b) c
noncomputable def oS (c:Int) (k:Nat) (b:Int):Int:=(((((c * 48271 + (k:Int) * k * 69621 + (k:Int) * 16807 + 11).fmod 2147483647) * 40692 + c + 31 * (k:Int)).fmod 2147483399).fdiv 7).fmod b
noncomputable def nR (c:Int) (bs:List Int):List Int:=(List.range bs.length).map λk=>oS c k (bs.getD k 0)
noncomputable def nums (c:Int) (bs:List Int):List Int:=if (10:Int) ^ (18:Int).toNat<=qL c then fA c bs else nR c bs
theorem gK:∀ (bs:List Int) (c b:Int),fA c (bs++[b])=fA c bs++[(mU c bs).fmod b]
 | [],_,_=>rfl
 | a :: bs,c,b=>by rw [List.cons_append,fA,fA,gK bs]; rfl
theorem gk:∀ (bs:List Int) (c:Int),(fA c bs).length=bs.length
 | [],_=>rfl
 | _ :: bs,c=>congrArg (· + 1) (gk bs _)
theorem fQ (c:Int) (bs:List Int):(nums c bs).length=bs.length:=by
 unfold nums
 split
 · exact gk bs c
 · simp [nR]
theorem kz:∀ (bs:List Int) (c:Int),(∀ b ∈ bs,0 < b)->∀ (i:Nat),i < bs.length->0<=(fA c bs).getD i 0/\(fA c bs).getD i 0 < bs.getD i 0
 | b :: bs,c,h,0,_=>by
   have:=h b (List.mem_cons_self ..)
   exact ⟨Int.fmod_nonneg_of_pos c this,Int.fmod_lt_of_pos c this⟩
 | b :: bs,c,h,i + 1,hi=>by
   have:=kz bs (c.fdiv b) (λx hx=>h x (List.mem_cons_of_mem _ hx)) i (by simpa using hi)
   simpa [fA] using this
theorem j3 {c:Int} {bs:List Int} (h:∀ b ∈ bs,0 < b) {i:Nat} (hi:i < bs.length):0<=(nums c bs).getD i 0/\(nums c bs).getD i 0 < bs.getD i 0:=by
 unfold nums
 split
 · exact kz bs c h i hi
 · have hp:0 < bs.getD i 0:=h _ (by simp [hi])
   have e:(nR c bs).getD i 0=oS c i (bs.getD i 0):=by simp [nR,hi]
   rw [e]
   exact ⟨Int.fmod_nonneg_of_pos _ hp,Int.fmod_lt_of_pos _ hp⟩
theorem take_snoc {α:Type} {xs:List α} {i:Nat} (d:α) (h:i < xs.length):xs.take (i + 1)=xs.take i++[xs.getD i d]:=by
 rw [List.take_add_one,List.getElem?_eq_getElem h]
 simp [h]
noncomputable def bU (ds:List D) (r:Sl):Prop:=∃ (c:Int) (bs:List Int),ds=[.int c,.lst (bs.map .int)]/\bs.length<=10000/\(∀ b ∈ bs,0 < b/\b < 2 ^ 60)/\r=.o ((nums c bs).map .int)
noncomputable def whw (x:D):Bool:=ji .int x && !ji .bool x
noncomputable def cQ (ds:List D) (r:Sl):Prop:=∃ x,ds=[x]/\r=.d (.bl (whw x))
noncomputable def whl (x:D):Bool:=ji .int x && !ji .bool x
noncomputable def dC (ds:List D) (r:Sl):Prop:=∃ x,ds=[x]/\r=.d (.bl (whl x))
noncomputable def a9 (ds:List D) (r:Sl):Prop:=∃ i l m:Int,ds=[.int i,.int l,.int m]/\r=.d (.bl (decide (l<=i) && decide (i<=m)))
noncomputable def cf (ds:List D) (r:Sl):Prop:=∃ i j:Int,ds=[.int i,.int j]/\1<=i/\i<=7/\1<=j/\j<=7/\r=.d .non
noncomputable def nxs (C p:Nat) (bits:Int) (begun:Bool) (mark:Int):Int × Bool:=(Builtin.bitOr bits (mark * 2 ^ (p % C)),decide (p % C + 1 < C) && (begun || decide (mark=1)))
noncomputable def stD (s:Int × Bool):D:=.tup [.int s.1,.bl s.2]
noncomputable def aI (ds:List D) (r:Sl):Prop:=∃ (R C p:Nat) (s:Int × Bool) (m:Int),ds=[.tup [.int R,.int C],.int p,stD s,.int m]/\1<=C/\C<=7/\0<=m/\m<=1/\r=.d (stD (nxs C p s.1 s.2 m))
noncomputable def wid (r:List Int):List Int:=0 :: (r++[0])
noncomputable def a0:Nat->List Int
 | 0=>[1]
 | n + 1=>(List.range (n + 2)).map λ(k:Nat)=>(k:Int) * (wid (a0 n)).getD (k + 1) 0 + (wid (a0 n)).getD k 0
theorem eM:∀ n,(a0 n).length=n + 1
 | 0=>rfl
 | n + 1=>by rw [a0,List.length_map,List.length_range]
noncomputable def dt (ds:List D) (r:Sl):Prop:=∃ n:Nat,ds=[.int n]/\n<=100/\r=.d (.lst ((a0 n).map .int))
theorem oI {m:Int} {n:Nat} (i:Nat) (h:i < (eB m n).length):(eB m n)[i]=.int (m + (i:Nat)):=hZ m n i h
noncomputable def fct:Nat->Int
 | 0=>1
 | k + 1=>fct k * ((k:Int) + 1)
noncomputable def ph (a b:List Int):Nat->Int
 | 0=>0
 | k + 1=>ph a b k + fct k * fct k * a.getD (k + 1) 0 * b.getD (k + 1) 0
noncomputable def mF (R C:Nat):Int:=ph (a0 (R + 1)) (a0 (C + 1)) (min R C + 1)
theorem jX:∀ n,n<=8->∀ x ∈ a0 n,x.natAbs < 2 ^ 20:=by decide +kernel
theorem pL:∀ k,k<=8->(fct k).natAbs < 2 ^ 20:=by decide +kernel
noncomputable def cJ (ds:List D) (r:Sl):Prop:=∃ R C:Nat,ds=[.int R,.int C]/\R<=7/\C<=7/\r=.d (.int (mF R C))
noncomputable def rwD (r:List Int):D:=.lst (r.map .int)
noncomputable def tbD (m:List (List Int)):D:=.lst (m.map rwD)
noncomputable def lb (m:List (List Int)) (i j:Nat):Bool:=decide ((m.getD i []).getD j 0=0) && (decide (0 < ((m.getD i []).take j).sum) && decide (0 < ((List.range (m.take i).length).map λl=>((m.take i).getD l []).getD j 0).sum))
noncomputable def cc (C:Nat) (m:List (List Int)):Bool:=(List.range m.length).all λi=>(List.range C).all λj=>!lb m i j
noncomputable def bW (ds:List D) (r:Sl):Prop:=∃ (C:Nat) (m:List (List Int)),ds=[tbD m]/\0 < m.length/\m.length<=7/\C<=7/\(∀ i,i < m.length->(m.getD i []).length=C)/\r=.d (.bl (cc C m))
theorem bz {m:List (List Int)} {i:Int} (h0:0<=i) (h:i.toNat < m.length):atI (m.map rwD) i=some (rwD (m.getD i.toNat [])):=by
 obtain ⟨n,rfl⟩:=Int.eq_ofNat_of_zero_le h0
 exact aO (by
   have h:n < m.length:=h
   simp [h])
theorem eQ {m:List (List Int)} (i:Nat) (h:i < (m.map rwD).length):(m.map rwD)[i]=rwD (m.getD i []):=by
 have:i < m.length:=by simpa using h
 simp [this]
section
variable {P:Program} {w:World} {K:PySem.W.Frag} {mg:Str->Option Value} {base:Heap} {k:Nat} {f:Addr} {fd:FuncData} {qual:Str}
theorem lh (F:Fun K "_law_cell" qual (top 26) f fd) (hb:∀ x ∈ ar,mg x=none):aL P w K mg base CX0 (k + 1) f fd ["_law_script","_law_k"] (spD K fK):=by
 refine fnD F kZ hb (by rintro _ _ ⟨_,_,rfl,_⟩; rfl) ?_
 rintro _ _ ⟨ns,n,rfl,rfl⟩ cdv A outer s H E b
 refine kK (bt (aa 1) (bg b (ae (aa 0) ag) bh) mw) (λh=>?_) λh=>?_
 · have h:=of_decide_eq_true h
   rw [List.length_map] at h
   exact aW (aU (aa 0) (aa 1) (aS (bo (by omega) (by omega)))) rfl
 · have h:=of_decide_eq_false h
   rw [List.length_map] at h
   refine aW ah ?_
   show Sl.d (.int 0)=_
   rw [getD_none (by omega)]
theorem iI (F:Fun K "_law_numbers" qual (top 27) f fd) (hb:∀ x ∈ ar,mg x=none):aL P w K mg base CX0 (k + 1) f fd ["_law_cell_here","_law_bases"] (spD K bU):=by
 refine fnD F d0 hb (by rintro _ _ ⟨_,_,rfl,_⟩; rfl) ?_
 rintro _ _ ⟨c,bs,rfl,hl,hbs,rfl⟩ cdv A outer s H E b
 have nd:=d0.nd
 have hp:∀ i,i < bs.length->0 < bs.getD i 0/\bs.getD i 0 < 2 ^ 60:=λi hi=>hbs _ (by simp [hi])
 refine aE 2 nd (bA ag) ?_
 refine kK (bt (bg b (ae (aa 0) ag) qX) (aH ah ah (qJ ⟨by decide,by decide,by decide⟩)) rg) (λh=>?_) λh=>?_
 · refine bX 3 (λi τ=>∃ s3,τ=[.d (.int (mU c (bs.take i))),.d (.lst (bs.map .int)),.o ((fA c (bs.take i)).map .int),s3,.un,.un]) b nd (a5 (aa 1)) i4 ⟨_,rfl⟩ (λi hi τ h=>?_) λτ h=>?_
   · obtain ⟨s3,rfl⟩:=h
     have hi:i < bs.length:=by simpa using hi
     obtain ⟨p1,p2⟩:=hp i hi
     refine i5 2 (aH (aa 0) (aa 3) (eV (by omega))) ?_ ?_
     · rw [List.length_map,gk,List.length_take]; omega
     refine aE 0 nd (aH (aa 0) (aa 3) (hX (mkD (by omega) (by omega)))) (aR ?_)
     apply ex1
     show [Sl.d (.int ((mU c (bs.take i)).fdiv (bs.getD i 0))),_,Sl.o _,_,_,_]=_
     rw [take_snoc 0 hi,gK,List.map_append]
     unfold mU
     rw [List.foldl_append]
     rfl
   · obtain ⟨s3,rfl⟩:=h
     refine jL 2 ?_
     rw [List.length_map,List.take_of_length_le (Nat.le_refl _)]
     unfold nums
     rw [if_pos (of_decide_eq_true h)]
 · refine o9 4 3 (λi τ=>∃ s3 s4 s5,τ=[.d (.int c),.d (.lst (bs.map .int)),.o (((List.range i).map λk=>oS c k (bs.getD k 0)).map .int),s3,s4,s5]) b nd (qx b (aa 1)) qU ⟨_,_,_,rfl⟩ (λi hi τ h=>?_) λτ h=>?_
   · obtain ⟨s3,s4,s5,rfl⟩:=h
     have hi:i < bs.length:=by rw [dZ,List.length_map] at hi; exact hi
     obtain ⟨p1,p2⟩:=hp i hi
     refine aE 5 nd (aH (aH (aH (aH (aH (aa 0) ah (bO (mkR (by decide)))) (aH (aH (aa 4) (aa 4) (bO (mkL (by omega)))) ah (bO (mkR (by decide)))) aX) (aH (aa 4) ah (bO (mkR (by decide)))) aX) ah aX) ah (eV (by decide))) ?_
     refine i5 2 (aH (aH (aH (aH (aH (aH (aa 5) ah (bO (mkR (by decide)))) (aa 0) aX) (aH ah (aa 4) (bO (mkL (by decide)))) aX) ah (eV (by decide))) ah (hX (mkD (by decide) (by decide)))) (aa 3) (eV (by omega))) ?_ (aR ?_)
     · rw [List.length_map,List.length_map,List.length_range]; omega
     apply ex3
     rw [List.range_succ,List.map_append,List.map_append]
     rfl
   · obtain ⟨s3,s4,s5,rfl⟩:=h
     refine jL 2 ?_
     rw [dZ,List.length_map]
     unfold nums
     rw [if_neg (of_decide_eq_false h)]
     rfl
theorem jA (F:Fun K "_law_whole" qual (top 28) f fd) (hb:∀ x ∈ ar,mg x=none):aL P w K mg base CX0 (k + 1) f fd ["_law_thing"] (spD K cQ):=by
 refine fnD F jH hb (by rintro _ _ ⟨_,rfl,_⟩; rfl) ?_
 rintro _ _ ⟨x,rfl,rfl⟩ cdv A outer s H E b
 exact aW (dq (fE .int b (aa 0)) λh=>(bQ (nY (fE .bool b (aa 0))))) rfl
theorem je (F:Fun K "is_whole" qual (top 5) f fd) (hb:∀ x ∈ ar,mg x=none):aL P w K mg base CX0 (k + 1) f fd ["thing"] (spD K dC):=by
 refine fnD F i9 hb (by rintro _ _ ⟨_,rfl,_⟩; rfl) ?_
 rintro _ _ ⟨x,rfl,rfl⟩ cdv A outer s H E b
 exact aW (dq (fE .int b (aa 0)) λh=>(bQ (nY (fE .bool b (aa 0))))) rfl
theorem gz (F:Fun K "is_between" qual (top 6) f fd) (hb:∀ x ∈ ar,mg x=none) (c_is_whole:Cal P w K mg base k "is_whole" dC):aL P w K mg base CX0 (k + 1) f fd ["thing","least","most"] (spD K a9):=by
 refine fnD F gw hb (by rintro _ _ ⟨_,_,_,rfl,_⟩; rfl) ?_
 rintro _ _ ⟨i,l,m,rfl,rfl⟩ cdv A outer s H E b
 exact aW (dq (x_call b c_is_whole (ae (aa 0) ag) ⟨_,rfl,rfl⟩) λh=>(bQ (ft (aa 1) (aa 0) (aa 2) jO jO).1)) rfl
theorem gr (F:Fun K "look_shape" qual (top 18) f fd) (hb:∀ x ∈ ar,mg x=none) (y_MOST:∃ t,mg "MOST" = some (.int 7 t)) (c_is_between:Cal P w K mg base k "is_between" a9):aL P w K mg base CX0 (k + 1) f fd ["rows","columns"] (spD K cf):=by
 refine fnD F gC hb (by rintro _ _ ⟨_,_,rfl,_⟩; rfl) ?_
 rintro _ _ ⟨i,j,rfl,h1,h2,h3,h4,rfl⟩ cdv A outer s H E b
 refine bZ (PW.pt (jG (bD (bT (x_call b c_is_between (ae (aa 0) (ae ah (ae (jJ y_MOST) ag))) ⟨_,_,_,rfl,rfl⟩))) λh=>(gS (bD (bT (x_call b c_is_between (ae (aa 1) (ae ah (ae (jJ y_MOST) ag))) ⟨_,_,_,rfl,rfl⟩)))))) ?_ (aR rfl)
 rw [decide_eq_true h1,decide_eq_true h2,decide_eq_true h3,decide_eq_true h4]
 rfl
theorem gD (F:Fun K "next_state" qual (top 19) f fd) (hb:∀ x ∈ ar,mg x=none):aL P w K mg base CX0 (k + 1) f fd ["shape","place","state","mark"] (spD K aI):=by
 refine fnD F dh hb (by rintro _ _ ⟨_,_,_,_,_,rfl,_⟩; rfl) ?_
 rintro _ _ ⟨R,C,p,⟨bits,begun⟩,m,rfl,h1,h2,h3,h4,rfl⟩ cdv A outer s H E b
 have nd:=dh.nd
 have hm:((p:Int).fmod C)=((p % C:Nat):Int):=by rw [Int.fmod_eq_emod_of_nonneg _ (by omega)]; rfl
 have hlt:p % C < C:=Nat.mod_lt _ (by omega)
 refine aE 4 nd (aH (aa 1) (aU (aa 0) ah (cO (aO (i:=1) rfl))) (eV (by omega))) ?_
 rw [hm]
 refine aE 5 nd (dq (dn (aH (aa 4) ah aX) (aU (aa 0) ah (cO (aO (i:=1) rfl))) mw) λh=>(bQ (nP (aU (aa 2) ah (cO (aO (i:=1) rfl))) λh=>(bQ (dn (aa 3) ah jz))))) ?_
 refine aW (kM (ae (aH (aU (aa 2) ah (cO (aO (i:=0) rfl))) (aH (aa 3) (aa 4) (qc ⟨by omega,by omega,by omega⟩)) rM) (ae (aa 5) ag))) ?_
 show Sl.d (.tup [.int _,.bl _])=Sl.d (.tup [.int _,.bl _])
 unfold nxs
 rw [Int.toNat_natCast,show decide (((p % C:Nat):Int) + 1 < (C:Int))=decide (p % C + 1 < C) by simp only [decide_eq_decide]; omega]
theorem jg (F:Fun K "_law_parted" qual (top 32) f fd) (hb:∀ x ∈ ar,mg x=none):aL P w K mg base CX0 (k + 1) f fd ["_law_n"] (spD K dt):=by
 refine fnD F eT hb (by rintro _ _ ⟨_,rfl,_⟩; rfl) ?_
 rintro _ _ ⟨n,rfl,hn,rfl⟩ cdv A outer s H E b
 have nd:=eT.nd
 refine aE 1 nd (aN (bA (ae ah ag))) ?_
 refine bX 2 (λi τ=>∃ s2 s3,τ=[.d (.int n),.d (.lst ((a0 i).map .int)),s2,s3]) b nd (pj b ah (aH (aa 0) ah aX) ⟨by decide,by decide,by omega,by omega⟩) oI ⟨_,_,rfl⟩ (λi hi τ h=>?_) λτ h=>?_
 · obtain ⟨s2,s3,rfl⟩:=h
   rw [au] at hi
   have hl:=eM i
   refine aE 3 nd (aN (fX (aN (fX (aN (bA (ae ah ag))) (aa 1) ?_)) (aN (bA (ae ah ag))) ?_)) ?_
   · rw [List.length_map,hl]; simp; omega
   · rw [List.length_append,List.length_map,hl]; simp; omega
   rw [show [D.int 0]++(a0 i).map D.int++[D.int 0]=(wid (a0 i)).map D.int by simp [wid]]
   have hw:(wid (a0 i)).length=i + 3:=by simp [wid,hl]
   refine iq 1 nd (cmp 0 (f:=λl=>.int ((l:Int) * (wid (a0 i)).getD (l + 1) 0 + (wid (a0 i)).getD l 0)) b (cw b (aH (aa 2) ah aX) ?_ ?_) cx ?_ λl hl s0 H0 fp=>(aH (aH (aa 0) (aU (aa 1) (aH (aa 0) ah aX) (aS ?_)) (bO (mkL ?_))) (aU (aa 1) (aa 0) (aS ?_)) aX)) (.inr rfl) (aR ?_)
   · omega
   · omega
   · rw [au]; omega
   · rw [au] at hl
     exact bo (by omega) (by omega)
   · rw [au] at hl; omega
   · rw [au] at hl
     exact bo (by omega) (by omega)
   · apply ex2
     rw [a0,List.map_map,au,show (1 + (i:Int) + 1).toNat=i + 2 by omega]
     rfl
 · obtain ⟨s2,s3,rfl⟩:=h
   refine aW (aa 1) ?_
   rw [au,show ((n:Int) + 1 - 1).toNat=n by omega]
theorem ic (F:Fun K "_law_counted" qual (top 33) f fd) (hb:∀ x ∈ ar,mg x=none) (c_l_parted:Cal P w K mg base k "_law_parted" dt):aL P w K mg base CX0 (k + 1) f fd ["_law_rows","_law_columns"] (spD K cJ):=by
 refine fnD F eD hb (by rintro _ _ ⟨_,_,rfl,_⟩; rfl) ?_
 rintro _ _ ⟨R,C,rfl,h1,h2,rfl⟩ cdv A outer s H E b
 have nd:=eD.nd
 refine aE 2 nd (x_call b c_l_parted (ae (aH (aa 0) ah aX) ag) ⟨R + 1,rfl,by omega,rfl⟩) ?_
 refine aE 3 nd (x_call b c_l_parted (ae (aH (aa 1) ah aX) ag) ⟨C + 1,rfl,by omega,rfl⟩) ?_
 refine aE 4 nd ah (aE 5 nd ah ?_)
 have hm:((if (C:Int) < R then (C:Int) else R) + 1).toNat=min R C + 1:=by split <;> omega
 have l1:=eM (R + 1)
 have l2:=eM (C + 1)
 refine bX 6 (λi τ=>∃ s6,τ=[.d (.int R),.d (.int C),.d (.lst ((a0 (R + 1)).map .int)),.d (.lst ((a0 (C + 1)).map .int)),.d (.int (ph (a0 (R + 1)) (a0 (C + 1)) i)),.d (.int (fct i)),s6]) b nd (cw b (aH (bg b (ae (aa 0) (ae (aa 1) ag)) (qo b.calm)) ah aX) ?_ ?_) cx ⟨_,rfl⟩ (λi hi τ h=>?_) λτ h=>?_
 · split <;> omega
 · split <;> omega
 · obtain ⟨s6,rfl⟩:=h
   rw [au,hm] at hi
   have hf:=pL i (by omega)
   have n1:(((i:Int) + 1)).toNat=i + 1:=rfl
   have ha:((a0 (R + 1)).getD (i + 1) 0).natAbs < 2 ^ 20:=jX (R + 1) (by omega) _ (by simp [l1,show i + 1 < R + 2 by omega])
   have hc:((a0 (C + 1)).getD (i + 1) 0).natAbs < 2 ^ 20:=jX (C + 1) (by omega) _ (by simp [l2,show i + 1 < C + 2 by omega])
   refine aE 4 nd (aH (aa 4) (aH (aH (aH (aa 5) (aa 5) (bO (mkL (by omega)))) (aU (aa 2) (aH (aa 6) ah aX) (aS (bo (by omega) (by omega)))) (bO (mkR (by rw [n1]; omega)))) (aU (aa 3) (aH (aa 6) ah aX) (aS (bo (by omega) (by omega)))) (bO (mkR (by rw [n1]; omega)))) aX) ?_
   exact aE 5 nd (aH (aa 5) (aH (aa 6) ah aX) (bO (mkL (by omega)))) (aR ⟨_,rfl⟩)
 · obtain ⟨s6,rfl⟩:=h
   refine aW (aa 4) ?_
   rw [au,hm]
   rfl
theorem fV (F:Fun K "_law_is_stairs" qual (top 31) f fd) (hb:∀ x ∈ ar,mg x=none):aL P w K mg base CX0 (k + 1) f fd ["_law_marks"] (spD K bW):=by
 refine fnD F cF hb (by rintro _ _ ⟨_,_,rfl,_⟩; rfl) ?_
 rintro _ _ ⟨C,m,rfl,h1,h2,h3,h4,rfl⟩ cdv A outer s H E b
 have nd:=cF.nd
 have lm:(m.map rwD).length=m.length:=List.length_map ..
 refine bX 1 (λi τ=>(∀ i',i' < i->∀ j,j < C->lb m i' j=false)/\∃ s1 s2,τ=[.d (tbD m),s1,s2]) b nd (cw b (bg b (ae (aa 0) ag) bh) (by omega) (by omega)) cx ⟨λ_ h=>by omega,_,_,rfl⟩ (λi hi τ h=>?_) λτ h=>?_
 · obtain ⟨o1,s1,s2,rfl⟩:=h
   have hi:i < m.length:=by rw [au] at hi; omega
   have l0:((m.getD 0 []).map D.int).length=C:=by rw [List.length_map]; exact h4 0 h1
   refine bX 2 (λj τ=>(∀ j',j' < j->lb m i j'=false)/\∃ s2,τ=[.d (tbD m),.d (.int i),s2]) b nd (cw b (bg b (ae (aU (aa 0) ah (aS (bz (i:=0) (by omega) (by omega)))) ag) bh) ?_ ?_) cx ⟨λ_ h=>by omega,_,rfl⟩ (λj hj τ h=>?_) λτ h=>?_
   · omega
   · simp only [Int.toNat_zero] at *; omega
   · obtain ⟨o2,s2,rfl⟩:=h
     have hj:j < C:=by rw [au] at hj; simp only [Int.toNat_zero,l0,Int.toNat_natCast] at hj; exact hj
     have hl:=h4 i hi
     have ei:((i:Int)).toNat=i:=rfl
     refine kK (PW.pt (ko (bt (aU (aU (aa 0) (aa 1) (aS (bz (by omega) (by omega)))) (aa 2) (aS (bo (by omega) (by rw [ei]; omega)))) ah jz) λh=>(ko (bt (bg b (ae (aN (jR (aU (aa 0) (aa 1) (aS (bz (by omega) (by omega)))) eF (cK (aa 2)))) ag) (ox b.calm ((m.getD i []).take j) ?_)) ah l6) λh=>(jv (bt (bg b (ae (aN (fI (cmp 0 (g:=λl=>rwD ((m.take i).getD l [])) (f:=λl=>.int (((m.take i).getD l []).getD j 0)) b (a5 (aN (jR (aa 0) eF (cK (aa 1))))) ?_ ?_ λl hl s0 H0 fp=>(aU (aa 0) (aa 1) (aS ?_))))) ag) (ox b.calm ((List.range (m.take i).length).map λl=>((m.take i).getD l []).getD j 0) ?_)) ah l6))))) (λh=>?_) λh=>?_
     · rw [dQ,List.map_take]; rfl
     · intro l hl
       simp only [dQ,<- List.map_take] at hl ⊢
       exact eQ l hl
     · rw [dQ,<- List.map_take,List.length_map,List.length_take]; omega
     · rw [dQ,<- List.map_take,List.length_map] at hl
       have hl':l < i:=by rw [List.length_take] at hl; omega
       have:((m.take i).getD l []).length=C:=by
         rw [<- h4 l (by omega)]
         simp [List.getD,List.getElem?_take,hl']
       exact bo (by omega) (by rw [this]; exact hj)
     · rw [dQ,<- List.map_take,List.length_map,List.map_map]; rfl
     · refine aW oW ?_
       have h:lb m i j=true:=h
       show Sl.d (.bl false)=_
       have:cc C m=false:=by
         unfold cc
         rw [List.all_eq_false]
         refine ⟨i,List.mem_range.mpr hi,?_⟩
         rw [Bool.not_eq_true,List.all_eq_false]
         exact ⟨j,List.mem_range.mpr hj,by rw [h]; decide⟩
       rw [this]
     · refine aR ⟨λj' hj'=>?_,_,rfl⟩
       rcases Nat.lt_or_ge j' j with z | z
       · exact o2 j' z
       · obtain rfl:j'=j:=by omega
         exact h
   · obtain ⟨o2,s2,rfl⟩:=h
     rw [au] at o2
     simp only [Int.toNat_zero,l0,Int.toNat_natCast] at o2
     refine aR ⟨λi' hi'=>?_,_,_,rfl⟩
     rcases Nat.lt_or_ge i' i with z | z
     · exact o1 i' z
     · obtain rfl:i'=i:=by omega
       exact o2
 · obtain ⟨o1,s1,s2,rfl⟩:=h
   rw [au,Int.toNat_natCast,lm] at o1
   refine aW oW ?_
   have:cc C m=true:=by
     unfold cc
     rw [List.all_eq_true]
     intro i hi
     rw [List.all_eq_true]
     intro j hj
     rw [o1 i (List.mem_range.mp hi) j (List.mem_range.mp hj)]
     rfl
   show Sl.d (.bl true)=_
   rw [this]
end
end K53
namespace K53
open PySem PySem.Spec PyProof.Rows L2 Hy
open Ev (D Den ax aQ bw ao aF)
noncomputable def plc (R C t:Nat):Nat:=R * C - t
noncomputable def dz (C p:Nat) (s:Int × Bool):Bool:=s.2 && decide (Builtin.bitAnd (s.1 / 2 ^ (p % C)) 1=1)
noncomputable def mfv (R C:Nat):Nat->Int × Bool->Int
 | 0,_=>1
 | t + 1,s=>(if dz C (plc R C (t + 1)) s then 0 else mfv R C t (nxs C (plc R C (t + 1)) s.1 s.2 0)) + mfv R C t (nxs C (plc R C (t + 1)) s.1 s.2 1)
noncomputable def mev (R C t:Nat) (s:Int × Bool):Int:=if dz C (plc R C (t + 1)) s then 0 else mfv R C t (nxs C (plc R C (t + 1)) s.1 s.2 0)
theorem g8 (C p:Nat) (s:Int × Bool) (m:Int) (hC:1<=C) (hC7:C<=7) (h0:0<=s.1) (h1:s.1 < 128) (m0:0<=m) (m1:m<=1):0<=(nxs C p s.1 s.2 m).1/\(nxs C p s.1 s.2 m).1 < 128:=by
 have key:∀ b:Nat,b < 128->∀ j,j < 7->∀ m:Nat,m < 2->0<=Builtin.bitOr (b:Int) ((m:Int) * 2 ^ j)/\Builtin.bitOr (b:Int) ((m:Int) * 2 ^ j) < 128:=by decide +kernel
 have hj:p % C < 7:=Nat.lt_of_lt_of_le (Nat.mod_lt _ hC) hC7
 obtain ⟨b,hb⟩:=Int.eq_ofNat_of_zero_le h0
 obtain ⟨m',hm⟩:=Int.eq_ofNat_of_zero_le m0
 unfold nxs
 rw [hb,hm]
 exact key b (by omega) _ hj m' (by omega)
structure Good (R C:Nat) (xs:NE):Prop where
 val:∀ x ∈ xs,∃ t tk,t<=R * C/\x.1.1=(plc R C t:Nat)/\0<=x.1.2.1/\x.1.2.1 < 128/\x.2.2=Value.int (mfv R C t x.1.2) tk
 nd:(xs.map (·.1)).Nodup
theorem gG:∀ (n:Nat) (l:List Nat),l.Nodup->(∀ x ∈ l,x < n)->l.length<=n
 | 0,[],_,_=>Nat.le_refl _
 | 0,x :: _,_,h=>absurd (h x (List.mem_cons_self ..)) (by omega)
 | n + 1,l,nd,h=>by
   have:=gG n (l.filter (· ≠ n)) (nd.filter _) λx hx=>by
     obtain ⟨h1,h2⟩:=List.mem_filter.mp hx
     have:=h x h1
     simp at h2
     omega
   have h2:l.length<=(l.filter (· ≠ n)).length + 1:=by
     clear this h
     induction l with
     | nil=>simp
     | cons a l ih=>
       obtain ⟨z1,z2⟩:=List.nodup_cons.mp nd
       by_cases e:a=n
       · subst e
         rw [List.filter_cons_of_neg (by simp),List.filter_eq_self.mpr (λx hx=>by simp; intro e; exact z1 (e ▸ hx))]
         simp
       · rw [List.filter_cons_of_pos (by simp [e])]
         have:=ih z2
         simp only [List.length_cons]
         omega
   omega
theorem Good.len {R C:Nat} {xs:NE} (g:Good R C xs) (hR:R<=7) (hC:C<=7):xs.length<=20000:=by
 have rc:R * C<=49:=Nat.mul_le_mul hR hC
 have h:=gG 20000 (xs.map λx=>x.1.1.toNat * 256 + x.1.2.1.toNat * 2 + if x.1.2.2 then 1 else 0) ?_ λy hy=>?_
 · rwa [List.length_map] at h
 · have e:(xs.map λx=>x.1.1.toNat * 256 + x.1.2.1.toNat * 2 + if x.1.2.2 then 1 else 0)=(xs.map (·.1)).map λ(k:eP)=>k.1.toNat * 256 + k.2.1.toNat * 2 + if k.2.2 then 1 else 0:=by rw [List.map_map]; rfl
   rw [e]
   refine List.pairwise_map.mpr (g.nd.imp_of_mem λ{a b} ha hb ne q=>ne ?_)
   obtain ⟨x,hx,rfl⟩:=List.mem_map.mp ha
   obtain ⟨y,hy,rfl⟩:=List.mem_map.mp hb
   obtain ⟨t,tk,_,h1,h2,h3,_⟩:=g.val x hx
   obtain ⟨t',tk',_,h1',h2',h3',_⟩:=g.val y hy
   have:(if x.1.2.2 then 1 else 0)<=1:=by split <;> omega
   have:(if y.1.2.2 then 1 else 0)<=1:=by split <;> omega
   have e3:(if x.1.2.2 then 1 else 0)=(if y.1.2.2 then 1 else 0):=by omega
   have e1:x.1.1=y.1.1:=by omega
   have e2:x.1.2.1=y.1.2.1:=by omega
   have e4:x.1.2.2=y.1.2.2:=by
     cases hx:x.1.2.2 <;> cases hy:y.1.2.2 <;> simp [hx,hy] at e3 <;> rfl
   exact Prod.ext e1 (Prod.ext e2 e4)
 · obtain ⟨x,hx,rfl⟩:=List.mem_map.mp hy
   obtain ⟨t,tk,h0,h1,h2,h3,_⟩:=g.val x hx
   have:(if x.1.2.2 then 1 else 0)<=1:=by split <;> omega
   unfold plc at h1
   omega
theorem kc {xs:NE} {k:eP} {p:Addr × Value} (h:atKey xs k=some p):∃ x ∈ xs,x.1=k/\x.2=p:=by
 unfold atKey at h
 cases e:xs.find? λx=>decide (x.1=k) with
 | none=>rw [e] at h; cases h
 | some x=>
   rw [e] at h
   cases h
   exact ⟨x,List.mem_of_find?_eq_some e,by simpa using List.find?_some e,rfl⟩
theorem jZ {xs:NE} {k:eP} (h:atKey xs k=none):∀ x ∈ xs,x.1 ≠ k:=λx hx e=>by
 unfold atKey at h
 rw [Option.map_eq_none_iff,List.find?_eq_none] at h
 exact absurd (h x hx) (by simp [e])
theorem Good.put {R C t:Nat} {xs:NE} {k:eP} {b:Addr} {u:Value} {tk:Tok} (g:Good R C xs) (ht:t<=R * C) (h1:k.1=(plc R C t:Nat)) (h2:0<=k.2.1) (h3:k.2.1 < 128) (hu:u=Value.int (mfv R C t k.2) tk):Good R C (storedH xs k b u):=by
 cases e:atKey xs k with
 | none=>
   rw [storedH_new e]
   refine ⟨λx hx=>?_,?_⟩
   · rcases List.mem_append.mp hx with z | z
     · exact g.val x z
     · obtain rfl:=List.mem_singleton.mp z
       exact ⟨t,tk,ht,h1,h2,h3,hu⟩
   · rw [List.map_append,List.nodup_append]
     refine ⟨g.nd,by simp,λx hx y hy e'=>?_⟩
     obtain ⟨z,hz,rfl⟩:=List.mem_map.mp hx
     obtain rfl:=List.mem_singleton.mp hy
     exact jZ e z hz e'
 | some p=>
   rw [storedH_old e]
   have pk:∀ x:eP × Addr × Value,(putAt k u x).1=x.1:=λx=>by unfold putAt; split <;> rfl
   refine ⟨λx hx=>?_,?_⟩
   · obtain ⟨y,hy,rfl⟩:=List.mem_map.mp hx
     obtain ⟨t',tk',z1,z2,z3,z4,z5⟩:=g.val y hy
     by_cases e':y.1=k
     · refine ⟨t,tk,ht,by rw [pk,e',h1],by rw [pk,e']; exact h2,by rw [pk,e']; exact h3,?_⟩
       rw [pk,e',<- hu]
       unfold putAt
       rw [if_pos e']
     · refine ⟨t',tk',z1,by rw [pk]; exact z2,by rw [pk]; exact z3,by rw [pk]; exact z4,?_⟩
       rw [pk,<- z5]
       unfold putAt
       rw [if_neg e']
   · rw [List.map_map]
     exact (List.map_congr_left λx _=>pk x) ▸ g.nd
theorem bx {K:PySem.W.Frag} {H H':Hp} {k:eP} {b:Addr} (e:af H H'):di K H k b->di K H' k b:=λ⟨c,h1,h2⟩=>⟨c,aF e h1,aF e h2⟩
structure fW (P:Program) (w:World) (K:PySem.W.Frag) (M:Addr->Prop) (H:Hp) (d:Addr) (xs:NE):Prop where
 at_:H d=some (dN P w d xs)
 key:∀ x ∈ xs,di K (Hy.hd H M) x.1 x.2.1
theorem fW.n {P:Program} {w:World} {K:PySem.W.Frag} {M:Addr->Prop} {H:Hp} {d:Addr} {xs:NE} (h:fW P w K M H d xs):iS P w K H d xs:=⟨h.at_,λx hx=>bx aD (h.key x hx)⟩
theorem _root_.Hy.But.dict {P:Program} {w:World} {K:PySem.W.Frag} {M:Addr->Prop} {H H':Hp} {d:Addr} {xs:NE} (e:But d H H') (hM:M d) (D:fW P w K M H d xs) (h:H' d=some (dN P w d xs)):fW P w K M H' d xs:=⟨h,λx hx=>bx (e.hd hM) (D.key x hx)⟩
noncomputable def spM (P:Program) (w:World) (K:PySem.W.Frag) (T:Nat):Sp:=λvs H Q _=>∃ (M:Addr->Prop) (d b c:Addr) (R C t:Nat) (s:Int × Bool) (xs:NE) (p:Int),vs=[.ref d,.ref b,.int p,.ref c]/\p=(plc R C t:Nat)/\t<=T/\t<=R * C/\(1<=R/\R<=7/\1<=C/\C<=7)/\Hid M H d /\
 SqT K (Hy.hd H M) b [.int R,.int C]/\SqT K (Hy.hd H M) c [.int s.1,.bl s.2]/\(0<=s.1/\s.1 < 128)/\fW P w K M H d xs/\Good R C xs/\∀ H' xs',But d H H'->fW P w K M H' d xs'->Good R C xs'->Q (.int (mfv R C t s)) H'
noncomputable def spE (P:Program) (w:World) (K:PySem.W.Frag) (T:Nat):Sp:=λvs H Q _=>∃ (M:Addr->Prop) (d b c:Addr) (R C t:Nat) (s:Int × Bool) (xs:NE) (p:Int),vs=[.ref d,.ref b,.int p,.ref c]/\p=(plc R C (t + 1):Nat)/\t<=T/\t + 1<=R * C/\(1<=R/\R<=7/\1<=C/\C<=7)/\Hid M H d /\
 SqT K (Hy.hd H M) b [.int R,.int C]/\SqT K (Hy.hd H M) c [.int s.1,.bl s.2]/\(0<=s.1/\s.1 < 128)/\fW P w K M H d xs/\Good R C xs/\∀ H' xs',But d H H'->fW P w K M H' d xs'->Good R C xs'->Q (.int (mev R C t s)) H'
end K53
namespace K53
open PySem PySem.Spec PyProof.Rows L2 Hy
open Ev (D Den ax aQ bw ao aF)
theorem nZ {K:PySem.W.Frag} {H:Hp} {M:Addr->Prop} {b c:Addr} {R C p:Nat} {s:Int × Bool} {m:Int} {Q:VK} {E:XK} (hM:∀ b,M b->∃ o,H b=some o) (h1:SqT K (Hy.hd H M) b [.int R,.int C]) (h2:SqT K (Hy.hd H M) c [.int s.1,.bl s.2]) (hC:1<=C) (hC7:C<=7) (m0:0<=m) (m1:m<=1)
   (q:∀ c' H',af H H'->SqT K (Hy.hd H' M) c' [.int (nxs C p s.1 s.2 m).1,.bl (nxs C p s.1 s.2 m).2]->Q (.ref c') H'):spD K aI ([.ref b,.int p,.ref c,.int m]++[]) H Q E:=by
 refine ⟨M,[.tup [.int R,.int C],.int p,stD s,.int m],_,hM,?_,⟨R,C,p,s,m,rfl,hC,hC7,m0,m1,rfl⟩,λv H' bs e _ h=>?_⟩
 · exact .cons (.tup h1 (.cons .int (.cons .int .nil))) (.cons .int (.cons (.tup h2 (.cons .int (.cons .bl .nil))) (.cons .int .nil)))
 · obtain ⟨_,u,eu,d⟩:=h
   cases eu
   unfold stD at d
   cases d with
   | tup h r=>
     cases r with
     | cons d1 r=>
       cases r with
       | cons d2 r=>
         cases r
         cases d1
         cases d2
         exact q _ H' e (aF (aq (af.refl _) λ_ z=>.inl z) h)
theorem oM {c A B:Prop} [Decidable c] (hc:c) (h:A):if (decide c)=true then A else B:=by
 rw [decide_eq_true hc]
 exact iu h
theorem qj {c A B:Prop} [Decidable c] (hc:¬ c) (h:B):if (decide c)=true then A else B:=by
 rw [decide_eq_false hc]
 exact gB h
section
variable {P:Program} {w:World} {K:PySem.W.Frag} {mg:Str->Option Value} {base:Heap} {k:Nat} {f:Addr} {fd:FuncData} {qual:Str} {T:Nat}
theorem lL {R C:Nat} (hR:R<=7):aQ (R:Int) (C:Int):=mkL (by omega)
theorem pU (F:Fun K "many_from" qual (top 20) f fd):aL P w K mg base CX0 (k + 1) f fd ["known","shape","place","state"] (spM P w K 0):=by
 refine F.ok cb (λvs H Q E h=>?_) (λcdv A outer s H vs Q E hr h=>?_)
 · obtain ⟨_,_,_,_,_,_,_,_,_,_,rfl,_⟩:=h; rfl
 · obtain ⟨M,d,b,c,R,C,t,s,xs,_,rfl,rfl,h0,h1,⟨hR,hR7,hC,hC7⟩,hM,hb,hc,hs,hD,hG,q⟩:=h
   obtain rfl:t=0:=by omega
   have hb0:=aF aD hb
   refine ⟨_,bG (fZ (gW (jq (L2.pv 2) (cy (r:=rI aQ λi j=>V.int (i * j)) (opI λ_ _ _ _ _ _ _ hc q=>mul_int q (aQ.ok' hc)) (dW cP (L2.pv 1) aY (λ_ _=>rfl)) (dW cP (L2.pv 1) aY (λ_ _=>rfl))))) (cR (cG aY)) cU) cS,?_⟩
   refine ⟨_,rfl,_,rfl,b,_,0,_,rfl,rfl,hb0,aO (i:=0) rfl,_,rfl,b,_,1,_,rfl,rfl,hb0,aO (i:=1) rfl,_,_,rfl,rfl,lL hR7,_,_,rfl,rfl,_,rfl,?_⟩
   exact oM (show ((plc R C 0:Nat):Int)=(R:Int) * C by unfold plc; rw [Nat.sub_zero,Int.natCast_mul]) (q H xs (But.same (af.refl _)) hD hG)
theorem oz (F:Fun K "many_with_empty" qual (top 21) f fd) (cn:Cal P w K mg base k "next_state" aI) (cm:du P w K mg base k "many_from" (spM P w K T)):aL P w K mg base CX0 (k + 1) f fd ["known","shape","place","state"] (spE P w K T):=by
 refine F.ok bI (λvs H Q E h=>?_) (λcdv A outer s H vs Q E hr h=>?_)
 · obtain ⟨_,_,_,_,_,_,_,_,_,_,rfl,_⟩:=h; rfl
 · obtain ⟨M,d,b,c,R,C,t,s,xs,_,rfl,rfl,h0,h1,⟨hR,hR7,hC,hC7⟩,hM,hb,hc,⟨s0,s1⟩,hD,hG,q⟩:=h
   have hb0:=aF aD hb
   have hc0:=aF aD hc
   obtain ⟨fn,fdn,psn,Fn,mn,kn,bn⟩:=cn
   obtain ⟨fm,fdm,psm,Fm,mm,km,bm⟩:=cm
   have nd:=bI.nd
   refine ⟨_,bG (iO (i:=4) nd rfl (.inl rfl) (cy oR (cy oG (dW cP (L2.pv 3) aY (λ_ _=>rfl)) (cy kF (L2.pv 2) (dW cP (L2.pv 1) aY (λ_ _=>rfl)))) aY))
     (bG (fZ (pw_and (js (dW cP (L2.pv 3) aY (λ_ _=>rfl))) (pw_and1 (gW (jq (L2.pv 4) aY)))).pt (cR (cG aY)) cU)
       (cR (cG (bE Fm hr rfl mm km bm .nil dR (aw (L2.pv 0) (aw (L2.pv 1) (aw (cy iK (L2.pv 2) aY) (aw (bE Fn hr rfl mn kn bn .nil dR (aw (L2.pv 1) (aw (L2.pv 2) (aw (L2.pv 3) (aw aY bj))))) bj)))))))),?_⟩
   have hm:((plc R C (t + 1):Nat):Int).fmod (C:Int)=((plc R C (t + 1) % C:Nat):Int):=by rw [Int.fmod_eq_emod_of_nonneg _ (by omega)]; rfl
   refine ⟨_,rfl,c,_,0,_,rfl,rfl,hc0,aO (i:=0) rfl,_,rfl,_,rfl,b,_,1,_,rfl,rfl,hb0,aO (i:=1) rfl,_,_,rfl,rfl,(by omega:(C:Int) ≠ 0),_,_,rfl,rfl,(by rw [hm]; omega),_,_,rfl,rfl,?_⟩
   rw [hm,Int.toNat_natCast]
   refine ⟨_,rfl,c,_,1,_,rfl,rfl,hc0,aO (i:=1) rfl,_,rfl,?_⟩
   have go:dz C (plc R C (t + 1)) s=false->oX (mJ (spM P w K T) [] E0 (cM (gd 0) (cM (gd 1) (cM (tOp (rI0 λi j=>V.int (i + j)) (gd 2) (tC (.int 1))) (cM (mJ (spD K aI) [] E0 (cM (gd 1) (cM (gd 2) (cM (gd 3) (cM (tC (.int 0)) mS))))) mS))))) { nx:=λ_ H'=>Q .non H',rt:=Q }
       [some (.ref d),some (.ref b),some (.int (plc R C (t + 1))),some (.ref c),some (.int (Builtin.bitAnd (s.1 / 2 ^ (plc R C (t + 1) % C)) 1))] H:=λhbit=>by
     refine ⟨_,rfl,_,rfl,_,rfl,_,_,rfl,rfl,_,rfl,_,rfl,_,rfl,nZ (E:=E0) hM.2 hb hc hC hC7 (by omega) (by omega) λc' H' e h'=>?_⟩
     have hp:((plc R C (t + 1):Nat):Int) + 1=((plc R C t:Nat):Int):=by unfold plc; omega
     refine ⟨M,d,b,c',R,C,t,_,xs,_,rfl,hp,h0,by omega,⟨hR,hR7,hC,hC7⟩,hM.same e,aF ((But.same e).hd hM.1) hb,h',g8 C _ s 0 hC hC7 s0 s1 (by omega) (by omega),(But.same e).dict hM.1 hD (e _ _ hD.at_),hG,λH2 xs' e2 hD' hG'=>?_⟩
     have:=q H2 xs' ((But.same e).trans e2) hD' hG'
     unfold mev at this
     rw [hbit,if_neg Bool.false_ne_true] at this
     exact this
   cases hs2:s.2 with
   | false=>exact gB (gB (go (by unfold dz; rw [hs2]; rfl)))
   | true=>
     refine iu ⟨_,rfl,_,_,rfl,rfl,_,rfl,?_⟩
     by_cases hz:Builtin.bitAnd (s.1 / 2 ^ (plc R C (t + 1) % C)) 1=1
     · refine oM hz ?_
       have:=q H xs (But.same (af.refl _)) hD hG
       unfold mev dz at this
       rw [hs2,decide_eq_true hz,Bool.and_self,if_pos rfl] at this
       exact this
     · exact qj hz (go (by unfold dz; rw [hs2,decide_eq_false hz]; rfl))
theorem qZ (F:Fun K "many_from" qual (top 20) f fd) (cn:Cal P w K mg base k "next_state" aI) (cm:du P w K mg base k "many_from" (spM P w K T)) (ce:du P w K mg base k "many_with_empty" (spE P w K T)):aL P w K mg base CX0 (k + 1) f fd ["known","shape","place","state"] (spM P w K (T + 1)):=by
 refine F.ok cb (λvs H Q E h=>?_) (λcdv A outer sh H vs Q E hr h=>?_)
 · obtain ⟨_,_,_,_,_,_,_,_,_,_,rfl,_⟩:=h; rfl
 · obtain ⟨M,d,b,c,R,C,t,s,xs,_,rfl,rfl,h0,h1,⟨hR,hR7,hC,hC7⟩,hM,hb,hc,⟨s0,s1⟩,hD,hG,q⟩:=h
   have hb0:=aF aD hb
   have hc0:=aF aD hc
   obtain ⟨fn,fdn,psn,Fn,mn,kn,bn⟩:=cn
   obtain ⟨fm,fdm,psm,Fm,mm,km,bm⟩:=cm
   obtain ⟨fe,fde,pse,Fe,me,ke,be⟩:=ce
   have nd:=cb.nd
   have hu:(iX CX0 P w K mg base ["known","shape","place","state","filled"] qual (ai (top 20)) f cdv A outer sh H E).nox.A.units + 16 < cLine:=Nat.lt_of_le_of_lt (Nat.add_le_add_left (by decide:16<=64) _) hr.units
   refine ⟨_,bG (fZ (gW (jq (L2.pv 2) (cy (r:=rI aQ λi j=>V.int (i * j)) (opI λ_ _ _ _ _ _ _ hc q=>mul_int q (aQ.ok' hc)) (dW cP (L2.pv 1) aY (λ_ _=>rfl)) (dW cP (L2.pv 1) aY (λ_ _=>rfl))))) (cR (cG aY)) cU)
     (bG (fZ (gW (nc hu (hW (aw (L2.pv 2) (aw (L2.pv 3) bj))) (L2.pv 0)) (by with_unfolding_all rfl))
       (bG (iO (i:=4) nd rfl (.inl rfl) (bE Fm hr rfl mm km bm .nil dR (aw (L2.pv 0) (aw (L2.pv 1) (aw (cy iK (L2.pv 2) aY) (aw (bE Fn hr rfl mn kn bn .nil dR (aw (L2.pv 1) (aw (L2.pv 2) (aw (L2.pv 3) (aw aY bj))))) bj))))))
         (cR (mT hu (L2.pv 0) (hW (aw (L2.pv 2) (aw (L2.pv 3) bj))) (cy iK (bE Fe hr rfl me ke be .nil dR (aw (L2.pv 0) (aw (L2.pv 1) (aw (L2.pv 2) (aw (L2.pv 3) bj))))) (L2.pv 4)) rfl))) cU)
       (cR (cG (m7 hu (L2.pv 0) (hW (aw (L2.pv 2) (aw (L2.pv 3) bj))) (λ_ _=>rfl))))),?_⟩
   refine ⟨_,rfl,_,rfl,b,_,0,_,rfl,rfl,hb0,aO (i:=0) rfl,_,rfl,b,_,1,_,rfl,rfl,hb0,aO (i:=1) rfl,_,_,rfl,rfl,lL hR7,_,_,rfl,rfl,_,rfl,?_⟩
   cases t with
   | zero=>
     exact oM (show ((plc R C 0:Nat):Int)=(R:Int) * C by unfold plc; rw [Nat.sub_zero,Int.natCast_mul]) (q H xs (But.same (af.refl _)) hD hG)
   | succ t=>
   have np:¬ ((plc R C (t + 1):Nat):Int)=(R:Int) * C:=by unfold plc; rw [<- Int.natCast_mul]; omega
   refine qj np ?_
   have two2:(2:Nat)<=sizeLine:=by decide
   have key:∀ {H:Hp} {p:Addr},Hid M H d->H p=none->SqT K (Hy.hd H M) c [.int s.1,.bl s.2]->di K (Hy.hd (upd H p (.tup [.int (plc R C (t + 1):Nat),.ref c])) M) (((plc R C (t + 1):Nat):Int),s) p:=λhM hp hc=>⟨c,SqT.of (iD hM.2 hp),aF (aq (ao hp _) λ_ z=>z) hc⟩
   have got:∀ {H:Hp} {x4:Option V} {xs:NE} {pr:Addr × Value},Hid M H d->SqT K (Hy.hd H M) c [.int s.1,.bl s.2]->fW P w K M H d xs->Good R C xs->atKey xs (((plc R C (t + 1):Nat):Int),s)=some pr->(∀ H' xs',But d H H'->fW P w K M H' d xs'->Good R C xs'->Q (.int (mfv R C (t + 1) s)) H') ->
       oX (oa P w K (gd 0) (qP (cM (gd 2) (cM (gd 3) mS)))) { nx:=λ_ H'=>Q .non H',rt:=Q } [some (.ref d),some (.ref b),some (.int (plc R C (t + 1))),some (.ref c),x4] H:=λ{H x4 xs pr} hM hc hD hG ha q=>by
     refine ⟨_,rfl,_,rfl,_,rfl,two2,λp hp=>?_⟩
     have e1:=ao hp (.tup [.int (plc R C (t + 1):Nat),.ref c])
     have hD1:=(But.same e1).dict hM.1 hD (e1 _ _ hD.at_)
     obtain ⟨x,hx,hk,rfl⟩:=kc ha
     obtain ⟨t',tk,z1,z2,_,_,z5⟩:=hG.val x hx
     obtain rfl:t'=t + 1:=by rw [hk] at z2; simp only [plc] at z2; omega
     rw [hk] at z5
     exact ⟨d,p,_,xs,_,.int (mfv R C (t + 1) s),rfl,rfl,hD1.n,bx aD (key hM hp hc),ha,⟨tk,z5⟩,q _ xs (But.same e1) hD1 hG⟩
   refine ⟨_,rfl,_,rfl,two2,λp hp=>?_⟩
   have e1:=ao hp (.tup [.int (plc R C (t + 1):Nat),.ref c])
   have hD1:=(But.same e1).dict hM.1 hD (e1 _ _ hD.at_)
   have hM1:=hM.same e1
   have m1:=(But.same (d:=d) e1).hd hM.1
   refine ⟨_,rfl,d,p,_,xs,rfl,rfl,hD1.n,bx aD (key hM hp hc),_,rfl,?_⟩
   cases ha:atKey xs (((plc R C (t + 1):Nat):Int),s) with
   | some pr=>exact gB (got hM1 (aF m1 hc) hD1 hG ha λH' xs' b1=>q H' xs' ((But.same e1).trans b1))
   | none=>
     refine iu ⟨_,rfl,_,rfl,_,rfl,_,_,rfl,rfl,_,rfl,_,rfl,_,rfl,nZ (E:=E0) hM1.2 (aF m1 hb) (aF m1 hc) hC hC7 (by omega) (by omega) λc' H2 e2 h'=>?_⟩
     have hp1:((plc R C (t + 1):Nat):Int) + 1=((plc R C t:Nat):Int):=by unfold plc; omega
     have e12:=e1.trans e2
     have m12:=(But.same (d:=d) e12).hd hM.1
     refine ⟨M,d,b,c',R,C,t,_,xs,_,rfl,hp1,by omega,by omega,⟨hR,hR7,hC,hC7⟩,hM.same e12,aF m12 hb,h',g8 C _ s 1 hC hC7 s0 s1 (by omega) (by omega),(But.same e12).dict hM.1 hD (e12 _ _ hD.at_),hG,λH3 xs3 b3 hD3 hG3=>?_⟩
     have b13:But d H H3:=(But.same e12).trans b3
     have hM3:=hM.but b13 ⟨_,hD3.at_⟩
     have hb3:=aF (b13.hd hM.1) hb
     have hc3:=aF (b13.hd hM.1) hc
     refine ⟨_,rfl,_,rfl,_,rfl,_,rfl,?_⟩
     refine ⟨M,d,b,c,R,C,t,s,xs3,_,rfl,rfl,by omega,h1,⟨hR,hR7,hC,hC7⟩,hM3,hb3,hc3,⟨s0,s1⟩,hD3,hG3,λH4 xs4 b4 hD4 hG4=>?_⟩
     have b14:=b13.trans b4
     have hM4:=hM3.but b4 ⟨_,hD4.at_⟩
     have hc4:=aF (b4.hd hM.1) hc3
     refine ⟨_,rfl,_,_,rfl,rfl,_,rfl,_,rfl,_,rfl,two2,λp5 hp5=>?_⟩
     have e5:=ao hp5 (.tup [.int (plc R C (t + 1):Nat),.ref c])
     have hD5:=(But.same e5).dict hM.1 hD4 (e5 _ _ hD4.at_)
     have hM5:=hM4.same e5
     have k5:=key hM4 hp5 hc4
     refine ⟨d,p5,_,xs4,rfl,rfl,hD5.n,bx aD k5,Nat.le_trans (hG4.len hR7 hC7) (by decide),λu hu=>?_⟩
     obtain ⟨tk,hu⟩:=(show ∃ tk,u=Value.int _ tk from hu)
     have hG6:Good R C (storedH xs4 (((plc R C (t + 1):Nat):Int),s) p5 u):=hG4.put (t:=t + 1) (tk:=tk) h1 rfl s0 s1 hu
     have b6:But d (upd H4 p5 (.tup [.int (plc R C (t + 1):Nat),.ref c])) (upd (upd H4 p5 (.tup [.int (plc R C (t + 1):Nat),.ref c])) d (dN P w d (storedH xs4 (((plc R C (t + 1):Nat):Int),s) p5 u))):=λx o ne h=>by rw [ak ne]; exact h
     have m6:=b6.hd hM.1
     have hD6:fW P w K M (upd (upd H4 p5 (.tup [.int (plc R C (t + 1):Nat),.ref c])) d (dN P w d (storedH xs4 (((plc R C (t + 1):Nat):Int),s) p5 u))) d (storedH xs4 (((plc R C (t + 1):Nat):Int),s) p5 u):=by
       refine ⟨aB,λx hx=>?_⟩
       have kx:=λy hy=>bx m6 (hD5.key y hy)
       cases e:atKey xs4 (((plc R C (t + 1):Nat):Int),s) with
       | none=>
         rw [storedH_new e] at hx
         rcases List.mem_append.mp hx with z | z
         · exact kx x z
         · obtain rfl:=List.mem_singleton.mp z
           exact bx m6 k5
       | some pr=>
         rw [storedH_old e] at hx
         obtain ⟨y,hy,rfl⟩:=List.mem_map.mp hx
         have:=kx y hy
         unfold putAt
         split <;> exact this
     obtain ⟨pr,hpr⟩:∃ pr,atKey (storedH xs4 (((plc R C (t + 1):Nat):Int),s) p5 u) (((plc R C (t + 1):Nat):Int),s)=some pr:=by
       cases e:atKey xs4 (((plc R C (t + 1):Nat):Int),s) with
       | none=>
         rw [storedH_new e]
         refine ⟨(p5,u),?_⟩
         unfold atKey at e ⊢
         rw [Option.map_eq_none_iff] at e
         rw [List.find?_append,e]
         simp
       | some pr=>
         obtain ⟨y,hy,hk,_⟩:=kc e
         cases e':atKey (storedH xs4 (((plc R C (t + 1):Nat):Int),s) p5 u) (((plc R C (t + 1):Nat):Int),s) with
         | some pr=>exact ⟨pr,rfl⟩
         | none=>
           exfalso
           rw [storedH_old e] at e'
           refine jZ e' (putAt _ u y) (List.mem_map.mpr ⟨y,hy,rfl⟩) ?_
           unfold putAt
           split <;> exact hk
     exact got (hM5.but b6 ⟨_,aB⟩) (aF (((But.same e5).hd hM.1).trans m6) hc4) hD6 hG6 hpr λH' xs' b7=>q H' xs' (b14.trans ((But.same e5).trans (b6.trans b7)))
theorem lX {fm fe:Addr} {fdm fde:FuncData} {qm qe:Str} (Fm:Fun K "many_from" qm (top 20) fm fdm) (Fe:Fun K "many_with_empty" qe (top 21) fe fde) (cn:Cal P w K mg base k "next_state" aI) (mm:mg "many_from" = some (.ref fm)) (me:mg "many_with_empty" = some (.ref fe))
   (bm:Binds K fdm ["known","shape","place","state"] []) (be:Binds K fde ["known","shape","place","state"] []):∀ T,aL P w K mg base CX0 (k + 2 * T + 1) fm fdm ["known","shape","place","state"] (spM P w K T)
 | 0=>pU Fm
 | T + 1=>by
   have h:=lX Fm Fe cn mm me bm be T
   have h1:=oz (k:=k + 2 * T + 1) Fe (cn.mono (by omega)) ⟨_,_,_,h,mm,Fm.kp,bm⟩
   have h2:=qZ (k:=k + 2 * T + 2) Fm (cn.mono (by omega)) ⟨_,_,_,h.mono (by omega),mm,Fm.kp,bm⟩ ⟨_,_,_,h1.mono (by omega),me,Fe.kp,be⟩
   exact h2
end
end K53
namespace K53
open PySem PySem.Spec PyProof.Rows L2 Hy
noncomputable def aJ (R C:Nat):Nat->Int × Bool->Int->List Int
 | 0,_,_=>[]
 | t + 1,s,l=>if l < mev R C t s then 0 :: aJ R C t (nxs C (plc R C (t + 1)) s.1 s.2 0) l else 1 :: aJ R C t (nxs C (plc R C (t + 1)) s.1 s.2 1) (l - mev R C t s)
noncomputable def cA (R C:Nat):Nat->Int × Bool->List Int->Int
 | t + 1,s,m :: ms=>(if m=1 then mev R C t s else 0) + cA R C t (nxs C (plc R C (t + 1)) s.1 s.2 m) ms
 | _,_,_=>0
noncomputable def dY (R C:Nat):Nat->Int × Bool->List Int->Prop
 | 0,_,[]=>True
 | t + 1,s,m :: ms=>(m=1\/m=0/\dz C (plc R C (t + 1)) s=false)/\dY R C t (nxs C (plc R C (t + 1)) s.1 s.2 m) ms
 | _,_,_=>False
theorem ff (R C:Nat):∀ (t:Nat) (s:Int × Bool),1<=mfv R C t s
 | 0,_=>by rw [mfv]; exact Int.le_refl _
 | t + 1,s=>by
   rw [mfv]
   have h1:=ff R C t (nxs C (plc R C (t + 1)) s.1 s.2 1)
   have h2:=ff R C t (nxs C (plc R C (t + 1)) s.1 s.2 0)
   split <;> omega
theorem iF (R C t:Nat) (s:Int × Bool):mfv R C (t + 1) s=mev R C t s + mfv R C t (nxs C (plc R C (t + 1)) s.1 s.2 1):=rfl
theorem eJ (R C t:Nat) (s:Int × Bool):(dz C (plc R C (t + 1)) s=true/\mev R C t s=0)\/(dz C (plc R C (t + 1)) s=false/\mev R C t s=mfv R C t (nxs C (plc R C (t + 1)) s.1 s.2 0)):=by
 unfold mev
 cases h:dz C (plc R C (t + 1)) s with
 | true=>exact .inl ⟨rfl,if_pos rfl⟩
 | false=>exact .inr ⟨rfl,if_neg Bool.false_ne_true⟩
theorem j4 (R C:Nat):∀ (t:Nat) (s:Int × Bool) (l:Int),(aJ R C t s l).length=t
 | 0,_,_=>rfl
 | t + 1,s,l=>by
   rw [aJ]
   split <;> rw [List.length_cons,j4 R C t]
theorem iJ (R C:Nat):∀ (t:Nat) (s:Int × Bool) (l:Int),0<=l->l < mfv R C t s->dY R C t s (aJ R C t s l)/\cA R C t s (aJ R C t s l)=l
 | 0,s,l,h0,h1=>by
   rw [mfv] at h1
   rw [aJ,dY,cA]
   · exact ⟨trivial,by omega⟩
   · intro _ _ _ z; cases z
 | t + 1,s,l,h0,h1=>by
   rw [iF] at h1
   rw [aJ]
   by_cases h:l < mev R C t s
   · rw [if_pos h]
     rcases eJ R C t s with ⟨_,z⟩ | ⟨z1,z2⟩
     · omega
     · obtain ⟨i1,i2⟩:=iJ R C t _ l h0 (by rw [<- z2]; exact h)
       rw [dY,cA,i2,if_neg (by decide)]
       exact ⟨⟨.inr ⟨rfl,z1⟩,i1⟩,by omega⟩
   · rw [if_neg h]
     obtain ⟨i1,i2⟩:=iJ R C t (nxs C (plc R C (t + 1)) s.1 s.2 1) (l - mev R C t s) (by omega) (by omega)
     rw [dY,cA,i2,if_pos rfl]
     exact ⟨⟨.inl rfl,i1⟩,by omega⟩
theorem mi (R C:Nat):∀ (t:Nat) (s:Int × Bool) (ms:List Int),dY R C t s ms->0<=cA R C t s ms/\cA R C t s ms < mfv R C t s/\aJ R C t s (cA R C t s ms)=ms
 | 0,s,[],_=>by
   rw [mfv,cA,aJ]
   · exact ⟨Int.le_refl _,by decide,rfl⟩
   · intro _ _ _ z; cases z
 | 0,s,_ :: _,h=>by rw [dY] at h; exact h.elim; all_goals (intros; contradiction)
 | t + 1,s,[],h=>by rw [dY] at h; exact h.elim; all_goals (intros; contradiction)
 | t + 1,s,m :: ms,h=>by
   rw [dY] at h
   obtain ⟨h1,h2⟩:=h
   obtain ⟨i1,i2,i3⟩:=mi R C t _ ms h2
   have mp:=ff R C t (nxs C (plc R C (t + 1)) s.1 s.2 1)
   have mc:=eJ R C t s
   have mp0:=ff R C t (nxs C (plc R C (t + 1)) s.1 s.2 0)
   rw [cA,iF,aJ]
   rcases h1 with rfl | ⟨rfl,z⟩
   · rw [if_pos rfl,if_neg (by omega),show mev R C t s + cA R C t (nxs C (plc R C (t + 1)) s.1 s.2 1) ms - mev R C t s=cA R C t (nxs C (plc R C (t + 1)) s.1 s.2 1) ms by omega,i3]
     have:0<=mev R C t s:=by rcases mc with ⟨_,e⟩ | ⟨_,e⟩ <;> omega
     exact ⟨by omega,by omega,rfl⟩
   · rcases mc with ⟨e,_⟩ | ⟨_,e⟩
     · rw [z] at e; cases e
     · rw [if_neg (by decide),Int.zero_add,if_pos (by omega),i3]
       exact ⟨i1,by omega,rfl⟩
theorem dec_lt (R C:Nat):∀ (t:Nat) (s:Int × Bool) (l l':Int),0<=l->l < l'->l' < mfv R C t s->∃ j,j < t/\(∀ m,m < j->(aJ R C t s l).getD m 0=(aJ R C t s l').getD m 0)/\(aJ R C t s l).getD j 0=0/\(aJ R C t s l').getD j 0=1
 | 0,s,l,l',h0,h1,h2=>by rw [mfv] at h2; omega
 | t + 1,s,l,l',h0,h1,h2=>by
   rw [iF] at h2
   rw [aJ,aJ]
   by_cases h:l < mev R C t s
   · by_cases h':l' < mev R C t s
     · rw [if_pos h,if_pos h']
       rcases eJ R C t s with ⟨_,z⟩ | ⟨z1,z2⟩
       · omega
       · obtain ⟨j,q1,q2,q3,q4⟩:=dec_lt R C t (nxs C (plc R C (t + 1)) s.1 s.2 0) l l' h0 h1 (by rw [<- z2]; exact h')
         refine ⟨j + 1,by omega,λm hm=>?_,by simpa using q3,by simpa using q4⟩
         match m,hm with
         | 0,_=>rfl
         | m + 1,hm=>simpa using q2 m (by omega)
     · rw [if_pos h,if_neg h']
       exact ⟨0,by omega,λm hm=>absurd hm (by omega),rfl,rfl⟩
   · rw [if_neg h,if_neg (by omega)]
     obtain ⟨j,q1,q2,q3,q4⟩:=dec_lt R C t (nxs C (plc R C (t + 1)) s.1 s.2 1) (l - mev R C t s) (l' - mev R C t s) (by omega) (by omega) (by omega)
     refine ⟨j + 1,by omega,λm hm=>?_,by simpa using q3,by simpa using q4⟩
     match m,hm with
     | 0,_=>rfl
     | m + 1,hm=>simpa using q2 m (by omega)
theorem iz (n j i:Nat):(n ||| 2 ^ j).testBit i=(n.testBit i || decide (j=i)):=by rw [Nat.testBit_or,Nat.testBit_two_pow]
theorem og (S j:Nat):decide (Builtin.bitAnd ((S:Int) / 2 ^ j) 1=1)=S.testBit j:=by
 have e:(S:Int) / 2 ^ j=((S / 2 ^ j:Nat):Int):=by simp
 rw [e,PyProof.Rows.bitAnd_pp (Int.natCast_nonneg _) (by decide),Int.toNat_natCast,Nat.testBit_eq_decide_div_mod_eq]
 have:(S / 2 ^ j) &&& (1:Int).toNat=S / 2 ^ j % 2:=by show (S / 2 ^ j) &&& 1=_; rw [Nat.and_one_is_mod]
 rw [this]
 congr 1
 rw [eq_iff_iff]
 omega
theorem pd (S y:Nat):Builtin.bitOr (S:Int) (y:Int)=((S ||| y:Nat):Int):=by
 unfold Builtin.bitOr
 have h1:¬ (0<=Builtin.bitNot (S:Int)):=by unfold Builtin.bitNot; omega
 have h2:¬ (0<=Builtin.bitNot (y:Int)):=by unfold Builtin.bitNot; omega
 rw [PyProof.Rows.bitAnd_nn h1 h2]
 have h3:∀ x:Int,Builtin.bitNot (Builtin.bitNot x)=x:=λx=>by unfold Builtin.bitNot; omega
 rw [h3,h3,h3,Int.toNat_natCast,Int.toNat_natCast]
noncomputable def tb (C q:Nat) (g:List Int):List (List Int):=(List.range q).map λi=>(g.drop (i * C)).take C
theorem a4 (C q:Nat) (g:List Int):(tb C q g).length=q:=by simp [tb]
theorem j6 {C q:Nat} {g:List Int} {i:Nat} (h:i < q):(tb C q g).getD i []=(g.drop (i * C)).take C:=by simp [tb,h]
theorem aZ {C q:Nat} {g:List Int} {i j:Nat} (h:i < q) (hj:j < C):((tb C q g).getD i []).getD j 0=g.getD (i * C + j) 0:=by
 rw [j6 h]
 simp [List.getD,List.getElem?_take,hj,List.getElem?_drop]
theorem oJ {C q:Nat} {g:List Int} {i:Nat} (h:i < q) (hg:q * C<=g.length):((tb C q g).getD i []).length=C:=by
 rw [j6 h,List.length_take,List.length_drop]
 have:(i + 1) * C<=q * C:=Nat.mul_le_mul_right C h
 rw [Nat.succ_mul] at this
 omega
theorem dm {C q r:Nat} (h:r < C):(q * C + r) / C=q/\(q * C + r) % C=r:=by
 have hC:0 < C:=by omega
 rw [Nat.mul_comm,Nat.mul_add_div hC,Nat.div_eq_of_lt h,Nat.mul_add_mod,Nat.mod_eq_of_lt h]
 exact ⟨rfl,rfl⟩
theorem dm' (C p:Nat):p=p / C * C + p % C:=by rw [Nat.mul_comm]; exact (Nat.div_add_mod p C).symm
noncomputable def lp (C:Nat) (f:List Int) (p:Nat):Prop:=∃ j,j < p % C/\f.getD (p / C * C + j) 0=1
noncomputable def mN (C:Nat) (f:List Int) (p:Nat):Prop:=∃ i,i < p / C/\f.getD (i * C + p % C) 0=1
noncomputable def gc (C:Nat) (f:List Int) (p:Nat):Prop:=f.getD p 0=1\/(f.getD p 0=0/\¬ (lp C f p/\mN C f p))
structure StP (C:Nat) (f:List Int) (p:Nat) (s:Int × Bool):Prop where
 nn:0<=s.1
 col:∀ c,c < C->(s.1.toNat.testBit c=true ↔ ∃ i,i * C + c < p/\f.getD (i * C + c) 0=1)
 row:s.2=true ↔ lp C f p
theorem StP.zero {C:Nat} {f:List Int}:StP C f 0 (0,false) where
 nn:=Int.le_refl _
 col:=λc _=>⟨λh=>by simp at h,λ⟨i,h,_⟩=>absurd h (by omega)⟩
 row:=⟨λh=>(by cases h),λ⟨j,h,_⟩=>absurd h (by simp)⟩
theorem StP.next {C:Nat} {f:List Int} {p:Nat} {s:Int × Bool} {m:Int} (h:StP C f p s) (hC:0 < C) (hm:f.getD p 0=m) (h01:m=1\/m=0):StP C f (p + 1) (nxs C p s.1 s.2 m):=by
 obtain ⟨n,en⟩:=Int.eq_ofNat_of_zero_le h.nn
 have hj:p % C < C:=Nat.mod_lt _ hC
 have em:∃ k:Nat,m * 2 ^ (p % C)=((k * 2 ^ (p % C):Nat):Int)/\(k=1/\m=1\/k=0/\m=0):=by
   rcases h01 with rfl | rfl
   · exact ⟨1,by simp,.inl ⟨rfl,rfl⟩⟩
   · exact ⟨0,by simp,.inr ⟨rfl,rfl⟩⟩
 obtain ⟨k,ek,hk⟩:=em
 have e1:(nxs C p s.1 s.2 m).1=((n ||| k * 2 ^ (p % C):Nat):Int):=by
   unfold nxs
   rw [en,ek,pd]
 have ep:=dm' C p
 refine ⟨by rw [e1]; exact Int.natCast_nonneg _,λc hc=>?_,?_⟩
 · have hcol:=h.col c hc
   rw [en,Int.toNat_natCast] at hcol
   rw [e1,Int.toNat_natCast]
   have hb:(n ||| k * 2 ^ (p % C)).testBit c=(n.testBit c || (decide (m=1) && decide (p % C=c))):=by
     rcases hk with ⟨rfl,rfl⟩ | ⟨rfl,rfl⟩
     · rw [Nat.one_mul,iz]; simp
     · simp
   rw [hb,Bool.or_eq_true,hcol,Bool.and_eq_true,decide_eq_true_eq,decide_eq_true_eq]
   constructor
   · rintro (⟨i,z1,z2⟩ | ⟨z1,z2⟩)
     · exact ⟨i,by omega,z2⟩
     · subst z2
       exact ⟨p / C,by omega,by rw [<- ep,hm]; exact z1⟩
   · rintro ⟨i,z1,z2⟩
     by_cases e:i * C + c=p
     · obtain ⟨q1,q2⟩:=dm (q:=i) hc
       rw [e] at q1 q2
       refine .inr ⟨?_,q2⟩
       rw [e,hm] at z2
       exact z2
     · exact .inl ⟨i,by omega,z2⟩
 · show ((decide (p % C + 1 < C) && (s.2 || decide (m=1)))=true) ↔ _
   rw [Bool.and_eq_true,Bool.or_eq_true,h.row,decide_eq_true_eq,decide_eq_true_eq]
   unfold lp
   by_cases hl:p % C + 1 < C
   · obtain ⟨q1,q2⟩:=dm (q:=p / C) hl
     rw [show p / C * C + (p % C + 1)=p + 1 by omega] at q1 q2
     rw [q1,q2]
     constructor
     · rintro ⟨_,⟨j,z1,z2⟩ | z⟩
       · exact ⟨j,by omega,z2⟩
       · exact ⟨p % C,by omega,by rw [<- ep,hm]; exact z⟩
     · rintro ⟨j,z1,z2⟩
       refine ⟨hl,?_⟩
       by_cases e:j=p % C
       · subst e
         rw [<- ep,hm] at z2
         exact .inr z2
       · exact .inl ⟨j,by omega,z2⟩
   · have e:p + 1=(p / C + 1) * C + 0:=by rw [Nat.succ_mul]; omega
     obtain ⟨_,q2⟩:=dm (q:=p / C + 1) hC
     rw [<- e] at q2
     rw [q2]
     exact ⟨λz=>absurd z.1 hl,λ⟨j,z,_⟩=>absurd z (by omega)⟩
theorem StP.bit {C:Nat} {f:List Int} {p:Nat} {s:Int × Bool} (h:StP C f p s) (hC:0 < C):dz C p s=true ↔ (lp C f p/\mN C f p):=by
 obtain ⟨n,en⟩:=Int.eq_ofNat_of_zero_le h.nn
 have hj:p % C < C:=Nat.mod_lt _ hC
 have hcol:=h.col (p % C) hj
 rw [en,Int.toNat_natCast] at hcol
 unfold dz
 rw [en,og,Bool.and_eq_true,h.row,hcol]
 have ep:=dm' C p
 constructor
 · rintro ⟨z,i,z1,z2⟩
   refine ⟨z,i,?_,z2⟩
   have:i * C < p / C * C:=by omega
   exact Nat.lt_of_mul_lt_mul_right this
 · rintro ⟨z,i,z1,z2⟩
   refine ⟨z,i,?_,z2⟩
   have:(i + 1) * C<=p / C * C:=Nat.mul_le_mul_right C z1
   rw [Nat.succ_mul] at this
   omega
theorem il {R C:Nat} {f:List Int} (hC:0 < C) (hf:f.length=R * C):∀ (t p:Nat) (s:Int × Bool),t + p=R * C->StP C f p s->(dY R C t s (f.drop p) ↔ ∀ p',p<=p'->p' < R * C->gc C f p')
 | 0,p,s,hp,h=>by
   rw [List.drop_of_length_le (by omega),dY]
   exact ⟨λ_ p' h1 h2=>by omega,λ_=>trivial⟩
 | t + 1,p,s,hp,h=>by
   have hlt:p < f.length:=by omega
   rw [List.drop_eq_getElem_cons hlt,dY]
   have e:f[p]=f.getD p 0:=by simp [hlt]
   have ep:plc R C (t + 1)=p:=by unfold plc; omega
   rw [e,ep]
   have hb:=h.bit hC
   have hg:(f.getD p 0=1\/f.getD p 0=0/\dz C p s=false) ↔ gc C f p:=by
     unfold gc
     rw [<- hb]
     cases dz C p s <;> simp
   rw [hg]
   constructor
   · rintro ⟨g,v⟩ p' h1 h2
     by_cases e':p'=p
     · subst e'; exact g
     · exact (il hC hf t (p + 1) _ (by omega) (h.next hC rfl (g.imp id (·.1)))).mp v p' (by omega) h2
   · intro z
     have g:=z p (Nat.le_refl _) (by omega)
     exact ⟨g,(il hC hf t (p + 1) _ (by omega) (h.next hC rfl (g.imp id (·.1)))).mpr λp' h1 h2=>z p' (by omega) h2⟩
theorem iQ {R C:Nat} {f:List Int} (hC:0 < C) (hf:f.length=R * C):dY R C (R * C) (0,false) f ↔ ∀ p,p < R * C->gc C f p:=by
 have:=il hC hf (R * C) 0 (0,false) (by omega) StP.zero
 rw [List.drop_zero] at this
 rw [this]
 exact ⟨λz p h=>z p (by omega) h,λz p _ h=>z p h⟩
theorem g0:∀ {xs:List Int},0 < xs.sum->∃ x ∈ xs,0 < x
 | [],h=>by simp at h
 | x :: xs,h=>by
   rw [List.sum_cons] at h
   by_cases e:0 < x
   · exact ⟨x,List.mem_cons_self ..,e⟩
   · obtain ⟨y,h1,h2⟩:=g0 (xs:=xs) (by omega)
     exact ⟨y,List.mem_cons_of_mem _ h1,h2⟩
structure Tb (R C:Nat) (f:List Int):Prop where
 r1:1<=R
 r7:R<=7
 c1:1<=C
 c7:C<=7
 len:f.length=R * C
 ok:dY R C (R * C) (0,false) f
theorem Tb.good {R C:Nat} {f:List Int} (h:Tb R C f):∀ {i j:Nat},i < R->j < C->gc C f (i * C + j):=λ{i j} hi hj=>(iQ h.c1 h.len).mp h.ok _ (by
 have:(i + 1) * C<=R * C:=Nat.mul_le_mul_right C hi
 rw [Nat.succ_mul] at this
 omega)
theorem Tb.g {R C:Nat} {f:List Int} (h:Tb R C f) {i j:Nat} (hi:i < R) (hj:j < C):f.getD (i * C + j) 0=1\/(f.getD (i * C + j) 0=0/\¬ ((∃ j',j' < j/\f.getD (i * C + j') 0=1)/\(∃ i',i' < i/\f.getD (i' * C + j) 0=1))):=by
 have:=h.good hi hj
 unfold gc lp mN at this
 obtain ⟨q1,q2⟩:=dm (q:=i) hj
 rw [q1,q2] at this
 exact this
theorem Tb.bit {R C:Nat} {f:List Int} (h:Tb R C f) {i j:Nat} (hi:i < R) (hj:j < C):f.getD (i * C + j) 0=1\/f.getD (i * C + j) 0=0:=(h.g hi hj).imp id (·.1)
theorem Tb.b5 {R C:Nat} {f:List Int} (h:Tb R C f) {i:Nat} (hi:i < R):((tb C R f).getD i []).length=C:=oJ hi (by rw [h.len]; exact Nat.le_refl _)
theorem mem_getD {xs:List Int} {x:Int} (h:x ∈ xs):∃ i,i < xs.length/\xs.getD i 0=x:=by
 obtain ⟨i,hi,rfl⟩:=List.getElem_of_mem h
 exact ⟨i,hi,by simp [hi]⟩
theorem Tb.cc {R C:Nat} {f:List Int} (h:Tb R C f):cc C (tb C R f)=true:=by
 unfold K53.cc
 rw [List.all_eq_true]
 intro i hi
 rw [List.mem_range,a4] at hi
 rw [List.all_eq_true]
 intro j hj
 rw [List.mem_range] at hj
 rw [Bool.not_eq_true']
 cases e:lb (tb C R f) i j with
 | false=>rfl
 | true=>
   exfalso
   unfold lb at e
   rw [Bool.and_eq_true,Bool.and_eq_true,decide_eq_true_eq,decide_eq_true_eq,decide_eq_true_eq,aZ hi hj] at e
   obtain ⟨e1,e2,e3⟩:=e
   rcases h.g hi hj with z | ⟨_,z⟩
   · omega
   · refine z ⟨?_,?_⟩
     · obtain ⟨x,hx,hp⟩:=g0 e2
       obtain ⟨j',hj',ex⟩:=mem_getD hx
       rw [List.length_take] at hj'
       have:((tb C R f).getD i []).getD j' 0=x:=by rw [<- ex]; simp [List.getD,List.getElem?_take,(by omega:j' < j)]
       rw [aZ hi (by omega)] at this
       rcases h.bit hi (j:=j') (by omega) with y | y
       · exact ⟨j',by omega,y⟩
       · omega
     · obtain ⟨x,hx,hp⟩:=g0 e3
       rw [List.mem_map] at hx
       obtain ⟨l,hl,ex⟩:=hx
       rw [List.mem_range,List.length_take,a4] at hl
       have e4:((tb C R f).take i).getD l []=(tb C R f).getD l []:=by simp [List.getD,List.getElem?_take,(by omega:l < i)]
       rw [e4,aZ (by omega) hj] at ex
       rcases h.bit (i:=l) (by omega) hj with y | y
       · exact ⟨l,by omega,y⟩
       · omega
end K53
namespace K53
open PySem PySem.Spec PyProof.Rows L2 Hy
open Ev (D Den ax aQ bw)
noncomputable def a3 (ds:List D) (r:Sl):Prop:=∃ xs,ds=[.lst xs]/\r=.d (.bl (decide ((1:Int)<=(xs.length:Nat)) && decide (((xs.length:Nat):Int)<=7)))
noncomputable def jC (m:List (List Int)) (j:Nat):List Int:=(List.range m.length).map λi=>(m.getD i []).getD j 0
noncomputable def cD (ds:List D) (r:Sl):Prop:=∃ (m:List (List Int)) (j:Nat),ds=[tbD m,.int j]/\m.length<=1000/\(∀ i,i < m.length->j < (m.getD i []).length)/\r=.o ((jC m j).map .int)
noncomputable def iT (xs:List Int):Bool:=xs.any λw=>decide (w=1)
noncomputable def mbe (C R:Nat) (f:List Int) (i j:Nat):Bool:=!iT (((tb C R f).getD i []).take j) || !iT ((jC (tb C R f) j).take i)
noncomputable def bL (ds:List D) (r:Sl):Prop:=∃ (R C:Nat) (f:List Int) (i j:Nat),ds=[tbD (tb C R f),.int i,.int j]/\Tb R C f/\i < R/\j < C/\r=.d (.bl (mbe C R f i j))
theorem j8 {xs:List Int}:iT xs=true ↔ ∃ i,i < xs.length/\xs.getD i 0=1:=by
 unfold iT
 rw [List.any_eq_true]
 constructor
 · rintro ⟨x,h1,h2⟩
   obtain ⟨i,h3,h4⟩:=mem_getD h1
   exact ⟨i,h3,by rw [h4]; exact of_decide_eq_true h2⟩
 · rintro ⟨i,h1,h2⟩
   refine ⟨xs.getD i 0,by simp [h1],by rw [h2]; rfl⟩
theorem nQ {m:List (List Int)} {j i:Nat} (h:i < m.length):(jC m j).getD i 0=(m.getD i []).getD j 0:=by simp [jC,h]
theorem kg {xs:List Int} {n i:Nat} (h:i < n):(xs.take n).getD i 0=xs.getD i 0:=by simp [List.getD,List.getElem?_take,h]
theorem Tb.mbe {R C:Nat} {f:List Int} (h:Tb R C f) {i j:Nat} (hi:i < R) (hj:j < C) (z:¬ f.getD (i * C + j) 0=1):K53.mbe C R f i j=true:=by
 unfold K53.mbe
 cases e1:iT (((tb C R f).getD i []).take j) with
 | false=>rfl
 | true=>
   cases e2:iT ((jC (tb C R f) j).take i) with
   | false=>rfl
   | true=>
     exfalso
     rcases h.g hi hj with y | ⟨_,y⟩
     · exact z y
     · refine y ⟨?_,?_⟩
       · obtain ⟨l,h1,h2⟩:=j8.mp e1
         rw [List.length_take] at h1
         rw [kg (by omega),aZ hi (by omega)] at h2
         exact ⟨l,by omega,h2⟩
       · obtain ⟨l,h1,h2⟩:=j8.mp e2
         rw [List.length_take] at h1
         rw [kg (by omega),nQ (by rw [a4]; omega),aZ (by omega) hj] at h2
         exact ⟨l,by omega,h2⟩
theorem iW (ns:List Int) (j:Nat):cutD (ns.map D.int) none (some (j:Int))=(ns.take j).map D.int:=by rw [dQ,List.map_take]
noncomputable def bp (ds:List D) (r:Sl):Prop:=∃ (R C:Nat) (f:List Int) (i:Nat),ds=[tbD (tb C R f),.int i]/\Tb R C f/\i < R/\r=.d (.bl true)
noncomputable def ba (ds:List D) (r:Sl):Prop:=∃ ns:List Int,ds=[rwD ns]/\1<=ns.length/\ns.length<=7/\(∀ i,i < ns.length->ns.getD i 0=1\/ns.getD i 0=0)/\r=.d (.bl true)
noncomputable def bK (ds:List D) (r:Sl):Prop:=∃ (R C:Nat) (f:List Int),ds=[tbD (tb C R f)]/\Tb R C f/\r=.d (.bl true)
theorem fh (n:Nat) (f:Nat->Bool) (h:∀ i,i < n->f i=true):((List.range n).map f).all id=true:=by
 rw [List.all_map,List.all_eq_true]
 intro i hi
 exact h i (List.mem_range.mp hi)
noncomputable def bV (ds:List D) (r:Sl):Prop:=∃ (R C:Nat) (f:List Int),ds=[tbD (tb C R f)]/\Tb R C f/\r=.d .non
section
variable {P:Program} {w:World} {K:PySem.W.Frag} {mg:Str->Option Value} {base:Heap} {k:Nat} {f:Addr} {fd:FuncData} {qual:Str}
theorem eN (F:Fun K "is_short_list" qual (top 9) f fd) (hb:∀ x ∈ ar,mg x=none) (y_MOST:∃ t,mg "MOST" = some (.int 7 t)):aL P w K mg base CX0 (k + 1) f fd ["thing"] (spD K a3):=by
 refine fnD F eG hb (by rintro _ _ ⟨_,rfl,_⟩; rfl) ?_
 rintro _ _ ⟨xs,rfl,rfl⟩ cdv A outer s H E b
 exact aW (dq (fE .list b (aa 0)) λh=>(bQ (ft ah (bg b (ae (aa 0) ag) bh) (jJ y_MOST) jO jO).1)) rfl
theorem ij (F:Fun K "column_of" qual (top 10) f fd) (hb:∀ x ∈ ar,mg x=none):aL P w K mg base CX0 (k + 1) f fd ["table","j"] (spD K cD):=by
 refine fnD F gU hb (by rintro _ _ ⟨_,_,rfl,_⟩; rfl) ?_
 rintro _ _ ⟨t,j,rfl,hl,hj,rfl⟩ cdv A outer s H E b
 refine aW (fI (cmp 0 (f:=λi=>.int ((t.getD i []).getD j 0)) b (a5 (aa 0)) eQ (by rw [List.length_map]; omega) λi hi s0 H0 fp=>(aU (aa 0) (aa 1) (aS (bo (ns:=t.getD i []) (i:=(j:Int)) (by omega) (hj i (by rw [List.length_map] at hi; exact hi))))))) ?_
 rw [List.length_map]
 unfold jC
 rw [List.map_map]
 rfl
theorem eY (F:Fun K "may_be_empty" qual (top 16) f fd) (hb:∀ x ∈ ar,mg x=none) (c_column_of:Cal P w K mg base k "column_of" cD):aL P w K mg base CX0 (k + 1) f fd ["marks","i","j"] (spD K bL):=by
 refine fnD F e8 hb (by rintro _ _ ⟨_,_,_,_,_,rfl,_⟩; rfl) ?_
 rintro _ _ ⟨R,C,g,i,j,rfl,h,hi,hj,rfl⟩ cdv A outer s H E b
 have lm:=a4 C R g
 have h7:=h.r7
 refine aW (nP (dn (z:=.bl (!iT (((tb C R g).getD i []).take j))) ah (aN (jR (aU (aa 0) (aa 1) (aS (bz (m:=tb C R g) (i:=(i:Int)) (by omega) (by rw [lm]; exact hi)))) eF (cK (aa 2)))) ?_) λ_=>(bQ (dn (z:=.bl (!iT ((jC (tb C R g) j).take i))) ah (aN (jR (aN (x_call b c_column_of (ae (aa 0) (ae (aa 2) ag)) ⟨tb C R g,j,rfl,by omega,λl hl=>by rw [h.b5 (by omega)]; exact hj,rfl⟩)) eF (cK (aa 1)))) ?_))) rfl
 · rw [iW]; exact mC
 · rw [iW]; exact mC
theorem eE (F:Fun K "is_well_filled" qual (top 15) f fd) (hb:∀ x ∈ ar,mg x=none) (c_may_be_empty:Cal P w K mg base k "may_be_empty" bL):aL P w K mg base CX0 (k + 1) f fd ["marks","i"] (spD K bp):=by
 refine fnD F ed hb (by rintro _ _ ⟨_,_,_,_,rfl,_⟩; rfl) ?_
 rintro _ _ ⟨R,C,g,i,rfl,h,hi,rfl⟩ cdv A outer s H E b
 have lm:=a4 C R g
 have hr:=h.b5 hi
 have h7:=h.c7
 have er:∀ (i':Int),(i'=i)->(rwD ((tb C R g).getD i'.toNat []))=rwD ((tb C R g).getD i []):=λi' e=>by rw [e]; rfl
 have lc:(((tb C R g).getD i []).map D.int).length=C:=by rw [List.length_map,hr]
 refine aW (bg b (ae (aN (fI (cmp 0 (f:=λj=>.bl (decide (((tb C R g).getD i []).getD j 0=1) || mbe C R g i j)) b (cw b (bg b (ae (aU (aa 0) (aa 1) (aS (bz (m:=tb C R g) (i:=(i:Int)) (by omega) (by rw [lm]; exact hi)))) ag) bh) ?_ ?_) cx ?_ λj hj s0 H0 fp=>?_))) ag) (gO b.calm ((List.range C).map λj=>decide (((tb C R g).getD i []).getD j 0=1) || mbe C R g i j) ?_)) ?_
 · show -(2 ^ 62)<=(((((tb C R g).getD i []).map D.int).length:Nat):Int); omega
 · show (((((tb C R g).getD i []).map D.int).length:Nat):Int) < 2 ^ 62; omega
 · rw [au]; show ((((((tb C R g).getD i []).map D.int).length:Nat):Int)).toNat < 1000000; omega
 · have hj:j < C:=by rw [au] at hj; have:j < ((((((tb C R g).getD i []).map D.int).length:Nat):Int)).toNat:=hj; omega
   exact (nP (dn (aU (aU (aa 2) (aa 1) (aS (bz (m:=tb C R g) (i:=(i:Int)) (by omega) (by rw [lm]; exact hi)))) (aa 0) (aS (bo (ns:=(tb C R g).getD i []) (i:=(j:Int)) (by omega) (by rw [hr]; exact hj)))) ah jz) λ_=>(bQ (x_call (b.comp s0 H0 _ fp) c_may_be_empty (ae (aa 2) (ae (aa 1) (ae (aa 0) ag))) ⟨R,C,g,i,j,rfl,h,hi,hj,rfl⟩)))
 · rw [au,List.map_map]
   show (List.range ((((((tb C R g).getD i []).map D.int).length:Nat):Int)).toNat).map _=_
   rw [lc,Int.toNat_natCast]
   rfl
 · show Sl.d (.bl _)=Sl.d (.bl true)
   congr 2
   rw [List.all_map,List.all_eq_true]
   intro j hj
   rw [List.mem_range] at hj
   simp only [Function.comp,id]
   rw [aZ hi hj]
   by_cases z:g.getD (i * C + j) 0=1
   · rw [decide_eq_true z]; rfl
   · rw [h.mbe hi hj z,Bool.or_true]
theorem dD (F:Fun K "is_row_of_marks" qual (top 14) f fd) (hb:∀ x ∈ ar,mg x=none) (c_is_short_list:Cal P w K mg base k "is_short_list" a3) (c_is_between:Cal P w K mg base k "is_between" a9):aL P w K mg base CX0 (k + 1) f fd ["thing"] (spD K ba):=by
 refine fnD F dr hb (by rintro _ _ ⟨_,rfl,_⟩; rfl) ?_
 rintro _ _ ⟨ns,rfl,h1,h7,h01,rfl⟩ cdv A outer s H E b
 refine aW (dq (x_call b c_is_short_list (ae (aa 0) ag) ⟨_,rfl,rfl⟩) λ_=>(bQ (bg b (ae (aN (fI (cmp 0 (f:=λi=>.bl (decide ((0:Int)<=ns.getD i 0) && decide (ns.getD i 0<=1))) b (a5 (aa 0)) i4 (by rw [List.length_map]; omega) λi hi s0 H0 fp=>(x_call (b.comp s0 H0 _ fp) c_is_between (ae (aa 0) (ae ah (ae ah ag))) ⟨_,_,_,rfl,rfl⟩)))) ag) (gO b.calm ((List.range ns.length).map λi=>decide ((0:Int)<=ns.getD i 0) && decide (ns.getD i 0<=1)) (by rw [List.length_map,List.map_map]; rfl))))) ?_
 show Sl.d (.bl _)=Sl.d (.bl true)
 rw [List.length_map,decide_eq_true (show (1:Int)<=(ns.length:Nat) by omega),decide_eq_true (show ((ns.length:Nat):Int)<=7 by omega)]
 congr 2
 rw [Bool.true_and,Bool.true_and,List.all_map,List.all_eq_true]
 intro i hi
 rw [List.mem_range] at hi
 simp only [Function.comp,id]
 rcases h01 i hi with z | z <;> rw [z] <;> rfl
theorem fb (F:Fun K "is_staircase" qual (top 13) f fd) (hb:∀ x ∈ ar,mg x=none) (c_is_short_list:Cal P w K mg base k "is_short_list" a3) (c_is_well_filled:Cal P w K mg base k "is_well_filled" bp) (c_is_row_of_marks:Cal P w K mg base k "is_row_of_marks" ba):aL P w K mg base CX0 (k + 1) f fd ["thing"] (spD K bK):=by
 refine fnD F eZ hb (by rintro _ _ ⟨_,_,_,rfl,_⟩; rfl) ?_
 rintro _ _ ⟨R,C,g,rfl,h,rfl⟩ cdv A outer s H E b
 have lm:=a4 C R g
 have h1:=h.r1
 have h7:=h.r7
 have c1:=h.c1
 have c7:=h.c7
 have lt:((tb C R g).map rwD).length=R:=by rw [List.length_map,lm]
 have r0:((((tb C R g).getD 0 []).map D.int).length)=C:=by rw [List.length_map,h.b5 (by omega)]
 refine bZ (PW.pt (jG (bD (bT (x_call b c_is_short_list (ae (aa 0) ag) ⟨_,rfl,rfl⟩))) λ_=>(gS (bD (bT (bg b (ae (aN (fI (cmp 0 (f:=λ_=>.bl true) b (a5 (aa 0)) eQ (by omega) λi hi s0 H0 fp=>(x_call (b.comp s0 H0 _ fp) c_is_row_of_marks (ae (aa 0) ag) ?_)))) ag) (gO b.calm ((List.range R).map λ_=>true) ?_))))))) ?_ ?_
 · rw [lt] at hi
   exact ⟨_,rfl,by rw [h.b5 hi]; exact c1,by rw [h.b5 hi]; exact c7,λj hj=>by rw [h.b5 hi] at hj; rw [aZ hi hj]; exact h.bit hi hj,rfl⟩
 · rw [lt,List.map_map]; rfl
 · rw [lt,decide_eq_true (show (1:Int)<=(R:Nat) by omega),decide_eq_true (show ((R:Nat):Int)<=7 by omega),fh R _ λ_ _=>rfl]
   rfl
 refine bZ (bD (bT (bg b (ae (aN (fI (cmp 0 (f:=λi=>.bl (decide ((((((tb C R g).getD i []).map D.int).length:Nat):Int)=(((((tb C R g).getD 0 []).map D.int).length:Nat):Int)))) b (a5 (aa 0)) eQ (by omega) λi hi s0 H0 fp=>(dn (bg (b.comp s0 H0 _ fp) (ae (aa 0) ag) bh) (bg (b.comp s0 H0 _ fp) (ae (aU (aa 1) ah (aS (bz (m:=tb C R g) (i:=0) (by omega) (by rw [lm]; exact h1)))) ag) bh) jz)))) ag) (gO b.calm ((List.range R).map λi=>decide ((((((tb C R g).getD i []).map D.int).length:Nat):Int)=(((((tb C R g).getD 0 []).map D.int).length:Nat):Int))) (by rw [lt,List.map_map]; rfl))))) ?_ ?_
 · rw [fh R _ λi hi=>decide_eq_true (by rw [r0,List.length_map,h.b5 hi])]
   rfl
 refine aW (bg b (ae (aN (fI (cmp 0 (f:=λ_=>.bl true) b (cw b (bg b (ae (aa 0) ag) bh) (by omega) (by omega)) cx (by rw [au]; omega) λi hi s0 H0 fp=>(x_call (b.comp s0 H0 _ fp) c_is_well_filled (ae (aa 1) (ae (aa 0) ag)) ?_)))) ag) (gO b.calm ((List.range R).map λ_=>true) ?_)) ?_
 · rw [au] at hi
   exact ⟨R,C,g,i,rfl,h,by omega,rfl⟩
 · rw [au,List.map_map,lt,Int.toNat_natCast]; rfl
 · rw [fh R _ λ_ _=>rfl]
theorem fJ (F:Fun K "look_stairs" qual (top 17) f fd) (hb:∀ x ∈ ar,mg x=none) (c_is_staircase:Cal P w K mg base k "is_staircase" bK):aL P w K mg base CX0 (k + 1) f fd ["thing"] (spD K bV):=by
 refine fnD F fB hb (by rintro _ _ ⟨_,_,_,rfl,_⟩; rfl) ?_
 rintro _ _ ⟨R,C,g,rfl,h,rfl⟩ cdv A outer s H E b
 exact bZ (bD (bT (x_call b c_is_staircase (ae (aa 0) ag) ⟨R,C,g,rfl,h,rfl⟩))) rfl (aR rfl)
end
end K53
namespace K53
open PySem PySem.Spec PyProof.Rows L2 Hy
open Ev (D Den ax aQ bw ao aF)
noncomputable def exM (P:Program) (w:World) (R C:Nat):Ex where
 p:=λK G o a=>∃ xs,o=dN P w a xs/\Good R C xs/\∀ x ∈ xs,di K G x.1 x.2.1
 mono:=λe ⟨xs,h1,h2,h3⟩=>⟨xs,h1,h2,λx hx=>bx e (h3 x hx)⟩
 ext:=λ⟨xs,h1,_⟩=>⟨_,h1⟩
theorem mP {K:PySem.W.Frag} {H:Hp} {vs:List V} {i j:Int} (h:ax K H vs [.int i,.int j]):vs=[.int i,.int j]:=by
 cases h with
 | cons d r=>cases r with
   | cons d' r=>cases r; cases d; cases d'; rfl
theorem lJ {K:PySem.W.Frag} {H:Hp} {v:V} {s:Int × Bool} (h:Den K H v (stD s)):∃ c,v=.ref c/\SqT K H c [.int s.1,.bl s.2]:=by
 unfold stD at h
 cases h with
 | tup h r=>cases r with
   | cons d r=>cases r with
     | cons d' r=>cases r; cases d; cases d'; exact ⟨_,rfl,h⟩
theorem lW {K:PySem.W.Frag} {H:Hp} {v:V} {i j:Int} (h:Den K H v (.tup [.int i,.int j])):∃ c,v=.ref c/\SqT K H c [.int i,.int j]:=by
 cases h with
 | tup h r=>cases mP r; exact ⟨_,rfl,h⟩
structure Siz (R C:Nat):Prop where
 r1:1<=R
 r7:R<=7
 c1:1<=C
 c7:C<=7
theorem Siz.mul {R C:Nat} (h:Siz R C):R * C<=49:=Nat.mul_le_mul h.r7 h.c7
section
variable {P:Program} {w:World} {K:PySem.W.Frag} {R C t:Nat} {p:Int} {s:Int × Bool}
theorem jV (h:Siz R C) (ht:t + 1<=R * C) (hp:p=(plc R C (t + 1):Nat)) (hs:0<=s.1/\s.1 < 128):pG K (exM P w R C) (spE P w K 49) [.tup [.int R,.int C],.int p,stD s] (.int (mev R C t s)):=λM d o vs H Q E0 hM hd hx dd q=>by
 obtain ⟨xs,rfl,e2,e3⟩:=hx
 have:=h.mul
 cases dd with
 | cons d1 r=>cases r with
   | cons d2 r=>cases r with
     | cons d3 r=>
       cases r
       cases d2
       obtain ⟨b,rfl,hb⟩:=lW d1
       obtain ⟨c,rfl,hc⟩:=lJ d3
       exact ⟨M,d,b,c,R,C,t,s,xs,p,rfl,hp,by omega,ht,⟨h.r1,h.r7,h.c1,h.c7⟩,hM,hb,hc,hs,⟨hd,e3⟩,e2,λH' xs' b1 hD hG=>q _ H' _ b1 hD.at_ ⟨xs',rfl,hG,hD.key⟩ .int⟩
theorem m4 (h:Siz R C) (ht:t<=R * C) (hp:p=(plc R C t:Nat)) (hs:0<=s.1/\s.1 < 128):pG K (exM P w R C) (spM P w K 49) [.tup [.int R,.int C],.int p,stD s] (.int (mfv R C t s)):=λM d o vs H Q E0 hM hd hx dd q=>by
 obtain ⟨xs,rfl,e2,e3⟩:=hx
 have:=h.mul
 cases dd with
 | cons d1 r=>cases r with
   | cons d2 r=>cases r with
     | cons d3 r=>
       cases r
       cases d2
       obtain ⟨b,rfl,hb⟩:=lW d1
       obtain ⟨c,rfl,hc⟩:=lJ d3
       exact ⟨M,d,b,c,R,C,t,s,xs,p,rfl,hp,by omega,ht,⟨h.r1,h.r7,h.c1,h.c7⟩,hM,hb,hc,hs,⟨hd,e3⟩,e2,λH' xs' b1 hD hG=>q _ H' _ b1 hD.at_ ⟨xs',rfl,hG,hD.key⟩ .int⟩
end
noncomputable def Mk2 (K:PySem.W.Frag) (mg:Str->Option Value) (n:Str) (i:Int) (b:Bool):Prop:=∃ a,mg n=some (.ref a)/\∀ H,SqT K H a [.int i,.bl b]
theorem lQ {X:Cx} {C:Bool} {τ:List Sl} {pos:Pos} {n:Str} {i:Int} {b:Bool} (h:Mk2 X.K X.mg n i b) (hg:Gl X n:=by rfl) (hd:(n == ("__debug__" : Str))=false:=by decide):PE X (.Name n pos) (dE X.K C τ (.d (stD (i,b)))):=by
 obtain ⟨a,hm,hb⟩:=h
 exact kI (kE (v:=.ref a) hg hm rfl hd) λH=>.tup (hb H) (.cons .int (.cons .bl .nil))
theorem lO {X:Cx} {C:Bool} {τ:List Sl} {pos:Pos} {R Cc:Nat}:PE X (.Dict [] [] pos) (dE X.K C τ (.x (exM X.prog X.w R Cc))):=peW m3 λσ H Q ⟨A,H₀,B,S,k⟩=>λp hp=>k (.ref p) _ [p] (ao hp _) (λb hb=>by rw [List.mem_singleton.mp hb]; exact ⟨hp,_,aB⟩) ⟨p,_,rfl,rfl,aB,[],rfl,⟨λ_ z=>(nomatch z),List.nodup_nil⟩,λ_ z=>nomatch z⟩
theorem qb {X:Cx} {τ:List Sl} {a:Expr} {pos:Pos} {p:Bool} (ha:PT X a (dTM X.K τ p)):PT X (.UnaryOp .Not a pos) (dTM X.K τ (!p)):=ptW (mE ha) λσ H Q ⟨A,H₀,B,S,k⟩=>⟨A,H₀,B,S,λH' e=>k H' e⟩
theorem fP {p C:Nat}:(p:Int).fmod (C:Int)=((p % C:Nat):Int):=by rw [Int.fmod_eq_emod_of_nonneg _ (by omega)]; rfl
theorem ir {p C:Nat}:(p:Int).fdiv (C:Int)=((p / C:Nat):Int):=by rw [Int.fdiv_eq_ediv_of_nonneg _ (by omega)]; rfl
noncomputable def bS (ds:List D) (r:Sl):Prop:=∃ (R C:Nat) (f:List Int),ds=[tbD (tb C R f)]/\Tb R C f/\r=.d (.int (cA R C (R * C) (0,false) f))
theorem Tb.siz {R C:Nat} {f:List Int} (h:Tb R C f):Siz R C:=⟨h.r1,h.r7,h.c1,h.c7⟩
section
variable {P:Program} {w:World} {K:PySem.W.Frag} {mg:Str->Option Value} {base:Heap} {k:Nat} {f:Addr} {fd:FuncData} {qual:Str}
theorem gX (F:Fun K "number_of" qual (top 22) f fd) (hb:∀ x ∈ ar,mg x=none) (y_BEG:Mk2 K mg "BEGINNING" 0 false) (c_look_stairs:Cal P w K mg base k "look_stairs" bV) (c_next_state:Cal P w K mg base k "next_state" aI) (c_me:du P w K mg base k "many_with_empty" (spE P w K 49)):aL P w K mg base CX0 (k + 1) f fd ["marks"] (spD K bS):=by
 refine fnD F ef hb (by rintro _ _ ⟨_,_,_,rfl,_⟩; rfl) ?_
 rintro _ _ ⟨R,C,g,rfl,h,rfl⟩ cdv A outer s H E b
 have nd:=ef.nd
 have lm:=a4 C R g
 have h1:=h.r1
 have h7:=h.r7
 have c1:=h.c1
 have c7:=h.c7
 have m49:=h.siz.mul
 have hlen:=h.len
 have lt:((tb C R g).map rwD).length=R:=by rw [List.length_map,lm]
 have r0:((((tb C R g).getD (0:Int).toNat []).map D.int).length)=C:=by show ((((tb C R g).getD 0 []).map D.int).length)=C; rw [List.length_map,h.b5 (by omega)]
 have eRC:(R:Int) * (C:Int)=((R * C:Nat):Int):=by rw [Int.natCast_mul]
 refine mB (x_call b c_look_stairs (ae (aa 0) ag) ⟨R,C,g,rfl,h,rfl⟩) ?_
 refine aE 1 nd (kM (ae (bg b (ae (aa 0) ag) bh) (ae (bg b (ae (aU (aa 0) ah (aS (bz (m:=tb C R g) (i:=0) (by omega) (by rw [lm]; exact h1)))) ag) bh) ag))) ?_
 rw [lt,r0]
 refine aE 2 nd (lO (R:=R) (Cc:=C)) ?_
 refine aE 3 nd (lQ y_BEG) ?_
 refine aE 4 nd ah ?_
 refine bX 5 (λp τ=>∃ s5 s6 st num,τ=[.d (tbD (tb C R g)),.d (.tup [.int R,.int C]),.x (exM P w R C),.d (stD st),.d (.int num),s5,s6]/\(0<=st.1/\st.1 < 128)/\num + cA R C (R * C - p) st (g.drop p)=cA R C (R * C) (0,false) g) b nd (cw b (aH (aU (aa 1) ah (cO (aO (i:=0) rfl))) (aU (aa 1) ah (cO (aO (i:=1) rfl))) (bO (mkL (by omega)))) (by omega) (by omega)) cx ⟨.un,.un,(0,false),0,rfl,⟨by decide,by decide⟩,by rw [Int.zero_add,Nat.sub_zero,List.drop_zero]⟩ (λp hp τ hτ=>?_) λτ hτ=>?_
 · obtain ⟨s5,s6,st,num,rfl,hst,hnum⟩:=hτ
   have hp:p < R * C:=by rw [au] at hp; omega
   have hm:p % C < C:=Nat.mod_lt _ c1
   have hd:p / C < R:=by rw [Nat.div_lt_iff_lt_mul c1]; exact hp
   have ep:=dm' C p
   have gp:((tb C R g).getD (p / C) []).getD (p % C) 0=g.getD p 0:=by rw [aZ hd hm,<- ep]
   obtain ⟨t,et⟩:∃ t,R * C - p=t + 1:=⟨R * C - p - 1,by omega⟩
   have epl:plc R C (t + 1)=p:=by unfold plc; omega
   have et':R * C - (p + 1)=t:=by omega
   have edr:g.drop p=g.getD p 0 :: g.drop (p + 1):=by rw [List.drop_eq_getElem_cons (by omega)]; congr 1; simp [(by omega:p < g.length)]
   have b01:g.getD p 0=1\/g.getD p 0=0:=by
     have:=h.bit hd hm
     rwa [<- ep] at this
   rw [et,edr,cA,epl] at hnum
   refine aE 6 nd (aU (aU (aa 0) (aH (aa 5) (aU (aa 1) ah (cO (aO (i:=1) rfl))) (hX (mkD (by omega) (by omega)))) (aS (bz (m:=tb C R g) (by rw [ir]; exact Int.natCast_nonneg _) (by rw [ir,Int.toNat_natCast,lm]; exact hd)))) (aH (aa 5) (aU (aa 1) ah (cO (aO (i:=1) rfl))) (eV (by omega))) (aS (bo (by rw [fP]; exact Int.natCast_nonneg _) (by rw [fP,ir,Int.toNat_natCast,Int.toNat_natCast,h.b5 hd]; exact hm)))) ?_
   rw [fP,ir,Int.toNat_natCast,Int.toNat_natCast,gp]
   refine lx (M:=λτ=>τ=[.d (tbD (tb C R g)),.d (.tup [.int R,.int C]),.x (exM P w R C),.d (stD st),.d (.int (num + if g.getD p 0=1 then mev R C t st else 0)),.d (.int (p:Nat)),.d (.int (g.getD p 0))]) (bt (aa 6) ah jz) (λhc=>?_) (λhc=>?_) λτ hτ=>?_
   · have hc:=of_decide_eq_true hc
     refine lM 4 nd (rA (aa 4) (jx 2 b c_me (jV h.siz (t:=t) (p:=(p:Int)) (s:=st) (by omega) (by rw [epl]) hst) rfl (ae (aa 1) (ae (aa 5) (ae (aa 3) ag)))) aX) (aR ?_)
     rw [if_pos hc]
     rfl
   · have hc:=of_decide_eq_false hc
     refine aR ?_
     rw [if_neg hc,Int.add_zero]
     rfl
   subst hτ
   refine aE 3 nd (x_call b c_next_state (ae (aa 1) (ae (aa 5) (ae (aa 3) (ae (aa 6) ag)))) ⟨R,C,p,st,g.getD p 0,rfl,c1,c7,by omega,by omega,rfl⟩) (aR ⟨_,_,_,_,rfl,g8 C p st _ c1 c7 hst.1 hst.2 (by omega) (by omega),?_⟩)
   rw [et',<- hnum]
   omega
 · obtain ⟨s5,s6,st,num,rfl,hst,hnum⟩:=hτ
   refine aW (aa 4) ?_
   rw [au,eRC,Int.toNat_natCast,Nat.sub_self,cA,Int.add_zero] at hnum
   · rw [hnum]
   · intro _ _ _ z; cases z
end
end K53
namespace K53
open PySem PySem.Spec PyProof.Rows L2 Hy
open Ev (D Den ax aQ bw ao aF)
noncomputable def rwN (r:List Int):Nd:=.l (r.map λx=>.d (.int x))
noncomputable def tbN (m:List (List Int)):Nd:=.l (m.map rwN)
noncomputable def qf (C p:Nat):Nat:=if p % C=0 then p / C else p / C + 1
theorem nM (C q:Nat) (g:List Int):tb C (q + 1) g=tb C q g++[(g.drop (q * C)).take C]:=by
 unfold tb
 rw [List.range_succ,List.map_append]
 rfl
theorem mV {C p:Nat} {g:List Int} {m:Int} (hC:0 < C) (hg:g.length=p):tb C (p / C + 1) (g++[m])=(tb C (p / C + 1) g).set (p / C) (((tb C (p / C + 1) g).getD (p / C) [])++[m]):=by
 have ep:=dm' C p
 have hm:p % C < C:=Nat.mod_lt _ hC
 rw [j6 (Nat.lt_succ_self _)]
 refine List.ext_getElem? λi=>?_
 rw [List.getElem?_set]
 simp only [tb,List.getElem?_map,List.length_map,List.length_range]
 by_cases e:p / C=i
 · subst e
   rw [if_pos rfl,if_pos (Nat.lt_succ_self _),List.getElem?_range (Nat.lt_succ_self _),Option.map_some]
   rw [List.drop_append_of_le_length (by omega),List.take_of_length_le (by rw [List.length_append,List.length_drop,List.length_singleton]; omega),List.take_of_length_le (by rw [List.length_drop]; omega)]
 · rw [if_neg e]
   by_cases hi:i < p / C + 1
   · rw [List.getElem?_range hi,Option.map_some,Option.map_some]
     have h1:(i + 1) * C<=p / C * C:=Nat.mul_le_mul_right C (by omega)
     rw [Nat.succ_mul] at h1
     rw [List.drop_append_of_le_length (by omega),List.take_append_of_le_length (by rw [List.length_drop]; omega)]
   · rw [List.getElem?_eq_none (by simpa using hi)]
     rfl
theorem mQ {C p:Nat} (hC:0 < C):qf C (p + 1)=p / C + 1:=by
 have ep:=dm' C p
 have hm:p % C < C:=Nat.mod_lt _ hC
 unfold qf
 by_cases h:p % C + 1 < C
 · obtain ⟨q1,q2⟩:=dm (q:=p / C) h
   rw [show p / C * C + (p % C + 1)=p + 1 by omega] at q1 q2
   rw [q1,q2,if_neg (by omega)]
 · have e:p + 1=(p / C + 1) * C + 0:=by rw [Nat.succ_mul]; omega
   obtain ⟨q1,q2⟩:=dm (q:=p / C + 1) hC
   rw [<- e] at q1 q2
   rw [q1,q2,if_pos rfl]
theorem nW {n:Nat}:ixN (n + 1) (-1)=some n:=by
 unfold ixN
 simp
 omega
noncomputable def bJ (P:Program) (w:World) (E:Ex) (ds:List D) (r:Sl):Prop:=∃ (R C:Nat) (n:Int),E=exM P w R C/\ds=[.tup [.int R,.int C],.int n]/\Siz R C/\r=.n (tbN (tb C R (aJ R C (R * C) (0,false) n)))
noncomputable def cg (ds:List D) (r:Sl):Prop:=∃ (R C:Nat) (n:Int),ds=[.int R,.int C,.int n]/\Siz R C/\0<=n/\n < mfv R C (R * C) (0,false)/\r=.n (tbN (tb C R (aJ R C (R * C) (0,false) n)))
section
variable {P:Program} {w:World} {K:PySem.W.Frag} {mg:Str->Option Value} {base:Heap} {k:Nat} {f:Addr} {fd:FuncData} {qual:Str}
theorem e7 (F:Fun K "staircase_at" qual (top 24) f fd) (hb:∀ x ∈ ar,mg x=none) (y_BEG:Mk2 K mg "BEGINNING" 0 false) (c_me:du P w K mg base k "many_with_empty" (spE P w K 49)) (c_next_state:Cal P w K mg base k "next_state" aI):aL P w K mg base CX0 (k + 1) f fd ["known","shape","number"] (spR K (bJ P w)):=by
 refine fnR F cq hb (by rintro _ _ _ ⟨_,_,_,_,rfl,_⟩; rfl) ?_
 rintro _ _ _ ⟨R,C,n0,rfl,rfl,h,rfl⟩ cdv A outer s H E b
 have nd:=cq.nd
 obtain ⟨h1,h7,c1,c7⟩:=h
 have h:Siz R C:=⟨h1,h7,c1,c7⟩
 have m49:=h.mul
 have eRC:(R:Int) * (C:Int)=((R * C:Nat):Int):=by rw [Int.natCast_mul]
 refine aE 3 nd (bA ag) ?_
 refine rO 3 ?_
 refine aE 4 nd (lQ y_BEG) ?_
 refine aE 5 nd (aa 2) ?_
 refine bX 6 (λp τ=>∃ s6 s7 s8 g st l,τ=[.x (exM P w R C),.d (.tup [.int R,.int C]),.d (.int n0),.n (tbN (tb C (qf C p) g)),.d (stD st),.d (.int l),s6,s7,s8]/\(0<=st.1/\st.1 < 128)/\g.length=p/\aJ R C (R * C) (0,false) n0=g++aJ R C (R * C - p) st l) b nd (cw b (aH (aU (aa 1) ah (cO (aO (i:=0) rfl))) (aU (aa 1) ah (cO (aO (i:=1) rfl))) (bO (mkL (by omega)))) (by omega) (by omega)) cx ⟨.un,.un,.un,[],(0,false),n0,?_,⟨by decide,by decide⟩,rfl,rfl⟩ (λp hp τ hτ=>?_) λτ hτ=>?_
 · have:qf C 0=0:=by unfold qf; simp
   rw [this]
   rfl
 · obtain ⟨s6,s7,s8,g,st,l,rfl,hst,hg,hdec⟩:=hτ
   have hp:p < R * C:=by rw [au] at hp; omega
   have hm:p % C < C:=Nat.mod_lt _ c1
   have hd:p / C < R:=by rw [Nat.div_lt_iff_lt_mul c1]; exact hp
   have ep:=dm' C p
   obtain ⟨t,et⟩:∃ t,R * C - p=t + 1:=⟨R * C - p - 1,by omega⟩
   have epl:plc R C (t + 1)=p:=by unfold plc; omega
   have et':R * C - (p + 1)=t:=by omega
   rw [et] at hdec
   refine lx (M:=λτ=>τ=[.x (exM P w R C),.d (.tup [.int R,.int C]),.d (.int n0),.n (tbN (tb C (p / C + 1) g)),.d (stD st),.d (.int l),.d (.int (p:Nat)),s7,s8]) (bt (aH (aa 6) (aU (aa 1) ah (cO (aO (i:=1) rfl))) (eV (by omega))) ah jz) (λhc=>?_) (λhc=>?_) λτ hτ=>?_
   · have hc:=of_decide_eq_true hc
     rw [fP] at hc
     have hc:p % C=0:=by omega
     refine jy (pt:=[]) (i:=3) (jN 3) (bA ag) rfl rfl rfl ?_ (aR ?_)
     · rw [List.length_map,a4]; unfold qf; rw [if_pos hc]; omega
     · show [_,_,_,Sl.n (.l ((tb C (qf C p) g).map rwN++[Nd.l []])),_,_,_,_,_]=_
       unfold qf
       rw [if_pos hc,nM,List.drop_of_length_le (by omega),List.take_nil]
       unfold tbN
       rw [List.map_append]
       rfl
   · have hc:=of_decide_eq_false hc
     rw [fP] at hc
     have hc:¬ p % C=0:=by omega
     refine aR ?_
     unfold qf
     rw [if_neg hc]
     rfl
   subst hτ
   refine lM 7 nd (jx 0 b c_me (jV h (t:=t) (p:=(p:Int)) (s:=st) (by omega) (by rw [epl]) hst) rfl (ae (aa 1) (ae (aa 6) (ae (aa 4) ag)))) ?_
   obtain ⟨m,hm01,hmd,hme⟩:∃ m:Int,(m=0\/m=1)/\aJ R C (t + 1) st l=m :: aJ R C t (nxs C p st.1 st.2 m) (l - mev R C t st * m)/\m=(if l < mev R C t st then 0 else 1):=by
     rw [aJ,epl]
     by_cases z:l < mev R C t st
     · exact ⟨0,.inl rfl,by rw [if_pos z,Int.mul_zero,Int.sub_zero],by rw [if_pos z]⟩
     · exact ⟨1,.inr rfl,by rw [if_neg z,Int.mul_one],by rw [if_neg z]⟩
   refine aE 8 nd (qT (s:=.d (.int m)) (bt (aa 5) (aa 7) mw) (λz=>?_) λz=>?_) ?_
   · rw [hme,if_pos (of_decide_eq_true z)]; exact ah
   · rw [hme,if_neg (of_decide_eq_false z)]; exact ah
   refine aE 5 nd (aH (aa 5) (aH (aa 7) (aa 8) (bO (mkR (by omega)))) mI) ?_
   have lq:((tb C (p / C + 1) g).map rwN).length=p / C + 1:=by rw [List.length_map,a4]
   have lastAt:((tb C (p / C + 1) g).map rwN)[p / C]?=some (rwN ((tb C (p / C + 1) g).getD (p / C) [])):=by
     rw [List.getElem?_map,List.getElem?_eq_getElem (by rw [a4]; omega)]
     simp [(by rw [a4]; omega:p / C < (tb C (p / C + 1) g).length)]
   refine jy (pt:=[p / C]) (i:=3) (t:=tbN (tb C (p / C + 1) g)) (xs:=((tb C (p / C + 1) g).getD (p / C) []).map λx=>.d (.int x)) (oq (jN 3) (p8 ah) rfl rfl (by rw [lq]; exact nW)) (aa 8) rfl ?_ rfl ?_ ?_
   · unfold tbN fS
     rw [lastAt]
     rfl
   · rw [List.length_map,j6 (Nat.lt_succ_self _),List.length_take]; omega
   refine aE 4 nd (x_call b c_next_state (ae (aa 1) (ae (aa 6) (ae (aa 4) (ae (aa 8) ag)))) ⟨R,C,p,st,m,rfl,c1,c7,by omega,by omega,rfl⟩) (aR ⟨.d (.int (p:Nat)),.d (.int (mev R C t st)),.d (.int m),g++[m],nxs C p st.1 st.2 m,l - mev R C t st * m,?_,g8 C p st _ c1 c7 hst.1 hst.2 (by omega) (by omega),by rw [List.length_append,hg]; rfl,by rw [hdec,et',hmd,List.append_assoc]; rfl⟩)
   have et:cv [p / C] (tbN (tb C (p / C + 1) g)) (.l ((((tb C (p / C + 1) g).getD (p / C) []).map λx=>.d (.int x))++[.d (.int m)]))=tbN (tb C (qf C (p + 1)) (g++[m])):=by
     rw [mQ c1,mV c1 hg]
     unfold tbN cv
     rw [List.map_set]
     congr 2
     unfold rwN
     rw [cv,List.map_append]
     rfl
   rw [et]
   rfl
 · obtain ⟨s6,s7,s8,g,st,l,rfl,hst,hg,hdec⟩:=hτ
   refine jL 3 ?_
   rw [au,eRC,Int.toNat_natCast] at hg hdec ⊢
   rw [Nat.sub_self,aJ,List.append_nil] at hdec
   have:qf C (R * C)=R:=by unfold qf; rw [Nat.mul_mod_left,if_pos rfl,Nat.mul_div_cancel _ c1]
   rw [this,hdec]
theorem i7 (F:Fun K "numbered" qual (top 23) f fd) (hb:∀ x ∈ ar,mg x=none) (y_BEG:Mk2 K mg "BEGINNING" 0 false) (c_look_shape:Cal P w K mg base k "look_shape" cf) (c_sa:du P w K mg base k "staircase_at" (spR K (bJ P w))) (c_is_between:Cal P w K mg base k "is_between" a9) (c_mf:du P w K mg base k "many_from" (spM P w K 49)):aL P w K mg base CX0 (k + 1) f fd ["rows","columns","number"] (spD K cg):=by
 refine fnD F eU hb (by rintro _ _ ⟨_,_,_,rfl,_⟩; rfl) ?_
 rintro _ _ ⟨R,C,n0,rfl,h,n1,n2,rfl⟩ cdv A outer s H E b
 have nd:=eU.nd
 obtain ⟨h1,h7,c1,c7⟩:=h
 have h:Siz R C:=⟨h1,h7,c1,c7⟩
 refine mB (x_call b c_look_shape (ae (aa 0) (ae (aa 1) ag)) ⟨R,C,rfl,by omega,by omega,by omega,by omega,rfl⟩) ?_
 refine aE 3 nd (lO (R:=R) (Cc:=C)) ?_
 refine qI (qb (pR (pf b c_is_between (mD (aa 2) (mD ah (qO (qA (jx 3 b c_mf (m4 h (t:=R * C) (p:=0) (s:=(0,false)) (Nat.le_refl _) (by unfold plc; rw [Nat.sub_self]; rfl) ⟨by decide,by decide⟩) rfl (ae (kM (ae (aa 0) (ae (aa 1) ag))) (ae ah (ae (lQ y_BEG) ag)))) ah mI)))) ⟨_,_,_,rfl,rfl⟩))) ?_ ?_
 · rw [decide_eq_true n1,decide_eq_true (by omega)]
   rfl
 exact oV 3 b c_sa ⟨R,C,n0,rfl,rfl,h,rfl⟩ rfl rfl (ae (kM (ae (aa 0) (ae (aa 1) ag))) (ae (aa 2) ag))
end
end K53
namespace K53
open PySem PySem.Spec PyProof.Rows L2 Hy
open Ev (D Den ax aQ bw)
noncomputable def lgr (one:Bool) (rs:List (List Int)):List (List Int):=rs.flatMap λr=>(if one then [r++[0]] else [])++[r++[1]]
noncomputable def smK (cs:List Bool) (first k:Nat):List (List Int):=((cs.drop (first + 1)).take k).foldl (λrs one=>lgr one rs) [List.replicate first 0++[1]]
noncomputable def d9 (cs:List Bool) (k:Nat):List (List Int):=List.replicate cs.length 0 :: (List.range k).flatMap λi=>smK cs i cs.length
noncomputable def opts (cs:List Bool):List (List Int):=d9 cs cs.length
theorem iH (one:Bool):∀ rs,(lgr one rs).length<=2 * rs.length
 | []=>Nat.le_refl _
 | r :: rs=>by
   have:=iH one rs
   unfold lgr at this ⊢
   rw [List.flatMap_cons,List.length_append,List.length_cons]
   cases one <;> simp at this ⊢ <;> omega
theorem gf {cs:List Bool} {first k:Nat} (h:k < (cs.drop (first + 1)).length):smK cs first (k + 1)=lgr ((cs.drop (first + 1)).getD k false) (smK cs first k):=by
 unfold smK
 rw [take_snoc false h,List.foldl_append]
 rfl
theorem fo {cs:List Bool} {first k:Nat} (h:(cs.drop (first + 1)).length<=k):smK cs first k=smK cs first cs.length:=by
 unfold smK
 rw [List.take_of_length_le h,List.take_of_length_le (by rw [List.length_drop]; omega)]
theorem dX (cs:List Bool) (first:Nat):∀ k,(smK cs first k).length<=2 ^ k
 | 0=>by simp [smK]
 | k + 1=>by
   by_cases h:k < (cs.drop (first + 1)).length
   · rw [gf h]
     have:=iH ((cs.drop (first + 1)).getD k false) (smK cs first k)
     have:=dX cs first k
     rw [Nat.pow_succ]
     omega
   · rw [fo (by omega),<- fo (k:=k) (by omega)]
     have:=dX cs first k
     rw [Nat.pow_succ]
     omega
theorem jh (cs:List Bool) (h:cs.length<=7):∀ k,(d9 cs k).length<=1 + k * 128
 | 0=>by simp [d9]
 | k + 1=>by
   have ih:=jh cs h k
   have h1:=dX cs k cs.length
   have h2:2 ^ cs.length<=2 ^ 7:=Nat.pow_le_pow_right (by decide) h
   unfold d9 at ih ⊢
   rw [List.range_succ,List.flatMap_append]
   simp at ih ⊢
   omega
theorem kY (cs:List Bool) (k:Nat):d9 cs (k + 1)=d9 cs k++smK cs k cs.length:=by
 unfold d9
 rw [List.range_succ,List.flatMap_append]
 simp
structure OkR (cs:List Bool) (n:Nat) (r:List Int):Prop where
 len:r.length=n
 at_:∀ j,j < n->r.getD j 0=1\/(r.getD j 0=0/\((∀ j',j' < j->r.getD j' 0=0)\/cs.getD j false=true))
theorem getD_snoc {r:List Int} {x:Int} {j:Nat}:(r++[x]).getD j 0=if j < r.length then r.getD j 0 else if j=r.length then x else 0:=by
 by_cases h:j < r.length
 · rw [if_pos h]; simp [List.getD,List.getElem?_append_left h]
 · rw [if_neg h]
   by_cases e:j=r.length
   · subst e; simp
   · rw [if_neg e]
     simp [List.getD]
     rw [List.getElem?_eq_none (by simp; omega)]
     rfl
theorem OkR.snoc {cs:List Bool} {n:Nat} {r:List Int} {x:Int} (h:OkR cs n r) (hx:x=1\/x=0/\cs.getD n false=true):OkR cs (n + 1) (r++[x]):=by
 refine ⟨by rw [List.length_append,h.len]; rfl,λj hj=>?_⟩
 rw [getD_snoc,h.len]
 by_cases e:j < n
 · rw [if_pos e]
   refine (h.at_ j e).imp id λ⟨z1,z2⟩=>⟨z1,z2.imp (λz j' hj'=>?_) id⟩
   rw [getD_snoc,h.len,if_pos (by omega)]
   exact z j' hj'
 · rw [if_neg e,if_pos (by omega)]
   obtain rfl:j=n:=by omega
   exact hx.imp id λ⟨z1,z2⟩=>⟨z1,.inr z2⟩
theorem OkR.zeros (cs:List Bool) (n:Nat):OkR cs n (List.replicate n 0):=⟨List.length_replicate,λj hj=>.inr ⟨by simp [hj],.inl λj' hj'=>by simp [(by omega:j' < n)]⟩⟩
theorem jr (cs:List Bool) (first:Nat):∀ k,first + 1 + k<=cs.length->∀ r ∈ smK cs first k,OkR cs (first + 1 + k) r
 | 0,_,r,hr=>by
   simp [smK] at hr
   subst hr
   exact (OkR.zeros cs first).snoc (.inl rfl)
 | k + 1,hk,r,hr=>by
   have hl:k < (cs.drop (first + 1)).length:=by rw [List.length_drop]; omega
   rw [gf hl] at hr
   unfold lgr at hr
   rw [List.mem_flatMap] at hr
   obtain ⟨r0,h0,h1⟩:=hr
   have ih:=jr cs first k (by omega) r0 h0
   have ec:(cs.drop (first + 1)).getD k false=cs.getD (first + 1 + k) false:=by simp [List.getD,List.getElem?_drop]
   rw [ec] at h1
   rcases List.mem_append.mp h1 with z | z
   · cases hc:cs.getD (first + 1 + k) false with
     | false=>rw [hc] at z; simp at z
     | true=>
       rw [hc] at z
       simp at z
       subst z
       exact ih.snoc (.inr ⟨rfl,hc⟩)
   · simp at z
     subst z
     exact ih.snoc (.inl rfl)
theorem nO (cs:List Bool) (r:List Int) (h:r ∈ opts cs):OkR cs cs.length r:=by
 unfold opts d9 at h
 rcases List.mem_cons.mp h with rfl | h
 · exact OkR.zeros cs cs.length
 · rw [List.mem_flatMap] at h
   obtain ⟨i,h1,h2⟩:=h
   rw [List.mem_range] at h1
   rw [<- fo (k:=cs.length - (i + 1)) (by rw [List.length_drop]; exact Nat.le_refl _)] at h2
   have:=jr cs i (cs.length - (i + 1)) (by omega) r h2
   rwa [show i + 1 + (cs.length - (i + 1))=cs.length by omega] at this
noncomputable def cC (ds:List D) (r:Sl):Prop:=∃ cs:List Bool,ds=[.lst (cs.map .bl)]/\cs.length<=7/\r=.d (tbD (opts cs))
theorem qa {bs:List Bool} (i:Nat) (h:i < (bs.map D.bl).length):(bs.map D.bl)[i]=.bl (bs.getD i false):=by
 have:i < bs.length:=by simpa using h
 simp [this]
theorem fu {xs:List D} (m:Nat):Hy.cutD xs (some (m:Int)) none=xs.drop m:=by
 unfold Hy.cutD
 rw [HT.fq,HT.i0]
 rcases Nat.le_total m xs.length with h | h
 · rw [Nat.min_eq_left h,List.take_of_length_le (by rw [List.length_drop]; exact Nat.le_refl _)]
 · rw [Nat.min_eq_right h,List.drop_of_length_le (Nat.le_refl _),List.drop_of_length_le h,List.take_nil]
theorem nC {α:Type} (n:Nat) (x:α):(List.range n).map (λ_=>x)=List.replicate n x:=by
 refine List.ext_getElem (by simp) λi h1 h2=>by simp
noncomputable def pick (cs:List Bool) (p:Int):List Int:=(opts cs).getD (p.fmod ((opts cs).length:Nat)).toNat []
noncomputable def stS (ps:List Int) (C:Nat):Nat->List (List Int) × List Bool
 | 0=>([],List.replicate C true)
 | i + 1=>((stS ps C i).1++[pick (stS ps C i).2 (ps.getD i 0)],(List.range C).map λj=>(stS ps C i).2.getD j false && decide ((pick (stS ps C i).2 (ps.getD i 0)).getD j 0=0))
theorem i6 (cs:List Bool):0 < (opts cs).length:=by simp [opts,d9]
theorem ka (cs:List Bool) (p:Int):0<=p.fmod ((opts cs).length:Nat)/\(p.fmod ((opts cs).length:Nat)).toNat < (opts cs).length:=by
 have h:=i6 cs
 have h1:=Int.fmod_nonneg_of_pos p (b:=((opts cs).length:Nat)) (by omega)
 have h2:=Int.fmod_lt_of_pos p (b:=((opts cs).length:Nat)) (by omega)
 exact ⟨h1,by omega⟩
theorem kf (cs:List Bool) (p:Int):OkR cs cs.length (pick cs p):=nO cs _ (by
 have:=(ka cs p).2
 unfold pick
 simp [this])
structure StI (C i:Nat) (ms:List (List Int)) (cs:List Bool):Prop where
 n:ms.length=i
 c:cs.length=C
 row:∀ l,l < i->(ms.getD l []).length=C
 ok:∀ l,l < i->∀ j,j < C->(ms.getD l []).getD j 0=1\/((ms.getD l []).getD j 0=0/\((∀ j',j' < j->(ms.getD l []).getD j' 0=0)\/∀ l',l' < l->(ms.getD l' []).getD j 0=0))
 clr:∀ j,j < C->cs.getD j false=true->∀ l,l < i->(ms.getD l []).getD j 0=0
theorem fU {ms:List (List Int)} {r:List Int} {l:Nat}:(ms++[r]).getD l []=if l < ms.length then ms.getD l [] else if l=ms.length then r else []:=by
 by_cases h:l < ms.length
 · rw [if_pos h]; simp [List.getD,List.getElem?_append_left h]
 · rw [if_neg h]
   by_cases e:l=ms.length
   · subst e; simp
   · rw [if_neg e]
     simp [List.getD]
     rw [List.getElem?_eq_none (by simp; omega)]
     rfl
theorem gZ (ps:List Int) (C:Nat):∀ i,StI C i (stS ps C i).1 (stS ps C i).2
 | 0=>⟨rfl,List.length_replicate,λ_ h=>absurd h (by omega),λ_ h=>absurd h (by omega),λ_ _ _ _ h=>absurd h (by omega)⟩
 | i + 1=>by
   have ih:=gZ ps C i
   have hp:=kf (stS ps C i).2 (ps.getD i 0)
   rw [ih.c] at hp
   rw [stS]
   simp only
   have old:∀ l,l < i->((stS ps C i).1++[pick (stS ps C i).2 (ps.getD i 0)]).getD l []=(stS ps C i).1.getD l []:=λl hl=>by rw [fU,if_pos (by rw [ih.n]; exact hl)]
   have new:((stS ps C i).1++[pick (stS ps C i).2 (ps.getD i 0)]).getD i []=pick (stS ps C i).2 (ps.getD i 0):=by rw [fU,ih.n,if_neg (Nat.lt_irrefl _),if_pos rfl]
   refine ⟨by rw [List.length_append,ih.n]; rfl,by simp,λl hl=>?_,λl hl j hj=>?_,λj hj hc l hl=>?_⟩
   · by_cases e:l < i
     · rw [old l e]; exact ih.row l e
     · obtain rfl:l=i:=by omega
       rw [new]; exact hp.len
   · by_cases e:l < i
     · rw [old l e]
       refine (ih.ok l e j hj).imp id λ⟨z1,z2⟩=>⟨z1,z2.imp id λz l' hl'=>?_⟩
       rw [old l' (by omega)]
       exact z l' hl'
     · obtain rfl:l=i:=by omega
       rw [new]
       refine (hp.at_ j hj).imp id λ⟨z1,z2⟩=>⟨z1,z2.imp id λz l' hl'=>?_⟩
       rw [old l' hl']
       exact ih.clr j hj z l' hl'
   · have hc:((stS ps C i).2.getD j false && decide ((pick (stS ps C i).2 (ps.getD i 0)).getD j 0=0))=true:=by rw [<- hc]; simp [hj]
     rw [Bool.and_eq_true] at hc
     by_cases e:l < i
     · rw [old l e]; exact ih.clr j hj hc.1 l e
     · obtain rfl:l=i:=by omega
       rw [new]; exact of_decide_eq_true hc.2
theorem m5 (C q:Nat) (r g:List Int) (h:r.length=C):tb C (q + 1) (r++g)=r :: tb C q g:=by
 unfold tb
 rw [List.range_succ_eq_map,List.map_cons,List.map_map]
 congr 1
 · rw [Nat.zero_mul,List.drop_zero,<- h,List.take_left]
 · refine List.map_congr_left λi _=>?_
   show ((r++g).drop ((i + 1) * C)).take C=_
   rw [Nat.succ_mul,<- h,Nat.add_comm,<- List.drop_drop,List.drop_left]
theorem ki (C:Nat):∀ ms:List (List Int),(∀ l,l < ms.length->(ms.getD l []).length=C)->tb C ms.length ms.flatten=ms/\ms.flatten.length=ms.length * C
 | [],_=>⟨rfl,by simp⟩
 | r :: ms,h=>by
   obtain ⟨i1,i2⟩:=ki C ms λl hl=>by simpa using h (l + 1) (by simpa using hl)
   have h0:r.length=C:=h 0 (by simp)
   rw [List.flatten_cons,List.length_cons,m5 C _ r _ h0,i1,List.length_append,i2,h0,Nat.succ_mul]
   exact ⟨rfl,Nat.add_comm _ _⟩
noncomputable def stF (c:Int) (R C:Nat):List Int:=(stS (nums c (List.replicate R 5040)) C R).1.flatten
theorem mK (c:Int) (R C:Nat):tb C R (stF c R C)=(stS (nums c (List.replicate R 5040)) C R).1/\(stF c R C).length=R * C:=by
 have h:=gZ (nums c (List.replicate R 5040)) C R
 have:=ki C (stS (nums c (List.replicate R 5040)) C R).1 λl hl=>h.row l (by rw [<- h.n]; exact hl)
 rw [h.n] at this
 exact this
theorem o3 (c:Int) {R C:Nat} (r1:1<=R) (r7:R<=7) (c1:1<=C) (c7:C<=7):Tb R C (stF c R C):=by
 obtain ⟨e1,e2⟩:=mK c R C
 have h:=gZ (nums c (List.replicate R 5040)) C R
 refine ⟨r1,r7,c1,c7,e2,(iQ c1 e2).mpr λp hp=>?_⟩
 have ep:=dm' C p
 have hj:p % C < C:=Nat.mod_lt _ c1
 have hi:p / C < R:=by rw [Nat.div_lt_iff_lt_mul c1]; exact hp
 have get:∀ {l j:Nat},l < R->j < C->(stF c R C).getD (l * C + j) 0=((stS (nums c (List.replicate R 5040)) C R).1.getD l []).getD j 0:=λhl hj=>by rw [<- aZ hl hj,e1]
 unfold gc lp mN
 have e3:(stF c R C).getD p 0=((stS (nums c (List.replicate R 5040)) C R).1.getD (p / C) []).getD (p % C) 0:=by rw [<- get hi hj,<- ep]
 rw [e3]
 refine (h.ok _ hi _ hj).imp id λ⟨z1,z2⟩=>⟨z1,λ⟨⟨j',y1,y2⟩,⟨i',y3,y4⟩⟩=>?_⟩
 rw [get hi (by omega)] at y2
 rw [get (by omega) hj] at y4
 rcases z2 with z | z
 · rw [z j' y1] at y2; omega
 · rw [z i' y3] at y4; omega
noncomputable def eO (ds:List D) (r:Sl):Prop:=∃ (c:Int) (R C:Nat),ds=[.int c,.int R,.int C]/\1<=R/\R<=7/\1<=C/\C<=7/\r=.d (tbD (tb C R (stF c R C)))
theorem pE {bs:List Bool} {ms:List Int} (i:Nat) (h:i < (fO (bs.map D.bl) (ms.map D.int)).length):(fO (bs.map D.bl) (ms.map D.int))[i]=.tup [.bl (bs.getD i false),.int (ms.getD i 0)]:=by
 rw [jS]
 rw [bY,List.length_map,List.length_map] at h
 simp [show i < bs.length by omega,show i < ms.length by omega]
section
variable {P:Program} {w:World} {K:PySem.W.Frag} {mg:Str->Option Value} {base:Heap} {k:Nat} {f:Addr} {fd:FuncData} {qual:Str}
theorem hJ (F:Fun K "_law_options" qual (top 29) f fd) (hb:∀ x ∈ ar,mg x=none):aL P w K mg base CX0 (k + 1) f fd ["_law_clear"] (spD K cC):=by
 refine fnD F eo hb (by rintro _ _ ⟨_,rfl,_⟩; rfl) ?_
 rintro _ _ ⟨cs,rfl,h7,rfl⟩ cdv A outer s H E b
 have nd:=eo.nd
 have lc:(cs.map D.bl).length=cs.length:=List.length_map ..
 refine aE 1 nd (aN (bA (ae (aN (fI (cmp 0 (f:=λ_=>.int 0) b (a5 (aa 0)) qa (by omega) λi hi s0 H0 fp=>ah))) ag))) ?_
 refine bX 2 (λi τ=>∃ s2 s3 s4 s5 s6,τ=[.d (.lst (cs.map .bl)),.d (tbD (d9 cs i)),s2,s3,s4,s5,s6]) b nd (cw b (bg b (ae (aa 0) ag) bh) (by omega) (by omega)) cx ⟨.un,.un,.un,.un,.un,?_⟩ (λi hi τ h=>?_) λτ h=>?_
 · show [_,Sl.d (.lst [.lst ((List.range (cs.map D.bl).length).map λ_=>.int 0)]),_,_,_,_,_]=_
   rw [lc,nC]
   unfold tbD d9 rwD
   simp
 · obtain ⟨s2,s3,s4,s5,s6,rfl⟩:=h
   have hi:i < cs.length:=by rw [au] at hi; omega
   refine aE 3 nd (aN (bA (ae (aN (fX (aN (fI (cmp 0 (f:=λ_=>.int 0) b (cw b (aa 2) (by omega) (by omega)) cx (by rw [au]; omega) λi hi s0 H0 fp=>ah))) (aN (bA (ae ah ag))) ?_)) ag))) ?_
   · rw [List.length_map,List.length_range,au]; show _ + 1 < _; omega
   refine bX 4 (g:=λj=>.bl ((cs.drop (i + 1)).getD j false)) (λj τ=>∃ s4 s5 s6,τ=[.d (.lst (cs.map .bl)),.d (tbD (d9 cs i)),.d (.int (i:Nat)),.d (tbD (smK cs i j)),s4,s5,s6]) b nd (a5 (aN (jR (aa 0) (cK (aH (aa 2) ah aX)) eF))) ?_ ⟨s4,s5,s6,?_⟩ (λj hj τ h=>?_) λτ h=>?_
   · intro j hj
     simp only [show (i:Int) + 1=((i + 1:Nat):Int) by omega,fu,<- List.map_drop] at hj ⊢
     exact qa j hj
   · show [_,_,_,Sl.d (.lst [.lst (((List.range (eB 0 ((i:Int)).toNat).length).map λ_=>.int 0)++[.int 1])]),_,_,_]=_
     rw [au,nC,Int.toNat_natCast]
     unfold tbD smK rwD
     simp
   · obtain ⟨s4,s5,s6,rfl⟩:=h
     have hj:j < (cs.drop (i + 1)).length:=by rw [show (i:Int) + 1=((i + 1:Nat):Int) by omega,fu,<- List.map_drop,List.length_map] at hj; exact hj
     have hj7:j < 7:=by rw [List.length_drop] at hj; omega
     have l2:=dX cs i j
     have l3:2 ^ j<=2 ^ 7:=Nat.pow_le_pow_right (by decide) (by omega)
     have ll:∀ rs,(lgr ((cs.drop (i + 1)).getD j false) rs).length<=2 * rs.length:=iH _
     have b5:∀ l,l < (smK cs i j).length->((smK cs i j).getD l []).length<=7:=λl hl=>by
       have:=jr cs i j (by rw [List.length_drop] at hj; omega) ((smK cs i j).getD l []) (by simp [hl])
       rw [this.len]
       rw [List.length_drop] at hj
       omega
     refine aE 5 nd (bA ag) ?_
     refine bX 6 (g:=λl=>rwD ((smK cs i j).getD l [])) (λl τ=>∃ s6,τ=[.d (.lst (cs.map .bl)),.d (tbD (d9 cs i)),.d (.int (i:Nat)),.d (tbD (smK cs i j)),.d (.bl ((cs.drop (i + 1)).getD j false)),.o ((lgr ((cs.drop (i + 1)).getD j false) ((smK cs i j).take l)).map rwD),s6]) b nd (a5 (aa 3)) eQ ⟨s6,rfl⟩ (λl hl τ h=>?_) λτ h=>?_
     · obtain ⟨s6,rfl⟩:=h
       have hl:l < (smK cs i j).length:=by simpa using hl
       have rl:=b5 l hl
       have lt:=ll ((smK cs i j).take l)
       rw [List.length_take] at lt
       have step:lgr ((cs.drop (i + 1)).getD j false) ((smK cs i j).take (l + 1))=lgr ((cs.drop (i + 1)).getD j false) ((smK cs i j).take l)++((if (cs.drop (i + 1)).getD j false then [(smK cs i j).getD l []++[0]] else [])++[(smK cs i j).getD l []++[1]]):=by
         rw [take_snoc [] hl]
         unfold lgr
         rw [List.flatMap_append]
         simp
       have cat:∀ x:Int,rwD ((smK cs i j).getD l []++[x])=.lst (((smK cs i j).getD l []).map D.int++[D.int x]):=λx=>by unfold rwD; rw [List.map_append]; rfl
       refine lx (M:=λτ=>τ=[.d (.lst (cs.map .bl)),.d (tbD (d9 cs i)),.d (.int (i:Nat)),.d (tbD (smK cs i j)),.d (.bl ((cs.drop (i + 1)).getD j false)),.o ((lgr ((cs.drop (i + 1)).getD j false) ((smK cs i j).take l)++(if (cs.drop (i + 1)).getD j false then [(smK cs i j).getD l []++[0]] else [])).map rwD),.d (rwD ((smK cs i j).getD l []))]) (bT (aa 4)) (λh=>?_) (λh=>?_) λτ h=>?_
       · refine i5 5 (aN (fX (aa 6) (aN (bA (ae ah ag))) ?_)) ?_ (aR ?_)
         · rw [List.length_map]; show _ + 1 < _; omega
         · rw [List.length_map]; omega
         · rw [h,if_pos rfl,List.map_append,List.map_singleton,cat]
           rfl
       · refine aR ?_
         rw [h,if_neg Bool.false_ne_true,List.append_nil]
         rfl
       subst h
       refine i5 5 (aN (fX (aa 6) (aN (bA (ae ah ag))) ?_)) ?_ (aR ?_)
       · rw [List.length_map]; show _ + 1 < _; omega
       · rw [List.length_map,List.length_append]
         have:(if (cs.drop (i + 1)).getD j false then [(smK cs i j).getD l []++[(0:Int)]] else []).length<=1:=by split <;> simp
         omega
       · refine ⟨.d (rwD ((smK cs i j).getD l [])),?_⟩
         rw [step,<- List.append_assoc,List.map_append (l₂:=[_++[1]]),List.map_singleton,cat]
         rfl
     · obtain ⟨s6,rfl⟩:=h
       refine qr 5 ?_
       refine aE 3 nd (aa 5) (aR ⟨.d (.bl ((cs.drop (i + 1)).getD j false)),.d (tbD (smK cs i (j + 1))),s6,?_⟩)
       rw [gf hj,List.length_map,List.take_of_length_le (Nat.le_refl _)]
       rfl
   · obtain ⟨s4,s5,s6,rfl⟩:=h
     have l1:=jh cs h7 i
     have l2:=dX cs i cs.length
     have l3:2 ^ cs.length<=2 ^ 7:=Nat.pow_le_pow_right (by decide) h7
     have ej:(Hy.cutD (cs.map D.bl) (some ((i:Int) + 1)) none).length=(cs.drop (i + 1)).length:=by rw [show (i:Int) + 1=((i + 1:Nat):Int) by omega,fu,<- List.map_drop,List.length_map]
     rw [ej,fo (Nat.le_refl _)]
     refine aE 1 nd (aN (fX (aa 1) (aa 3) ?_)) (aR ⟨.d (.int (i:Nat)),.d (tbD (smK cs i cs.length)),s4,s5,s6,?_⟩)
     · rw [List.length_map,List.length_map]; omega
     · rw [kY]
       unfold tbD
       rw [List.map_append]
       rfl
 · obtain ⟨s2,s3,s4,s5,s6,rfl⟩:=h
   refine aW (aa 1) ?_
   rw [au,lc,Int.toNat_natCast]
   rfl
theorem jE (F:Fun K "_law_stair" qual (top 30) f fd) (hb:∀ x ∈ ar,mg x=none) (c_l_numbers:Cal P w K mg base k "_law_numbers" bU) (c_l_options:Cal P w K mg base k "_law_options" cC):aL P w K mg base CX0 (k + 1) f fd ["_law_cell_here","_law_many","_law_wide"] (spD K eO):=by
 refine fnD F fR hb (by rintro _ _ ⟨_,_,_,rfl,_⟩; rfl) ?_
 rintro _ _ ⟨c,R,C,rfl,r1,r7,c1,c7,rfl⟩ cdv A outer s H E b
 have nd:=fR.nd
 have lr:∀ n:Nat,(eB 0 ((n:Int)).toNat).length=n:=λn=>by rw [au,Int.toNat_natCast]
 have ln:(nums c (List.replicate R 5040)).length=R:=by rw [fQ,List.length_replicate]
 refine aE 3 nd (bA ag) ?_
 refine iq 4 nd (cmp 0 (f:=λ_=>.bl true) b (cw b (aa 2) (by omega) (by omega)) cx (by rw [lr]; omega) λi hi s0 H0 fp=>oW) (.inr rfl) ?_
 refine bX 5 (g:=λi=>.int ((nums c (List.replicate R 5040)).getD i 0)) (λi τ=>∃ s5 s6 s7,τ=[.d (.int c),.d (.int R),.d (.int C),.o ((stS (nums c (List.replicate R 5040)) C i).1.map rwD),.d (.lst ((stS (nums c (List.replicate R 5040)) C i).2.map .bl)),s5,s6,s7]) b nd (a5 (aN (x_call b c_l_numbers (ae (aa 0) (ae (aN (fI (cmp 0 (f:=λ_=>.int 5040) b (cw b (aa 1) (by omega) (by omega)) cx (by rw [lr]; omega) λi hi s0 H0 fp=>ah))) ag)) ⟨c,List.replicate R 5040,?_,?_,?_,rfl⟩))) i4 ⟨.un,.un,.un,?_⟩ (λi hi τ h=>?_) λτ h=>?_
 · rw [lr,nC,List.map_replicate]
 · rw [List.length_replicate]; omega
 · intro x hx
   rw [List.eq_of_mem_replicate hx]
   exact ⟨by decide,by decide⟩
 · rw [lr,nC]
   simp [stS]
   rfl
 · obtain ⟨s5,s6,s7,rfl⟩:=h
   have hi:i < R:=by rw [List.length_map,ln] at hi; exact hi
   have st:=gZ (nums c (List.replicate R 5040)) C i
   have pl:=ka (stS (nums c (List.replicate R 5040)) C i).2 ((nums c (List.replicate R 5040)).getD i 0)
   have po:=kf (stS (nums c (List.replicate R 5040)) C i).2 ((nums c (List.replicate R 5040)).getD i 0)
   rw [st.c] at po
   have op:=i6 (stS (nums c (List.replicate R 5040)) C i).2
   refine aE 6 nd (x_call b c_l_options (ae (aa 4) ag) ⟨_,rfl,by rw [st.c]; exact c7,rfl⟩) ?_
   refine aE 7 nd (aU (aa 6) (aH (aa 5) (bg b (ae (aa 6) ag) bh) (eV ?_)) (aS (bz ?_ ?_))) ?_
   · rw [List.length_map]; omega
   · rw [List.length_map]; exact pl.1
   · rw [List.length_map]; exact pl.2
   rw [List.length_map]
   refine i5 3 (aa 7) ?_ ?_
   · rw [List.length_map,st.n]; omega
   refine iq 4 nd (rF 0 1 (f:=λj=>.bl ((stS (nums c (List.replicate R 5040)) C i).2.getD j false && decide ((pick (stS (nums c (List.replicate R 5040)) C i).2 ((nums c (List.replicate R 5040)).getD i 0)).getD j 0=0))) b (qk b (aa 4) (aa 7)) pE ?_ λi hi s0 H0 fp=>(dq (aa 0) λh=>(bQ (dn (aa 1) ah jz)))) (.inr rfl) (aR ?_)
   · rw [bY,List.length_map,List.length_map]; show min _ (pick _ _).length < _; rw [po.len]; omega
   · refine ⟨.d (.int ((nums c (List.replicate R 5040)).getD i 0)),.d (tbD (opts (stS (nums c (List.replicate R 5040)) C i).2)),.d (rwD (pick (stS (nums c (List.replicate R 5040)) C i).2 ((nums c (List.replicate R 5040)).getD i 0))),?_⟩
     have ez:(fO ((stS (nums c (List.replicate R 5040)) C i).2.map D.bl) ((pick (stS (nums c (List.replicate R 5040)) C i).2 ((nums c (List.replicate R 5040)).getD i 0)).map D.int)).length=C:=by rw [bY,List.length_map,List.length_map,po.len,st.c,Nat.min_self]
     rw [stS]
     simp only [List.map_append,List.map_map]
     show [_,_,_,_,Sl.d (.lst ((List.range (fO ((stS (nums c (List.replicate R 5040)) C i).2.map D.bl) ((pick (stS (nums c (List.replicate R 5040)) C i).2 ((nums c (List.replicate R 5040)).getD i 0)).map D.int)).length).map _)),_,_,_]=_
     rw [ez]
     rfl
 · obtain ⟨s5,s6,s7,rfl⟩:=h
   refine qr 3 (aW (aa 3) ?_)
   rw [List.length_map,ln,(mK c R C).1]
   rfl
end
end K53
namespace K53
open PySem PySem.Spec PyProof.Rows L2 Hy
inductive Tre where
 | lf (a b:Int) | nd (l r:Tre)
noncomputable def Tre.get:Tre->Nat->Nat->Bool->Int
 | .lf a b,_,_,s=>if s then b else a
 | .nd l r,j,n,s=>if n.testBit j then r.get (j + 1) n s else l.get (j + 1) n s
noncomputable def cm0 (z:Bool):Tre->Tre->Tre
 | .lf a b,.lf a' b'=>.lf (a + if z then a' else b') ((if z then a else b) + if z then a' else b')
 | .nd l r,.nd l' r'=>.nd (cm0 z l l') (cm0 z r r')
 | t,_=>t
noncomputable def cm1 (z:Bool):Tre->Tre
 | .lf a b=>.lf (a + if z then a else b) (if z then a else b)
 | .nd l r=>.nd (cm1 z l) (cm1 z r)
noncomputable def stp (z:Bool):Nat->Tre->Tre
 | 0,.nd l r=>.nd (cm0 z l r) (cm1 z r)
 | j + 1,.nd l r=>.nd (stp z j l) (stp z j r)
 | _,t=>t
inductive Dep:Nat->Tre->Prop where
 | lf {a b:Int}:Dep 0 (.lf a b)
 | nd {n:Nat} {l r:Tre}:Dep n l->Dep n r->Dep (n + 1) (.nd l r)
theorem get_or:∀ {d:Nat} {t:Tre} {i j n:Nat} {s:Bool},Dep d t->j < i->t.get i (n ||| 2 ^ j) s=t.get i n s
 | _,_,_,_,_,_,.lf,_=>rfl
 | _,_,i,j,n,s,.nd h1 h2,hj=>by
   rw [Tre.get,Tre.get,iz,decide_eq_false (by omega),Bool.or_false,get_or h1 (by omega),get_or h2 (by omega)]
theorem iw (z:Bool):∀ {d:Nat} {l r:Tre} {i n:Nat} {s:Bool},Dep d l->Dep d r->(cm0 z l r).get i n s=l.get i n (!z && s) + r.get i n (!z)
 | _,_,_,_,_,s,.lf,.lf=>by cases z <;> cases s <;> rfl
 | _,_,_,i,n,s,.nd h1 h2,.nd h3 h4=>by
   rw [cm0,Tre.get,Tre.get,Tre.get,iw z h1 h3,iw z h2 h4]
   split <;> rfl
theorem iC (z:Bool):∀ {d:Nat} {r:Tre} {i n:Nat} {s:Bool},Dep d r->(cm1 z r).get i n s=(if s then 0 else r.get i n false) + r.get i n (!z)
 | _,_,_,_,s,.lf=>by cases z <;> cases s <;> simp [cm1,Tre.get]
 | _,_,i,n,s,.nd h1 h2=>by
   rw [cm1,Tre.get,Tre.get,Tre.get,iC z h1,iC z h2]
   split <;> rfl
theorem iy (z:Bool):∀ {d:Nat} {t:Tre} {i j n:Nat} {s:Bool},Dep d t->j < d->(stp z j t).get i n s=(if s && n.testBit (i + j) then 0 else t.get i n (!z && s)) + t.get i (n ||| 2 ^ (i + j)) (!z)
 | _,_,i,0,n,s,.nd (l:=l) (r:=r) h1 h2,_=>by
   simp only [Nat.add_zero]
   rw [stp,Tre.get,Tre.get,Tre.get,iz,decide_eq_true rfl,Bool.or_true,if_pos rfl,get_or h2 (by omega)]
   cases hb:n.testBit i with
   | true=>
     rw [if_pos rfl,if_pos rfl,iC z h2]
     cases s <;> simp
   | false=>
     rw [if_neg Bool.false_ne_true,if_neg Bool.false_ne_true,iw z h1 h2]
     cases s <;> simp
 | _,_,i,j + 1,n,s,.nd (l:=l) (r:=r) h1 h2,hj=>by
   rw [stp,Tre.get,Tre.get,Tre.get,iz,decide_eq_false (by omega),Bool.or_false,iy z h1 (by omega),iy z h2 (by omega),show i + 1 + j=i + (j + 1) by omega]
   split <;> rfl
theorem gY (z:Bool):∀ {d:Nat} {l r:Tre},Dep d l->Dep d r->Dep d (cm0 z l r)
 | _,_,_,.lf,.lf=>.lf
 | _,_,_,.nd h1 h2,.nd h3 h4=>.nd (gY z h1 h3) (gY z h2 h4)
theorem ib (z:Bool):∀ {d:Nat} {r:Tre},Dep d r->Dep d (cm1 z r)
 | _,_,.lf=>.lf
 | _,_,.nd h1 h2=>.nd (ib z h1) (ib z h2)
theorem iB (z:Bool):∀ {d:Nat} {t:Tre} {j:Nat},Dep d t->j < d->Dep d (stp z j t)
 | _,_,0,.nd h1 h2,_=>.nd (gY z h1 h2) (ib z h2)
 | _,_,j + 1,.nd h1 h2,hj=>.nd (iB z h1 (by omega)) (iB z h2 (by omega))
noncomputable def ones:Nat->Tre
 | 0=>.lf 1 1
 | d + 1=>.nd (ones d) (ones d)
theorem gi:∀ d,Dep d (ones d)
 | 0=>.lf
 | d + 1=>.nd (gi d) (gi d)
theorem iR:∀ (d i n:Nat) (s:Bool),(ones d).get i n s=1
 | 0,_,_,s=>by cases s <;> rfl
 | d + 1,i,n,s=>by rw [ones,Tre.get,iR]; split <;> rfl
noncomputable def trs (R C:Nat):Nat->Tre
 | 0=>ones C
 | t + 1=>stp (decide (plc R C (t + 1) % C + 1=C)) (plc R C (t + 1) % C) (trs R C t)
theorem kD (R C:Nat) (hC:0 < C):∀ (t n:Nat) (s:Bool),Dep C (trs R C t)/\mfv R C t ((n:Int),s)=(trs R C t).get 0 n s
 | 0,n,s=>⟨gi C,(iR C 0 n s).symm⟩
 | t + 1,n,s=>by
   have hj:plc R C (t + 1) % C < C:=Nat.mod_lt _ hC
   have ih:=kD R C hC t
   have e0:nxs C (plc R C (t + 1)) n s 0=((n:Int),!decide (plc R C (t + 1) % C + 1=C) && s):=by
     unfold nxs
     rw [show (0:Int) * 2 ^ (plc R C (t + 1) % C)=((0:Nat):Int) by simp,pd,Nat.or_zero]
     congr 1
     by_cases h:plc R C (t + 1) % C + 1=C
     · rw [decide_eq_true h,decide_eq_false (by omega)]; rfl
     · rw [decide_eq_false h,decide_eq_true (by omega)]; simp
   have e1:nxs C (plc R C (t + 1)) n s 1=(((n ||| 2 ^ (plc R C (t + 1) % C):Nat):Int),!decide (plc R C (t + 1) % C + 1=C)):=by
     unfold nxs
     rw [show (1:Int) * 2 ^ (plc R C (t + 1) % C)=((2 ^ (plc R C (t + 1) % C):Nat):Int) by simp,pd]
     congr 1
     by_cases h:plc R C (t + 1) % C + 1=C
     · rw [decide_eq_true h,decide_eq_false (by omega)]; rfl
     · rw [decide_eq_false h,decide_eq_true (by omega)]; simp
   refine ⟨iB _ (ih n s).1 hj,?_⟩
   rw [mfv,trs,iy _ (ih n s).1 hj,Nat.zero_add]
   simp only
   rw [e0,e1,(ih _ _).2,(ih _ _).2]
   unfold dz
   simp only
   rw [og]
theorem k6:∀ R,R < 8->1<=R->∀ C,C < 8->1<=C->(trs R C (R * C)).get 0 0 false=mF R C:=by decide +kernel
end K53
namespace K53
open PySem PySem.Spec PyProof.Rows L2 Hy
open Ev (D Den ax aQ bw)
noncomputable def bF (ds:List D) (r:Sl):Prop:=∃ (R C:Nat) (f:List Int),ds=[tbD (tb C R f),.int R,.int C]/\Tb R C f/\r=.d (.bl true)
mutual
theorem br:∀ x:D,Ev.eqD x x=true
 | .non=>by rw [Ev.eqD]
 | .bl a=>by simp [Ev.eqD]
 | .int a=>by simp [Ev.eqD]
 | .str a=>by simp [Ev.eqD]
 | .tup xs=>by rw [Ev.eqD]; exact eI xs
 | .lst xs=>by rw [Ev.eqD]; exact eI xs
theorem eI:∀ xs:List D,Ev.ee xs xs=true
 | []=>by rw [Ev.ee]
 | x :: xs=>by rw [Ev.ee,br x,eI xs]; rfl
end
theorem jo:∀ r:List Int,Ev.c0 (r.map D.int)=true/\Ev.cY (r.map D.int)=0
 | []=>by simp [Ev.c0,Ev.cY]
 | x :: r=>by
   obtain ⟨h1,h2⟩:=jo r
   rw [List.map_cons,Ev.c0,Ev.cY,Ev.cln,Ev.dep,h1,h2]
   exact ⟨rfl,rfl⟩
theorem iY:∀ m:List (List Int),Ev.c0 (m.map rwD)=true/\Ev.cY (m.map rwD)<=1
 | []=>by simp [Ev.c0,Ev.cY]
 | r :: m=>by
   obtain ⟨h1,h2⟩:=iY m
   obtain ⟨h3,h4⟩:=jo r
   rw [List.map_cons,Ev.c0,Ev.cY,h1,show rwD r=.lst (r.map .int) from rfl,Ev.cln,Ev.dep,h3,h4]
   exact ⟨rfl,by omega⟩
theorem dg (m:List (List Int)):Ev.bP (tbD m):=by
 obtain ⟨h1,h2⟩:=iY m
 unfold tbD Ev.bP
 rw [Ev.cln,Ev.dep,h1]
 exact ⟨rfl,by omega⟩
theorem lY:∀ r:List Int,ja (r.map λx=>.d (.int x))=r.map D.int
 | []=>rfl
 | x :: r=>by rw [List.map_cons,ja,ndD,lY r]; rfl
theorem kA:∀ m:List (List Int),ja (m.map rwN)=m.map rwD
 | []=>rfl
 | r :: m=>by rw [List.map_cons,ja,rwN,ndD,lY,kA m]; rfl
theorem mG (m:List (List Int)):ndD (tbN m)=tbD m:=by
 unfold tbN tbD
 rw [ndD,kA]
theorem oZ (m:List (List Int)):(List.range (m.map rwD).length).map (λi=>rwD (m.getD i []))=m.map rwD:=by
 refine List.ext_getElem (by simp) λi h1 h2=>?_
 have:i < m.length:=by simpa using h2
 simp [this]
noncomputable def a6 (ds:List D) (r:Sl):Prop:=∃ (R C:Nat) (f:List Int),ds=[tbD (tb C R f),.int (mfv R C (R * C) (0,false))]/\Tb R C f/\r=.d (.bl true)
theorem getD_at {xs:List Int} {j:Nat} (h:j < xs.length):xs.getD j 0=xs[j]:=by simp [h]
theorem Tb.dec {R C:Nat} {n:Int} (h:Siz R C) (h0:0<=n) (h1:n < mfv R C (R * C) (0,false)):Tb R C (aJ R C (R * C) (0,false) n):=⟨h.r1,h.r7,h.c1,h.c7,j4 R C _ _ _,(iJ R C _ _ n h0 h1).1⟩
theorem lN {a b:Int} (h:a ≠ b):Ev.eqD (.int a) (.int b)=false:=by simp [Ev.eqD,h]
theorem ik:∀ {xs ys:List D} {j:Nat} {x y:D},xs[j]?=some x->ys[j]?=some y->Ev.eqD x y=false->Ev.ee xs ys=false
 | a :: xs,b :: ys,0,x,y,h1,h2,h=>by cases h1; cases h2; rw [Ev.ee,h]; rfl
 | a :: xs,b :: ys,j + 1,x,y,h1,h2,h=>by rw [Ev.ee,ik (xs:=xs) (ys:=ys) (j:=j) h1 h2 h,Bool.and_false]
theorem oF {r r':List Int} {j:Nat} (h1:j < r.length) (h2:j < r'.length) (he:∀ m,m < j->r.getD m 0=r'.getD m 0) (hn:r.getD j 0 < r'.getD j 0):Lc.LtW (rwD r) (rwD r')/\Ev.eqD (rwD r) (rwD r')=false/\Ev.eqD (rwD r') (rwD r)=false:=by
 have g1:∀ {r:List Int} {m:Nat},m < r.length->(r.map D.int)[m]?=some (.int (r.getD m 0)):=λ{r m} h=>by simp [h]
 have n1:Ev.eqD (.int (r.getD j 0)) (.int (r'.getD j 0))=false:=lN (by omega)
 have n2:Ev.eqD (.int (r'.getD j 0)) (.int (r.getD j 0))=false:=lN (by omega)
 refine ⟨.lst (g1 h1) (g1 h2) (λm hm=>⟨_,_,g1 (by omega),g1 (by omega),?_,?_⟩) n1 n2 (.int hn),?_,?_⟩
 · rw [he m hm]; exact br _
 · rw [he m hm]; exact br _
 · unfold rwD; rw [Ev.eqD]; exact ik (g1 h1) (g1 h2) n1
 · unfold rwD; rw [Ev.eqD]; exact ik (g1 h2) (g1 h1) n2
theorem kC {R C:Nat} {n n':Int} (h:Siz R C) (h0:0<=n) (h1:n < n') (h2:n' < mfv R C (R * C) (0,false)):Lc.LtW (tbD (tb C R (aJ R C (R * C) (0,false) n))) (tbD (tb C R (aJ R C (R * C) (0,false) n'))):=by
 have T:=Tb.dec h h0 (by omega:n < _)
 have T':=Tb.dec h (by omega:0<=n') h2
 obtain ⟨p,q1,q2,q3,q4⟩:=dec_lt R C (R * C) (0,false) n n' h0 h1 h2
 have c1:=h.c1
 have ep:=dm' C p
 have hj:p % C < C:=Nat.mod_lt _ c1
 have hi:p / C < R:=by rw [Nat.div_lt_iff_lt_mul c1]; exact q1
 have at_:∀ {g:List Int} {i:Nat},i < R->((tb C R g).map rwD)[i]?=some (rwD ((tb C R g).getD i [])):=λ{g i} hi=>by simp [hi,a4]
 have eqr:∀ i,i < p / C->(tb C R (aJ R C (R * C) (0,false) n)).getD i []=(tb C R (aJ R C (R * C) (0,false) n')).getD i []:=λi hi'=>by
   refine List.ext_getElem (by rw [T.b5 (by omega),T'.b5 (by omega)]) λj h1 h2=>?_
   have hjC:j < C:=by rw [T.b5 (by omega)] at h1; exact h1
   have hle:(i + 1) * C<=p / C * C:=Nat.mul_le_mul_right C hi'
   rw [Nat.succ_mul] at hle
   have:=q2 (i * C + j) (by omega)
   rw [<- aZ (q:=R) (by omega) hjC,<- aZ (q:=R) (by omega) hjC] at this
   rw [<- getD_at h1,<- getD_at h2]
   exact this
 obtain ⟨w1,w2,w3⟩:=oF (r:=(tb C R (aJ R C (R * C) (0,false) n)).getD (p / C) []) (r':=(tb C R (aJ R C (R * C) (0,false) n')).getD (p / C) []) (j:=p % C) (by rw [T.b5 hi]; exact hj) (by rw [T'.b5 hi]; exact hj) (λm hm=>by rw [aZ hi (by omega),aZ hi (by omega)]; exact q2 _ (by omega)) (by rw [aZ hi hj,aZ hi hj,<- ep,q3,q4]; decide)
 exact .lst (at_ hi) (at_ hi) (λm hm=>⟨_,_,at_ (by omega),at_ (by omega),by rw [eqr m hm]; exact br _,by rw [eqr m hm]; exact br _⟩) w2 w3 w1
theorem lE:∀ r:List Int,dj (r.map λx=>.d (.int x))=true
 | []=>rfl
 | x :: r=>by rw [List.map_cons,dj,gF,lE r]; rfl
theorem kr:∀ m:List (List Int),dj (m.map rwN)=true
 | []=>rfl
 | r :: m=>by rw [List.map_cons,dj,rwN,gF,lE,kr m]; rfl
theorem kH (m:List (List Int)):(List.range (m.map rwD).length).map (λi=>rwN (m.getD i []))=m.map rwN:=by
 refine List.ext_getElem (by simp) λi h1 h2=>?_
 have:i < m.length:=by simpa using h2
 simp [this]
noncomputable def eK (ds:List D) (r:Sl):Prop:=∃ (R C:Nat) (n:Int),ds=[.int R,.int C,.int n,.int (mfv R C (R * C) (0,false))]/\Siz R C/\0<=n/\n < mfv R C (R * C) (0,false)/\r=.d (.bl true)
section
variable {P:Program} {w:World} {K:PySem.W.Frag} {mg:Str->Option Value} {base:Heap} {k:Nat} {f:Addr} {fd:FuncData} {qual:Str}
theorem gA (F:Fun K "_law_is_marks" qual (top 34) f fd) (hb:∀ x ∈ ar,mg x=none) (c_l_is_stairs:Cal P w K mg base k "_law_is_stairs" bW) (c_l_whole:Cal P w K mg base k "_law_whole" cQ):aL P w K mg base CX0 (k + 1) f fd ["_law_found","_law_rows","_law_columns"] (spD K bF):=by
 refine fnD F de hb (by rintro _ _ ⟨_,_,_,rfl,_⟩; rfl) ?_
 rintro _ _ ⟨R,C,g,rfl,h,rfl⟩ cdv A outer s H E b
 have nd:=de.nd
 have lm:=a4 C R g
 have h1:=h.r1
 have h7:=h.r7
 have c7:=h.c7
 have lt:((tb C R g).map rwD).length=R:=by rw [List.length_map,lm]
 refine bZ (PW.pt (jG (bD (bT (fE .list b (aa 0)))) λ_=>(gS (bt (bg b (ae (aa 0) ag) bh) (aa 1) oD)))) ?_ ?_
 · rw [lt,decide_eq_true rfl]; rfl
 refine bX 3 (g:=λi=>rwD ((tb C R g).getD i [])) (λi τ=>∃ s3,τ=[.d (tbD (tb C R g)),.d (.int R),.d (.int C),s3]) b nd (a5 (aa 0)) eQ ⟨_,rfl⟩ (λi hi τ hτ=>?_) λτ hτ=>?_
 · obtain ⟨s3,rfl⟩:=hτ
   have hi:i < R:=by rw [lt] at hi; exact hi
   have lr:(((tb C R g).getD i []).map D.int).length=C:=by rw [List.length_map,h.b5 hi]
   refine bZ (PW.pt (jG (bD (bT (fE .list b (aa 3)))) λ_=>(gS (bt (bg b (ae (aa 3) ag) bh) (aa 2) oD)))) ?_ ?_
   · rw [lr,decide_eq_true rfl]; rfl
   refine bZ (bD (bT (bg b (ae (aN (fI (cmp 0 (f:=λj=>.bl (whw (.int (((tb C R g).getD i []).getD j 0)) && (decide ((0:Int)<=((tb C R g).getD i []).getD j 0) && decide (((tb C R g).getD i []).getD j 0<=1)))) b (a5 (aa 3)) i4 (by rw [lr]; omega) λj hj s0 H0 fp=>(dq (x_call (b.comp s0 H0 _ fp) c_l_whole (ae (aa 0) ag) ⟨_,rfl,rfl⟩) λ_=>(bQ (ft ah (aa 0) ah jO jO).1))))) ag) (gO b.calm ((List.range C).map λj=>(whw (.int (((tb C R g).getD i []).getD j 0)) && (decide ((0:Int)<=((tb C R g).getD i []).getD j 0) && decide (((tb C R g).getD i []).getD j 0<=1)))) (by rw [lr,List.map_map]; rfl))))) ?_ (aR ⟨_,rfl⟩)
   rw [fh C _ λj hj=>?_]
   · rfl
   · rw [aZ hi hj]
     rcases h.bit hi hj with z | z <;> rw [z] <;> rfl
 · obtain ⟨s3,rfl⟩:=hτ
   refine aW (x_call b c_l_is_stairs (ae (aa 0) ag) ⟨C,tb C R g,rfl,by omega,by omega,c7,λi hi=>h.b5 (by omega),rfl⟩) ?_
   rw [h.cc]
theorem c8 (F:Fun K "_law_there_and_back" qual (top 35) f fd) (hb:∀ x ∈ ar,mg x=none) (c_number_of:Cal P w K mg base k "number_of" bS) (c_numbered:Cal P w K mg base k "numbered" cg) (c_l_is_marks:Cal P w K mg base k "_law_is_marks" bF) (c_l_whole:Cal P w K mg base k "_law_whole" cQ):aL P w K mg base CX0 (k + 1) f fd ["_law_marks","_law_many"] (spD K a6):=by
 refine fnD F bC hb (by rintro _ _ ⟨_,_,_,rfl,_⟩; rfl) ?_
 rintro _ _ ⟨R,C,g,rfl,h,rfl⟩ cdv A outer s H E b
 have nd:=bC.nd
 have lm:=a4 C R g
 have h1:=h.r1
 have h7:=h.r7
 have lt:((tb C R g).map rwD).length=R:=by rw [List.length_map,lm]
 have r0:(((tb C R g).getD (0:Int).toNat []).map D.int).length=C:=by show (((tb C R g).getD 0 []).map D.int).length=C; rw [List.length_map,h.b5 (by omega)]
 obtain ⟨e1,e2,e3⟩:=mi R C _ _ g h.ok
 refine iq 2 nd (cmp 0 (f:=λi=>rwD ((tb C R g).getD i [])) b (a5 (aa 0)) eQ (by omega) λi hi s0 H0 fp=>(aN (qE (b.comp s0 H0 _ fp) (ae (aa 0) ag) lZ))) (.inr rfl) ?_
 rw [oZ]
 refine aE 3 nd (x_call b c_number_of (ae (aa 2) ag) ⟨R,C,g,rfl,h,rfl⟩) ?_
 refine bZ (PW.pt (jG (bD (bT (x_call b c_l_whole (ae (aa 3) ag) ⟨_,rfl,rfl⟩))) λ_=>(jG (bD ((ft ah (aa 3) (aa 1) jO mw).2 rfl)) λ_=>(gS (bt (aa 2) (aa 0) (ql b (dg _) (dg _))))))) ?_ ?_
 · rw [decide_eq_true e1,decide_eq_true e2]
   show (_ || !Ev.eqD (tbD (tb C R g)) (tbD (tb C R g)))=false
   rw [br]
   rfl
 refine aE 4 nd (x_call b c_numbered (ae (bg b (ae (aa 0) ag) bh) (ae (bg b (ae (aU (aa 0) ah (aS (bz (m:=tb C R g) (i:=0) (by omega) (by rw [lm]; exact h1)))) ag) bh) (ae (aa 3) ag))) ⟨R,C,cA R C (R * C) (0,false) g,by rw [lt,r0],⟨h.r1,h.r7,h.c1,h.c7⟩,e1,e2,rfl⟩) ?_
 rw [e3]
 refine aW (dq (x_call b c_l_is_marks (ae (dF 4 (s:=.n (tbN (tb C R g))) (hx:=congrArg some (mG _))) (ae (bg b (ae (aa 0) ag) bh) (ae (bg b (ae (aU (aa 0) ah (aS (bz (m:=tb C R g) (i:=0) (by omega) (by rw [lm]; exact h1)))) ag) bh) ag))) ⟨R,C,g,by rw [lt,r0],h,rfl⟩) λ_=>(bQ (dn (dF 4 (s:=.n (tbN (tb C R g))) (hx:=congrArg some (mG _))) (aa 0) (om b (dg _) (dg _))))) ?_
 rw [br]
 rfl
theorem jQ (F:Fun K "_law_asked" qual (top 36) f fd) (hb:∀ x ∈ ar,mg x=none) (c_numbered:Cal P w K mg base k "numbered" cg) (c_l_is_marks:Cal P w K mg base k "_law_is_marks" bF) (c_number_of:Cal P w K mg base k "number_of" bS):aL P w K mg base CX0 (k + 1) f fd ["_law_rows","_law_columns","_law_number","_law_many"] (spD K eK):=by
 refine fnD F fT hb (by rintro _ _ ⟨_,_,_,rfl,_⟩; rfl) ?_
 rintro _ _ ⟨R,C,n,rfl,h,n0,n1,rfl⟩ cdv A outer s H E b
 have nd:=fT.nd
 have T:=Tb.dec h n0 n1
 have h1:=h.r1
 have h7:=h.r7
 have c7:=h.c7
 have lm:=a4 C R (aJ R C (R * C) (0,false) n)
 have lt:((tb C R (aJ R C (R * C) (0,false) n)).map rwD).length=R:=by rw [List.length_map,lm]
 have fz:∀ m:List (List Int),fzD (.n (tbN m))=some (tbD m):=λm=>congrArg some (mG m)
 refine aE 4 nd (x_call b c_numbered (ae (aa 0) (ae (aa 1) (ae (aa 2) ag))) ⟨R,C,n,rfl,h,n0,n1,rfl⟩) ?_
 refine bZ (PW.pt (jG (bD (bT (x_call b c_l_is_marks (ae (dF 4 (s:=.n (tbN (tb C R (aJ R C (R * C) (0,false) n)))) (hx:=fz _)) (ae (aa 0) (ae (aa 1) ag))) ⟨R,C,_,rfl,T,rfl⟩))) λ_=>(gS (bt (x_call b c_number_of (ae (dF 4 (s:=.n (tbN (tb C R (aJ R C (R * C) (0,false) n)))) (hx:=fz _)) ag) ⟨R,C,_,rfl,T,rfl⟩) (aa 2) oD)))) ?_ ?_
 · rw [(iJ R C _ _ n n0 n1).2,decide_eq_true rfl]; rfl
 refine nJ 5 4 (s0:=.n (tbN (tb C R (aJ R C (R * C) (0,false) n)))) (x:=tbD (tb C R (aJ R C (R * C) (0,false) n))) nd (rK 0 (f:=λi=>rwN ((tb C R (aJ R C (R * C) (0,false) n)).getD i [])) (S':=λi=>.o (((tb C R (aJ R C (R * C) (0,false) n)).getD i []).map .int)) b (a5 (aa 4)) eQ (by omega) (λi hi s0 H0 fp=>(qE (b.comp s0 H0 _ fp) (ae (aa 0) ag) lZ)) λi hi=>?_) ?_ ?_ (hx:=fz _)
 · show some (Nd.l _)=some (Nd.l _)
   rw [List.map_map]
   rfl
 · rw [kH]; exact kr _
 rw [kH]
 refine bZ (PW.pt (ko (bt (aH (aa 2) ah aX) (aa 3) mw) λhc=>(jv (bD (bt (aN (x_call b c_numbered (ae (aa 0) (ae (aa 1) (ae (aH (aa 2) ah aX) ag))) ⟨R,C,n + 1,rfl,h,by omega,of_decide_eq_true hc,rfl⟩) (hx:=fz _)) (dF 5 (s:=.n (tbN (tb C R (aJ R C (R * C) (0,false) n)))) (hx:=fz _)) (pY b (dg _) (dg _) (kC h n0 (by omega) (of_decide_eq_true hc)))))))) ?_ ?_
 · rw [Bool.not_true,Bool.and_false]
 have d23:0 < n->0<=(n * 2).fdiv 3/\(n * 2).fdiv 3 < n:=λhn=>by
   rw [Int.fdiv_eq_ediv_of_nonneg _ (by decide)]
   omega
 refine bZ (PW.pt (ko (bt (aa 2) ah l6) λhc=>(jv (bD (bt (aN (x_call b c_numbered (ae (aa 0) (ae (aa 1) (ae (aH (aH (aa 2) ah (bO (mkR (by decide)))) ah (hX (mkD (by decide) (by decide)))) ag))) ⟨R,C,(n * 2).fdiv 3,rfl,h,(d23 (of_decide_eq_true hc)).1,Int.lt_trans (d23 (of_decide_eq_true hc)).2 n1,rfl⟩) (hx:=fz _)) (dF 5 (s:=.n (tbN (tb C R (aJ R C (R * C) (0,false) n)))) (hx:=fz _)) (qd b (dg _) (dg _) (kC h (d23 (of_decide_eq_true hc)).1 (d23 (of_decide_eq_true hc)).2 n1))))))) ?_ ?_
 · rw [Bool.not_true,Bool.and_false]
 have at0:((tb C R (aJ R C (R * C) (0,false) n)).map rwN)[0]?=some (rwN ((tb C R (aJ R C (R * C) (0,false) n)).getD 0 [])):=by
   rw [List.getElem?_map,List.getElem?_eq_getElem (by rw [lm]; omega)]
   simp [(by rw [lm]; omega:0 < (tb C R (aJ R C (R * C) (0,false) n)).length)]
 refine jy (pt:=[0]) (i:=4) (t:=tbN (tb C R (aJ R C (R * C) (0,false) n))) (xs:=((tb C R (aJ R C (R * C) (0,false) n)).getD 0 []).map λx=>.d (.int x)) (oq (jN 4) ah rfl rfl ?_) ah rfl ?_ rfl ?_ ?_
 · rw [List.length_map,lm]
   unfold ixN
   simp
   omega
 · unfold tbN fS
   rw [at0]
   rfl
 · rw [List.length_map,T.b5 (by omega)]; omega
 refine aW (dn (aN (x_call b c_numbered (ae (aa 0) (ae (aa 1) (ae (aa 2) ag))) ⟨R,C,n,rfl,h,n0,n1,rfl⟩) (hx:=fz _)) (dF 5 (s:=.n (tbN (tb C R (aJ R C (R * C) (0,false) n)))) (hx:=fz _)) (om b (dg _) (dg _))) ?_
 rw [br]
end
end K53
namespace K53
open PySem PySem.Spec PyProof.Rows L2 Hy
open Ev (D Den ax aQ bw)
theorem kd (R C:Nat) (h:Siz R C):mfv R C (R * C) (0,false)=mF R C:=by
 have h1:=h.r7
 have h2:=h.c7
 rw [<- k6 R (by omega) h.r1 C (by omega) h.c1]
 exact (kD R C h.c1 (R * C) 0 false).2
theorem oK:∀ R,R < 8->1<=R->∀ C,C < 8->1<=C->0 < mF R C/\mF R C < 2 ^ 60:=by decide +kernel
noncomputable def kB (ds:List D) (r:Sl):Prop:=∃ ns:List Int,ns.length<=63/\ds=[.lst (ns.map .int)]/\r=.d (.bl true)
theorem lT {c:Int} {i:Nat} (hi:i < 2):∃ n:Nat,(1:Int) + (nums c [7,7]).getD i 0=(n:Int)/\1<=n/\n<=7:=by
 have h:=j3 (c:=c) (bs:=[7,7]) (by intro b hb; simp at hb; omega) (i:=i) (by simpa using hi)
 have e:([7,7]:List Int).getD i 0=7:=by
   match i,hi with
   | 0,_=>rfl
   | 1,_=>rfl
 rw [e] at h
 exact ⟨(1 + (nums c [7,7]).getD i 0).toNat,by omega,by omega,by omega⟩
section
variable {P:Program} {w:World} {K:PySem.W.Frag} {mg:Str->Option Value} {base:Heap} {k:Nat} {f:Addr} {fd:FuncData} {qual:Str}
theorem oN (F:Fun K "law" qual (top 37) f fd) (hb:∀ x ∈ ar,mg x=none) (c_l_numbers:Cal P w K mg base k "_law_numbers" bU) (c_l_counted:Cal P w K mg base k "_law_counted" cJ) (c_l_cell:Cal P w K mg base k "_law_cell" fK) (c_l_there_and_back:Cal P w K mg base k "_law_there_and_back" a6) (c_l_asked:Cal P w K mg base k "_law_asked" eK) (c_l_stair:Cal P w K mg base k "_law_stair" eO):aL P w K mg base CX0 (k + 1) f fd ["_law_script"] (spD K kB):=by
 refine fnD F mh hb (by rintro _ _ ⟨_,_,rfl,_⟩; rfl) ?_
 rintro _ _ ⟨ns,hn,rfl,rfl⟩ cdv A outer s H E b
 have nd:=mh.nd
 have ex:∃ ms:List Int,ms.length<=64/\[D.int (ns.getD 1 0)]++Hy.cutD (ns.map D.int) (some 2) (some 8)=ms.map D.int:=by
   refine ⟨ns.getD 1 0 :: ((ns.take 8).drop 2),by simp; omega,?_⟩
   rw [show (2:Int)=((2:Nat):Int) from rfl,show (8:Int)=((8:Nat):Int) from rfl,ny,<- List.map_take,<- List.map_drop]
   rfl
 obtain ⟨ms,hms,ems⟩:=ex
 have len2:(nums (ns.getD 0 0) [7,7]).length=2:=fQ _ [7,7]
 obtain ⟨R,eR,r1,r7⟩:=lT (c:=ns.getD 0 0) (i:=0) (by decide)
 obtain ⟨C,eC,c1,c7⟩:=lT (c:=ns.getD 0 0) (i:=1) (by decide)
 have sz:Siz R C:=⟨r1,r7,c1,c7⟩
 obtain ⟨p0,p1⟩:=oK R (by omega) r1 C (by omega) c1
 rw [<- kd R C sz] at p0 p1
 refine aE 1 nd (aN (x_call b c_l_numbers (ae (x_call b c_l_cell (ae (aa 0) (ae ah ag)) ⟨ns,0,rfl,rfl⟩) (ae (aN (bA (ae ah (ae ah ag)))) ag)) ⟨ns.getD 0 0,[7,7],rfl,by decide,λb hb=>by simp at hb; subst hb; decide,rfl⟩)) ?_
 refine aE 2 nd (aH ah (aU (aa 1) ah (aS (bo (by decide) (by rw [len2]; decide)))) aX) ?_
 rw [show (1:Int) + (nums (ns.getD 0 0) [7,7]).getD (0:Int).toNat 0=R from eR]
 refine aE 3 nd (aH ah (aU (aa 1) ah (aS (bo (by decide) (by rw [len2]; decide)))) aX) ?_
 rw [show (1:Int) + (nums (ns.getD 0 0) [7,7]).getD (1:Int).toNat 0=C from eC]
 refine aE 4 nd (x_call b c_l_counted (ae (aa 2) (ae (aa 3) ag)) ⟨R,C,rfl,by omega,by omega,rfl⟩) ?_
 rw [<- kd R C sz]
 refine aE 5 nd (aN (fX (aN (bA (ae (x_call b c_l_cell (ae (aa 0) (ae ah ag)) ⟨ns,1,rfl,rfl⟩) ag))) (aN (jR (aa 0) (cK ah) (cK ah))) ?_)) ?_
 · have:=congrArg List.length ems
   rw [List.length_append,List.length_map] at this
   show [D.int (ns.getD 1 0)].length + _ < _
   omega
 rw [show [D.int (ns.getD 1 0)]++Hy.cutD (ns.map D.int) (some 2) (some 8)=ms.map D.int from ems]
 refine lx (M:=λτ=>∃ ms:List Int,τ=[.d (.lst (ns.map .int)),.d (.lst ((nums (ns.getD 0 0) [7,7]).map .int)),.d (.int R),.d (.int C),.d (.int (mfv R C (R * C) (0,false))),.d (.lst (ms.map .int)),.un]) (bt (aa 3) ah l6) (λh=>?_) (λh=>aR ⟨ms,rfl⟩) λτ h=>?_
 · refine aE 5 nd (aN (jR (aa 5) eF (cK ah))) (aR ⟨ms.take 1,?_⟩)
   rw [show (1:Int)=((1:Nat):Int) from rfl,dQ,List.map_take]
   rfl
 obtain ⟨ms,rfl⟩:=h
 refine bX 6 (g:=λi=>.int (ms.getD i 0)) (λi τ=>∃ s6,τ=[.d (.lst (ns.map .int)),.d (.lst ((nums (ns.getD 0 0) [7,7]).map .int)),.d (.int R),.d (.int C),.d (.int (mfv R C (R * C) (0,false))),.d (.lst (ms.map .int)),s6]) b nd (a5 (aa 5)) i4 ⟨_,rfl⟩ (λi hi τ h=>?_) λτ h=>?_
 · obtain ⟨s6,rfl⟩:=h
   have nl:=j3 (c:=ms.getD i 0) (bs:=[mfv R C (R * C) (0,false)]) (by intro b hb; simp at hb; omega) (i:=0) (by simp)
   refine bZ (bD (bT (x_call b c_l_there_and_back (ae (x_call b c_l_stair (ae (aa 6) (ae (aa 2) (ae (aa 3) ag))) ⟨_,R,C,rfl,r1,r7,c1,c7,rfl⟩) (ae (aa 4) ag)) ⟨R,C,_,rfl,o3 _ r1 r7 c1 c7,rfl⟩))) rfl ?_
   refine bZ (bD (bT (x_call b c_l_asked (ae (aa 2) (ae (aa 3) (ae (aU (aN (x_call b c_l_numbers (ae (aa 6) (ae (aN (bA (ae (aa 4) ag))) ag)) ⟨ms.getD i 0,[mfv R C (R * C) (0,false)],rfl,by simp,λb hb=>by simp at hb; subst hb; exact ⟨p0,p1⟩,rfl⟩)) ah (aS (bo (i:=0) (by decide) (by rw [fQ]; exact Nat.zero_lt_one)))) (ae (aa 4) ag)))) ⟨R,C,_,rfl,sz,nl.1,nl.2,rfl⟩))) rfl (aR ⟨_,rfl⟩)
 · obtain ⟨s6,rfl⟩:=h
   refine aW (nP (dn (aa 3) ah l6) λh=>(bQ (dq (x_call b c_l_asked (ae (aa 2) (ae (aa 3) (ae ah (ae (aa 4) ag)))) ⟨R,C,0,rfl,sz,Int.le_refl _,p0,rfl⟩) λh=>(bQ (x_call b c_l_asked (ae (aa 2) (ae (aa 3) (ae (aH (aa 4) ah mI) (ae (aa 4) ag)))) ⟨R,C,mfv R C (R * C) (0,false) - 1,rfl,sz,by omega,by omega,rfl⟩))))) ?_
   rw [Bool.and_self,Bool.or_true]
end
end K53
namespace K53
open PySem PySem.Spec PyProof.Rows L2 Hy
set_option maxHeartbeats 0 in
theorem all_mk {l:PySem.W.OpenLaw} {w:World} {K:PySem.W.Frag} {h:Heap} {mg:Str->Option Value} {fa f0 f1 f2 f3 f4 f5 f6 f7 f8 f9 f10 f11 f12 f13 f14 f15 f16 f17 f18 f19 f20 f21 f22 f23 f24 f25 f26 f27:Addr} {t0:Tok} {ab:Addr} {tb:Tok} {nb:Nat} {db:Option Addr} {sb:Array (Option Value)} (X:K.In h) (G:h.Ns mainGlobals mg) (hfa:mg "law" = some (.ref fa))
   (h0:Dfn K "_law_numbers" (top 27) f0) (h1:Dfn K "_law_parted" (top 32) f1) (h2:Dfn K "_law_counted" (top 33) f2) (h3:Dfn K "_law_cell" (top 26) f3) (h4:Dfn K "is_short_list" (top 9) f4) (h5:Dfn K "column_of" (top 10) f5) (h6:Dfn K "may_be_empty" (top 16) f6) (h7:Dfn K "is_well_filled" (top 15) f7) (h8:Dfn K "is_whole" (top 5) f8) (h9:Dfn K "is_between" (top 6) f9) (h10:Dfn K "is_row_of_marks" (top 14) f10) (h11:Dfn K "is_staircase" (top 13) f11) (h12:Dfn K "look_stairs" (top 17) f12) (h13:Dfn K "next_state" (top 19) f13) (h14:Dfn K "many_from" (top 20) f14) (h15:Dfn K "many_with_empty" (top 21) f15) (h16:Dfn K "number_of" (top 22) f16) (h17:Dfn K "look_shape" (top 18) f17) (h18:Dfn K "staircase_at" (top 24) f18) (h19:Dfn K "numbered" (top 23) f19) (h20:Dfn K "_law_is_stairs" (top 31) f20) (h21:Dfn K "_law_whole" (top 28) f21) (h22:Dfn K "_law_is_marks" (top 34) f22) (h23:Dfn K "_law_there_and_back" (top 35) f23) (h24:Dfn K "_law_asked" (top 36) f24) (h25:Dfn K "_law_options" (top 29) f25) (h26:Dfn K "_law_stair" (top 30) f26) (h27:Dfn K "law" (top 37) f27) (hz:nsL K ar) (z0:PySem.W.nsIn K mainGlobals "MOST" = some (some (.int 7 t0))) (zb:PySem.W.nsIn K mainGlobals "BEGINNING" = some (some (.ref ab))) (zl:K.lookup ab=some ⟨.type "tuple",db,.seq #[.int 0 tb,.bool false] nb,sb⟩) :
   ∃ fd:FuncData,(∀ (s:Shared) (v:Value),BindsTo s fd ⟨[v],[]⟩ [("_law_script",v)])/\∀ base:Heap,K.In base->base.Ns mainGlobals mg->aL l.prog w K mg base CX0 105 fa fd ["_law_script"] (spD K kB):=by
 have hb:=hz.none X G
 have y_MOST:∃ t,mg "MOST" = some (.int 7 t):=⟨_,PySem.W.mg_of X G z0⟩
 have y_BEG:Mk2 K mg "BEGINNING" 0 false:=⟨ab,PySem.W.mg_of X G zb,λH=>.inr ⟨_,_,_,zl,rfl,rfl,(by show 2<=sizeLine; decide),.cons ⟨_,rfl⟩ (.cons rfl .nil)⟩⟩
 obtain ⟨a,⟨oc,od,kV,dc,pm,an,cd,ct,sl,l0,c⟩,r⟩:=h27
 cases hfa.symm.trans (PySem.W.mg_of X G a)
 refine ⟨PySem.W.fnOf "law" "law" (ck (top 37)) (bq (top 37)) (ai (top 37)) .none kV dc pm an cd ct,λs v=>.of_eq rfl,λbase _ _=>?_⟩
 have c_l_numbers:Cal l.prog w K mg base 1 "_law_numbers" bU:=h0.cal (ps:=["_law_cell_here","_law_bases"]) X G (λ_ _ _ _ _ _=>Hy.bd2 λ_ _=>rfl) λ_ F=>iI (k:=0) F hb
 have c_l_parted:Cal l.prog w K mg base 1 "_law_parted" dt:=h1.cal (ps:=["_law_n"]) X G (λ_ _ _ _ _ _=>Hy.bd1 λ_=>rfl) λ_ F=>jg (k:=0) F hb
 have c_l_counted:Cal l.prog w K mg base 2 "_law_counted" cJ:=h2.cal (ps:=["_law_rows","_law_columns"]) X G (λ_ _ _ _ _ _=>Hy.bd2 λ_ _=>rfl) λ_ F=>ic (k:=1) F hb c_l_parted
 have c_l_cell:Cal l.prog w K mg base 1 "_law_cell" fK:=h3.cal (ps:=["_law_script","_law_k"]) X G (λ_ _ _ _ _ _=>Hy.bd2 λ_ _=>rfl) λ_ F=>lh (k:=0) F hb
 have c_is_short_list:Cal l.prog w K mg base 1 "is_short_list" a3:=h4.cal (ps:=["thing"]) X G (λ_ _ _ _ _ _=>Hy.bd1 λ_=>rfl) λ_ F=>eN (k:=0) F hb y_MOST
 have c_column_of:Cal l.prog w K mg base 1 "column_of" cD:=h5.cal (ps:=["table","j"]) X G (λ_ _ _ _ _ _=>Hy.bd2 λ_ _=>rfl) λ_ F=>ij (k:=0) F hb
 have c_may_be_empty:Cal l.prog w K mg base 2 "may_be_empty" bL:=h6.cal (ps:=["marks","i","j"]) X G (λ_ _ _ _ _ _=>Hy.bd3 λ_ _ _=>rfl) λ_ F=>eY (k:=1) F hb c_column_of
 have c_is_well_filled:Cal l.prog w K mg base 3 "is_well_filled" bp:=h7.cal (ps:=["marks","i"]) X G (λ_ _ _ _ _ _=>Hy.bd2 λ_ _=>rfl) λ_ F=>eE (k:=2) F hb c_may_be_empty
 have c_is_whole:Cal l.prog w K mg base 1 "is_whole" dC:=h8.cal (ps:=["thing"]) X G (λ_ _ _ _ _ _=>Hy.bd1 λ_=>rfl) λ_ F=>je (k:=0) F hb
 have c_is_between:Cal l.prog w K mg base 2 "is_between" a9:=h9.cal (ps:=["thing","least","most"]) X G (λ_ _ _ _ _ _=>Hy.bd3 λ_ _ _=>rfl) λ_ F=>gz (k:=1) F hb c_is_whole
 have c_is_row_of_marks:Cal l.prog w K mg base 3 "is_row_of_marks" ba:=h10.cal (ps:=["thing"]) X G (λ_ _ _ _ _ _=>Hy.bd1 λ_=>rfl) λ_ F=>dD (k:=2) F hb (c_is_short_list.mono (by decide)) c_is_between
 have c_is_staircase:Cal l.prog w K mg base 4 "is_staircase" bK:=h11.cal (ps:=["thing"]) X G (λ_ _ _ _ _ _=>Hy.bd1 λ_=>rfl) λ_ F=>fb (k:=3) F hb (c_is_short_list.mono (by decide)) c_is_well_filled c_is_row_of_marks
 have c_look_stairs:Cal l.prog w K mg base 5 "look_stairs" bV:=h12.cal (ps:=["thing"]) X G (λ_ _ _ _ _ _=>Hy.bd1 λ_=>rfl) λ_ F=>fJ (k:=4) F hb c_is_staircase
 have c_next_state:Cal l.prog w K mg base 1 "next_state" aI:=h13.cal (ps:=["shape","place","state","mark"]) X G (λ_ _ _ _ _ _=>Hy.bd4 λ_ _ _ _=>rfl) λ_ F=>gD (k:=0) F hb
 obtain ⟨fdm,Fm,mm,km,bm⟩:=h14.fn (ps:=["known","shape","place","state"]) X G (λ_ _ _ _ _ _=>Hy.bd4 λ_ _ _ _=>rfl)
 obtain ⟨fde,Fe,me,ke,be⟩:=h15.fn (ps:=["known","shape","place","state"]) X G (λ_ _ _ _ _ _=>Hy.bd4 λ_ _ _ _=>rfl)
 have c_mf:du l.prog w K mg base 100 "many_from" (spM l.prog w K 49):=⟨_,_,_,lX (k:=1) Fm Fe c_next_state mm me bm be 49,mm,km,bm⟩
 have c_me:du l.prog w K mg base 101 "many_with_empty" (spE l.prog w K 49):=⟨_,_,_,oz (k:=100) Fe (c_next_state.mono (by decide)) c_mf,me,ke,be⟩
 have c_number_of:Cal l.prog w K mg base 102 "number_of" bS:=h16.cal (ps:=["marks"]) X G (λ_ _ _ _ _ _=>Hy.bd1 λ_=>rfl) λ_ F=>gX (k:=101) F hb y_BEG (c_look_stairs.mono (by decide)) (c_next_state.mono (by decide)) c_me
 have c_look_shape:Cal l.prog w K mg base 3 "look_shape" cf:=h17.cal (ps:=["rows","columns"]) X G (λ_ _ _ _ _ _=>Hy.bd2 λ_ _=>rfl) λ_ F=>gr (k:=2) F hb y_MOST c_is_between
 obtain ⟨fds,Fs,ms,ks,bs⟩:=h18.fn (ps:=["known","shape","number"]) X G (λ_ _ _ _ _ _=>Hy.bd3 λ_ _ _=>rfl)
 have c_sa:du l.prog w K mg base 102 "staircase_at" (spR K (bJ l.prog w)):=⟨_,_,_,e7 (k:=101) Fs hb y_BEG c_me (c_next_state.mono (by decide)),ms,ks,bs⟩
 have c_numbered:Cal l.prog w K mg base 103 "numbered" cg:=h19.cal (ps:=["rows","columns","number"]) X G (λ_ _ _ _ _ _=>Hy.bd3 λ_ _ _=>rfl) λ_ F=>i7 (k:=102) F hb y_BEG (c_look_shape.mono (by decide)) c_sa (c_is_between.mono (by decide)) (c_mf.mono (by decide))
 have c_l_is_stairs:Cal l.prog w K mg base 1 "_law_is_stairs" bW:=h20.cal (ps:=["_law_marks"]) X G (λ_ _ _ _ _ _=>Hy.bd1 λ_=>rfl) λ_ F=>fV (k:=0) F hb
 have c_l_whole:Cal l.prog w K mg base 1 "_law_whole" cQ:=h21.cal (ps:=["_law_thing"]) X G (λ_ _ _ _ _ _=>Hy.bd1 λ_=>rfl) λ_ F=>jA (k:=0) F hb
 have c_l_is_marks:Cal l.prog w K mg base 2 "_law_is_marks" bF:=h22.cal (ps:=["_law_found","_law_rows","_law_columns"]) X G (λ_ _ _ _ _ _=>Hy.bd3 λ_ _ _=>rfl) λ_ F=>gA (k:=1) F hb c_l_is_stairs c_l_whole
 have c_l_there_and_back:Cal l.prog w K mg base 104 "_law_there_and_back" a6:=h23.cal (ps:=["_law_marks","_law_many"]) X G (λ_ _ _ _ _ _=>Hy.bd2 λ_ _=>rfl) λ_ F=>c8 (k:=103) F hb (c_number_of.mono (by decide)) c_numbered (c_l_is_marks.mono (by decide)) (c_l_whole.mono (by decide))
 have c_l_asked:Cal l.prog w K mg base 104 "_law_asked" eK:=h24.cal (ps:=["_law_rows","_law_columns","_law_number","_law_many"]) X G (λ_ _ _ _ _ _=>Hy.bd4 λ_ _ _ _=>rfl) λ_ F=>jQ (k:=103) F hb c_numbered (c_l_is_marks.mono (by decide)) (c_number_of.mono (by decide))
 have c_l_options:Cal l.prog w K mg base 1 "_law_options" cC:=h25.cal (ps:=["_law_clear"]) X G (λ_ _ _ _ _ _=>Hy.bd1 λ_=>rfl) λ_ F=>hJ (k:=0) F hb
 have c_l_stair:Cal l.prog w K mg base 2 "_law_stair" eO:=h26.cal (ps:=["_law_cell_here","_law_many","_law_wide"]) X G (λ_ _ _ _ _ _=>Hy.bd3 λ_ _ _=>rfl) λ_ F=>jE (k:=1) F hb c_l_numbers c_l_options
 exact oN (k:=104) (l9 l0 c r) hb (c_l_numbers.mono (by decide)) (c_l_counted.mono (by decide)) (c_l_cell.mono (by decide)) c_l_there_and_back c_l_asked (c_l_stair.mono (by decide))
theorem walk {l:PySem.W.OpenLaw} {q:Program} {loose:List Str} {XP:(Str->Option Value)->Heap->Prop} {YP:World->Heap->Prop} {d:DefRec} {K:Params->PySem.W.Frag} (hn:l.most=some 63) (hdf:d.params.defaults=[])
   (hY:∀ (w:World) (h:Heap),YP w h->(K w.params).In h)
   (F:∀ (w:World) (mg:Str->Option Value) (fa:Addr) (h:Heap),(K w.params).In h->h.Ns mainGlobals mg->mg d.name=some (.ref fa) ->
     ∃ fd:FuncData,(∀ (s:Shared) (u:Value),BindsTo s fd ⟨[u],[]⟩ [("_law_script",u)])/\∀ base:Heap,(K w.params).In base->base.Ns mainGlobals mg->aL l.prog w (K w.params) mg base CX0 105 fa fd ["_law_script"] (spD (K w.params) kB)) :
   PySem.W.WalkO q loose XP YP l.row.toRowW d [] (λf vs=>PySem.call f vs):=
 L2.nr (n:=63) (k:=105) (x:="_law_script") (CX:=λ_=>CX0) (sp:=λw=>spD (K w.params) kB) hn (by decide) hdf ⟨rfl,by decide,by decide⟩ hY F
   (λw H a ns hl _ hS=>m8 (λns h=>⟨ns,h,rfl,rfl⟩) H a ns hl hS) λ_ _ _ _ _ z=>z
end K53
open PySem PySem.W PyProof.Rows
set_option maxRecDepth 100000 in
set_option maxHeartbeats 0 in
theorem PySem.Challenge.cw_signsmooth_k53_staircases_numbered_holds : PySem.Challenge.rw_signsmooth_k53_staircases_numbered.Holds := by
 w_on; o_law; k_head; (case hw=>w_witness2)
 k_fill
 refine K53.walk (l:=PySem.Challenge.rw_signsmooth_k53_staircases_numbered) rfl rfl (λw h Y=>PySem.W.kIn_of Y) ?F
 case F=>
   intro w mg fa h KX G hmg
   refine' K53.all_mk KX G hmg (.of ?_ ?_ ?_ ?_) (.of ?_ ?_ ?_ ?_) (.of ?_ ?_ ?_ ?_) (.of ?_ ?_ ?_ ?_) (.of ?_ ?_ ?_ ?_) (.of ?_ ?_ ?_ ?_) (.of ?_ ?_ ?_ ?_) (.of ?_ ?_ ?_ ?_) (.of ?_ ?_ ?_ ?_) (.of ?_ ?_ ?_ ?_) (.of ?_ ?_ ?_ ?_) (.of ?_ ?_ ?_ ?_) (.of ?_ ?_ ?_ ?_) (.of ?_ ?_ ?_ ?_) (.of ?_ ?_ ?_ ?_) (.of ?_ ?_ ?_ ?_) (.of ?_ ?_ ?_ ?_) (.of ?_ ?_ ?_ ?_) (.of ?_ ?_ ?_ ?_) (.of ?_ ?_ ?_ ?_) (.of ?_ ?_ ?_ ?_) (.of ?_ ?_ ?_ ?_) (.of ?_ ?_ ?_ ?_) (.of ?_ ?_ ?_ ?_) (.of ?_ ?_ ?_ ?_) (.of ?_ ?_ ?_ ?_) (.of ?_ ?_ ?_ ?_) (.of ?_ ?_ ?_ ?_) ⟨?_,?_,?_,?_,?_,?_,?_,?_,?_,?_,?_,?_,?_,?_,?_,?_,?_,?_,trivial⟩ ?_ ?_ ?_
   all_goals try k_is
#print axioms PySem.Challenge.cw_signsmooth_k53_staircases_numbered_holds
