import PyProof.Rows.All
import Wide.All
import OpenK.AllK
import Wide.FinOn
import Lean
import PyProof.EqAt
import PyProof.EqKinds
import PyProof.TupleCall
import PySem.Challenge.RW_signsmooth_k15_undone
set_option genSizeOf false
set_option bootstrap.genMatcherCode false
set_option Elab.async false
set_option linter.all false
set_option maxRecDepth 100000
set_option exponentiation.threshold 4000
namespace L2
open PySem PySem.Spec PyProof.Rows
noncomputable abbrev Key:=Sum Int Str
noncomputable def pW:Key->Value->Bool
 | .inl k,v=>Value.isInt k v
 | .inr x,v=>Value.isStrOf x v
noncomputable def Jo (w:World):Key->Int
 | .inl k=>hashInt k
 | .inr x=>hashStr w x
theorem bG:∀ {k:Key} {v:Value},pW k v=true->(∃ i t,k=Sum.inl i/\v=Value.int i t)\/(∃ x t,k=Sum.inr x/\v=Value.str x t)
 | .inl i,v,h=>by
   obtain ⟨t,e⟩:=Value.isInt_shape (k:=i) (v:=v) h
   exact .inl ⟨i,t,rfl,e⟩
 | .inr x,v,h=>by
   obtain ⟨t,e⟩:=Value.isStrOf_shape (x:=x) (v:=v) h
   exact .inr ⟨x,t,rfl,e⟩
theorem yB (i:Int) (t:Tok):pW (.inl i) (.int i t)=true:=by simp [pW,Value.isInt]
theorem yZ (x:Str) (t:Tok):pW (.inr x) (.str x t)=true:=by simp [pW,Value.isStrOf]
theorem Fc (a b:Int):decide ((Sum.inl a:Key)=Sum.inl b)=(a == b):=by
 by_cases e:a=b
 · subst e; simp
 · have h:¬ (Sum.inl a:Key)=Sum.inl b:=λq=>e (Sum.inl.inj q)
   rw [decide_eq_false h]
   exact (beq_eq_false_iff_ne.mpr e).symm
theorem FU (a b:Str):decide ((Sum.inr a:Key)=Sum.inr b)=decide (a=b):=by
 by_cases e:a=b
 · subst e; simp
 · have h:¬ (Sum.inr a:Key)=Sum.inr b:=λq=>e (Sum.inr.inj q)
   rw [decide_eq_false h,decide_eq_false e]
theorem FI (a:Int) (b:Str):decide ((Sum.inl a:Key)=Sum.inr b)=false:=decide_eq_false (λq=>nomatch q)
theorem FC (a:Str) (b:Int):decide ((Sum.inr a:Key)=Sum.inl b)=false:=decide_eq_false (λq=>nomatch q)
noncomputable def cw (prog:Program) (w:World):PySem.KeyKind prog w Key where
 is:=pW
 hash:=Jo w
 inj:=λv a b ha hb=>by
   rcases bG ha with ⟨i,t,rfl,rfl⟩ | ⟨x,t,rfl,rfl⟩
   · rcases bG hb with ⟨j,u,rfl,e⟩ | ⟨y,u,rfl,e⟩
     · injection e with e1 _; rw [e1]
     · exact nomatch e
   · rcases bG hb with ⟨j,u,rfl,e⟩ | ⟨y,u,rfl,e⟩
     · exact nomatch e
     · injection e with e1 _; rw [e1]
 byValue:=λk v h=>by
   rcases bG h with ⟨i,t,rfl,rfl⟩ | ⟨x,t,rfl,rfl⟩ <;> rfl
 pyHash:=λhv h=>by
   rcases bG hv with ⟨i,t,rfl,rfl⟩ | ⟨x,t,rfl,rfl⟩
   · exact wpAny_pyHash_int h
   · exact wpAny_pyHash_str h
 eqBool:=λhu hv h=>by
   rcases bG hu with ⟨i,t,rfl,rfl⟩ | ⟨x,t,rfl,rfl⟩
   · rcases bG hv with ⟨j,u,rfl,rfl⟩ | ⟨y,u,rfl,rfl⟩
     · rw [Fc] at h; exact wpAny_eqBool_int h
     · rw [FI] at h; exact SeqAt.EqAt.int_str i t y u _ _ _ _ h
   · rcases bG hv with ⟨j,u,rfl,rfl⟩ | ⟨y,u,rfl,rfl⟩
     · rw [FC] at h; exact SeqAt.EqAt.str_int x t j u _ _ _ _ h
     · rw [FU] at h; exact wpAny_eqBool_str h
 «strs»:=λk x t v h=>by
   rcases bG h with ⟨i,u,rfl,e⟩ | ⟨y,u,rfl,e⟩
   · exact nomatch e
   · injection e with e1 _
     subst e1
     cases v <;> rfl
theorem sV (prog:Program) (w:World) (i:Int) (t:Tok):(cw prog w).is (.inl i) (.int i t)=true:=yB i t
theorem uK (prog:Program) (w:World) (x:Str) (t:Tok):(cw prog w).is (.inr x) (.str x t)=true:=yZ x t
inductive V where
 | non | bl (b:Bool) | int (i:Int) | str (x:Str) | byt (b:Array UInt8) | flt (b:UInt64) | ref (a:Addr) | ty (n:String)
 deriving DecidableEq
noncomputable def RelV:V->Value->Prop
 | .non,u=>u=Value.none
 | .bl b,u=>u=Value.bool b
 | .int i,u=>∃ t,u=Value.int i t
 | .str x,u=>∃ t,u=Value.str x t
 | .byt b,u=>∃ t,u=Value.bytes b t
 | .flt b,u=>∃ t,u=Value.float b t
 | .ref a,u=>u=Value.ref a
 | .ty n,u=>u=Value.type n
noncomputable abbrev Vals:List V->List Value->Prop:=Paired RelV
theorem Vals.length {xs:List V} {us:List Value} (r:Vals xs us):xs.length=us.length:=Paired.length r
theorem Vals.get:∀ {xs:List V} {us:List Value} {i:Nat} {x:V},Vals xs us->xs[i]?=some x->∃ u,us[i]?=some u/\RelV x u
 | _,_,_,_,.nil,e=>by simp at e
 | _,_,0,_,.cons r _,e=>by simp at e; subst e; exact ⟨_,rfl,r⟩
 | _,_,i + 1,x,.cons _ t,e=>by
   obtain ⟨u,h1,h2⟩:=Vals.get (i:=i) (x:=x) t (by simpa using e)
   exact ⟨u,by simpa using h1,h2⟩
theorem Vals.set {x:V} {u:Value} (r:RelV x u):∀ {xs:List V} {us:List Value} (i:Nat),Vals xs us->Vals (xs.set i x) (us.set i u)
 | _,_,_,.nil=>.nil
 | _,_,0,.cons _ t=>.cons r t
 | _,_,i + 1,.cons q t=>.cons q (Vals.set r i t)
theorem Vals.append:∀ {xs ys:List V} {us ws:List Value},Vals xs us->Vals ys ws->Vals (xs++ys) (us++ws)
 | _,_,_,_,.nil,s=>s
 | _,_,_,_,.cons r t,s=>.cons r (Vals.append t s)
theorem Vals.take:∀ {xs:List V} {us:List Value} (n:Nat),Vals xs us->Vals (xs.take n) (us.take n)
 | _,_,0,_=>.nil
 | _,_,_ + 1,.nil=>.nil
 | _,_,n + 1,.cons r t=>.cons r (Vals.take n t)
theorem Vals.drop:∀ {xs:List V} {us:List Value} (n:Nat),Vals xs us->Vals (xs.drop n) (us.drop n)
 | _,_,0,r=>r
 | _,_,_ + 1,.nil=>.nil
 | _,_,n + 1,.cons _ t=>Vals.drop n t
noncomputable def uy:Option V->Option Value->Prop
 | some v,some u=>RelV v u
 | none,none=>True
 | _,_=>False
noncomputable def KV {κ:Type}:List (κ × V)->List (κ × Value)->Prop:=Paired λ(p:κ × V) (q:κ × Value)=>p.1=q.1/\RelV p.2 q.2
noncomputable def kV:Key->V
 | .inl i=>.int i
 | .inr x=>.str x
inductive HO where
 | lst (xs:List V)
 | tup (xs:List V)
 | dK (kvs:List (Key × V)) | dT (kvs:List (List Key × V))
 | set (S:Int->Bool) (n:Nat)
 | ins (C dx:Addr) (fs:List (Str × V))
 | own (x:Addr)
 | xd (fs:List (Str × V))
 | met (f x:Addr)
 | rng (lo hi:Int)
 | frz (o:Obj) (u:HO)
 | tbl (ps:Array Value)
 | ext (φ:Heap->Prop)
noncomputable abbrev Hp:=Addr->Option HO
noncomputable def upd (H:Hp) (a:Addr) (o:HO):Hp:=λb=>if b=a then some o else H b
theorem aW {H:Hp} {a:Addr} {o:HO}:upd H a o a=some o:=by unfold upd; rw [if_pos rfl]
theorem ar {H:Hp} {a b:Addr} {o:HO} (h:b ≠ a):upd H a o b=H b:=by unfold upd; rw [if_neg h]
theorem CZ {H:Hp} {a:Addr} {o u:HO}:upd (upd H a o) a u=upd H a u:=by
 funext b; unfold upd; split <;> rfl
theorem ay {H:Hp} {a b:Addr} {o:HO} (h:H a=some o) (h':H b=none):a ≠ b:=by
 intro e; subst e; rw [h] at h'; cases h'
section
variable (P:Program) (w:World)
noncomputable def dU (H:Hp) (h:Heap) (a:Addr):HO->Prop
 | .lst xs=>xs.length<=sizeLine/\∃ (its:List Value) (n:Nat),Vals xs its/\h.get? a=some { cls:=.type "list",data:=.seq its.toArray n }
 | .tup xs=>xs.length<=sizeLine/\∃ its:List Value,Vals xs its/\IsTup h a its.toArray
 | .dK kvs=>kvs.length<=sizeLine/\(a == sysModules)=false/\∃ vs,KV kvs vs/\h.DictOf (cw P w) a vs
 | .dT kvs=>kvs.length<=sizeLine/\(a == sysModules)=false/\∃ xs:List (List Key × Addr × Value),
     Paired (λ(p:List Key × V) (q:List Key × Addr × Value)=>p.1=q.1/\H q.2.1=some (.tup (p.1.map kV))/\RelV p.2 q.2.2) kvs xs /\
     ∃ o es ep,h.get? a=some o/\o.ExactDict/\o.data=.dict es ep/\es.toList=xs.map (entryOfKey (tupleKind (cw P w)))/\(xs.map (·.1)).Nodup
 | .set S n=>h.SetOf (intKind P w) a S n
 | .ins C dx fs=>H dx=some (.own a)/\fs.length<=1000/\dx ≠ a/\h.get? a=some (PySem.W.instObj C dx) /\
     ∃ mA,h.Ns1 dx mA/\(∀ f,uy (fs.lookup f) (mA f))/\PySem.Within mA (fs.map (·.1))
 | .own _=>∃ o,h.get? a=some o
 | .xd fs=>∃ mA,h.Ns1 a mA/\∀ f,uy (fs.lookup f) (mA f)
 | .rng lo hi=>∃ t u v,h.get? a=some { cls:=.type "range",data:=.fields #[.int lo t,.int hi u,.int 1 v] }
 | .frz o u=>h.get? a=some o/\dU H h a u
 | .tbl ps=>h.get? a=some { cls:=.none,data:=.fields ps }
 | .met f x=>h.get? a=some (PySem.W.methodObj (.ref f) (.ref x))
 | .ext φ=>φ h/\(∃ o,h.get? a=some o)/\∀ h1 h2:Heap,φ h1->(∀ o,h1.get? a=some o->h2.get? a=some o)->φ h2
noncomputable def HOk (H:Hp) (h:Heap):Prop:=∀ a o,H a=some o->dU P w H h a o
end
section
variable {P:Program} {w:World} {H H':Hp} {h h':Heap} {a:Addr} {o:HO}
theorem dU.lt (x:dU P w H h a o):a < h.objs.size:=by
 cases o with
 | lst xs=>obtain ⟨_,_,_,_,e⟩:=x; exact Heap.lt_size e
 | tup xs=>obtain ⟨_,_,_,p⟩:=x; exact p.lt
 | dK kvs=>obtain ⟨_,_,_,_,o,_,_,e,_⟩:=x; exact Heap.lt_size e
 | dT kvs=>obtain ⟨_,_,_,_,o,_,_,e,_⟩:=x; exact Heap.lt_size e
 | set S n=>obtain ⟨o,_,_,_,e,_⟩:=x; exact Heap.lt_size e
 | ins C dx fs=>obtain ⟨_,_,_,e,_⟩:=x; exact Heap.lt_size e
 | own y=>obtain ⟨_,e⟩:=x; exact Heap.lt_size e
 | xd fs=>obtain ⟨_,⟨_,_,_,e,_⟩,_⟩:=x; exact Heap.lt_size e
 | rng lo hi=>obtain ⟨_,_,_,e⟩:=x; exact Heap.lt_size e
 | frz ob u=>obtain ⟨e,_⟩:=x; exact Heap.lt_size e
 | tbl ps=>exact Heap.lt_size (show h.get? a=some _ from x)
 | met f y=>exact Heap.lt_size (show h.get? a=some _ from x)
 | ext φ=>obtain ⟨_,⟨_,e⟩,_⟩:=x; exact Heap.lt_size e
theorem Paired.IK {α β:Type} {F G:α->β->Prop}:∀ {l₁:List α} {l₂:List β},Paired F l₁ l₂->(∀ a b,F a b->G a b)->Paired G l₁ l₂
 | _,_,.nil,_=>.nil
 | _,_,.cons r t,f=>.cons (f _ _ r) (Paired.IK t f)
theorem dU.kn (x:dU P w H h a o) (k:∀ b u,(b=a\/H b=some (.own a))->h.get? b=some u->h'.get? b=some u)
   (ho:∀ b,H b=some (.own a)->H' b=some (.own a)) (ht:∀ b xs,H b=some (.tup xs)->H' b=some (.tup xs)):dU P w H' h' a o:=by
 induction o with
 | lst xs=>obtain ⟨z,its,n,r,e⟩:=x; exact ⟨z,its,n,r,k _ _ (.inl rfl) e⟩
 | tup xs=>obtain ⟨z,its,r,ob,e,c⟩:=x; exact ⟨z,its,r,ob,k _ _ (.inl rfl) e,c⟩
 | dK kvs=>obtain ⟨z,y,vs,r,ob,es,ep,e,c⟩:=x; exact ⟨z,y,vs,r,ob,es,ep,k _ _ (.inl rfl) e,c⟩
 | dT kvs=>
   obtain ⟨z,y,xs,r,ob,es,ep,e,c⟩:=x
   exact ⟨z,y,xs,Paired.IK r λp q z=>⟨z.1,ht _ _ z.2.1,z.2.2⟩,ob,es,ep,k _ _ (.inl rfl) e,c⟩
 | set S n=>obtain ⟨ob,es,ep,t,e,c⟩:=x; exact ⟨ob,es,ep,t,k _ _ (.inl rfl) e,c⟩
 | ins C dx fs=>
   obtain ⟨d,z,ne,e,mA,⟨od,es,ep,e2,c⟩,r⟩:=x
   exact ⟨ho _ d,z,ne,k _ _ (.inl rfl) e,mA,⟨od,es,ep,k _ _ (.inr d) e2,c⟩,r⟩
 | own y=>obtain ⟨ob,e⟩:=x; exact ⟨ob,k _ _ (.inl rfl) e⟩
 | xd fs=>obtain ⟨mA,⟨od,es,ep,e,c⟩,r⟩:=x; exact ⟨mA,⟨od,es,ep,k _ _ (.inl rfl) e,c⟩,r⟩
 | rng lo hi=>obtain ⟨t,u,v,e⟩:=x; exact ⟨t,u,v,k _ _ (.inl rfl) e⟩
 | frz ob u ih=>obtain ⟨e,q⟩:=x; exact ⟨k _ _ (.inl rfl) e,ih q⟩
 | tbl ps=>
   have e:h.get? a=some { cls:=.none,data:=.fields ps }:=x
   show h'.get? a=some { cls:=.none,data:=.fields ps }
   exact k a _ (.inl rfl) e
 | met f y=>
   have e:h.get? a=some (PySem.W.methodObj (.ref f) (.ref y)):=x
   show h'.get? a=some (PySem.W.methodObj (.ref f) (.ref y))
   exact k a _ (.inl rfl) e
 | ext φ=>obtain ⟨p,⟨o,e⟩,st⟩:=x; exact ⟨st _ _ p λo q=>k _ _ (.inl rfl) q,⟨o,k _ _ (.inl rfl) e⟩,st⟩
theorem HOk.lt (x:HOk P w H h) (e:H a=some o):a < h.objs.size:=(x a o e).lt
theorem HOk.fresh (x:HOk P w H h) (e:h.objs.size<=a):H a=none:=by
 cases q:H a with
 | none=>rfl
 | some u=>exact absurd (Nat.lt_of_lt_of_le (x.lt q) e) (Nat.lt_irrefl _)
theorem HOk.kept (x:HOk P w H h) (k:∀ b u,h.get? b=some u->h'.get? b=some u):HOk P w H h':=λa o e=>
 (x a o e).kn (λb u _ q=>k b u q) (λ_ q=>q) λ_ _ q=>q
theorem HOk.laid (x:HOk P w H h) (k:∀ b u,h.get? b=some u->h'.get? b=some u) (hp:h.objs.size<=a) (new:dU P w (upd H a o) h' a o):HOk P w (upd H a o) h':=λb u e=>by
 have hn:=x.fresh hp
 by_cases hb:b=a
 · subst hb; rw [aW] at e; cases e; exact new
 · rw [ar hb] at e
   exact (x b u e).kn (λc v _ q=>k c v q) (λc q=>by rw [ar (ay q hn)]; exact q) λc xs q=>by rw [ar (ay q hn)]; exact q
end
noncomputable def Rd (H:Hp) (a:Addr) (u:HO):Prop:=H a=some u\/∃ o,H a=some (.frz o u)
theorem Rd.ok {P:Program} {w:World} {H:Hp} {h:Heap} {a:Addr} {u:HO} (r:Rd H a u) (x:HOk P w H h):dU P w H h a u:=by
 rcases r with r | ⟨o,r⟩
 · exact x a u r
 · obtain ⟨_,q⟩:=x a _ r
   exact q
noncomputable def Mut:Option HO->Prop
 | some (.lst _)=>True
 | some (.dK _)=>True
 | some (.dT _)=>True
 | some (.set _ _)=>True
 | some (.ins _ _ _)=>True
 | some (.ext _)=>True
 | _=>False
section
variable {P:Program} {w:World} {H:Hp} {h h':Heap} {x e:Addr} {o':HO}
theorem HOk.write (ok:HOk P w H h) (mu:Mut (H x)) (he:e=x\/H e=some (.own x)) (k:∀ b u,b ≠ e->h.get? b=some u->h'.get? b=some u) (heo:∃ u,h'.get? e=some u)
   (new:dU P w (upd H x o') h' x o'):HOk P w (upd H x o') h':=λb u q=>by
 have nown:∀ c y,H c=some (.own y)->c ≠ x:=λc y r z=>by subst z; rw [r] at mu; exact mu
 have ntup:∀ c xs,H c=some (.tup xs)->c ≠ x:=λc xs r z=>by subst z; rw [r] at mu; exact mu
 by_cases hb:b=x
 · subst hb; rw [aW] at q; cases q; exact new
 · rw [ar hb] at q
   by_cases hbe:b=e
   · have q':H b=some (.own x):=by
       rcases he with z | z
       · exact absurd (hbe.trans z) hb
       · rw [hbe]; exact z
     rw [q] at q'; cases q'
     obtain ⟨v,hv⟩:=heo
     exact ⟨v,by rw [hbe]; exact hv⟩
   · refine (ok b u q).kn (λc v hc r=>k c v ?_ r) (λc r=>by rw [ar (nown c b r)]; exact r) λc xs r=>by rw [ar (ntup c xs r)]; exact r
     rcases hc with rfl | hc
     · exact hbe
     · rintro rfl
       rcases he with z | z
       · exact nown c b hc z
       · rw [hc] at z; cases z; exact hb rfl
end
structure Un (fs ex:List Addr) (H H':Hp) (h h':Heap):Prop where
 keep:∀ b o,h.get? b=some o->H b=none->b ∉ fs->b ∉ ex->h'.get? b=some o
 slot:∀ b o,h.get? b=some o->H b=none->b ∈ fs->b ∉ ex->∃ sl,h'.get? b=some { o with slots:=sl }
 free:∀ b o,h.get? b=some o->H b=none->b ∉ ex->H' b=none
 there:∀ b o,h.get? b=some o->b ∉ ex->∃ o',h'.get? b=some o'
 tups:∀ b xs,H b=some (.tup xs)->H' b=some (.tup xs)
 frzs:∀ b o u,H b=some (.frz o u)->H' b=some (.frz o u)
 tbls:∀ b ps,H b=some (.tbl ps)->∃ more,H' b=some (.tbl (ps++more))
section
variable {fs fs' ex ex':List Addr} {H H1 H2:Hp} {h h1 h2 h':Heap} {a x e:Addr} {o:HO}
theorem Un.any (u:Un fs ex H H1 h h1) {b:Addr} {ob:Obj} (q:h.get? b=some ob) (n:H b=none) (hx:b ∉ ex):∃ sl,h1.get? b=some { ob with slots:=sl }:=by
 by_cases hb:b ∈ fs
 · exact u.slot b ob q n hb hx
 · exact ⟨ob.slots,u.keep b ob q n hb hx⟩
theorem Un.kept (k:∀ b u,h.get? b=some u->h'.get? b=some u):Un fs ex H H h h':=
 ⟨λb ob q _ _ _=>k b ob q,λb ob q _ _ _=>⟨ob.slots,k b ob q⟩,λ_ _ _ n _=>n,λb ob q _=>⟨ob,k b ob q⟩,λ_ _ q=>q,λ_ _ _ q=>q,λ_ ps q=>⟨#[],by rw [q]; simp⟩⟩
theorem Un.refl:Un fs ex H H h h:=Un.kept λ_ _ q=>q
theorem Un.laid (k:∀ b u,h.get? b=some u->h'.get? b=some u) (hp:h.objs.size<=a) (hn:H a=none):Un fs ex H (upd H a o) h h' where
 keep:=λb u q _ _ _=>k b u q
 slot:=λb u q _ _ _=>⟨u.slots,k b u q⟩
 free:=λb u q n _=>by rw [ar (Nat.ne_of_lt (Nat.lt_of_lt_of_le (Heap.lt_size q) hp))]; exact n
 there:=λb u q _=>⟨u,k b u q⟩
 tups:=λb xs q=>by rw [ar (ay q hn)]; exact q
 frzs:=λb u xs q=>by rw [ar (ay q hn)]; exact q
 tbls:=λb ps q=>⟨#[],by rw [ar (ay q hn),q]; simp⟩
theorem Un.write (mu:Mut (H x)) (he:e=x\/H e=some (.own x)) (k:∀ b u,b ≠ e->h.get? b=some u->h'.get? b=some u) (heo:∃ u,h'.get? e=some u):Un fs ex H (upd H x o) h h':=by
 have hx:∀ b,H b=none->b ≠ x:=λb n z=>by subst z; rw [n] at mu; exact mu
 have hb:∀ b,H b=none->b ≠ e:=λb n z=>by
   subst z
   rcases he with r | r
   · exact hx b n r
   · rw [n] at r; cases r
 have hm:∀ b u,H b=some u->¬ Mut (some u)->b ≠ x:=λb u q nm z=>by subst z; rw [q] at mu; exact nm mu
 refine ⟨λb u q n _ _=>k b u (hb b n) q,λb u q n _ _=>⟨u.slots,k b u (hb b n) q⟩,λb u q n _=>by rw [ar (hx b n)]; exact n,λb u q _=>?_,
   λb xs q=>by rw [ar (hm b _ q λz=>z)]; exact q,λb u xs q=>by rw [ar (hm b _ q λz=>z)]; exact q,λb ps q=>⟨#[],by rw [ar (hm b _ q λz=>z),q]; simp⟩⟩
 by_cases hbe:b=e
 · subst hbe; exact heo
 · exact ⟨u,k b u hbe q⟩
end
noncomputable def trk (h:Heap) (H:Hp):List Addr:=(List.range h.objs.size).filter λa=>(H a).isSome
noncomputable def rm (h:Heap) (H:Hp):Heap:=PySem.W.hideAll h (trk h H)
theorem zi (h:Heap) (H:Hp):(rm h H).objs.size=h.objs.size:=PySem.W.hideAll_size _ _
theorem A3 {h:Heap} {H:Hp} {b:Addr} {o:Obj} (e:h.get? b=some o) (n:H b=none):(rm h H).get? b=some o:=
 PySem.W.hideAll_get _ e λhm=>by
   have q:(H b).isSome=true:=(List.mem_filter.mp hm).2
   rw [n] at q; simp at q
theorem Ek {h:Heap} {H:Hp} {b:Addr} {o:Obj} (e:(rm h H).get? b=some o):h.get? b=some o/\H b=none:=by
 have e':h.get? b=some o:=PySem.W.of_hideAll (trk h H) e
 refine ⟨e',?_⟩
 cases q:H b with
 | none=>rfl
 | some x=>
   have hm:b ∈ trk h H:=List.mem_filter.mpr ⟨List.mem_range.mpr (Heap.lt_size e'),by simp [q]⟩
   have z:(rm h H).get? b=none:=PySem.W.hideAll_none (trk h H) hm
   rw [z] at e; cases e
noncomputable def DD (g h:Heap) (L:Addr):List (Addr × Obj):=(List.range h.objs.size).filterMap λa=>if a=L\/(g.get? a).isSome=true then none else (h.get? a).map λo=>(a,o)
noncomputable def rest (g h:Heap) (L d:Addr):List (Addr × Obj):=(DD g h L).filter λp=>decide (p.1 ≠ d)
structure Mod (K:PySem.W.Frag) (mg:Str->Option Value) (base:Heap):Prop where
 kin:K.In base
 glob:base.Ns mainGlobals mg
 blt:∃ mb,base.Ns builtinsNs mb/\∀ x:Str,x ≠ "__name__" -> mb x=bootBuiltins x
 nolimit:base.NoLimit
structure Cx where
 prog:Program
 w:World
 K:PySem.W.Frag
 mg:Str->Option Value
 base:Heap
 A:Around
 N:List Str
 s₀:Shared
 H₀:Hp
 env:Env
 outer:List Env
 stack:List Env
 ex:List Addr
 fn:Str->Bool
 calm:Bool
 pn:List (Addr × Obj)
 xe:Value->Shared->Prop
noncomputable def frs (l:List Env):List Addr:=l.filterMap (·.frame)
noncomputable abbrev Cx.fs (X:Cx):List Addr:=frs X.outer
noncomputable def Vis (sc:Scope) (x:Str):Prop:=sc.names.lookup x=some .local\/sc.names.lookup x=some .cell\/sc.names.lookup x=some .free
noncomputable def Loc (sc:Scope) (x:Str):Prop:=sc.names.lookup x=some .local\/sc.names.lookup x=some .cell
noncomputable def Look (env:Env) (h:Heap) (m:Str->Option Value) (x:Str) (u:Value):Prop:=
 (env.kindOf x=some .local/\m x=some u)\/((env.kindOf x=some .cell\/env.kindOf x=some .free)/\∃ c,env.cells.lookup x=some c/\h.IsCell c (some u))
structure Cx.Ok (X:Cx):Prop where
 mod:Mod X.K X.mg X.base
 kind:X.env.scope.kind=.function
 glob:X.env.globals=mainGlobals
 blt:X.env.builtins=builtinsNs
 above:X.s₀.heap.objs.size<=X.env.locals
 inj:∀ x y c,X.env.cells.lookup x=some c->X.env.cells.lookup y=some c->x=y
 has:∀ x,(X.env.kindOf x=some .cell\/X.env.kindOf x=some .free)->∃ c,X.env.cells.lookup x=some c
 cab:∀ x c,X.fn x=true->X.env.cells.lookup x=some c->X.s₀.heap.objs.size<=c
 hd:X.calm=true->X.A.handled=none
 frames:X.A.frames=some X.stack
 stk:X.stack=X.outer\/(X.stack=X.env :: X.outer/\X.env.frame=some X.env.locals)
 exf:∀ b ∈ X.ex,b ≠ X.env.locals/\∀ x c,X.env.cells.lookup x=some c->c ≠ b
 bs:∀ b o,X.base.get? b=some o->X.s₀.heap.get? b=some o/\X.H₀ b=none
 bsz:X.base.objs.size<=X.s₀.heap.objs.size
 noex:∀ b o,X.base.get? b=some o->b ∉ X.ex
 exfs:∀ b ∈ X.ex,b ∉ X.fs
 oI:X.s₀.heap.FunFrames X.base X.outer
 frf:∀ b ∈ X.fs,X.H₀ b=none
structure Inv (X:Cx) (pins:List (Addr × Obj)) (σ:List (Option V)) (H:Hp) (s:Shared):Prop where
 ok:X.Ok
 os:s.os=X.s₀.os
 bare:AllBare s.gens
 base:Un X.fs X.ex X.H₀ H X.s₀.heap s.heap
 loc:∃ m,s.heap.Ns X.env.locals m/\∀ (i:Nat) (x:Str) (v:V),X.N[i]?=some x->σ[i]?=some (some v)->Vis X.env.scope x->∃ u,RelV v u/\Look X.env s.heap m x u
 cell:∀ x c,X.env.cells.lookup x=some c->∃ v,s.heap.IsCell c v
 free:H X.env.locals=none
 freeC:∀ x c,X.env.cells.lookup x=some c->H c=none
 pin:∀ p ∈ X.pn++pins,s.heap.get? p.1=some p.2/\H p.1=none/\p.1 ≠ X.env.locals/\p.1 ∉ X.fs/\∀ v,p.2.data ≠ .cell v
 hok:HOk X.prog X.w H s.heap
 len:σ.length=X.N.length
section
variable {X:Cx} {pins:List (Addr × Obj)} {σ:List (Option V)} {H H':Hp} {s:Shared} {h':Heap}
theorem Cx.Ok.Jk (ok:X.Ok) {b:Addr} {o:Obj} (e:X.base.get? b=some o):b ∉ X.fs:=λhb=>by
 have:=(ok.oI.mem hb).1
 rw [e] at this; cases this
theorem Inv.bs (I:Inv X pins σ H s):∀ b o,X.base.get? b=some o->s.heap.get? b=some o/\H b=none:=λb o e=>
 ⟨I.base.keep b o (I.ok.bs b o e).1 (I.ok.bs b o e).2 (I.ok.Jk e) (I.ok.noex b o e),I.base.free b o (I.ok.bs b o e).1 (I.ok.bs b o e).2 (I.ok.noex b o e)⟩
theorem Inv.bk (I:Inv X pins σ H s):∀ b o,X.base.get? b=some o->s.heap.get? b=some o:=λb o e=>(I.bs b o e).1
theorem Inv.mod (I:Inv X pins σ H s):Mod X.K X.mg X.base:=I.ok.mod
theorem Inv.kIn (I:Inv X pins σ H s):X.K.In s.heap:=I.ok.mod.kin.keeps I.bk
theorem Inv.lt (I:Inv X pins σ H s):X.env.locals < s.heap.objs.size:=let ⟨_,hn,_⟩:=I.loc; hn.lt
theorem Inv.sz (I:Inv X pins σ H s):X.s₀.heap.objs.size<=s.heap.objs.size:=Nat.le_trans I.ok.above (Nat.le_of_lt I.lt)
theorem Inv.JG (I:Inv X pins σ H s) {a:Addr} (h:s.heap.objs.size<=a):a ∉ X.fs:=λhb=>by
 obtain ⟨_,o,ho,_⟩:=I.ok.oI.mem hb
 exact absurd (Nat.lt_of_lt_of_le (Heap.lt_size ho) (Nat.le_trans I.sz h)) (Nat.lt_irrefl _)
theorem Inv.cne (I:Inv X pins σ H s):∀ x c,X.env.cells.lookup x=some c->c ≠ X.env.locals:=λx c e z=>by
 obtain ⟨v,o,ho,hd⟩:=I.cell x c e
 obtain ⟨m,⟨o',es,ep,ho',hd',_⟩,_⟩:=I.loc
 rw [z,ho'] at ho; cases ho; rw [hd'] at hd; cases hd
theorem Inv.oI (I:Inv X pins σ H s):s.heap.FunFrames X.base X.outer:=by
 have all:∀ (l:List Env),(∀ b ∈ frs l,b ∈ X.fs)->X.s₀.heap.FunFrames X.base l->s.heap.FunFrames X.base l:=by
   intro l
   induction l with
   | nil=>intro _ _; trivial
   | cons env r ih=>
     intro hs hl
     obtain ⟨hk,⟨L,o,hf,hn,ho,hd⟩,hr⟩:=hl
     have hL:L ∈ X.fs:=hs L (by unfold frs; rw [List.filterMap_cons,hf]; exact List.mem_cons_self)
     obtain ⟨sl,e⟩:=I.base.slot L o ho (I.ok.frf L hL) hL λz=>I.ok.exfs L z hL
     exact ⟨hk,⟨L,_,hf,hn,e,hd⟩,ih (λb hb=>hs b (by unfold frs; rw [List.filterMap_cons,hf]; exact List.mem_cons_of_mem _ hb)) hr⟩
 exact all X.outer (λ_ hb=>hb) I.ok.oI
theorem Inv.stack (I:Inv X pins σ H s):s.heap.FunFrames X.base X.stack:=by
 rcases I.ok.stk with e | ⟨e,hf⟩
 · rw [e]; exact I.oI
 · rw [e]
   obtain ⟨m,hn,_⟩:=I.loc
   refine .cons (by rw [I.ok.kind]; decide) hf hn ?_ I.oI
   exact Heap.get?_none_of_le (Nat.le_trans I.ok.bsz I.ok.above)
theorem Inv.vK (I:Inv X pins σ H s):∀ b ∈ frs X.stack,b ∈ X.env.locals :: X.fs:=λb hb=>by
 rcases I.ok.stk with e | ⟨e,hf⟩
 · rw [e] at hb; exact List.mem_cons_of_mem _ hb
 · rw [e] at hb
   unfold frs at hb
   rw [List.filterMap_cons,hf] at hb
   exact hb
theorem Inv.xj (I:Inv X pins σ H s):∀ b ∈ frs X.stack,H b=none:=λb hb=>by
 rcases List.mem_cons.mp (I.vK b hb) with e | hb
 · rw [e]; exact I.free
 · obtain ⟨_,o,ho,_⟩:=I.ok.oI.mem hb
   exact I.base.free b o ho (I.ok.frf b hb) λz=>I.ok.exfs b z hb
theorem Inv.step {g':Array GenState} {t':Nat} {d':Drawn} {ch:List Addr} (I:Inv X pins σ H s)
   (hch:∀ b ∈ ch,(b ∈ X.ex\/X.s₀.heap.objs.size<=b)/\b ≠ X.env.locals/\(∀ x c,X.env.cells.lookup x=some c->c ≠ b)/\∀ p ∈ X.pn++pins,p.1 ≠ b)
   (keep:∀ b o,b ≠ X.env.locals->b ∉ X.fs->b ∉ ch->s.heap.get? b=some o->H b=none->h'.get? b=some o)
   (slot:∀ b o,b ≠ X.env.locals->b ∈ X.fs->b ∉ ch->s.heap.get? b=some o->H b=none->∃ sl,h'.get? b=some { o with slots:=sl }) (free:∀ b o,b ∉ ch->s.heap.get? b=some o->H b=none->H' b=none)
   (there:∀ b o,b ∉ ch->s.heap.get? b=some o->∃ o',h'.get? b=some o')
   (tups:∀ b xs,H b=some (.tup xs)->H' b=some (.tup xs)) (frzs:∀ b o u,H b=some (.frz o u)->H' b=some (.frz o u)) (tbls:∀ b ps,H b=some (.tbl ps)->∃ more,H' b=some (.tbl (ps++more)))
   (ns:∀ m,s.heap.Ns X.env.locals m->h'.Ns X.env.locals m) (hok:HOk X.prog X.w H' h') (hg:AllBare g') :
   Inv X pins σ H' { s with heap:=h',gens:=g',drawn:=d',toks:=t' }:=by
 have neL:∀ b o,X.s₀.heap.get? b=some o->b ≠ X.env.locals:=λb o e=>Nat.ne_of_lt (Nat.lt_of_lt_of_le (Heap.lt_size e) I.ok.above)
 have neC:∀ b o,X.s₀.heap.get? b=some o->b ∉ X.ex->b ∉ ch:=λb o e hx hb=>by
   rcases (hch b hb).1 with z | z
   · exact hx z
   · exact absurd (Nat.lt_of_lt_of_le (Heap.lt_size e) z) (Nat.lt_irrefl _)
 have cellK:∀ x c,X.env.cells.lookup x=some c->∀ v,s.heap.IsCell c v->h'.IsCell c v:=λx c e v ⟨o,ho,hd⟩=>by
   have nch:c ∉ ch:=λz=>(hch c z).2.2.1 x c e rfl
   by_cases hc:c ∈ X.fs
   · obtain ⟨sl,q⟩:=slot c o (I.cne x c e) hc nch ho (I.freeC x c e)
     exact ⟨_,q,hd⟩
   · exact ⟨o,keep c o (I.cne x c e) hc nch ho (I.freeC x c e),hd⟩
 refine ⟨I.ok,I.os,hg,⟨λb o e n hb hx=>?_,λb o e n hb hx=>?_,λb o e n hx=>?_,λb o e hx=>?_,λb xs e=>tups b xs (I.base.tups b xs e),λb o xs e=>frzs b o xs (I.base.frzs b o xs e),λb ps e=>?_⟩,?_,λx c e=>?_,?_,λx c e=>?_,λp hp=>?_,hok,I.len⟩
 · exact keep b o (neL b o e) hb (neC b o e hx) (I.base.keep b o e n hb hx) (I.base.free b o e n hx)
 · obtain ⟨sl,e1⟩:=I.base.slot b o e n hb hx
   obtain ⟨sl',e2⟩:=slot b _ (neL b o e) hb (neC b o e hx) e1 (I.base.free b o e n hx)
   exact ⟨sl',e2⟩
 · obtain ⟨o',e1⟩:=I.base.there b o e hx
   exact free b o' (neC b o e hx) e1 (I.base.free b o e n hx)
 · obtain ⟨o',e1⟩:=I.base.there b o e hx
   exact there b o' (neC b o e hx) e1
 · obtain ⟨m1,e1⟩:=I.base.tbls b ps e
   obtain ⟨m2,e2⟩:=tbls b _ e1
   exact ⟨m1++m2,by rw [e2,Array.append_assoc]⟩
 · obtain ⟨m,hn,hl⟩:=I.loc
   refine ⟨m,ns m hn,λi x v e1 e2 e3=>?_⟩
   obtain ⟨u,r,l⟩:=hl i x v e1 e2 e3
   refine ⟨u,r,?_⟩
   rcases l with l | ⟨k,c,e,z⟩
   · exact .inl l
   · exact .inr ⟨k,c,e,cellK x c e _ z⟩
 · obtain ⟨v,z⟩:=I.cell x c e
   exact ⟨v,cellK x c e v z⟩
 · obtain ⟨m,⟨o,_,_,ho,_⟩,_⟩:=I.loc
   exact free _ o (λz=>(hch _ z).2.1 rfl) ho I.free
 · obtain ⟨v,o,ho,hd⟩:=I.cell x c e
   exact free c o (λz=>(hch c z).2.2.1 x c e rfl) ho (I.freeC x c e)
 · obtain ⟨e,n,ne,nf,d⟩:=I.pin p hp
   have nch:p.1 ∉ ch:=λz=>(hch p.1 z).2.2.2 p hp rfl
   exact ⟨keep p.1 p.2 ne nf nch e n,free p.1 p.2 nch e n,ne,nf,d⟩
theorem Inv.un {t':Nat} (I:Inv X pins σ H s) (u:Un X.fs [] H H' s.heap h') (hok:HOk X.prog X.w H' h'):Inv X pins σ H' { s with heap:=h',toks:=t' }:=by
 obtain ⟨m,⟨o,es,ep,ho,r⟩,_⟩:=id I.loc
 obtain ⟨sl,hL⟩:=u.any ho I.free (by simp)
 exact I.step (g':=s.gens) (d':=s.drawn) (ch:=[]) (λ_ z=>nomatch z) (λb o _ hb _ e n=>u.keep b o e n hb (by simp)) (λb o _ hb _ e n=>u.slot b o e n hb (by simp)) (λb o _ e n=>u.free b o e n (by simp)) (λb o _ e=>u.there b o e (by simp)) u.tups u.frzs u.tbls (λm' hm=>by
   obtain ⟨o',es',ep',ho',r'⟩:=hm
   rw [ho] at ho'; cases ho'
   exact ⟨_,es',ep',hL,r'⟩) hok I.bare
theorem Inv.call {g':Array GenState} {t':Nat} {d':Drawn} {ch:List Addr} (I:Inv X pins σ H s) (u:Un (frs X.stack) ch H H' s.heap h') (hok:HOk X.prog X.w H' h') (hg:AllBare g')
   (hch:∀ b ∈ ch,(b ∈ X.ex\/X.s₀.heap.objs.size<=b)/\b ≠ X.env.locals/\(∀ x c,X.env.cells.lookup x=some c->c ≠ b)/\∀ p ∈ X.pn++pins,p.1 ≠ b) :
   Inv X pins σ H' { s with heap:=h',gens:=g',drawn:=d',toks:=t' }:=by
 obtain ⟨m,⟨o,es,ep,ho,r⟩,_⟩:=id I.loc
 obtain ⟨sl,hL⟩:=u.any ho I.free λz=>(hch _ z).2.1 rfl
 exact I.step (ch:=ch) hch (λb o hL hb hc e n=>u.keep b o e n (λz=>(List.mem_cons.mp (I.vK b z)).elim hL hb) hc) (λb o _ _ hc e n=>u.any e n hc) (λb o hc e n=>u.free b o e n hc) (λb o hc e=>u.there b o e hc) u.tups u.frzs u.tbls (λm' hm=>by
   obtain ⟨o',es',ep',ho',r'⟩:=hm
   rw [ho] at ho'; cases ho'
   exact ⟨_,es',ep',hL,r'⟩) hok hg
theorem Inv.turned {t':Nat} {it:Addr} (I:Inv X pins σ H s) (k:∀ b o,b ≠ it->s.heap.get? b=some o->h'.get? b=some o) (hn:H it=none) (hL:it ≠ X.env.locals)
   (h1:it ∈ X.ex\/X.s₀.heap.objs.size<=it) (h2:∀ x c,X.env.cells.lookup x=some c->c ≠ it) (h3:∀ p ∈ X.pn++pins,p.1 ≠ it):Inv X pins σ H { s with heap:=h',toks:=t' }:=by
 have nit:∀ b u,H b=some u->b ≠ it:=λb u e z=>by rw [z,hn] at e; cases e
 refine I.step (g':=s.gens) (d':=s.drawn) (ch:=[it]) (λb hb=>?_) (λb o _ _ hc e _=>k b o (λz=>hc (by simp [z])) e) (λb o _ _ hc e _=>⟨o.slots,k b o (λz=>hc (by simp [z])) e⟩) (λ_ _ _ _ n=>n)
   (λb o hc e=>⟨o,k b o (λz=>hc (by simp [z])) e⟩) (λ_ _ e=>e) (λ_ _ _ e=>e) (λb ps e=>⟨#[],by rw [e]; simp⟩) (λm hm=>?_) (λb u e=>?_) I.bare
 · have e:b=it:=by simpa using hb
   subst e
   exact ⟨h1,hL,h2,h3⟩
 · obtain ⟨o,es,ep,ho,r⟩:=hm
   exact ⟨o,es,ep,k _ o (Ne.symm hL) ho,r⟩
 · refine (I.hok b u e).kn (λc v hc q=>k c v ?_ q) (λ_ q=>q) λ_ _ q=>q
   rcases hc with z | z
   · rw [z]; exact nit b u e
   · exact nit c _ z
theorem Inv.tok (I:Inv X pins σ H s) (t:Nat):Inv X pins σ H { s with toks:=t }:=I.un (h':=s.heap) (t':=t) Un.refl I.hok
theorem Inv.kept {t':Nat} (I:Inv X pins σ H s) (k:∀ b u,s.heap.get? b=some u->h'.get? b=some u):Inv X pins σ H { s with heap:=h',toks:=t' }:=I.un (Un.kept k) (I.hok.kept k)
theorem Inv.laid {a:Addr} {o:HO} {t':Nat} (I:Inv X pins σ H s) (k:∀ b u,s.heap.get? b=some u->h'.get? b=some u) (hp:s.heap.objs.size<=a) (new:dU X.prog X.w (upd H a o) h' a o) :
   Inv X pins σ (upd H a o) { s with heap:=h',toks:=t' }:=I.un (Un.laid k hp (I.hok.fresh hp)) (I.hok.laid k hp new)
theorem Inv.write {x e:Addr} {o:HO} {t':Nat} (I:Inv X pins σ H s) (mu:Mut (H x)) (he:e=x\/H e=some (.own x)) (k:∀ b u,b ≠ e->s.heap.get? b=some u->h'.get? b=some u) (heo:∃ u,h'.get? e=some u)
   (new:dU X.prog X.w (upd H x o) h' x o):Inv X pins σ (upd H x o) { s with heap:=h',toks:=t' }:=I.un (Un.write mu he k heo) (I.hok.write mu he k heo new)
theorem Inv.w8 {pins':List (Addr × Obj)} (I:Inv X pins σ H s) (h:∀ p ∈ pins',s.heap.get? p.1=some p.2/\H p.1=none/\p.1 ≠ X.env.locals/\p.1 ∉ X.fs/\∀ v,p.2.data ≠ .cell v):Inv X pins' σ H s:=
 ⟨I.ok,I.os,I.bare,I.base,I.loc,I.cell,I.free,I.freeC,λp hp=>(List.mem_append.mp hp).elim (λz=>I.pin p (List.mem_append_left _ z)) (h p),I.hok,I.len⟩
theorem t8 {N:List Str} (hN:N.Nodup) {i j:Nat} {x:Str} (a:N[i]?=some x) (b:N[j]?=some x):i=j:=by
 obtain ⟨h1,e1⟩:=List.getElem?_eq_some_iff.mp a
 obtain ⟨h2,e2⟩:=List.getElem?_eq_some_iff.mp b
 exact (List.getElem_inj hN).mp (e1.trans e2.symm)
theorem yD {M:Model} {A:Around} {E:Value->Shared->Prop} {i:Nat} {x:Str} {v:V} {u:Value} {Q:Unit->Shared->Prop} (I:Inv X pins σ H s) (hN:X.N.Nodup) (hi:X.N[i]?=some x) (hx:Loc X.env.scope x) (r:RelV v u)
   (h:∀ s',Inv X pins (σ.set i (some v)) H s'->(∃ a,Heap.SameBut a s.heap s'.heap/\(a=X.env.locals\/X.env.cells.lookup x=some a))->Q () s') (hf:X.fn x=true\/X.env.scope.names.lookup x=some .local:=by first | exact .inl rfl | exact .inr rfl | assumption):wpAny M A (storeName X.env x u) Q E s:=by
 obtain ⟨m,hn,hl⟩:=id I.loc
 have hcls:(X.env.scope.kind == .class || (X.env.scope.kind == .module && X.env.locals != X.env.globals))=false:=by rw [I.ok.kind]; rfl
 have hiσ:i < σ.length:=by rw [I.len]; exact (List.getElem?_eq_some_iff.mp hi).1
 have cne:=I.cne
 have tracked:∀ {a:Addr} {h':Heap},(∃ o,s.heap.get? a=some o/\H a=none)->Heap.SameBut a s.heap h'->HOk X.prog X.w H h':=λ{a h'} ha hs b ob e=>by
   obtain ⟨_,_,hfree⟩:=ha
   refine (I.hok b ob e).kn (λc w' hc q=>(hs.2 c ?_).trans q) (λ_ q=>q) λ_ _ q=>q
   rintro rfl
   rcases hc with rfl | hc
   · rw [hfree] at e; cases e
   · rw [hfree] at hc; cases hc
 rcases hx with hk | hk
 · refine wpAny_storeName_local hk hn (λh' hn' hs=>?_) hcls
   obtain ⟨oL,_,_,hoL,_⟩:=id hn
   refine h _ ⟨I.ok,I.os,I.bare,⟨λb o e n hb hx=>?_,λb o e n hb hx=>?_,I.base.free,λb o e hx=>?_,I.base.tups,I.base.frzs,I.base.tbls⟩,⟨_,hn',λj y v' e1 e2 e3=>?_⟩,λy c e=>?_,I.free,I.freeC,λp hp=>?_,tracked ⟨oL,hoL,I.free⟩ hs,by simpa using I.len⟩ ⟨_,hs,.inl rfl⟩
   · exact (hs.2 b (Nat.ne_of_lt (Nat.lt_of_lt_of_le (Heap.lt_size e) I.ok.above))).trans (I.base.keep b o e n hb hx)
   · obtain ⟨sl,e1⟩:=I.base.slot b o e n hb hx
     exact ⟨sl,(hs.2 b (Nat.ne_of_lt (Nat.lt_of_lt_of_le (Heap.lt_size e) I.ok.above))).trans e1⟩
   · obtain ⟨o',e1⟩:=I.base.there b o e hx
     exact ⟨o',(hs.2 b (Nat.ne_of_lt (Nat.lt_of_lt_of_le (Heap.lt_size e) I.ok.above))).trans e1⟩
   · by_cases hj:j=i
     · subst hj
       rw [hi] at e1; cases e1
       rw [List.getElem?_set_self hiσ] at e2
       cases e2
       exact ⟨u,r,.inl ⟨hk,by simp⟩⟩
     · rw [List.getElem?_set_ne (Ne.symm hj)] at e2
       obtain ⟨u',r',q⟩:=hl j y v' e1 e2 e3
       refine ⟨u',r',?_⟩
       rcases q with ⟨k,e⟩ | ⟨k,c,e,z⟩
       · refine .inl ⟨k,?_⟩
         have:y ≠ x:=λe=>hj (t8 hN e1 (e ▸ hi))
         simp [this,e]
       · exact .inr ⟨k,c,e,z.sameBut hs (cne y c e)⟩
   · obtain ⟨w',z⟩:=I.cell y c e
     exact ⟨w',z.sameBut hs (cne y c e)⟩
   · obtain ⟨e,n,ne,nf,d⟩:=I.pin p hp
     exact ⟨(hs.2 p.1 ne).trans e,n,ne,nf,d⟩
 · have hfn:X.fn x=true:=by
     rcases hf with z | z
     · exact z
     · rw [z] at hk; cases hk
   obtain ⟨c,hc⟩:=I.ok.has x (.inl hk)
   obtain ⟨w',z⟩:=I.cell x c hc
   refine wpAny_storeName_cell I.ok.kind hk hc z (λh' hc' hs=>?_)
   obtain ⟨oc,hoc,hocd⟩:=id z
   refine h { s with heap:=h' } ⟨I.ok,I.os,I.bare,⟨λb o e n hb hx=>?_,λb o e n hb hx=>?_,I.base.free,λb o e hx=>?_,I.base.tups,I.base.frzs,I.base.tbls⟩,⟨m,hn.sameBut hs (Ne.symm (cne x c hc)),λj y v' e1 e2 e3=>?_⟩,λy c' e=>?_,I.free,I.freeC,λp hp=>?_,tracked ⟨oc,hoc,I.freeC x c hc⟩ hs,by simpa using I.len⟩ ⟨c,hs,.inr hc⟩
   · exact (hs.2 b (Nat.ne_of_lt (Nat.lt_of_lt_of_le (Heap.lt_size e) (I.ok.cab x c hfn hc)))).trans (I.base.keep b o e n hb hx)
   · obtain ⟨sl,e1⟩:=I.base.slot b o e n hb hx
     exact ⟨sl,(hs.2 b (Nat.ne_of_lt (Nat.lt_of_lt_of_le (Heap.lt_size e) (I.ok.cab x c hfn hc)))).trans e1⟩
   · obtain ⟨o',e1⟩:=I.base.there b o e hx
     exact ⟨o',(hs.2 b (Nat.ne_of_lt (Nat.lt_of_lt_of_le (Heap.lt_size e) (I.ok.cab x c hfn hc)))).trans e1⟩
   · by_cases hj:j=i
     · subst hj
       rw [hi] at e1; cases e1
       rw [List.getElem?_set_self hiσ] at e2
       cases e2
       exact ⟨u,r,.inr ⟨.inl hk,c,hc,hc'⟩⟩
     · rw [List.getElem?_set_ne (Ne.symm hj)] at e2
       obtain ⟨u',r',q⟩:=hl j y v' e1 e2 e3
       refine ⟨u',r',?_⟩
       rcases q with q | ⟨k,c',e,z'⟩
       · exact .inl q
       · refine .inr ⟨k,c',e,z'.sameBut hs ?_⟩
         rintro rfl
         exact hj (t8 hN e1 (I.ok.inj _ _ _ e hc ▸ hi))
   · by_cases hcc:c'=c
     · subst hcc; exact ⟨_,hc'⟩
     · obtain ⟨w2,z2⟩:=I.cell y c' e
       exact ⟨w2,z2.sameBut hs hcc⟩
   · obtain ⟨e,n,ne,nf,d⟩:=I.pin p hp
     refine ⟨(hs.2 p.1 ?_).trans e,n,ne,nf,d⟩
     intro q
     rw [q,hoc] at e
     have q':oc=p.2:=Option.some.inj e
     exact d w' (by rw [<- q']; exact hocd)
theorem uX {M:Model} {A:Around} {E:Value->Shared->Prop} {i:Nat} {x:Str} {v:V} {u:Value} {Q:Unit->Shared->Prop} (I:Inv X pins σ H s) (hN:X.N.Nodup) (hi:X.N[i]?=some x) (hx:Loc X.env.scope x) (r:RelV v u)
   (h:∀ s',Inv X pins (σ.set i (some v)) H s'->Q () s') (hf:X.fn x=true\/X.env.scope.names.lookup x=some .local:=by first | exact .inl rfl | exact .inr rfl | assumption):wpAny M A (storeName X.env x u) Q E s:=
 yD I hN hi hx r (λs' I' _=>h s' I') hf
theorem Inv.E4 {s':Shared} {ch:List Addr} (I:Inv X pins σ H s) (ho:s'.os=s.os) (u:Un (frs X.stack) ch H H' s.heap s'.heap) (hok:HOk X.prog X.w H' s'.heap) (hg:AllBare s'.gens)
   (hch:∀ b ∈ ch,(b ∈ X.ex\/X.s₀.heap.objs.size<=b)/\b ≠ X.env.locals/\(∀ x c,X.env.cells.lookup x=some c->c ≠ b)/\∀ p ∈ X.pn++pins,p.1 ≠ b):Inv X pins σ H' s':=by
 obtain ⟨h',g',d',t',o'⟩:=s'
 have e:o'=s.os:=ho
 subst e
 exact I.call (g':=g') (t':=t') (d':=d') u hok hg hch
end
noncomputable abbrev XK:=Value->Option Addr->Hp->Prop
noncomputable abbrev St:=List (Option V)
noncomputable abbrev VK:=V->Hp->Prop
noncomputable abbrev TE:=St->Hp->VK->Prop
noncomputable abbrev TT:=St->Hp->(Bool->Hp->Prop)->Prop
noncomputable abbrev TA:=St->Hp->(List V->Hp->Prop)->Prop
structure Ends where
 nx:St->Hp->Prop
 rt:VK
 bk:St->Hp->Prop:=λ_ _=>False
 ct:St->Hp->Prop:=λ_ _=>False
noncomputable abbrev TS:=Ends->St->Hp->Prop
noncomputable def EP (X:Cx) (pins:List (Addr × Obj)) (σ:St) (Q:VK) (u:Value) (s':Shared):Prop:=∃ v H',Inv X pins σ H' s'/\RelV v u/\Q v H'
noncomputable def TP (X:Cx) (pins:List (Addr × Obj)) (σ:St) (Q:Bool->Hp->Prop) (b:Bool) (s':Shared):Prop:=∃ H',Inv X pins σ H' s'/\Q b H'
noncomputable def AP (X:Cx) (pins:List (Addr × Obj)) (σ:St) (Q:List V->Hp->Prop) (us:List Value) (s':Shared):Prop:=∃ vs H',Inv X pins σ H' s'/\Vals vs us/\Q vs H'
noncomputable def SP (X:Cx) (pins:List (Addr × Obj)) (D:Ends) (f:Flow) (s':Shared):Prop:=
 match f with
 | .next=>∃ σ' H',Inv X pins σ' H' s'/\D.nx σ' H'
 | .brk=>∃ σ' H',Inv X pins σ' H' s'/\D.bk σ' H'
 | .cont=>∃ σ' H',Inv X pins σ' H' s'/\D.ct σ' H'
 | .ret u=>∃ v σ' H',Inv X pins σ' H' s'/\RelV v u/\D.rt v H'
noncomputable def PE (X:Cx) (e:Expr) (t:TE):Prop:=
 ∀ (pins:List (Addr × Obj)) (s:Shared) (σ:St) (H:Hp) (Q:VK),Inv X pins σ H s->t σ H Q->wpAny (model X.prog X.w) X.A (eval e X.env) (EP X pins σ Q) X.xe s
noncomputable def PT (X:Cx) (e:Expr) (t:TT):Prop:=
 ∀ (pins:List (Addr × Obj)) (s:Shared) (σ:St) (H:Hp) (Q:Bool->Hp->Prop),Inv X pins σ H s->t σ H Q->wpAny (model X.prog X.w) X.A (isTrue e X.env (eval e X.env)) (TP X pins σ Q) X.xe s
noncomputable def PW (X:Cx) (e:Expr) (t:TT):Prop:=
 ∀ (whole:Sem Value) (pins:List (Addr × Obj)) (s:Shared) (σ:St) (H:Hp) (Q:Bool->Hp->Prop),Inv X pins σ H s->t σ H Q->wpAny (model X.prog X.w) X.A (isTrue e X.env whole) (TP X pins σ Q) X.xe s
theorem PW.pt {X:Cx} {e:Expr} {t:TT} (h:PW X e t):PT X e t:=h _
noncomputable def PA (X:Cx) (es:List Expr) (t:TA):Prop:=
 ∀ (pos:Pos) (pins:List (Addr × Obj)) (s:Shared) (σ:St) (H:Hp) (Q:List V->Hp->Prop),Inv X pins σ H s->t σ H Q->wpAny (model X.prog X.w) X.A (spliced (backTo pos (starEach es X.env))) (AP X pins σ Q) X.xe s
noncomputable def PS (X:Cx) (st:Stmt) (t:TS):Prop:=
 ∀ (pins:List (Addr × Obj)) (s:Shared) (σ:St) (H:Hp) (D:Ends),Inv X pins σ H s->t D σ H->wpAny (model X.prog X.w) X.A (exec st X.env) (SP X pins D) X.xe s
noncomputable def PSs (X:Cx) (st:List Stmt) (t:TS):Prop:=
 ∀ (pins:List (Addr × Obj)) (s:Shared) (σ:St) (H:Hp) (D:Ends),Inv X pins σ H s->t D σ H->wpAny (model X.prog X.w) X.A (execs st X.env) (SP X pins D) X.xe s
theorem thn {α:Type} {t:Sem α} {Q Q':α->Shared->Prop} {M:Model} {A:Around} {E:Value->Shared->Prop} {s:Shared} (h:wpAny M A t Q E s) (hQ:∀ a s,Q a s->Q' a s):wpAny M A t Q' E s:=wpAny_mono h hQ λ_ _ x=>x
section
variable {X:Cx}
theorem bin {a b:Expr} {ta tb:TE} (ha:PE X a ta) (hb:PE X b tb) {pins:List (Addr × Obj)} {s:Shared} {σ:St} {H:Hp} {R:V->V->Hp->Prop} (I:Inv X pins σ H s) (h:ta σ H λx H1=>tb σ H1 λy H2=>R x y H2)
   {α:Type} {Q:α->Shared->Prop} {f:Value->Value->Sem α}
   (hf:∀ v u s2 x y H2,Inv X pins σ H2 s2->RelV x v->RelV y u->R x y H2->wpAny (model X.prog X.w) X.A (f v u) Q X.xe s2) :
   wpAny (model X.prog X.w) X.A (eval a X.env) (λv s₁=>wpAny (model X.prog X.w) X.A (eval b X.env) (λu s₂=>wpAny (model X.prog X.w) X.A (f v u) Q X.xe s₂) X.xe s₁) X.xe s:=by
 refine thn (ha pins s σ H _ I h) λv s1 ⟨x,H1,I1,r1,q1⟩=>?_
 refine thn (hb pins s1 σ H1 _ I1 q1) λu s2 ⟨y,H2,I2,r2,q2⟩=>?_
 exact hf v u s2 x y H2 I2 r1 r2 q2
noncomputable def fO (i:Nat):TE:=λσ H Q=>∃ v,σ[i]?=some (some v)/\Q v H
noncomputable def tC (v:V):TE:=λ_ H Q=>Q v H
theorem BO {i:Nat} {x:Str} {pos:Pos} (hN:X.N[i]?=some x) (hv:Vis X.env.scope x) (hd:(x == ("__debug__" : Str))=false:=by decide) (hcd:(x == ("__classdict__" : Str))=false:=by decide):PE X (.Name x pos) (fO i):=by
 intro pins s σ H Q I h
 obtain ⟨v,e,h⟩:=h
 obtain ⟨m,hn,hl⟩:=I.loc
 obtain ⟨u,r,l⟩:=hl i x v hN e hv
 have fin:EP X pins σ Q u s:=⟨v,H,I,r,h⟩
 rcases l with ⟨hk,hm⟩ | ⟨hk,c,hc,hcell⟩
 · exact wpAny_Name (wpAny_loadName_local I.ok.kind hk hn hm fin) hd
 · rcases hk with hk | hk
   · exact wpAny_Name (wpAny_loadName_cell I.ok.kind hk hc hcell fin) hd
   · exact wpAny_Name (wpAny_loadName_free I.ok.kind hk hc hcell fin hcd) hd
theorem ee {i j pos}:PE X (.Constant (.int i) j pos) (tC (.int i)):=λ_ _ _ H _ I h=>wpAny_Constant_int ⟨.int i,H,I.tok _,⟨_,rfl⟩,h⟩
theorem Jd {b j pos}:PE X (.Constant (.bool b) j pos) (tC (.bl b)):=λ_ _ _ H _ I h=>Constant_bool ⟨.bl b,H,I,rfl,h⟩
theorem vC {j pos}:PE X (.Constant .none j pos) (tC .non):=λ_ _ _ H _ I h=>Constant_none ⟨.non,H,I,rfl,h⟩
theorem GQ {x j pos}:PE X (.Constant (.str x) j pos) (tC (.str x)):=λ_ _ _ H _ I h=>Calls.Constant_str ⟨.str x,H,I.tok _,⟨_,rfl⟩,h⟩
noncomputable def Gl (X:Cx) (x:Str):Prop:=X.env.kindOf x=some .globalImplicit
theorem xP {E:Value->Shared->Prop} {pins:List (Addr × Obj)} {s:Shared} {σ:St} {H:Hp} {x:Str} {u:Value} {pos:Pos} {Q:Value->Shared->Prop} (I:Inv X pins σ H s) (hg:Gl X x) (hm:X.mg x=some u) (h:Q u s)
   (hd:(x == ("__debug__" : Str))=false:=by decide):wpAny (model X.prog X.w) X.A (eval (.Name x pos) X.env) Q E s:=
 Calls.Name_function_global I.ok.kind hg (Calls.loadGlobal_global (by rw [I.ok.glob]; exact I.mod.glob.keeps I.bk) hm h) hd
theorem g8 {E:Value->Shared->Prop} {pins:List (Addr × Obj)} {s:Shared} {σ:St} {H:Hp} {x:Str} {u:Value} {pos:Pos} {Q:Value->Shared->Prop} (I:Inv X pins σ H s) (hg:Gl X x) (hm:X.mg x=none) (hv:bootBuiltins x=some u) (h:Q u s)
   (hn:x ≠ "__name__":=by decide) (hd:(x == ("__debug__" : Str))=false:=by decide):wpAny (model X.prog X.w) X.A (eval (.Name x pos) X.env) Q E s:=by
 obtain ⟨mb,h1,h2⟩:=I.mod.blt
 exact Calls.Name_function_global I.ok.kind hg (Calls.loadGlobal_builtin (by rw [I.ok.glob]; exact I.mod.glob.keeps I.bk) hm (by rw [I.ok.blt]; exact h1.keeps I.bk) ((h2 x hn).trans hv) h) hd
theorem D4 {x:Str} {v:V} {u:Value} {pos:Pos} (hg:Gl X x) (hm:X.mg x=some u) (r:RelV v u) (hd:(x == ("__debug__" : Str))=false:=by decide):PE X (.Name x pos) (tC v):=
 λ_ _ _ H _ I h=>xP I hg hm ⟨v,H,I,r,h⟩ hd
theorem kU {x:Str} {v:V} {u:Value} {pos:Pos} (hg:Gl X x) (hm:X.mg x=none) (hv:bootBuiltins x=some u) (r:RelV v u) (hn:x ≠ "__name__":=by decide) (hd:(x == ("__debug__" : Str))=false:=by decide):PE X (.Name x pos) (tC v):=
 λ_ _ _ H _ I h=>g8 I hg hm hv ⟨v,H,I,r,h⟩ hn hd
noncomputable def t2I (ta tb:TE) (k:Int->Int->Hp->Prop):St->Hp->Prop:=λσ H=>ta σ H λx H1=>tb σ H1 λy H2=>∃ i j,x=.int i/\y=.int j/\k i j H2
variable {a b:Expr} {ta tb:TE} {pos:Pos}
noncomputable def PC (X:Cx) (op:CmpOp) (a b:Expr) (t:TE):Prop:=
 ∀ (pins:List (Addr × Obj)) (s:Shared) (σ:St) (H:Hp) (Q:VK),Inv X pins σ H s->t σ H Q ->
   wpAny (model X.prog X.w) X.A (eval a X.env) (λv s₁=>wpAny (model X.prog X.w) X.A (eval b X.env) (λu s₂=>wpAny (model X.prog X.w) X.A (compareOp op v u) (EP X pins σ Q) X.xe s₂) X.xe s₁) X.xe s
theorem AO (b:Expr) {op:CmpOp} (h:op ≠ .In) (h2:op ≠ .NotIn):behindInMarks op b=false:=by
 have e1:(op == CmpOp.In)=false:=by cases op <;> first | rfl | exact absurd rfl h
 have e2:(op == CmpOp.NotIn)=false:=by cases op <;> first | rfl | exact absurd rfl h2
 cases b <;> simp [behindInMarks,e1,e2]
noncomputable def Im (p:Int->Int->Bool) (ta tb:TE):TE:=λσ H Q=>t2I ta tb (λi j H2=>Q (.bl (p i j)) H2) σ H
noncomputable abbrev HE:TE->TE->TE:=Im λi j=>decide (i=j)
theorem FN {op:CmpOp} {p:Int->Int->Bool} (ha:PE X a ta) (hb:PE X b tb)
   (rule:∀ (i j:Int) (t u:Tok) (Q:Value->Shared->Prop) (s:Shared),Q (.bool (p i j)) s->wpAny (model X.prog X.w) X.A (compareOp op (.int i t) (.int j u)) Q X.xe s):PC X op a b (Im p ta tb):=by
 intro pins s σ H Q I h
 refine bin ha hb I h λv u s2 x y H2 I2 rx ry q=>?_
 obtain ⟨i,j,rfl,rfl,q⟩:=q
 obtain ⟨t,rfl⟩:=rx
 obtain ⟨t',rfl⟩:=ry
 exact rule i j t t' _ s2 ⟨.bl _,H2,I2,rfl,q⟩
theorem FZ (ha:PE X a ta) (hb:PE X b tb):PC X .Eq a b (HE ta tb):=FN ha hb λ_ _ _ _ _ _ h=>eq_int (by rw [Bool.beq_eq_decide_eq]; exact h)
noncomputable def tB (t:TE):TT:=λσ H Q=>t σ H λx H1=>∃ c,x=.bl c/\Q c H1
theorem GI {op:CmpOp} {t:TE} (h:PC X op a b t) (h1:behindInMarks op b=false:=by first | exact AO _ (by decide) (by decide) | rfl):PT X (.Compare a [op] [b] pos) (tB t):=by
 intro pins s σ H Q I hw
 refine wpAny_isTrue_Compare1 (thn (h pins s σ H _ I hw) λv s1 h1=>thn h1 λu s2 h2=>thn h2 λc s3 ⟨x,H1,I1,r1,q1⟩=>?_) h1
 obtain ⟨d,rfl,q⟩:=q1
 cases r1
 exact wpAny_truthy_bool ⟨H1,I1,q⟩
theorem FG {e:Expr} {t:TE} (h:PE X e t) (he:∀ whole,isTrue e X.env whole=(do let v <- whole; standAt e.pos; holding [v] (truthy v)):=by intro _; rfl):PT X e (tB t):=by
 intro pins s σ H Q I hw
 refine isTrue_plain (thn (h pins s σ H _ I hw) λv s1 ⟨x,H1,I1,r1,q1⟩=>?_) (he _)
 obtain ⟨d,rfl,q⟩:=q1
 cases r1
 exact wpAny_truthy_bool ⟨H1,I1,q⟩
variable {tA tB':TT} {rest:List Expr}
noncomputable def Jw (t u:TT):TT:=λσ H Q=>t σ H λc H1=>if c=true then u σ H1 Q else Q false H1
noncomputable def tOr (t u:TT):TT:=λσ H Q=>t σ H λc H1=>if c=true then Q true H1 else u σ H1 Q
noncomputable def Jq (t:TT):TT:=λσ H Q=>t σ H λc H1=>Q (!c) H1
theorem pw_and1 (ha:PT X a tA):PW X (.BoolOp .And [a] pos) tA:=by
 intro wh pins s σ H Q I h
 refine isTrue_and (thn (ha pins s σ H Q I h) λc s1 e=>?_)
 cases c with
 | true=>exact isTrue_and_nil e
 | false=>exact e
theorem pw_or1 (ha:PT X a tA):PW X (.BoolOp .Or [a] pos) tA:=by
 intro wh pins s σ H Q I h
 refine isTrue_or (thn (ha pins s σ H Q I h) λc s1 e=>?_)
 cases c with
 | false=>exact isTrue_or_nil e
 | true=>exact e
theorem pw_and (ha:PT X a tA) (hb:PW X (.BoolOp .And (b :: rest) pos) tB'):PW X (.BoolOp .And (a :: b :: rest) pos) (Jw tA tB'):=by
 intro wh pins s σ H Q I h
 refine isTrue_and (thn (ha pins s σ H _ I h) λc s1 ⟨H1,I1,q1⟩=>?_)
 cases c with
 | true=>exact hb wh pins s1 σ H1 Q I1 q1
 | false=>exact ⟨H1,I1,q1⟩
theorem pw_or (ha:PT X a tA) (hb:PW X (.BoolOp .Or (b :: rest) pos) tB'):PW X (.BoolOp .Or (a :: b :: rest) pos) (tOr tA tB'):=by
 intro wh pins s σ H Q I h
 refine isTrue_or (thn (ha pins s σ H _ I h) λc s1 ⟨H1,I1,q1⟩=>?_)
 cases c with
 | true=>exact ⟨H1,I1,q1⟩
 | false=>exact hb wh pins s1 σ H1 Q I1 q1
theorem Fq (ha:PT X a tA):PT X (.UnaryOp .Not a pos) (Jq tA):=by
 intro pins s σ H Q I h
 exact isTrue_not (ha pins s σ H (λc H1=>Q (!c) H1) I h)
noncomputable def HK (ta tb:TE):TE:=λσ H Q=>ta σ H λx H1=>∃ c,x=.bl c/\if c=true then tb σ H1 Q else Q (.bl false) H1
noncomputable def Jp (ta tb:TE):TE:=λσ H Q=>ta σ H λx H1=>∃ c,x=.bl c/\if c=true then Q (.bl true) H1 else tb σ H1 Q
noncomputable def IW (ta:TE):TE:=λσ H Q=>ta σ H λx H1=>∃ c,x=.bl c/\Q (.bl (!c)) H1
theorem GH {op} {t:TE} (h:PE X a t):PE X (.BoolOp op [a] pos) t:=λpins s σ H Q I hw=>BoolOp_one (h pins s σ H Q I hw)
theorem G1 (ha:PE X a ta) (hb:PE X (.BoolOp .And (b :: rest) pos) tb):PE X (.BoolOp .And (a :: b :: rest) pos) (HK ta tb):=by
 intro pins s σ H Q I h
 refine BoolOp_and (thn (ha pins s σ H _ I h) λv s1 ⟨x,H1,I1,r1,q1⟩=>?_)
 obtain ⟨c,rfl,q1⟩:=q1
 cases r1
 refine wpAny_truthy_bool ?_
 cases c with
 | true=>exact hb pins s1 σ H1 Q I1 q1
 | false=>exact ⟨.bl false,H1,I1,rfl,q1⟩
theorem HH (ha:PE X a ta) (hb:PE X (.BoolOp .Or (b :: rest) pos) tb):PE X (.BoolOp .Or (a :: b :: rest) pos) (Jp ta tb):=by
 intro pins s σ H Q I h
 refine BoolOp_or (thn (ha pins s σ H _ I h) λv s1 ⟨x,H1,I1,r1,q1⟩=>?_)
 obtain ⟨c,rfl,q1⟩:=q1
 cases r1
 refine wpAny_truthy_bool ?_
 cases c with
 | false=>exact hb pins s1 σ H1 Q I1 q1
 | true=>exact ⟨.bl true,H1,I1,rfl,q1⟩
theorem Gy (ha:PE X a ta):PE X (.UnaryOp .Not a pos) (IW ta):=by
 intro pins s σ H Q I h
 refine UnaryOp_ (thn (ha pins s σ H _ I h) λv s1 ⟨x,H1,I1,r1,q1⟩=>?_)
 obtain ⟨c,rfl,q1⟩:=q1
 cases r1
 exact not_of (wpAny_truthy_bool ⟨.bl (!c),H1,I1,rfl,q1⟩)
noncomputable def tIf (t:TT) (ta tb:TE):TE:=λσ H Q=>t σ H λc H1=>if c=true then ta σ H1 Q else tb σ H1 Q
theorem Bc {c:Expr} (hc:PT X c tA) (ha:PE X a ta) (hb:PE X b tb):PE X (.IfExp c a b pos) (tIf tA ta tb):=by
 intro pins s σ H Q I h
 refine wpAny_IfExp (thn (hc pins s σ H _ I h) λd s1 ⟨H1,I1,q1⟩=>?_)
 cases d with
 | true=>exact ha pins s1 σ H1 Q I1 q1
 | false=>exact hb pins s1 σ H1 Q I1 q1
end
noncomputable def SqL (K:PySem.W.Frag) (H:Hp) (a:Addr) (xs:List V):Prop:=
 Rd H a (.lst xs) \/
   ∃ (o:Obj) (its:Array Value) (n:Nat),K.lookup a=some o/\o.cls=.type "list" /\ o.dict=none/\o.data=.seq its n/\its.size<=sizeLine/\Vals xs its.toList
noncomputable def SqT (K:PySem.W.Frag) (H:Hp) (a:Addr) (xs:List V):Prop:=
 Rd H a (.tup xs) \/
   ∃ (o:Obj) (its:Array Value) (n:Nat),K.lookup a=some o/\o.cls=.type "tuple" /\ o.data=.seq its n/\its.size<=sizeLine/\Vals xs its.toList
noncomputable def Jh:Value->Option V
 | .none=>some .non
 | .bool b=>some (.bl b)
 | .int i _=>some (.int i)
 | .str x _=>some (.str x)
 | .bytes b _=>some (.byt b)
 | .float b _=>some (.flt b)
 | .ref a=>some (.ref a)
 | .type n=>some (.ty n)
 | _=>none
theorem RelV.abs {x:V} {u:Value} (r:RelV x u):Jh u=some x:=by
 cases x with
 | non=>cases r; rfl
 | bl _=>cases r; rfl
 | int _=>obtain ⟨t,rfl⟩:=r; rfl
 | str _=>obtain ⟨t,rfl⟩:=r; rfl
 | byt _=>obtain ⟨t,rfl⟩:=r; rfl
 | flt _=>obtain ⟨t,rfl⟩:=r; rfl
 | ref _=>cases r; rfl
 | ty _=>cases r; rfl
theorem RelV.inj {x y:V} {u:Value} (r:RelV x u) (q:RelV y u):x=y:=Option.some.inj (r.abs.symm.trans q.abs)
theorem Vals.inj:∀ {xs ys:List V} {us:List Value},Vals xs us->Vals ys us->xs=ys
 | _,_,_,.nil,.nil=>rfl
 | _,_,_,.cons r t,.cons r' t'=>by rw [r.inj r',Vals.inj t t']
section
variable {X:Cx} {pins:List (Addr × Obj)} {σ:St} {H:Hp} {s:Shared} {a:Addr} {xs ys:List V}
theorem Inv.list (I:Inv X pins σ H s) (h:SqL X.K H a xs):∃ its:List Value,Vals xs its/\PlainL s.heap a its.toArray/\xs.length<=sizeLine:=by
 rcases h with h | ⟨o,its,n,hk,hc,hd,hs,hz,r⟩
 · obtain ⟨z,its,n,r,e⟩:=h.ok I.hok
   exact ⟨its,r,⟨_,n,e,rfl,rfl,rfl⟩,z⟩
 · refine ⟨its.toList,r,⟨o,n,I.kIn a o hk,hc,hd,by simpa using hs⟩,?_⟩
   have e:=r.length
   simp only [Array.length_toList] at e
   omega
theorem Inv.tuple (I:Inv X pins σ H s) (h:SqT X.K H a xs):∃ its:List Value,Vals xs its/\IsTup s.heap a its.toArray/\xs.length<=sizeLine:=by
 rcases h with h | ⟨o,its,n,hk,hc,hs,hz,r⟩
 · obtain ⟨z,its,r,p⟩:=h.ok I.hok
   exact ⟨its,r,p,z⟩
 · refine ⟨its.toList,r,⟨o,I.kIn a o hk,hc,n,by simpa using hs⟩,?_⟩
   have e:=r.length
   simp only [Array.length_toList] at e
   omega
theorem Inv.kd (I:Inv X pins σ H s) (h:SqL X.K H a xs) (h':SqL X.K H a ys):xs=ys:=by
 obtain ⟨its,r,⟨o,n,e,_,_,d⟩,_⟩:=I.list h
 obtain ⟨its',r',⟨o',n',e',_,_,d'⟩,_⟩:=I.list h'
 rw [e] at e'; cases e'
 rw [d] at d'
 injection d' with d1 _
 have:its=its':=by simpa using congrArg Array.toList d1
 subst this
 exact r.inj r'
theorem Inv.yK (I:Inv X pins σ H s) (h:SqT X.K H a xs) (h':SqT X.K H a ys):xs=ys:=by
 obtain ⟨its,r,⟨o,e,_,n,d⟩,_⟩:=I.tuple h
 obtain ⟨its',r',⟨o',e',_,n',d'⟩,_⟩:=I.tuple h'
 rw [e] at e'; cases e'
 rw [d] at d'
 injection d' with d1 _
 have:its=its':=by simpa using congrArg Array.toList d1
 subst this
 exact r.inj r'
end
noncomputable abbrev Cx.oE (X:Cx) (E:Value->Shared->Prop):Cx:={ X with xe:=E }
noncomputable abbrev Cx.nox (X:Cx):Cx:=X.oE λ_ _=>False
theorem Cx.Ok.oE {X:Cx} (ok:X.Ok) (E:Value->Shared->Prop):(X.oE E).Ok:=
 ⟨ok.mod,ok.kind,ok.glob,ok.blt,ok.above,ok.inj,ok.has,ok.cab,ok.hd,ok.frames,ok.stk,ok.exf,ok.bs,ok.bsz,ok.noex,ok.exfs,ok.oI,ok.frf⟩
theorem Cx.Ok.iG {X:Cx} {E:Value->Shared->Prop} (ok:(X.oE E).Ok):X.Ok:=
 ⟨ok.mod,ok.kind,ok.glob,ok.blt,ok.above,ok.inj,ok.has,ok.cab,ok.hd,ok.frames,ok.stk,ok.exf,ok.bs,ok.bsz,ok.noex,ok.exfs,ok.oI,ok.frf⟩
section
variable {X:Cx} {pins:List (Addr × Obj)} {σ:St} {H:Hp} {s:Shared} {E:Value->Shared->Prop}
theorem Inv.oE (I:Inv X pins σ H s) (E:Value->Shared->Prop):Inv (X.oE E) pins σ H s:=⟨I.ok.oE E,I.os,I.bare,I.base,I.loc,I.cell,I.free,I.freeC,I.pin,I.hok,I.len⟩
theorem Inv.iG (I:Inv (X.oE E) pins σ H s):Inv X pins σ H s:=⟨I.ok.iG,I.os,I.bare,I.base,I.loc,I.cell,I.free,I.freeC,I.pin,I.hok,I.len⟩
theorem SP.iG {D:Ends} {f:Flow} {s':Shared} (h:SP (X.oE E) pins D f s'):SP X pins D f s':=by
 cases f with
 | next=>obtain ⟨σ',H',I,q⟩:=h; exact ⟨σ',H',I.iG,q⟩
 | brk=>obtain ⟨σ',H',I,q⟩:=h; exact ⟨σ',H',I.iG,q⟩
 | cont=>obtain ⟨σ',H',I,q⟩:=h; exact ⟨σ',H',I.iG,q⟩
 | ret u=>obtain ⟨v,σ',H',I,r,q⟩:=h; exact ⟨v,σ',H',I.iG,r,q⟩
theorem PSs.nox {st:List Stmt} {t:TS} (h:PSs X.nox st t):PSs X st t:=λpins s σ H D I hw=>
 wpAny_mono (h pins s σ H D (I.oE _) hw) (λ_ _ q=>q.iG) λ_ _ z=>False.elim z
end
section
variable {X:Cx} {st:Stmt} {rest:List Stmt} {t u:TS} {e:Expr} {te:TE} {pos:Pos}
noncomputable def Io:TS:=λD σ H=>D.nx σ H
noncomputable def ui (t u:TS):TS:=λD σ H=>t { D with nx:=u D } σ H
theorem D5:PSs X [] Io:=λ_ _ σ H _ I h=>wpAny_execs_nil ⟨σ,H,I,h⟩
theorem eR (h1:PS X st t) (h2:PSs X rest u):PSs X (st :: rest) (ui t u):=by
 intro pins s σ H D I h
 refine wpAny_execs_cons (thn (h1 pins s σ H { D with nx:=u D } I h) λf s1 q=>?_)
 cases f with
 | next=>
   obtain ⟨σ',H',I',q⟩:=q
   exact h2 pins s1 σ' H' D I' q
 | ret v=>exact q
 | brk=>exact q
 | cont=>exact q
theorem jB (h1:PS X st t):PSs X [st] t:=by
 intro pins s σ H D I h
 refine wpAny_execs_cons (thn (h1 pins s σ H D I h) λf s1 q=>?_)
 cases f with
 | next=>exact wpAny_execs_nil q
 | ret v=>exact q
 | brk=>exact q
 | cont=>exact q
theorem Inv.quiet {pins:List (Addr × Obj)} {σ:St} {H:Hp} {s:Shared} (I:Inv X pins σ H s):interactive X.env=false:=by simp [interactive,I.ok.kind]
noncomputable def BC (te:TE):TS:=λD σ H=>te σ H λ_ H1=>D.nx σ H1
theorem k7 (he:PE X e te) (hs:swapsWith e none pos.line X.env=pure false:=by rfl):PS X (.Expr e pos) (BC te):=by
 intro pins s σ H D I h
 exact wpAny_Expr_any (thn (he pins s σ H _ I h) λv s1 ⟨x,H1,I1,r1,q1⟩=>⟨σ,H1,I1,q1⟩) I.quiet hs
noncomputable def IE (te:TE):TS:=λD σ H=>te σ H D.rt
theorem AY (he:PE X e te):PS X (.Return (some e) pos) (IE te):=by
 intro pins s σ H D I h
 exact wpAny_Return_some (thn (he pins s σ H _ I h) λv s1 ⟨x,H1,I1,r1,q1⟩=>⟨x,σ,H1,I1,r1,q1⟩)
noncomputable def IP (c:TT) (t u:TS):TS:=λD σ H=>c σ H λb H1=>if b=true then t D σ H1 else u D σ H1
theorem EE {c:Expr} {a b:List Stmt} {tc:TT} (hc:PT X c tc) (ha:PSs X a t) (hb:PSs X b u):PS X (.If c a b pos) (IP tc t u):=by
 intro pins s σ H D I h
 refine wpAny_If (thn (hc pins s σ H _ I h) λd s1 ⟨H1,I1,q1⟩=>?_)
 cases d with
 | true=>exact ha pins s1 σ H1 D I1 q1
 | false=>exact hb pins s1 σ H1 D I1 q1
noncomputable def FA:TS:=λ_ _ _=>False
theorem Ah:PS X st FA:=λ_ _ _ _ _ _ h=>h.elim
end
noncomputable abbrev TG:=V->St->Hp->(St->Hp->Prop)->Prop
noncomputable abbrev TGs:=List V->St->Hp->(St->Hp->Prop)->Prop
noncomputable def PG (X:Cx) (target:Expr) (t:TG):Prop:=
 ∀ (pins:List (Addr × Obj)) (s:Shared) (σ:St) (H:Hp) (v:V) (u:Value) (Q:St->Hp->Prop),Inv X pins σ H s->RelV v u->t v σ H Q ->
   wpAny (model X.prog X.w) X.A (assign target X.env u) (λ_ s'=>∃ σ' H',Inv X pins σ' H' s'/\Q σ' H') X.xe s
noncomputable def PGs (X:Cx) (ts:List Expr) (t:TGs):Prop:=
 ∀ (pins:List (Addr × Obj)) (s:Shared) (σ:St) (H:Hp) (vs:List V) (us:List Value) (Q:St->Hp->Prop),Inv X pins σ H s->Vals vs us->t vs σ H Q ->
   wpAny (model X.prog X.w) X.A (assignInOrder ((assignEach ts X.env).map (·.2)) us) (λ_ s'=>∃ σ' H',Inv X pins σ' H' s'/\Q σ' H') X.xe s
noncomputable abbrev Fd:=V->V->V->Hp->(Hp->Prop)->Prop
noncomputable def Gv (X:Cx) (t:Fd):Prop:=
 ∀ (pins:List (Addr × Obj)) (s:Shared) (σ:St) (H:Hp) (o i v:V) (ov iv u:Value) (Q:Hp->Prop),Inv X pins σ H s->RelV o ov->RelV i iv->RelV v u->t o i v H Q ->
   wpAny (model X.prog X.w) X.A (setItem ov iv u) (λ_ s'=>∃ H',Inv X pins σ H' s'/\Q H') X.xe s
section
variable {X:Cx} {pos:Pos}
noncomputable def gG (i:Nat):TG:=λv σ H Q=>Q (σ.set i (some v)) H
theorem kP {i:Nat} {x:Str} (hN:X.N.Nodup) (hi:X.N[i]?=some x) (hx:Loc X.env.scope x) (hf:X.fn x=true\/X.env.scope.names.lookup x=some .local:=by first | exact .inl rfl | exact .inr rfl | assumption):PG X (.Name x pos) (gG i):=by
 intro pins s σ H v u Q I r h
 exact wpAny_assign_Name (uX I hN hi hx r (λs' I'=>⟨_,H,I',h⟩) hf)
noncomputable def Jj:TGs:=λvs σ H Q=>vs=[]/\Q σ H
noncomputable def Iq (t:TG) (u:TGs):TGs:=λvs σ H Q=>∃ v r,vs=v :: r/\t v σ H λσ' H'=>u r σ' H' Q
theorem EA:PGs X [] Jj:=by
 intro pins s σ H vs us Q I r h
 obtain ⟨e,h⟩:=h
 subst e
 cases r
 exact assignInOrder_nil ⟨σ,H,I,h⟩
theorem Ba {e:Expr} {es:List Expr} {t:TG} {u:TGs} (h1:PG X e t) (h2:PGs X es u)
   (hs:(assignEach (e :: es) X.env).map (·.2)=assign e X.env :: (assignEach es X.env).map (·.2):=by rfl):PGs X (e :: es) (Iq t u):=by
 intro pins s σ H vs us Q I r h
 obtain ⟨v,vr,e1,h⟩:=h
 subst e1
 cases r with
 | cons r rr=>
   rw [hs]
   refine assignInOrder_cons (thn (h1 pins s σ H _ _ _ I r h) λ_ s1 ⟨σ1,H1,I1,q1⟩=>?_)
   exact h2 pins s1 σ1 H1 _ _ Q I1 rr q1
noncomputable def JD (K:PySem.W.Frag) (n:Nat) (t:TGs):TG:=λv σ H Q=>∃ a xs,v=.ref a/\SqT K H a xs/\xs.length=n/\t xs σ H Q
theorem GZ {es:List Expr} {k:Nat} {t:TGs} {n:Nat} (hc:X.calm=true) (h:PGs X es t)
   (hn:(assignEach es X.env).length=n:=by rfl) (hst:(assignEach es X.env).findIdx? (·.1)=none:=by rfl):PG X (.Tuple es k pos) (JD X.K n t):=by
 intro pins s σ H v u Q I r hw
 obtain ⟨a,xs,e1,hq,hl,hw⟩:=hw
 subst e1
 cases r
 obtain ⟨its,rv,ht,hz⟩:=I.tuple hq
 refine assign_Tuple_tuple (I.ok.hd hc) ht (by simp [hn,<- hl,rv.length]) hst λh' hx=>?_
 have I1:Inv X pins σ H { s with heap:=h' }:=I.kept (t':=s.toks) λb o e=>hx b o (Nat.ne_of_lt (Heap.lt_size e)) e
 exact h pins _ σ H xs _ Q I1 (by simpa using rv) hw
noncomputable def Jr (to ti:TE) (t:Fd):TG:=λv σ H Q=>to σ H λo H1=>ti σ H1 λi H2=>t o i v H2 λH3=>Q σ H3
theorem FY {o i:Expr} {to ti:TE} {t:Fd} (ho:PE X o to) (hi:PE X i ti) (hs:Gv X t)
   (ha:∀ v,assign (.Subscript o i pos) X.env v=(do
     let ov <- holding [v] (eval o X.env)
     let iv <- holding [v,ov] (eval i X.env)
     standAt pos
     holding [v,ov,iv] (setItem ov iv v)
     release [v,ov,iv] []):=by intro _; rfl):PG X (.Subscript o i pos) (Jr to ti t):=by
 intro pins s σ H v u Q I r h
 rw [ha]
 refine wpAny_bind (wpAny_holding (thn (ho pins s σ H _ I h) λov s1 ⟨x,H1,I1,r1,q1⟩=>?_))
 refine wpAny_bind (wpAny_holding (thn (hi pins s1 σ H1 _ I1 q1) λiv s2 ⟨y,H2,I2,r2,q2⟩=>?_))
 refine wpAny_bind (wpAny_standAt (wpAny_bind (wpAny_holding (thn (hs pins s2 σ H2 x y v ov iv u _ I2 r1 r2 r q2) λ_ s3 ⟨H3,I3,q3⟩=>?_))))
 exact wpAny_release ⟨σ,H3,I3,q3⟩
noncomputable def n9 (te:TE) (g:TG):TS:=λD σ H=>te σ H λx H1=>g x σ H1 D.nx
theorem Bp {tg e:Expr} {te:TE} {g:TG} (he:PE X e te) (hg:PG X tg g) (hs:swapsWithSole [tg] e pos.line X.env=pure false:=by rfl) (hw:swappedStores [tg] e X.env=pure none:=by rfl)
   (h1:(assignEach [tg] X.env).map (·.2)=[assign tg X.env]:=by rfl):PS X (.Assign [tg] e pos) (n9 te g):=by
 intro pins s σ H D I h
 refine wpAny_Assign_stores (thn (he pins s σ H _ I h) λv s1 ⟨x,H1,I1,r1,q1⟩=>?_) hs hw
 rw [h1]
 exact thn (hg pins s1 σ H1 x v _ I1 r1 q1) λ_ s2 q=>q
theorem j8 {i:Nat} {x:Str} {e:Expr} {te:TE} {pos':Pos} (hN:X.N.Nodup) (hi:X.N[i]?=some x) (hx:Loc X.env.scope x) (he:PE X e te) (hs:swapsWith e (some (.Name x pos')) pos.line X.env=pure false:=by rfl) (hf:X.fn x=true\/X.env.scope.names.lookup x=some .local:=by first | exact .inl rfl | exact .inr rfl | assumption) :
   PS X (.Assign [.Name x pos'] e pos) (n9 te (gG i)):=by
 intro pins s σ H D I h
 refine wpAny_Assign_Name (thn (he pins s σ H _ I h) λv s1 ⟨y,H1,I1,r1,q1⟩=>?_) hs
 exact uX I1 hN hi hx r1 (λs2 I2=>⟨_,H1,I2,q1⟩) hf
end
section
variable {X:Cx} {pos:Pos}
noncomputable def Ft (c:TT) (tb:TS):TS:=λD σ H=>∃ W:Nat->St->Hp->Prop,(∃ m,W m σ H)/\∀ m σ H,W m σ H ->
 c σ H λb H1=>if b=true then ∃ N:St->Hp->Prop,(∀ σ' H',N σ' H'->∃ m',m' < m/\W m' σ' H')/\tb { D with nx:=N,ct:=N,bk:=D.nx } σ H1 else D.nx σ H1
theorem Ar {c:Expr} {body:List Stmt} {tc:TT} {tb:TS} (hp:PassesOwn (model X.prog X.w) X.A X.env X.xe) (hc:PT X c tc) (hb:PSs X body tb):PS X (.While c body [] pos) (Ft tc tb):=by
 intro pins s σ H D I h
 obtain ⟨W,⟨m0,w0⟩,turn⟩:=h
 refine wpAny_While (codeAny_whileLoop (λn s'=>∃ σ' H',Inv X pins σ' H' s'/\W n σ' H') ?_ m0 ⟨σ,H,I,w0⟩)
 rintro n s1 ⟨σ1,H1,I1,w1⟩
 refine wpAny_passesOwn hp (thn (hc pins s1 σ1 H1 _ I1 (turn n σ1 H1 w1)) λb s2 ⟨H2,I2,q2⟩=>?_)
 cases b with
 | true=>
   obtain ⟨N,hN,q2⟩:=q2
   rw [if_pos rfl]
   refine wpAny_passesOwn hp (thn (hb pins s2 σ1 H2 _ I2 q2) λf s3 q3=>?_)
   cases f with
   | next=>
     obtain ⟨σ3,H3,I3,n3⟩:=q3
     obtain ⟨m',hm,w3⟩:=hN σ3 H3 n3
     exact ⟨m',hm,σ3,H3,I3,w3⟩
   | cont=>
     obtain ⟨σ3,H3,I3,n3⟩:=q3
     obtain ⟨m',hm,w3⟩:=hN σ3 H3 n3
     exact ⟨m',hm,σ3,H3,I3,w3⟩
   | brk=>exact q3
   | ret v=>exact q3
 | false=>
   rw [if_neg Bool.false_ne_true]
   exact wpAny_execs_nil ⟨σ1,H2,I2,q2⟩
end
structure It where
 go:Nat->Hp->Prop
 yld:Nat->Hp->V->Hp->Prop
 stop:Nat->Hp->Prop
noncomputable def pS (X:Cx) (pins:List (Addr × Obj)) (H:Hp) (b:Addr):Prop:=
 H b=none/\b ≠ X.env.locals/\b ∉ X.fs/\(b ∈ X.ex\/X.s₀.heap.objs.size<=b)/\(∀ x c,X.env.cells.lookup x=some c->c ≠ b)/\∀ p ∈ X.pn++pins,p.1 ≠ b
theorem Inv.sj {X:Cx} {pins:List (Addr × Obj)} {σ:St} {H H':Hp} {s:Shared} {b:Addr} (I:Inv X pins σ H s) (hb:s.heap.objs.size<=b) (hn:H' b=none):pS X pins H' b:=by
 refine ⟨hn,Nat.ne_of_gt (Nat.lt_of_lt_of_le I.lt hb),I.JG hb,.inr (Nat.le_trans I.sz hb),λx c e z=>?_,λp hp z=>?_⟩
 · obtain ⟨v,q⟩:=I.cell x c e
   exact absurd (Nat.lt_of_lt_of_le q.lt (by rw [z]; exact hb)) (Nat.lt_irrefl _)
 · exact absurd (Nat.lt_of_lt_of_le (Heap.lt_size (I.pin p hp).1) (by rw [z]; exact hb)) (Nat.lt_irrefl _)
structure Turn (P:Program) (w:World) (K:PySem.W.Frag) (tg:Expr) (J:It) (fp:List Addr) (it:Addr) (tn:Nat->Heap->Prop):Prop where
 mem:it ∈ fp
 obj:∀ i h,tn i h->∀ b ∈ fp,∃ o,h.get? b=some o/\∀ v,o.data ≠ .cell v
 keep:∀ i h h',tn i h->(∀ b ∈ fp,∀ o,h.get? b=some o->h'.get? b=some o)->tn i h'
 item:∀ (X:Cx),X.prog=P->X.w=w->X.K=K->X.calm=true->∀ (i:Nat) (pins:List (Addr × Obj)) (s:Shared) (σ:St) (H:Hp) (E:Value->Shared->Prop),Inv X pins σ H s->(∀ b ∈ fp,pS X pins H b)->tn i s.heap->J.go i H ->
   wpAny (model P w) X.A (pyNext (.ref it)) (λr s1=>∃ u,r=some u /\
     wpAny (model P w) X.A (letOwnedTupleGo tg (.ref it) u) (λ_ s2=>∃ x H',Inv X pins σ H' s2/\RelV x u/\J.yld i H x H'/\tn (i + 1) s2.heap/\∀ b ∈ fp,H' b=none) E s1) E s
 done:∀ (X:Cx),X.prog=P->X.w=w->X.K=K->X.calm=true->∀ (i:Nat) (pins:List (Addr × Obj)) (s:Shared) (σ:St) (H:Hp) (E:Value->Shared->Prop),Inv X pins σ H s->(∀ b ∈ fp,pS X pins H b)->tn i s.heap->J.stop i H ->
   wpAny (model P w) X.A (pyNext (.ref it)) (λr s1=>r=none/\Inv X pins σ H s1) E s
 self:∀ (A:Around) (i:Nat) (s:Shared) (Q:Value->Shared->Prop) (E:Value->Shared->Prop),tn i s.heap->Q (.ref it) s->wpAny (model P w) A (pyIter (.ref it)) Q E s
noncomputable abbrev TI:=St->Hp->(It->Hp->Prop)->Prop
noncomputable def PIE (X:Cx) (pins:List (Addr × Obj)) (σ:St) (tg:Expr) (R:It->Hp->Prop) (itv:Value) (s2:Shared):Prop:=
 ∃ (it:Addr) (fp:List Addr) (tn:Nat->Heap->Prop) (J:It) (H':Hp),itv=.ref it/\Inv X pins σ H' s2/\Turn X.prog X.w X.K tg J fp it tn/\tn 0 s2.heap/\(∀ b ∈ fp,pS X pins H' b)/\R J H'
noncomputable def PI (X:Cx) (tg iter:Expr) (wi:TI):Prop:=
 ∀ (pins:List (Addr × Obj)) (s:Shared) (σ:St) (H:Hp) (R:It->Hp->Prop),Inv X pins σ H s->wi σ H R ->
   wpAny (model X.prog X.w) X.A (eval iter X.env) (λv s1=>wpAny (model X.prog X.w) X.A (pyIter v) (PIE X pins σ tg R) X.xe s1) X.xe s
theorem tV {M:Model} {A:Around} {E:Value->Shared->Prop} {s:Shared} {tg:Expr} {it:Addr} {u:Value} {o:Obj} {n:String} {vs:Array Value} {Q:Unit->Shared->Prop} (ho:s.heap.get? it=some o) (hc:o.cls=.type n) (hd:o.data=.fields vs)
   (hn:["enumerate","zip","dict_itemiterator","dict_reverseitemiterator","odict_iterator","itertools.zip_longest","itertools.pairwise"].contains n=false) (hQ:Q () s):wpAny M A (letOwnedTupleGo tg (.ref it) u) Q E s:=by
 unfold letOwnedTupleGo
 cases tg <;> first
   | exact wpAny_pure hQ
   | (cases u <;> first
       | exact wpAny_pure hQ
       | (refine wpAny_bind (wpAny_load ho ?_)
          rw [hc,hd]
          show wpAny M A (if (["enumerate","zip","dict_itemiterator","dict_reverseitemiterator","odict_iterator","itertools.zip_longest","itertools.pairwise"].contains n && vs[0]? == some (rawInt _))=true then _ else _) Q E s
          rw [if_neg (by intro h; rw [hn,Bool.false_and] at h; cases h)]
          exact wpAny_pure hQ))
noncomputable def Itl (K:PySem.W.Frag) (a:Addr):It:=
 ⟨λi H=>∃ xs x,SqL K H a xs/\xs[i]?=some x,λi H x H'=>H'=H/\∀ xs,SqL K H a xs->xs[i]?=some x,λi H=>∃ xs,SqL K H a xs/\xs.length<=i⟩
noncomputable def Itt (K:PySem.W.Frag) (a:Addr):It:=
 ⟨λi H=>∃ xs x,SqT K H a xs/\xs[i]?=some x,λi H x H'=>H'=H/\∀ xs,SqT K H a xs->xs[i]?=some x,λi H=>∃ xs,SqT K H a xs/\xs.length<=i⟩
noncomputable def Itr (lo:Int) (n:Nat):It:=⟨λi _=>i < n,λi H x H'=>H'=H/\x=.int (lo + i),λi _=>n<=i⟩
theorem yH {P:Program} {w:World} {K:PySem.W.Frag} {tg:Expr} (a it:Addr):Turn P w K tg (Itl K a) [it] it (λi h=>h.IsListIter it a i) where
 mem:=by simp
 obj:=λi h st b hb=>by
   have e:b=it:=by simpa using hb
   subst e
   obtain ⟨o,e,c,d⟩:=st
   exact ⟨o,e,λv z=>by rw [d] at z; cases z⟩
 keep:=λi h h' st k=>st.at λo e=>k it (by simp) o e
 item:=by
   intro X hP hw hK hc i pins s σ H E I hf st hg
   subst hP hw hK
   obtain ⟨xs,x,hq,hx⟩:=hg
   obtain ⟨its,rv,p,hz⟩:=I.list hq
   obtain ⟨u,hu,ru⟩:=rv.get hx
   obtain ⟨f0,f1,f2,f3,f4,f5⟩:=hf it (by simp)
   refine wpAny_pyNext_list_item st p.isList (x:=u) (by simpa using hu) λh' st' sb=>?_
   have I1:Inv X pins σ H { s with heap:=h' }:=I.turned (t':=s.toks) (λb o hb e=>(sb.2 b hb).trans e) f0 f1 f3 f4 f5
   obtain ⟨o,e,c,d⟩:=id st'
   exact ⟨u,rfl,tV (s:={ s with heap:=h' }) e c d (by decide) ⟨x,H,I1,ru,⟨rfl,λys hy=>by rw [I.kd hy hq]; exact hx⟩,st',λb hb=>(hf b hb).1⟩⟩
 done:=by
   intro X hP hw hK hc i pins s σ H E I hf st hg
   subst hP hw hK
   obtain ⟨xs,hq,hx⟩:=hg
   obtain ⟨its,rv,p,hz⟩:=I.list hq
   obtain ⟨f0,f1,f2,f3,f4,f5⟩:=hf it (by simp)
   have hl:=rv.length
   exact wpAny_pyNext_list_end (I.ok.hd hc) st p.isList (by simp; omega) λh' eb=>⟨rfl,I.turned (t':=s.toks) (λb o hb e=>eb b o hb e) f0 f1 f3 f4 f5⟩
 self:=λ_ _ _ _ _ st h=>wpAny_pyIter_listiter st h
theorem vT {P:Program} {w:World} {K:PySem.W.Frag} {tg:Expr} (a it:Addr):Turn P w K tg (Itt K a) [it] it (λi h=>h.IsTupleIter it a i) where
 mem:=by simp
 obj:=λi h st b hb=>by
   have e:b=it:=by simpa using hb
   subst e
   obtain ⟨o,e,c,d⟩:=st
   exact ⟨o,e,λv z=>by rw [d] at z; cases z⟩
 keep:=λi h h' st k=>st.at λo e=>k it (by simp) o e
 item:=by
   intro X hP hw hK hc i pins s σ H E I hf st hg
   subst hP hw hK
   obtain ⟨xs,x,hq,hx⟩:=hg
   obtain ⟨its,rv,p,hz⟩:=I.tuple hq
   obtain ⟨u,hu,ru⟩:=rv.get hx
   obtain ⟨f0,f1,f2,f3,f4,f5⟩:=hf it (by simp)
   refine wpAny_pyNext_tuple_item st (show s.heap.IsTuple a its.toArray from p) (x:=u) (by simpa using hu) λh' st' sb=>?_
   have I1:Inv X pins σ H { s with heap:=h' }:=I.turned (t':=s.toks) (λb o hb e=>(sb.2 b hb).trans e) f0 f1 f3 f4 f5
   obtain ⟨o,e,c,d⟩:=id st'
   exact ⟨u,rfl,tV (s:={ s with heap:=h' }) e c d (by decide) ⟨x,H,I1,ru,⟨rfl,λys hy=>by rw [I.yK hy hq]; exact hx⟩,st',λb hb=>(hf b hb).1⟩⟩
 done:=by
   intro X hP hw hK hc i pins s σ H E I hf st hg
   subst hP hw hK
   obtain ⟨xs,hq,hx⟩:=hg
   obtain ⟨its,rv,p,hz⟩:=I.tuple hq
   obtain ⟨f0,f1,f2,f3,f4,f5⟩:=hf it (by simp)
   have hl:=rv.length
   exact wpAny_pyNext_tuple_end (I.ok.hd hc) st (show s.heap.IsTuple a its.toArray from p) (by simp; omega) λh' eb=>⟨rfl,I.turned (t':=s.toks) (λb o hb e=>eb b o hb e) f0 f1 f3 f4 f5⟩
 self:=λ_ _ _ _ _ st h=>wpAny_pyIter_tupleiter st h
theorem vW {P:Program} {w:World} {K:PySem.W.Frag} {tg:Expr} (it:Addr) (lo:Int) (n:Nat):Turn P w K tg (Itr lo n) [it] it (λi h=>IsRangeIter h it (lo + (i:Nat) * 1) ((n:Int) - (i:Nat)) 1) where
 mem:=by simp
 obj:=λi h st b hb=>by
   have e:b=it:=by simpa using hb
   subst e
   exact ⟨_,st,λv z=>by
     have z':Data.fields _=Data.cell v:=z
     cases z'⟩
 keep:=λi h h' st k=>k it (by simp) _ st
 item:=by
   intro X hP hw hK hc i pins s σ H E I hf st hg
   subst hP hw hK
   obtain ⟨f0,f1,f2,f3,f4,f5⟩:=hf it (by simp)
   have W:=Walks.range (prog:=X.prog) (w:=X.w) (I.ok.hd hc) it lo 1 n
   refine W.item i s _ _ hg st λv h' tk hv st' kk=>?_
   obtain ⟨t,rfl⟩:=hv
   have I1:Inv X pins σ H { s with heap:=h',toks:=tk }:=I.turned (λb o hb e=>kk b o (by simpa using hb) e) f0 f1 f3 f4 f5
   refine ⟨_,rfl,tV (s:={ s with heap:=h',toks:=tk }) (n:="range_iterator") st' rfl rfl (by decide) ⟨.int (lo + i),H,I1,⟨t,?_⟩,⟨rfl,rfl⟩,st',λb hb=>(hf b hb).1⟩⟩
   rw [Int.mul_one]
 done:=by
   intro X hP hw hK hc i pins s σ H E I hf st hg
   subst hP hw hK
   obtain ⟨f0,f1,f2,f3,f4,f5⟩:=hf it (by simp)
   exact wpAny_pyNext_range_end (I.ok.hd hc) st (by have:n<=i:=hg; omega) λh' eb=>⟨rfl,I.turned (t':=s.toks) (λb o hb e=>eb b o hb e) f0 f1 f3 f4 f5⟩
 self:=λ_ _ _ _ _ st h=>wpAny_pyIter_rangeiter st h
section
variable {X:Cx} {tg:Expr}
noncomputable def EH (K:PySem.W.Frag) (tl:TE):TI:=λσ H R=>tl σ H λx H1=>∃ a,x=.ref a/\(∃ xs,SqL K H1 a xs)/\R (Itl K a) H1
noncomputable def Ju (K:PySem.W.Frag) (tl:TE):TI:=λσ H R=>tl σ H λx H1=>∃ a,x=.ref a/\(∃ xs,SqT K H1 a xs)/\R (Itt K a) H1
theorem xw {l:Expr} {tl:TE} (hl:PE X l tl):PI X tg l (EH X.K tl):=by
 intro pins s σ H R I h
 refine thn (hl pins s σ H _ I h) λv s1 ⟨x,H1,I1,r1,q1⟩=>?_
 obtain ⟨a,e,⟨xs,hq⟩,q⟩:=q1
 subst e
 cases r1
 obtain ⟨its,rv,p,hz⟩:=I1.list hq
 refine wpAny_pyIter_list p.isList ?_
 refine ⟨s1.heap.objs.size,[s1.heap.objs.size],_,_,H1,rfl,I1.kept (t':=s1.toks) λb o e=>Heap.get?_push_of_some _ e,yH a _,⟨_,Heap.get?_push_size _ rfl,rfl,rfl⟩,λb hb=>?_,q⟩
 have e:b=s1.heap.objs.size:=by simpa using hb
 subst e
 exact I1.sj (Nat.le_refl _) (I1.hok.fresh (Nat.le_refl _))
theorem F4 {l:Expr} {tl:TE} (hl:PE X l tl):PI X tg l (Ju X.K tl):=by
 intro pins s σ H R I h
 refine thn (hl pins s σ H _ I h) λv s1 ⟨x,H1,I1,r1,q1⟩=>?_
 obtain ⟨a,e,⟨xs,hq⟩,q⟩:=q1
 subst e
 cases r1
 obtain ⟨its,rv,p,hz⟩:=I1.tuple hq
 refine wpAny_pyIter_tuple (show s1.heap.IsTuple a its.toArray from p) ?_
 refine ⟨s1.heap.objs.size,[s1.heap.objs.size],_,_,H1,rfl,I1.kept (t':=s1.toks) λb o e=>Heap.get?_push_of_some _ e,vT a _,⟨_,Heap.get?_push_size _ rfl,rfl,rfl⟩,λb hb=>?_,q⟩
 have e:b=s1.heap.objs.size:=by simpa using hb
 subst e
 exact I1.sj (Nat.le_refl _) (I1.hok.fresh (Nat.le_refl _))
theorem uj {pins:List (Addr × Obj)} {σ:St} {H:Hp} {s:Shared} {R:It->Hp->Prop} {E:Value->Shared->Prop} {lo hi:Int} {t u v:Tok} {tk:Nat} (I:Inv X pins σ H s) (h1:-(2 ^ 62)<=lo) (h2:lo < 2 ^ 62) (h3:-(2 ^ 62)<=hi) (h4:hi < 2 ^ 62)
   (q:R (Itr lo (hi - lo).toNat) H):wpAny (model X.prog X.w) X.A (pyIter (.ref s.heap.objs.size)) (PIE X pins σ tg R) E { s with heap:=s.heap.push { cls:=.type "range",data:=.fields #[.int lo t,.int hi u,.int 1 v] },toks:=tk }:=by
 refine wpAny_pyIter_range (IsRange.new ..) (small_one h1 h2 h3 h4) ?_
 have I1:Inv X pins σ H { s with heap:=s.heap.push { cls:=.type "range",data:=.fields #[.int lo t,.int hi u,.int 1 v] },toks:=tk }:=I.kept λb o e=>Heap.get?_push_of_some _ e
 refine ⟨(s.heap.push { cls:=.type "range",data:=.fields #[.int lo t,.int hi u,.int 1 v] }).objs.size,[(s.heap.push { cls:=.type "range",data:=.fields #[.int lo t,.int hi u,.int 1 v] }).objs.size],_,_,H,rfl,
   I1.kept (t':=tk) λb o e=>Heap.get?_push_of_some _ e,vW _ lo (hi - lo).toNat,?_,λb hb=>?_,q⟩
 · have e1:lo + ((0:Nat):Int) * 1=lo:=by simp
   have e2:(((hi - lo).toNat:Nat):Int) - ((0:Nat):Int)=Builtin.Range.rangeSize lo hi 1:=by rw [rangeSize_one]; split <;> omega
   show IsRangeIter _ _ (lo + ((0:Nat):Int) * 1) ((((hi - lo).toNat:Nat):Int) - ((0:Nat):Int)) 1
   rw [e1,e2]
   exact Heap.get?_push_size _ rfl
 · have e:b=(s.heap.push { cls:=.type "range",data:=.fields #[.int lo t,.int hi u,.int 1 v] }).objs.size:=by simpa using hb
   subst e
   exact I1.sj (Nat.le_refl _) (I1.hok.fresh (Nat.le_refl _))
noncomputable def IX (ta:TA):TI:=λσ H R=>ta σ H λvs H1=>∃ j:Int,vs=[.int j]/\-(2 ^ 62)<=j/\j < 2 ^ 62/\R (Itr 0 j.toNat) H1
noncomputable def HZ (ta:TA):TI:=λσ H R=>ta σ H λvs H1=>∃ i j:Int,vs=[.int i,.int j]/\(-(2 ^ 62)<=i/\i < 2 ^ 62/\-(2 ^ 62)<=j/\j < 2 ^ 62)/\R (Itr i (j - i).toNat) H1
theorem yY {a:Expr} {ta:TA} {p pos:Pos} (hg:Gl X "range") (hm:X.mg "range" = none) (ha:PA X [a] ta) (hs:starEach [a] X.env=[(false,eval a X.env)]:=by rfl):PI X tg (.Call (.Name "range" p) [a] [] pos) (IX ta):=by
 intro pins s σ H R I h
 refine Call_ (g8 I hg hm boot_range (PyProof.Rows.callWith_type1 (thn (ha pos pins s σ H _ I h) λus s1 ⟨vs,H1,I1,r1,q1⟩=>?_) hs rfl))
 obtain ⟨j,e,q1,q2,q⟩:=q1
 subst e
 cases r1 with
 | cons r rr=>
   cases rr
   obtain ⟨t,rfl⟩:=r
   exact call_range_1 (uj I1 (by omega) (by omega) q1 q2 (by simpa using q))
theorem yQ {a b:Expr} {ta:TA} {p pos:Pos} (hg:Gl X "range") (hm:X.mg "range" = none) (ha:PA X [a,b] ta) (hs:starEach [a,b] X.env=[(false,eval a X.env),(false,eval b X.env)]:=by rfl) (hs2:starEach [b] X.env=[(false,eval b X.env)]:=by rfl) :
   PI X tg (.Call (.Name "range" p) [a,b] [] pos) (HZ ta):=by
 intro pins s σ H R I h
 refine Call_ (g8 I hg hm boot_range (PyProof.Rows.callWith_type1 (thn (ha pos pins s σ H _ I h) λus s1 ⟨vs,H1,I1,r1,q1⟩=>?_) (by rw [hs,hs2]) (by rw [hs2]; rfl)))
 obtain ⟨i,j,e,⟨q1,q2,q3,q4⟩,q⟩:=q1
 subst e
 cases r1 with
 | cons r rr=>
   cases rr with
   | cons r' rr=>
     cases rr
     obtain ⟨t,rfl⟩:=r
     obtain ⟨t',rfl⟩:=r'
     exact call_range_2 (uj I1 q1 q2 q3 q4 q)
noncomputable def A0 (wi:TI) (g:TG) (tb:TS):TS:=λD σ H=>wi σ H λJ H1=>∃ W:Nat->Nat->St->Hp->Prop,(∃ m,W 0 m σ H1)/\∀ i m σ H,W i m σ H ->
 (J.stop i H/\D.nx σ H)\/(J.go i H/\∃ N:St->Hp->Prop,(∀ σ' H',N σ' H'->∃ m',m' < m/\W (i + 1) m' σ' H')/\∀ x H',J.yld i H x H'->g x σ H' λσ2 H2=>tb { D with nx:=N,ct:=N,bk:=D.nx } σ2 H2)
noncomputable def j4 (fp:List Addr) (h:Heap):List (Addr × Obj):=fp.filterMap λb=>(h.get? b).map λo=>(b,o)
theorem dC {fp:List Addr} {h:Heap} {b:Addr} {o:Obj} (hb:b ∈ fp) (e:h.get? b=some o):(b,o) ∈ j4 fp h:=List.mem_filterMap.mpr ⟨b,hb,by rw [e]; rfl⟩
theorem zm {fp:List Addr} {h:Heap} {p:Addr × Obj} (hp:p ∈ j4 fp h):p.1 ∈ fp/\h.get? p.1=some p.2:=by
 obtain ⟨b,hb,e⟩:=List.mem_filterMap.mp hp
 cases q:h.get? b with
 | none=>rw [q] at e; cases e
 | some o=>
   rw [q] at e
   have e':(b,o)=p:=Option.some.inj e
   subst e'
   exact ⟨hb,q⟩
theorem Inv.pinned {pins:List (Addr × Obj)} {σ:St} {H:Hp} {s:Shared} {fp:List Addr} (I:Inv X pins σ H s) (hf:∀ b ∈ fp,pS X pins H b) (ho:∀ b ∈ fp,∃ o,s.heap.get? b=some o/\∀ v,o.data ≠ .cell v):Inv X (pins++j4 fp s.heap) σ H s:=
 I.w8 λp hp=>(List.mem_append.mp hp).elim (λz=>I.pin p (List.mem_append_right _ z)) λz=>by
   obtain ⟨hb,e⟩:=zm z
   obtain ⟨f0,f1,f2,_⟩:=hf p.1 hb
   obtain ⟨o,e',d⟩:=ho p.1 hb
   rw [e] at e'; cases e'
   exact ⟨e,f0,f1,f2,d⟩
theorem Inv.gO {pins pl:List (Addr × Obj)} {σ:St} {H:Hp} {s:Shared} (I:Inv X (pins++pl) σ H s):Inv X pins σ H s:=I.w8 λp hp=>I.pin p (List.mem_append_right _ (List.mem_append_left _ hp))
theorem rQ {iter:Expr} {body:List Stmt} {wi:TI} {g:TG} {tb:TS} {pos:Pos} (hp:PassesOwn (model X.prog X.w) X.A X.env X.xe) (hc:X.calm=true) (hi:PI X tg iter wi) (hg:PG X tg g) (hb:PSs X body tb)
   (hs:∀ x,foldedSetIterable iter X.env x=pure x:=by intro _; rfl):PS X (.For tg iter body [] pos) (A0 wi g tb):=by
 intro pins s σ H D I h
 refine wpAny_For (thn (hi pins s σ H _ I h) λv s1 h1=>thn h1 λitv s2 h2=>?_) hs
 obtain ⟨it,fp,tn,J,H2,e,I2,T,st2,f2,W,⟨m0,w0⟩,turn⟩:=h2
 subst e
 have stat:∀ {H':Hp},(∀ b ∈ fp,H' b=none)->∀ b ∈ fp,pS X pins H' b:=λhn b hb=>⟨hn b hb,(f2 b hb).2⟩
 refine codeAny_forLoop_any (λn s'=>∃ i σ' H',Inv X pins σ' H' s'/\tn i s'.heap/\(∀ b ∈ fp,H' b=none)/\W i n σ' H') ?_ m0 ⟨0,σ,H2,I2,st2,λb hb=>(f2 b hb).1,w0⟩
 rintro n s3 ⟨i,σ3,H3,I3,st3,fr3,w3⟩
 rcases turn i n σ3 H3 w3 with ⟨stop,qn⟩ | ⟨go,N,hN,step⟩
 · refine wpAny_passesOwn hp (thn (T.done X rfl rfl rfl hc i pins s3 σ3 H3 X.xe I3 (stat fr3) st3 stop) λr s4 ⟨hr,I4⟩=>?_)
   subst hr
   exact wpAny_execs_nil ⟨σ3,H3,I4,qn⟩
 · refine wpAny_passesOwn hp (thn (T.item X rfl rfl rfl hc i pins s3 σ3 H3 X.xe I3 (stat fr3) st3 go) λr s4 ⟨u,hr,h4⟩=>?_)
   subst hr
   refine wpAny_passesOwn hp (thn h4 λ_ s5 ⟨x,H5,I5,r5,y5,st5,fr5⟩=>?_)
   have I5':=I5.pinned (stat fr5) (T.obj _ _ st5)
   refine wpAny_passesOwn hp (thn (hg _ s5 σ3 H5 x u _ I5' r5 (step x H5 y5)) λ_ s6 ⟨σ6,H6,I6,q6⟩=>?_)
   refine wpAny_passesOwn hp (thn (hb _ s6 σ6 H6 _ I6 q6) λf s7 q7=>?_)
   have again:∀ {σ7:St} {H7:Hp},Inv X (pins++j4 fp s5.heap) σ7 H7 s7->N σ7 H7->∃ m,m < n/\∃ i σ' H',Inv X pins σ' H' s7/\tn i s7.heap/\(∀ b ∈ fp,H' b=none)/\W i m σ' H':=λ{σ7 H7} I7 n7=>by
     obtain ⟨m',hm,w7⟩:=hN σ7 H7 n7
     refine ⟨m',hm,i + 1,σ7,H7,I7.gO,T.keep _ _ _ st5 λb hb o e=>(I7.pin (b,o) (List.mem_append_right _ (List.mem_append_right _ (dC hb e)))).1,λb hb=>?_,w7⟩
     obtain ⟨o,e,d⟩:=T.obj _ _ st5 b hb
     exact (I7.pin (b,o) (List.mem_append_right _ (List.mem_append_right _ (dC hb e)))).2.1
   cases f with
   | next=>obtain ⟨σ7,H7,I7,n7⟩:=q7; exact again I7 n7
   | cont=>obtain ⟨σ7,H7,I7,n7⟩:=q7; exact again I7 n7
   | brk=>obtain ⟨σ7,H7,I7,q7⟩:=q7; exact ⟨σ7,H7,I7.gO,q7⟩
   | ret v=>obtain ⟨x7,σ7,H7,I7,r7,q7⟩:=q7; exact ⟨x7,σ7,H7,I7.gO,r7,q7⟩
end
theorem AM {K:PySem.W.Frag} {a:Addr} {xs:List V} {g:TG} {tb:TS} {D:Ends} {σ:St} {H:Hp} (Pv:Nat->St->Hp->Prop) (h0:Pv 0 σ H) (hl:∀ i σ H,i<=xs.length->Pv i σ H->SqL K H a xs)
   (hs:∀ i x σ H,xs[i]?=some x->Pv i σ H->g x σ H λσ2 H2=>tb { D with nx:=Pv (i + 1),ct:=Pv (i + 1),bk:=D.nx } σ2 H2) (hd:∀ σ H,Pv xs.length σ H->D.nx σ H) :
   ∃ W:Nat->Nat->St->Hp->Prop,(∃ m,W 0 m σ H)/\∀ i m σ H,W i m σ H ->
     ((Itl K a).stop i H/\D.nx σ H)\/((Itl K a).go i H/\∃ N:St->Hp->Prop,(∀ σ' H',N σ' H'->∃ m',m' < m/\W (i + 1) m' σ' H')/\∀ x H',(Itl K a).yld i H x H'->g x σ H' λσ2 H2=>tb { D with nx:=N,ct:=N,bk:=D.nx } σ2 H2):=by
 refine ⟨λi m σ H=>m=xs.length - i/\i<=xs.length/\Pv i σ H,⟨xs.length,by simp,Nat.zero_le _,h0⟩,?_⟩
 rintro i m σ H ⟨rfl,hi,p⟩
 have q:=hl i σ H hi p
 by_cases hlt:i < xs.length
 · refine .inr ⟨⟨xs,xs[i],q,by simp [hlt]⟩,Pv (i + 1),λσ' H' p'=>⟨xs.length - (i + 1),by omega,rfl,hlt,p'⟩,λx H' y=>?_⟩
   obtain ⟨e,y⟩:=y
   subst e
   exact hs i x σ _ (y xs q) p
 · have e:i=xs.length:=by omega
   subst e
   exact .inl ⟨⟨xs,q,Nat.le_refl _⟩,hd σ H p⟩
noncomputable abbrev R2:=V->V->Hp->VK->Prop
noncomputable def OpR (X:Cx) (f:Value->Value->Sem Value) (r:R2):Prop:=
 ∀ (pins:List (Addr × Obj)) (s:Shared) (σ:St) (H:Hp) (x y:V) (v u:Value) (Q:VK),Inv X pins σ H s->RelV x v->RelV y u->r x y H Q ->
   wpAny (model X.prog X.w) X.A (f v u) (EP X pins σ Q) X.xe s
noncomputable def UnR (X:Cx) (f:Value->Sem Value) (r:V->Hp->VK->Prop):Prop:=
 ∀ (pins:List (Addr × Obj)) (s:Shared) (σ:St) (H:Hp) (x:V) (v:Value) (Q:VK),Inv X pins σ H s->RelV x v->r x H Q ->
   wpAny (model X.prog X.w) X.A (f v) (EP X pins σ Q) X.xe s
noncomputable def eY (X:Cx) (f:Value) (r:List V->Hp->VK->Prop):Prop:=
 ∀ (pins:List (Addr × Obj)) (s:Shared) (σ:St) (H:Hp) (xs:List V) (us:List Value) (Q:VK),Inv X pins σ H s->Vals xs us->r xs H Q ->
   wpAny (model X.prog X.w) X.A (call f us) (EP X pins σ Q) X.xe s
noncomputable def tOp (r:R2) (ta tb:TE):TE:=λσ H Q=>ta σ H λx H1=>tb σ H1 λy H2=>r x y H2 Q
noncomputable def tUn (r:V->Hp->VK->Prop) (ta:TE):TE:=λσ H Q=>ta σ H λx H1=>r x H1 Q
noncomputable def rI (C:Int->Int->Prop) (g:Int->Int->V):R2:=λx y H Q=>∃ i j,x=.int i/\y=.int j/\C i j/\Q (g i j) H
noncomputable def rI0 (g:Int->Int->V):R2:=λx y H Q=>∃ i j,x=.int i/\y=.int j/\Q (g i j) H
noncomputable def rU (g:Int->V):V->Hp->VK->Prop:=λx H Q=>∃ i,x=.int i/\Q (g i) H
section
variable {X:Cx} {a b c:Expr} {ta tb tc:TE} {pos:Pos}
theorem Gz (ha:PE X a ta) (hb:PE X b tb) {pins:List (Addr × Obj)} {s:Shared} {σ:St} {H:Hp} {R:V->V->Hp->Prop} (I:Inv X pins σ H s)
   (h:ta σ H λx H1=>tb σ H1 λy H2=>R x y H2) {Q:Value->Shared->Prop} {f:Value->Value->Sem Value}
   (hf:∀ v u s2 x y H2,Inv X pins σ H2 s2->RelV x v->RelV y u->R x y H2->wpAny (model X.prog X.w) X.A (f v u) Q X.xe s2) :
   wpAny (model X.prog X.w) X.A (eval a X.env) (λv s₁=>wpAny (model X.prog X.w) X.A (eval b X.env) (λu s₂=>wpAny (model X.prog X.w) X.A (f v u) Q X.xe s₂) X.xe s₁) X.xe s:=by
 refine thn (ha pins s σ H _ I h) λv s1 ⟨x,H1,I1,r1,q1⟩=>?_
 refine thn (hb pins s1 σ H1 _ I1 q1) λu s2 ⟨y,H2,I2,r2,q2⟩=>?_
 exact hf v u s2 x y H2 I2 r1 r2 q2
theorem fW {op:Operator} {r:R2} (ho:OpR X (binaryOp op) r) (ha:PE X a ta) (hb:PE X b tb):PE X (.BinOp a op b pos) (tOp r ta tb):=by
 intro pins s σ H Q I h
 exact wpAny_BinOp (Gz ha hb I h λv u s2 x y H2 I2 rx ry q=>ho pins s2 σ H2 x y v u Q I2 rx ry q)
theorem IL {op:UnaryOp} {r:V->Hp->VK->Prop} (ho:UnR X (unaryOp op) r) (ha:PE X a ta):PE X (.UnaryOp op a pos) (tUn r ta):=by
 intro pins s σ H Q I h
 exact UnaryOp_ (thn (ha pins s σ H _ I h) λv s1 ⟨x,H1,I1,r1,q1⟩=>ho pins s1 σ H1 x v Q I1 r1 q1)
theorem opI {f:Value->Value->Sem Value} {C:Int->Int->Prop} {g:Int->Int->Int}
   (rule:∀ (i j:Int) (t u:Tok) (s:Shared) (Q:Value->Shared->Prop) (E:Value->Shared->Prop),C i j->Q (.int (g i j) s.toks) { s with toks:=s.toks + 1 }->wpAny (model X.prog X.w) X.A (f (.int i t) (.int j u)) Q E s) :
   OpR X f (rI C λi j=>.int (g i j)):=by
 intro pins s σ H x y v u Q I rx ry h
 obtain ⟨i,j,rfl,rfl,hc,q⟩:=h
 obtain ⟨t,rfl⟩:=rx
 obtain ⟨t',rfl⟩:=ry
 exact rule i j t t' s _ _ hc ⟨.int (g i j),H,I.tok _,⟨_,rfl⟩,q⟩
theorem Jl {f:Value->Value->Sem Value} {g:Int->Int->Int}
   (rule:∀ (i j:Int) (t u:Tok) (s:Shared) (Q:Value->Shared->Prop) (E:Value->Shared->Prop),Q (.int (g i j) s.toks) { s with toks:=s.toks + 1 }->wpAny (model X.prog X.w) X.A (f (.int i t) (.int j u)) Q E s) :
   OpR X f (rI0 λi j=>.int (g i j)):=by
 intro pins s σ H x y v u Q I rx ry h
 obtain ⟨i,j,rfl,rfl,q⟩:=h
 obtain ⟨t,rfl⟩:=rx
 obtain ⟨t',rfl⟩:=ry
 exact rule i j t t' s _ _ ⟨.int (g i j),H,I.tok _,⟨_,rfl⟩,q⟩
theorem Dw {f:Value->Value->Sem Value} {g:Int->Int->Bool}
   (rule:∀ (i j:Int) (t u:Tok) (s:Shared) (Q:Value->Shared->Prop) (E:Value->Shared->Prop),Q (.bool (g i j)) s->wpAny (model X.prog X.w) X.A (f (.int i t) (.int j u)) Q E s) :
   OpR X f (rI0 λi j=>.bl (g i j)):=by
 intro pins s σ H x y v u Q I rx ry h
 obtain ⟨i,j,rfl,rfl,q⟩:=h
 obtain ⟨t,rfl⟩:=rx
 obtain ⟨t',rfl⟩:=ry
 exact rule i j t t' s _ _ ⟨.bl (g i j),H,I,rfl,q⟩
noncomputable def DF (i j:Int):Prop:=0<=j/\j<=1000000/\i.natAbs < 2 ^ 64
theorem wg (k:Nat):(0:Int)<=2 ^ k:=by
 rw [two_pow_cast]
 exact Int.natCast_nonneg _
theorem xo:OpR X (binaryOp .Mod) (rI (λ_ j=>j ≠ 0) λi j=>.int (i.fmod j)):=opI λ_ _ _ _ _ _ _ hc q=>mod_int' hc q
theorem Gi:OpR X (binaryOp .Pow) (rI DF λi j=>.int (i ^ j.toNat)):=opI λ_ _ _ _ _ _ _ hc q=>pow_int_small hc.1 hc.2.1 hc.2.2 q
theorem Az:OpR X (binaryOp .LShift) (rI DF λi j=>.int (i * 2 ^ j.toNat)):=opI λ_ _ _ _ _ _ _ hc q=>lshift_int_small hc.1 hc.2.1 hc.2.2 q
theorem Fm:OpR X (binaryOp .RShift) (rI (λ_ j=>0<=j) λi j=>.int (i / 2 ^ j.toNat)):=opI λi j _ _ _ _ _ hc q=>
 rshift_int hc (by rw [Int.fdiv_eq_ediv_of_nonneg i (wg _)]; exact q)
theorem IY:OpR X (binaryOp .BitOr) (rI0 λi j=>.int (Builtin.bitOr i j)):=Jl λ_ _ _ _ _ _ _ q=>or_int q
theorem unI {f:Value->Sem Value} {g:Int->Int}
   (rule:∀ (i:Int) (t:Tok) (s:Shared) (Q:Value->Shared->Prop) (E:Value->Shared->Prop),Q (.int (g i) s.toks) { s with toks:=s.toks + 1 }->wpAny (model X.prog X.w) X.A (f (.int i t)) Q E s) :
   UnR X f (rU λi=>.int (g i)):=by
 intro pins s σ H x v Q I rx h
 obtain ⟨i,rfl,q⟩:=h
 obtain ⟨t,rfl⟩:=rx
 exact rule i t s _ _ ⟨.int (g i),H,I.tok _,⟨_,rfl⟩,q⟩
theorem Gw:UnR X (unaryOp .USub) (rU λi=>.int (-i)):=unI λ_ _ _ _ _ q=>neg_int q
end
section
variable {X:Cx} {a b c:Expr} {ta tb tc:TE} {pos:Pos}
theorem BA {pins:List (Addr × Obj)} {σ:St} {H:Hp} {s:Shared} {Q:VK} {k k':Bool} (I:Inv X pins σ H s) (q:Q (.bl k) H) (e:k=k'):EP X pins σ Q (.bool k') s:=by
 subst e
 exact ⟨.bl k,H,I,rfl,q⟩
theorem Ij:OpR X (compareOp .Lt) (rI0 λi j=>.bl (decide (i < j))):=Dw λ_ _ _ _ _ _ _ q=>lt_int q
theorem Hz:OpR X (compareOp .LtE) (rI0 λi j=>.bl (decide (i<=j))):=Dw λ_ _ _ _ _ _ _ q=>le_int q
theorem Hm:OpR X (compareOp .Gt) (rI0 λi j=>.bl (decide (j < i))):=Dw λ_ _ _ _ _ _ _ q=>gt_int q
theorem II:OpR X (compareOp .GtE) (rI0 λi j=>.bl (decide (j<=i))):=Dw λ_ _ _ _ _ _ _ q=>ge_int q
theorem Gs:OpR X (compareOp .Is) (λx y H Q=>y=.non/\Q (.bl (decide (x=.non))) H):=by
 intro pins s σ H x y v u Q I rx ry h
 obtain ⟨rfl,q⟩:=h
 cases ry
 refine is_none_gen (BA I q ?_)
 cases x <;> first
   | (cases rx; rfl)
   | (obtain ⟨t,rfl⟩:=rx; rfl)
theorem DA:OpR X (compareOp .IsNot) (λx y H Q=>y=.non/\Q (.bl (!decide (x=.non))) H):=by
 intro pins s σ H x y v u Q I rx ry h
 obtain ⟨rfl,q⟩:=h
 cases ry
 refine isnot_none_gen (BA I q ?_)
 cases x <;> first
   | (cases rx; rfl)
   | (obtain ⟨t,rfl⟩:=rx; rfl)
theorem yf {op:CmpOp} {r:R2} (ho:OpR X (compareOp op) r) (ha:PE X a ta) (hb:PE X b tb) (hm:behindInMarks op b=false):PE X (.Compare a [op] [b] pos) (tOp r ta tb):=by
 intro pins s σ H Q I h
 exact wpAny_Compare1 (Gz ha hb I h λv u s2 x y H2 I2 rx ry q=>ho pins s2 σ H2 x y v u Q I2 rx ry q) hm
noncomputable def EY (t:TE):TT:=λσ H Q=>t σ H λx H'=>∃ k,x=.bl k/\Q k H'
theorem xR {op:CmpOp} {r:R2} (ho:OpR X (compareOp op) r) (ha:PE X a ta) (hb:PE X b tb) (hm:behindInMarks op b=false):PT X (.Compare a [op] [b] pos) (EY (tOp r ta tb)):=by
 intro pins s σ H Q I h
 refine wpAny_isTrue_Compare1 (thn (ha pins s σ H _ I h) λv s1 ⟨x,H1,I1,r1,q1⟩=>thn (hb pins s1 σ H1 _ I1 q1) λu s2 ⟨y,H2,I2,r2,q2⟩=>
   thn (ho pins s2 σ H2 x y v u _ I2 r1 r2 q2) λc s3 ⟨z,H3,I3,r3,k,e,q3⟩=>?_) hm
 subst e
 cases r3
 exact wpAny_truthy_bool ⟨H3,I3,q3⟩
noncomputable def vD (r r':R2) (ta tb tc:TE):TE:=λσ H Q=>ta σ H λx H1=>tb σ H1 λy H2=>r x y H2 λz H3=>∃ k,z=.bl k /\
 (if k=true then tc σ H3 λw' H4=>r' y w' H4 Q else Q (.bl false) H3)
theorem Cg {op op':CmpOp} {r r':R2} (ho:OpR X (compareOp op) r) (ho':OpR X (compareOp op') r') (ha:PE X a ta) (hb:PE X b tb) (hc:PE X c tc)
   (hm:lastMarks [op,op'] [b,c]=false:=by with_unfolding_all rfl):PE X (.Compare a [op,op'] [b,c] pos) (vD r r' ta tb tc):=by
 intro pins s σ H Q I h
 refine Compare_chain (thn (ha pins s σ H _ I h) λv s1 ⟨x,H1,I1,r1,q1⟩=>chain_link (thn (hb pins s1 σ H1 _ I1 q1) λu s2 ⟨y,H2,I2,r2,q2⟩=>
   thn (ho pins s2 σ H2 x y v u _ I2 r1 r2 q2) λd s3 ⟨z,H3,I3,r3,k,e,q3⟩=>?_)) hm
 subst e
 cases r3
 refine wpAny_truthy_bool ?_
 cases k with
 | false=>exact ite_ff ⟨.bl false,H3,I3,rfl,q3⟩
 | true=>exact ite_tt (chain_last (thn (hc pins s3 σ H3 _ I3 q3) λw' s4 ⟨z',H4,I4,r4,q4⟩=>ho' pins s4 σ H4 y z' u w' Q I4 r2 r4 q4))
theorem BW {op op':CmpOp} {r r':R2} (ho:OpR X (compareOp op) r) (ho':OpR X (compareOp op') r') (ha:PE X a ta) (hb:PE X b tb) (hc:PE X c tc)
   (hm:lastMarks [op,op'] [b,c]=false:=by with_unfolding_all rfl):PT X (.Compare a [op,op'] [b,c] pos) (EY (vD r r' ta tb tc)):=by
 intro pins s σ H Q I h
 refine isTrue_chain (thn (ha pins s σ H _ I h) λv s1 ⟨x,H1,I1,r1,q1⟩=>test_link (thn (hb pins s1 σ H1 _ I1 q1) λu s2 ⟨y,H2,I2,r2,q2⟩=>
   thn (ho pins s2 σ H2 x y v u _ I2 r1 r2 q2) λd s3 ⟨z,H3,I3,r3,k,e,q3⟩=>?_)) hm
 subst e
 cases r3
 refine wpAny_truthy_bool ?_
 cases k with
 | false=>
   obtain ⟨k',e',q'⟩:=q3
   cases e'
   exact ite_ff ⟨H3,I3,q'⟩
 | true=>
   refine ite_tt (test_last (thn (hc pins s3 σ H3 _ I3 q3) λw' s4 ⟨z',H4,I4,r4,q4⟩=>thn (ho' pins s4 σ H4 y z' u w' _ I4 r2 r4 q4) λd' s5 ⟨z2,H5,I5,r5,k2,e2,q5⟩=>?_))
   subst e2
   cases r5
   exact wpAny_truthy_bool ⟨H5,I5,q5⟩
theorem rA:(sizeLine:Nat) < 2 ^ 63:=by rw [sizeLine_eq]; decide
theorem vals1 {x:V} {us:List Value} (r:Vals [x] us):∃ u,us=[u]/\RelV x u:=by
 cases r with
 | cons r1 r2=>cases r2; exact ⟨_,rfl,r1⟩
theorem vals2 {x y:V} {us:List Value} (r:Vals [x,y] us):∃ u w',us=[u,w']/\RelV x u/\RelV y w':=by
 cases r with
 | cons r1 r2=>
   cases r2 with
   | cons r3 r4=>cases r4; exact ⟨_,_,rfl,r1,r3⟩
theorem Ad:eY X (.builtin "abs") (λxs H Q=>∃ i,xs=[.int i]/\Q (.int (if i < 0 then -i else i)) H):=by
 intro pins s σ H xs us Q I r h
 obtain ⟨i,rfl,q⟩:=h
 obtain ⟨u,rfl,t,rfl⟩:=vals1 r
 exact call_abs_int λu tk=>⟨.int (if i < 0 then -i else i),H,I.tok _,⟨_,rfl⟩,q⟩
theorem yq (hc:X.calm=true):eY X (.builtin "max") (λxs H Q=>∃ i j,xs=[.int i,.int j]/\Q (.int (if j > i then j else i)) H):=by
 intro pins s σ H xs us Q I r h
 obtain ⟨i,j,rfl,q⟩:=h
 obtain ⟨u,w',rfl,⟨t,rfl⟩,⟨t',rfl⟩⟩:=vals2 r
 refine max_two_ints (I.ok.hd hc) λh' tk k=>⟨_,H,I.kept k,?_,q⟩
 by_cases hj:j > i
 · rw [if_pos hj,if_pos hj]; exact ⟨_,rfl⟩
 · rw [if_neg hj,if_neg hj]; exact ⟨_,rfl⟩
theorem zf (hc:X.calm=true):eY X (.builtin "min") (λxs H Q=>∃ i j,xs=[.int i,.int j]/\Q (.int (if j < i then j else i)) H):=by
 intro pins s σ H xs us Q I r h
 obtain ⟨i,j,rfl,q⟩:=h
 obtain ⟨u,w',rfl,⟨t,rfl⟩,⟨t',rfl⟩⟩:=vals2 r
 refine min_two_ints (I.ok.hd hc) λh' tk k=>⟨_,H,I.kept k,?_,q⟩
 by_cases hj:j < i
 · rw [if_pos hj,if_pos hj]; exact ⟨_,rfl⟩
 · rw [if_neg hj,if_neg hj]; exact ⟨_,rfl⟩
theorem pX:eY X (.type "int") (λxs H Q=>(∃ i,xs=[.int i]/\Q (.int i) H)\/∃ k,xs=[.bl k]/\Q (.int (if k then 1 else 0)) H):=by
 intro pins s σ H xs us Q I r h
 rcases h with ⟨i,rfl,q⟩ | ⟨k,rfl,q⟩
 · obtain ⟨u,rfl,t,rfl⟩:=vals1 r
   exact call_int_int ⟨.int i,H,I,⟨_,rfl⟩,q⟩
 · obtain ⟨u,rfl,r1⟩:=vals1 r
   cases r1
   exact call_int_bool ⟨.int (if k then 1 else 0),H,I.tok _,⟨_,rfl⟩,q⟩
end
section
variable {prog:Program} {w:World} {A:Around} {E:Value->Shared->Prop} {s:Shared} {K:PySem.W.Frag} {x dx C f:Addr} {mA:Str->Option Value} {name:Str} {v:Value}
end
theorem uy.some_of {v:V} {o:Option Value} (r:uy (some v) o):∃ u,o=some u/\RelV v u:=by
 cases o with
 | none=>exact (show False from r).elim
 | some u=>exact ⟨u,rfl,r⟩
section
variable {P:Program} {w:World} {H H':Hp} {h h':Heap} {a C dx:Addr} {fs fs':List (Str × V)}
end
section
variable {X:Cx} {pins:List (Addr × Obj)} {σ:St} {H:Hp} {s:Shared} {a C dx:Addr} {fs:List (Str × V)} {f:Str} {v:V} {A:Around} {E:Value->Shared->Prop}
end
section
variable {X:Cx} {o e value:Expr} {f:Str} {pos pos' tpos:Pos} {ta tv:TE}
end
section
variable {X:Cx} {pins:List (Addr × Obj)} {σ:St} {H:Hp} {s:Shared} {A:Around} {E:Value->Shared->Prop} {Q:Value->Shared->Prop} {c:Value} {b:Bool}
end
structure gX (k:Nat) (A:Around):Prop where
 hd:A.handled=none
 dp:A.depth + 3 * k + 5 < recursionLimit
 un:A.units + 16 * k + 200 < cLine
theorem gX.mono {j k:Nat} {A:Around} (r:gX k A) (h:j<=k):gX j A:=⟨r.hd,by have:=r.dp; omega,by have:=r.un; omega⟩
theorem gX.deeper {k:Nat} {A:Around} (r:gX (k + 1) A) (env:Env):gX k (A.deeper env):=
 ⟨r.hd,by have:=r.dp; show A.depth + 1 + 3 * k + 5 < _; omega,by have:=r.un; show A.units + 3 + 16 * k + 200 < _; omega⟩
theorem gX.depth {k:Nat} {A:Around} (r:gX k A):A.depth < recursionLimit:=by have:=r.dp; omega
theorem gX.units {k:Nat} {A:Around} (r:gX k A):A.units + 64 < cLine:=by have:=r.un; omega
noncomputable def Dz:TA:=λ_ H Q=>Q [] H
noncomputable def wX (ta:TE) (tr:TA):TA:=λσ H Q=>ta σ H λx H1=>tr σ H1 λxs H2=>Q (x :: xs) H2
section
variable {X:Cx} {e:Expr} {es:List Expr} {te:TE} {t:TA} {pos:Pos}
theorem fD:PA X [] Dz:=λ_ _ _ _ H Q I h=>Calls.spliced_nil ⟨[],H,I,.nil,h⟩
theorem bU (ha:PE X e te) (hr:PA X es t) (hs:starEach (e :: es) X.env=(false,eval e X.env) :: starEach es X.env:=by rfl):PA X (e :: es) (wX te t):=by
 intro pos pins s σ H Q I h
 rw [hs]
 show wpAny _ _ (spliced ((false,eval e X.env) :: backTo pos (starEach es X.env))) _ _ s
 refine Calls.spliced_cons (thn (ha pins s σ H _ I h) λu s1 ⟨x,H1,I1,r1,q1⟩=>?_)
 exact thn (hr pos pins s1 σ H1 _ I1 q1) λus s2 ⟨xs,H2,I2,r2,q2⟩=>⟨x :: xs,H2,I2,.cons r1 r2,q2⟩
noncomputable def JC (t:TA):TE:=λσ H Q=>t σ H λxs H1=>xs.length<=sizeLine/\∀ p,H1 p=none->Q (.ref p) (upd H1 p (.tup xs))
noncomputable def JO (t:TA):TE:=λσ H Q=>t σ H λxs H1=>xs.length<=sizeLine/\∀ p,H1 p=none->Q (.ref p) (upd H1 p (.lst xs))
theorem GG {x1} (h:PA X es t):PE X (.Tuple es x1 pos) (JC t):=by
 intro pins s σ H Q I hq
 refine wpAny_Tuple_spliced (thn (h pos pins s σ H _ I hq) λus s1 ⟨xs,H1,I1,r,z,q⟩=>⟨by rw [<- r.length]; exact z,?_⟩)
 have hf:H1 s1.heap.objs.size=none:=I1.hok.fresh (Nat.le_refl _)
 refine ⟨.ref s1.heap.objs.size,upd H1 s1.heap.objs.size (.tup xs),I1.laid (t':=s1.toks) (λb u e=>Heap.get?_push_of_some _ e) (Nat.le_refl _) ?_,rfl,q _ hf⟩
 exact ⟨z,us,r,⟨_,Heap.get?_push_size _ rfl,rfl,_,rfl⟩⟩
theorem Fp (h:PA X es t):PE X (.List es pos) (JO t):=by
 intro pins s σ H Q I hq
 refine wpAny_List_spliced (thn (h pos pins s σ H _ I hq) λus s1 ⟨xs,H1,I1,r,z,q⟩=>⟨by rw [<- r.length]; exact z,?_⟩)
 have hf:H1 s1.heap.objs.size=none:=I1.hok.fresh (Nat.le_refl _)
 refine ⟨.ref s1.heap.objs.size,upd H1 s1.heap.objs.size (.lst xs),I1.laid (t':=s1.toks) (λb u e=>Heap.get?_push_of_some _ e) (Nat.le_refl _) ?_,rfl,q _ hf⟩
 exact ⟨z,us,0,r,Heap.get?_push_size _ rfl⟩
end
noncomputable abbrev Sp:=List V->Hp->VK->XK->Prop
noncomputable abbrev CXT:=List Env->Hp->Shared->XK->Value->Shared->Prop
structure CJ (P:Program) (w:World) (K:PySem.W.Frag) (mg:Str->Option Value) (base:Heap) (A:Around) (outer:List Env) (s:Shared) (H:Hp):Prop where
 frames:A.frames=some outer
 mod:Mod K mg base
 bs:∀ b o,base.get? b=some o->s.heap.get? b=some o/\H b=none
 bsz:base.objs.size<=s.heap.objs.size
 oI:s.heap.FunFrames base outer
 frf:∀ b ∈ frs outer,H b=none
 hok:HOk P w H s.heap
 bare:AllBare s.gens
noncomputable def CE (outer:List Env) (P:Program) (w:World) (H:Hp) (s:Shared) (Q:VK) (u:Value) (s':Shared):Prop:=
 ∃ v H',s'.os=s.os/\AllBare s'.gens/\Un (frs outer) [] H H' s.heap s'.heap/\HOk P w H' s'.heap/\RelV v u/\Q v H'
noncomputable def CR (CX:CXT) (outer:List Env) (P:Program) (w:World) (H:Hp) (s:Shared) (Q:VK) (E:XK) (r:Result) (s':Shared):Prop:=
 match r with
 | .ok (.ret u)=>CE outer P w H s Q u s'
 | .ok _=>False
 | .error e=>CX outer H s E e s'
structure i9 (P:Program) (w:World) (K:PySem.W.Frag) (mg:Str->Option Value) (base:Heap) (CX:CXT) (k:Nat) (f:Addr) (fd:FuncData) (ps:List Str) (sp:Sp):Prop where
 len:∀ vs H Q E,sp vs H Q E->vs.length=ps.length
 run:∀ (A:Around) (outer:List Env) (s:Shared) (H:Hp) (args:Args) (us:List Value) (vs:List V) (Q:VK) (E:XK),gX k A->CJ P w K mg base A outer s H->BindsTo s fd args (ps.zip us)->Vals vs us->sp vs H Q E ->
   codeAny (model P w) A (.call (.ref f) args) (CR CX outer P w H s Q E) s
theorem i9.mono {P:Program} {w:World} {K:PySem.W.Frag} {mg:Str->Option Value} {base:Heap} {CX:CXT} {j k:Nat} {f:Addr} {fd:FuncData} {ps:List Str} {sp:Sp} (F:i9 P w K mg base CX j f fd ps sp) (h:j<=k) :
   i9 P w K mg base CX k f fd ps sp:=⟨F.len,λA outer s H args us vs Q E hr=>F.run A outer s H args us vs Q E (hr.mono h)⟩
section
variable {X:Cx} {pins:List (Addr × Obj)} {σ:St} {H:Hp} {s s':Shared}
theorem Inv.JF (I:Inv X pins σ H s):CJ X.prog X.w X.K X.mg X.base X.A X.stack s H:=
 ⟨I.ok.frames,I.ok.mod,I.bs,Nat.le_trans I.ok.bsz I.sz,I.stack,I.xj,I.hok,I.bare⟩
theorem Inv.after {Q:VK} {u:Value} (I:Inv X pins σ H s) (h:CE X.stack X.prog X.w H s Q u s'):EP X pins σ Q u s':=by
 obtain ⟨v,H',os,bare,un,hok,r,q⟩:=h
 obtain ⟨hh,g,d,t,os'⟩:=s'
 obtain rfl:os'=s.os:=os
 exact ⟨v,H',I.call (h':=hh) (g':=g) (d':=d) (t':=t) (ch:=[]) un hok bare (λb z=>absurd z (by simp)),r,q⟩
end
noncomputable def HW (sp:Sp) (dvs:List V) (E:XK) (t:TA):TE:=λσ H Q=>t σ H λvs H1=>sp (vs++dvs) H1 Q E
noncomputable def Binds (K:PySem.W.Frag) (fd:FuncData) (ps:List Str) (ds:List Value):Prop:=
 ∀ (s:Shared) (us:List Value),K.In s.heap->(us++ds).length=ps.length->BindsTo s fd ⟨us,[]⟩ (ps.zip (us++ds))
theorem Binds.all {K:PySem.W.Frag} {fd:FuncData} {ps:List Str} (h:∀ us:List Value,us.length=ps.length->bindArgs fd ⟨us,[]⟩=pure (ps.zip us)):Binds K fd ps []:=λs us _ hl=>by
 rw [List.append_nil] at hl ⊢
 exact .of_eq (h us hl)
noncomputable def Passes (CX:CXT) (X:Cx) (E:XK):Prop:=∀ (pins:List (Addr × Obj)) (σ:St) (H:Hp) (s:Shared) (e:Value) (s':Shared),Inv X pins σ H s->CX X.stack H s E e s'->X.xe e s'
section
variable {X:Cx} {CX:CXT} {k:Nat} {f C:Addr} {fd:FuncData} {ps:List Str} {sp:Sp} {dvs:List V} {ds:List Value} {E:XK} {x m:Str} {p pos apos:Pos} {e o:Expr} {es:List Expr} {ta:TE} {t:TA}
theorem GU {pins:List (Addr × Obj)} {σ:St} {H:Hp} {s:Shared} {Q:VK} {us:List Value} {vs:List V} (F:i9 X.prog X.w X.K X.mg X.base CX k f fd ps sp) (hr:gX k X.A) (hb:Binds X.K fd ps ds) (hd:Vals dvs ds) (hx:Passes CX X E)
   (I:Inv X pins σ H s) (r:Vals vs us) (h:sp (vs++dvs) H Q E):wpAny (model X.prog X.w) X.A (call (.ref f) us) (EP X pins σ Q) X.xe s:=by
 have r2:Vals (vs++dvs) (us++ds):=r.append hd
 have hl:(us++ds).length=ps.length:=by rw [<- r2.length]; exact F.len _ _ _ _ h
 refine wpAny_call (codeAny_mono (F.run X.A X.stack s H ⟨us,[]⟩ (us++ds) (vs++dvs) Q E hr I.JF (hb s us I.kIn hl) r2 h) λr s' hq=>?_)
 cases r with
 | error e=>exact hx pins σ H s e s' I hq
 | ok fl=>
   cases fl with
   | ret u=>exact I.after hq
   | next=>exact False.elim hq
   | brk=>exact False.elim hq
   | cont=>exact False.elim hq
theorem DM (F:i9 X.prog X.w X.K X.mg X.base CX k f fd ps sp) (hr:gX k X.A) (hg:Gl X x) (hm:X.mg x=some (.ref f)) (hk:PySem.W.keepIn X.K (.ref f)=true) (hb:Binds X.K fd ps ds) (hd:Vals dvs ds) (hx:Passes CX X E)
   (ha:PA X (e :: es) t) (hdb:(x == ("__debug__" : Str))=false:=by decide) (he:starEach (e :: es) X.env=(false,eval e X.env) :: starEach es X.env:=by rfl) (hpl:(backTo pos (starEach es X.env)).any (·.1)=false:=by rfl) :
   PE X (.Call (.Name x p) (e :: es) [] pos) (HW sp dvs E t):=by
 intro pins s σ H Q I h
 refine wpAny_Call_Name_kw (xP I hg hm ?_ hdb)
 refine PySem.W.callWith_K (h₀:=X.base) I.ok.mod.kin hk (thn (ha pos pins s σ H _ I h) λus s1 ⟨vs,H1,I1,r,q⟩=>⟨I1.kIn,?_⟩) he hpl
 exact GU F hr hb hd hx I1 r q
end
section
variable {X:Cx} {CX:CXT} {k:Nat} {f C:Addr} {fd:FuncData} {ps ks:List Str} {sp:Sp} {E:XK} {x m:Str} {p pos apos kpos:Pos} {e o:Expr} {es:List Expr} {kws:List Keyword} {te ta:TE} {t tk:TA} {nm:Option Str}
variable {g:List Value->List Value->List Value} {gV:List V->List V->List V}
end
structure jC (N P:List Str) (sc:Scope):Prop where
 kind:sc.kind=.function
 co:sc.isCoroutine=false
 gen:sc.isGenerator=false
 nd:N.Nodup
 pre:N.take P.length=P
 par:∀ x ∈ P,sc.names.lookup x=some .local\/sc.names.lookup x=some .cell
 nofree:∀ y ∈ sc.names,y.2 ≠ .free
theorem ql {kindOf:Str->Option NameKind} {x:Str}:∀ {binds:List (Str × Value)} {m:Str->Option Value},(∀ v,(x,v) ∉ binds)->bindL kindOf binds m x=m x
 | [],_,_=>rfl
 | (n,v) :: r,m,h=>by
   unfold bindL
   rw [ql λw hw=>h w (List.mem_cons_of_mem _ hw)]
   split
   · have:x ≠ n:=by rintro rfl; exact h v List.mem_cons_self
     simp [this]
   · rfl
theorem qa {kindOf:Str->Option NameKind} {x:Str}:∀ {binds:List (Str × Value)} {m:Str->Option Value},(∀ v,(x,v) ∉ binds)->bindC kindOf binds m x=m x
 | [],_,_=>rfl
 | (n,v) :: r,m,h=>by
   unfold bindC
   rw [qa λw hw=>h w (List.mem_cons_of_mem _ hw)]
   split
   · rfl
   · have:x ≠ n:=by rintro rfl; exact h v List.mem_cons_self
     simp [this]
theorem qt {kindOf:Str->Option NameKind} {x:Str} {v:Value}:∀ {P:List Str} {vs:List Value} {i:Nat} {m:Str->Option Value},P.Nodup->P[i]?=some x->vs[i]?=some v->kindOf x=some .local ->
   bindL kindOf (P.zip vs) m x=some v
 | [],_,_,_,_,h,_,_=>by simp at h
 | _ :: _,[],_,_,_,_,h,_=>by simp at h
 | p :: P,w :: vs,0,m,nd,h1,h2,hk=>by
   simp at h1 h2; subst h1; subst h2
   show bindL kindOf ((p,w) :: P.zip vs) m p=_
   unfold bindL
   rw [ql λv hv=>(List.nodup_cons.mp nd).1 (List.of_mem_zip hv).1,if_pos hk]
   simp
 | p :: P,w :: vs,i + 1,m,nd,h1,h2,hk=>by
   show bindL kindOf ((p,w) :: P.zip vs) m x=_
   unfold bindL
   exact qt (i:=i) (List.nodup_cons.mp nd).2 (by simpa using h1) (by simpa using h2) hk
theorem qy {kindOf:Str->Option NameKind} {x:Str} {v:Value}:∀ {P:List Str} {vs:List Value} {i:Nat} {m:Str->Option Value},P.Nodup->P[i]?=some x->vs[i]?=some v->kindOf x ≠ some .local ->
   bindC kindOf (P.zip vs) m x=some v
 | [],_,_,_,_,h,_,_=>by simp at h
 | _ :: _,[],_,_,_,_,h,_=>by simp at h
 | p :: P,w :: vs,0,m,nd,h1,h2,hk=>by
   simp at h1 h2; subst h1; subst h2
   show bindC kindOf ((p,w) :: P.zip vs) m p=_
   unfold bindC
   rw [qa λv hv=>(List.nodup_cons.mp nd).1 (List.of_mem_zip hv).1,if_neg hk]
   simp
 | p :: P,w :: vs,i + 1,m,nd,h1,h2,hk=>by
   show bindC kindOf ((p,w) :: P.zip vs) m x=_
   unfold bindC
   exact qy (i:=i) (List.nodup_cons.mp nd).2 (by simpa using h1) (by simpa using h2) hk
noncomputable def start (N:List Str) (vs:List V):St:=vs.map some++List.replicate (N.length - vs.length) none
noncomputable def vn (CX:CXT) (P:Program) (w:World) (K:PySem.W.Frag) (mg:Str->Option Value) (base:Heap) (N:List Str) (qual:Str) (scope:Scope) (f:Addr) (cd:Value) (A:Around) (outer:List Env) (s:Shared) (H:Hp) (E:XK):Cx where
 prog:=P
 w:=w
 K:=K
 mg:=mg
 base:=base
 A:=A.deeper (envOfC qual scope s.heap.objs.size f cd)
 N:=N
 s₀:=s
 H₀:=H
 env:=envOfC qual scope s.heap.objs.size f cd
 outer:=outer
 stack:=envOfC qual scope s.heap.objs.size f cd :: outer
 ex:=[]
 calm:=true
 fn:=λ_=>true
 pn:=[]
 xe:=λe s'=>wpAny (model P w) (A.deeper (envOfC qual scope s.heap.objs.size f cd)) (leaving (envOfC qual scope s.heap.objs.size f cd) e) (λ_ s''=>CX outer H s E e s'') (λe' s''=>CX outer H s E e' s'') s'
theorem tj {sc:Scope} {n:Nat} {x:Str} (h:sc.names.lookup x=some .cell):∃ c,(cellsFrom n sc.names []).lookup x=some c:=by
 have q:=PySem.W.cellsFrom_some sc.names n [] (.inl h)
 exact Option.isSome_iff_exists.mp q
theorem yU {CX:CXT} {P:Program} {w:World} {K:PySem.W.Frag} {mg:Str->Option Value} {base:Heap} {N ps:List Str} {qual:Str} {scope:Scope} {f:Addr} {cd:Value} {A:Around} {outer:List Env} {s s1:Shared} {H:Hp} {E:XK} {us:List Value} {vs:List V}
   (S:jC N ps scope) (hd:A.handled=none) (e0:CJ P w K mg base A outer s H) (hl:vs.length=ps.length) (r:Vals vs us)
   (x:InCallC s s.heap.objs.size (bindL (envOfC qual scope s.heap.objs.size f cd).kindOf (ps.zip us) λ_=>none) (cellsFrom (s.heap.objs.size + 1) scope.names []) (bindC (envOfC qual scope s.heap.objs.size f cd).kindOf (ps.zip us) λ_=>none) s1) :
   Inv (vn CX P w K mg base N qual scope f cd A outer s H E) [] (start N vs) H s1:=by
 have hpl:ps.length<=N.length:=by have:=congrArg List.length S.pre; rw [List.length_take] at this; omega
 obtain ⟨h1,tk,rfl,hk⟩:=x.done
 have noA:∀ b:Addr,b ∉ (vn CX P w K mg base N qual scope f cd A outer s H E).ex:=λb z=>absurd (show b ∈ ([]:List Addr) from z) (by simp)
 refine ⟨⟨e0.mod,S.kind,rfl,rfl,Nat.le_refl _,λy z c h1 h2=>?_,λy hy=>?_,λy c _ h=>?_,λ_=>hd,Around.frames_deeper e0.frames,.inr ⟨rfl,rfl⟩,λb z=>absurd z (noA b),e0.bs,e0.bsz,λb _ _=>noA b,λb z=>absurd z (noA b),e0.oI,e0.frf⟩,
   rfl,e0.bare,Un.kept hk,⟨_,x.toInCall.ns,λi y v h1 h2 h3=>?_⟩,λy c h=>⟨_,x.cell y c h⟩,e0.hok.fresh (Nat.le_refl _),λy c h=>?_,λp hp=>absurd (show p ∈ ([]:List (Addr × Obj)) from hp) (by simp),e0.hok.kept hk,?_⟩
 · exact name_of_addr x.apart (PySem.mem_of_lookup h1) (PySem.mem_of_lookup h2)
 · have hy:scope.names.lookup y=some .cell\/scope.names.lookup y=some .free:=hy
   rcases hy with hy | hy
   · exact tj hy
   · exact absurd rfl (S.nofree _ (PySem.mem_of_lookup hy))
 · exact Nat.le_of_lt (x.above y c (PySem.mem_of_lookup h))
 · have hi:i < vs.length:=by
     unfold start at h2
     by_cases hi:i < vs.length
     · exact hi
     · rw [List.getElem?_append_right (by simpa using hi)] at h2
       rw [List.getElem?_replicate] at h2
       split at h2 <;> cases h2
   have ha:vs[i]?=some v:=by
     unfold start at h2
     rw [List.getElem?_append_left (by simpa using hi),List.getElem?_map] at h2
     cases e:vs[i]? with
     | none=>rw [e] at h2; cases h2
     | some a=>rw [e] at h2; cases h2; rfl
   obtain ⟨u,hu,rv⟩:=r.get ha
   have hp:ps[i]?=some y:=by
     rw [<- S.pre,List.getElem?_take_of_lt (by omega)]; exact h1
   have ndP:ps.Nodup:=by rw [<- S.pre]; exact S.nd.sublist (List.take_sublist _ _)
   refine ⟨u,rv,?_⟩
   rcases S.par y (List.mem_of_getElem? hp) with k | k
   · exact .inl ⟨k,qt ndP hp hu k⟩
   · obtain ⟨c,e⟩:=tj (n:=s.heap.objs.size + 1) k
     refine .inr ⟨.inl k,c,e,?_⟩
     have q:=x.cell y c e
     rw [qy ndP hp hu (by show scope.names.lookup y ≠ _; rw [k]; decide)] at q
     exact q
 · exact e0.hok.fresh (Nat.le_of_lt (x.above y c (PySem.mem_of_lookup h)))
 · unfold start
   show _=N.length
   rw [List.length_append,List.length_map,List.length_replicate]
   omega
theorem IT {CX:CXT} {P:Program} {w:World} {K:PySem.W.Frag} {mg:Str->Option Value} {base:Heap} {k:Nat} {f:Addr} {name qual:Str} {params:Arguments} {body:List Stmt} {scope:Scope} {dV kV doc pm cdv ct oc:Value} {an od:Option Addr}
   {osl:Array (Option Value)} {N ps:List Str} {sp:Sp} (lk:K.lookup f=some ⟨oc,od,.func (PySem.W.fnOf name qual params body scope dV kV doc pm an cdv ct),osl⟩) (hcd:PySem.W.codeIn K cdv qual=true) (S:jC N ps scope)
   (len:∀ vs H Q E,sp vs H Q E->vs.length=ps.length)
   (hbody:∀ (A:Around) (outer:List Env) (s:Shared) (H:Hp) (vs:List V) (Q:VK) (E:XK),gX k (A.deeper (envOfC qual scope s.heap.objs.size f cdv))->sp vs H Q E ->
     ∃ t,PSs (vn CX P w K mg base N qual scope f cdv A outer s H E) body t/\t { nx:=λ_ H'=>Q .non H',rt:=Q } (start N vs) H) :
   i9 P w K mg base CX (k + 1) f (PySem.W.fnOf name qual params body scope dV kV doc pm an cdv ct) ps sp:=by
 refine ⟨len,λA outer s H args us vs Q E hr e0 hb r hsp=>?_⟩
 have hl:=len _ _ _ _ hsp
 have KX:K.In s.heap:=e0.mod.kin.keeps λb o e=>(e0.bs b o e).1
 have lim:s.heap.NoLimit:=e0.mod.nolimit.keeps λb o e=>(e0.bs b o e).1
 have hkind:∀ y ∈ ps.zip us,scope.names.lookup y.1=some .local\/(scope.names.lookup y.1=some .cell/\((cellsFrom (s.heap.objs.size + 1) scope.names []).lookup y.1).isSome=true):=λ⟨n,v⟩ hy=>by
   rcases S.par n (List.of_mem_zip hy).1 with q | q
   · exact .inl q
   · exact .inr ⟨q,PySem.W.cellsFrom_some _ _ _ (.inl q)⟩
 refine codeAny_call_function hr.depth (KX _ _ lk) rfl S.co S.gen rfl (PySem.W.codeRec_of KX hcd) (hb _ _ _ _ ?_)
 refine wpAny_newFunctionEnv_cells S.kind hkind λenv he s1 x=>?_
 subst he
 refine ⟨lim.keeps x.toInCall.keep,codeAny_func ?_⟩
 obtain ⟨t,ht,hq⟩:=hbody A outer s H vs Q E (hr.deeper _) hsp
 have I:Inv (vn CX P w K mg base N qual scope f cdv A outer s H E) [] (start N vs) H s1:=yU S hr.hd e0 hl r x
 refine wpAny_mono (ht [] s1 (start N vs) H _ I hq) (λfl s' hs=>?_) λe s' hs=>hs
 have fin:∀ {σ':St} {H':Hp} {v:V} {u:Value},Inv (vn CX P w K mg base N qual scope f cdv A outer s H E) [] σ' H' s'->RelV v u->Q v H'->CE outer P w H s Q u s':=
   λ{σ' H' v u} J rv q=>⟨v,H',J.os,J.bare,J.base,J.hok,rv,q⟩
 cases fl with
 | ret u=>
   obtain ⟨v,σ',H',J,rv,q⟩:=hs
   exact fin J rv q
 | next=>
   obtain ⟨σ',H',J,q⟩:=hs
   exact fin (v:=V.non) (u:=Value.none) J rfl q
 | brk=>
   obtain ⟨_,_,_,q⟩:=hs
   exact False.elim q
 | cont=>
   obtain ⟨_,_,_,q⟩:=hs
   exact False.elim q
section
variable {X:Cx} {x:Str} {p pos:Pos} {e:Expr} {es:List Expr} {t:TA} {id T:String} {r:List V->Hp->VK->Prop}
noncomputable def tCB (r:List V->Hp->VK->Prop) (t:TA):TE:=λσ H Q=>t σ H λvs H1=>r vs H1 Q
theorem eT (hc:eY X (.builtin id) r) (hg:Gl X x) (hm:X.mg x=none) (hv:bootBuiltins x=some (.builtin id)) (ha:PA X (e :: es) t) (hn:x ≠ "__name__":=by decide) (hdb:(x == ("__debug__" : Str))=false:=by decide)
   (he:starEach (e :: es) X.env=(false,eval e X.env) :: starEach es X.env:=by rfl) (hpl:(backTo pos (starEach es X.env)).any (·.1)=false:=by rfl):PE X (.Call (.Name x p) (e :: es) [] pos) (tCB r t):=by
 intro pins s σ H Q I h
 refine wpAny_Call_Name_kw (g8 I hg hm hv ?_ hn hdb)
 exact PyProof.Rows.callWith_builtin1 (thn (ha pos pins s σ H _ I h) λus s1 ⟨vs,H1,I1,r1,q1⟩=>hc pins s1 σ H1 vs us Q I1 r1 q1) he hpl
theorem pY (hc:eY X (.type T) r) (hg:Gl X x) (hm:X.mg x=none) (hv:bootBuiltins x=some (.type T)) (ha:PA X (e :: es) t) (hn:x ≠ "__name__":=by decide) (hdb:(x == ("__debug__" : Str))=false:=by decide)
   (he:starEach (e :: es) X.env=(false,eval e X.env) :: starEach es X.env:=by rfl) (hpl:(backTo pos (starEach es X.env)).any (·.1)=false:=by rfl):PE X (.Call (.Name x p) (e :: es) [] pos) (tCB r t):=by
 intro pins s σ H Q I h
 refine wpAny_Call_Name_kw (g8 I hg hm hv ?_ hn hdb)
 exact PyProof.Rows.callWith_type1 (thn (ha pos pins s σ H _ I h) λus s1 ⟨vs,H1,I1,r1,q1⟩=>hc pins s1 σ H1 vs us Q I1 r1 q1) he hpl
end
end L2
namespace HT
open PySem PyProof.Rows
section
open PySem.SeqAt
open PySem.AutoSeq1 (wpAny_loadPart')
open PySem.MeetsSeq PySem.MeetsSeq2 PySem.MeetsSeq3
end
section
variable {prog:Program} {w:World} {A:Around} {E:Value->Shared->Prop} {s:Shared}
noncomputable def sIx (n d:Nat):Option Int->Nat
 | none=>d
 | some v=>if v < 0 then (v + (n:Int)).toNat else min v.toNat n
theorem AR (n d:Nat):sIx n d none=d:=rfl
theorem DP (n d k:Nat):sIx n d (some (k:Int))=min k n:=by
 show (if (k:Int) < 0 then ((k:Int) + (n:Int)).toNat else min (k:Int).toNat n)=min k n
 rw [if_neg (by omega),Int.toNat_natCast]
end
end HT
namespace L2
open PySem PySem.Spec PyProof.Rows
noncomputable abbrev TO:=St->Hp->(Option Int->Hp->Prop)->Prop
noncomputable def PO (X:Cx) (e:Option Expr) (t:TO):Prop:=
 ∀ (pins:List (Addr × Obj)) (s:Shared) (σ:St) (H:Hp) (Q:Option Int->Hp->Prop),Inv X pins σ H s->t σ H Q ->
   wpAny (model X.prog X.w) X.A (evalPart e X.env) (λu s'=>∃ o H',Inv X pins σ H' s'/\IsPart u o/\Q o H') X.xe s
noncomputable def CV:TO:=λ_ H Q=>Q none H
noncomputable def IG (t:TE):TO:=λσ H Q=>t σ H λx H1=>∃ i,x=.int i/\Q (some i) H1
section
variable {X:Cx} {e:Expr} {te:TE} {lo hi:Option Expr} {tl th:TO} {pos p2:Pos}
theorem El:PO X none CV:=by
 intro pins s σ H Q I h
 rw [evalPart_none]
 exact wpAny_pure ⟨none,H,I,.none,h⟩
theorem D7 (h:PE X e te):PO X (some e) (IG te):=by
 intro pins s σ H Q I hw
 rw [evalPart_some]
 refine thn (h pins s σ H _ I hw) λu s1 ⟨x,H1,I1,r1,q1⟩=>?_
 obtain ⟨i,rfl,q⟩:=q1
 obtain ⟨t,rfl⟩:=r1
 exact ⟨some i,H1,I1,.int i t,q⟩
noncomputable def SlR (X:Cx) (r:V->Option Int->Option Int->Hp->VK->Prop):Prop:=
 ∀ (pins:List (Addr × Obj)) (s:Shared) (σ:St) (H:Hp) (x:V) (v vl vu:Value) (lo hi:Option Int) (sl:Addr) (Q:VK),Inv X pins σ H s->RelV x v->s.heap.IsSliceOf sl vl vu .none->IsPart vl lo->IsPart vu hi->r x lo hi H Q ->
   ∃ T id,typeLookup (.type T) "__getitem__" = pure (some (.builtin id))/\s.TypeIs v T/\wpAny (model X.prog X.w) X.A (getItem v (.ref sl)) (EP X pins σ Q) X.xe s
noncomputable def tSl (r:V->Option Int->Option Int->Hp->VK->Prop) (te:TE) (tl th:TO):TE:=λσ H Q=>te σ H λx H1=>tl σ H1 λl H2=>th σ H2 λu H3=>r x l u H3 Q
theorem BP {r:V->Option Int->Option Int->Hp->VK->Prop} (hr:SlR X r) (he:PE X e te) (hl:PO X lo tl) (hu:PO X hi th):PE X (.Subscript e (.Slice lo hi none p2) pos) (tSl r te tl th):=by
 intro pins s σ H Q I h
 refine Subscript_ (thn (he pins s σ H _ I h) λv s1 ⟨x,H1,I1,r1,q1⟩=>?_)
 refine wpAny_Slice (thn (hl pins s1 σ H1 _ I1 q1) λvl s2 ⟨l,H2,I2,pl,q2⟩=>thn (hu pins s2 σ H2 _ I2 q2) λvu s3 ⟨u,H3,I3,pu,q3⟩=>?_)
 rw [evalPart_none]
 refine wpAny_pure ?_
 have I4:Inv X pins σ H3 { s3 with heap:=s3.heap.push { cls:=.type "slice",data:=.fields #[vl,vu,.none] } }:=I3.kept (t':=s3.toks) λb ob q=>Heap.get?_push_of_some _ q
 obtain ⟨T,id,hT,ht,hg⟩:=hr pins { s3 with heap:=s3.heap.push { cls:=.type "slice",data:=.fields #[vl,vu,.none] } } σ H3 x v vl vu l u s3.heap.objs.size Q I4 r1 (Heap.IsSliceOf.new ..) pl pu q3
 show wpAny (model X.prog X.w) X.A (subscriptTail e (.Slice lo hi none p2) v (.ref s3.heap.objs.size)) (EP X pins σ Q) X.xe { s3 with heap:=s3.heap.push { cls:=.type "slice",data:=.fields #[vl,vu,.none] } }
 exact tail_any (ops:=[.ref s3.heap.objs.size,v]) ht hT hg (by with_unfolding_all rfl)
noncomputable def zw (xs:List V) (lo hi:Option Int):List V:=(xs.drop (HT.sIx xs.length 0 lo)).take (HT.sIx xs.length xs.length hi - HT.sIx xs.length 0 lo)
theorem tK (xs:List V) (lo hi:Option Int):(zw xs lo hi).length<=xs.length:=by
 unfold zw
 rw [List.length_take,List.length_drop]
 omega
end
noncomputable def ixN (n:Nat) (i:Int):Option Nat:=if 0<=i then (if i < n then some i.toNat else none) else if -(n:Int)<=i then some (i + n).toNat else none
noncomputable def atI {α:Type} (xs:List α) (i:Int):Option α:=(ixN xs.length i).bind λj=>xs[j]?
theorem wG {n:Nat} {i:Int} {j:Nat} (h:ixN n i=some j):seqIndex? i n=some j/\j < n/\-(n:Int)<=i/\i < n:=by
 unfold ixN at h
 by_cases h0:0<=i
 · rw [if_pos h0] at h
   by_cases h1:i < n
   · rw [if_pos h1] at h
     have e:i.toNat=j:=Option.some.inj h
     exact ⟨by rw [seqIndex_of h0 h1,e],by omega,by omega,h1⟩
   · rw [if_neg h1] at h; cases h
 · rw [if_neg h0] at h
   by_cases h1:-(n:Int)<=i
   · rw [if_pos h1] at h
     have e:(i + n).toNat=j:=Option.some.inj h
     exact ⟨by rw [seqIndex_neg (by omega) h1,e],by omega,h1,by omega⟩
   · rw [if_neg h1] at h; cases h
theorem wV {α:Type} {xs:List α} {i:Int} {v:α} (h:atI xs i=some v):∃ j,seqIndex? i xs.length=some j/\xs[j]?=some v/\j < xs.length/\-(xs.length:Int)<=i/\i < xs.length:=by
 unfold atI at h
 cases e:ixN xs.length i with
 | none=>rw [e] at h; cases h
 | some j=>
   rw [e] at h
   obtain ⟨h1,h2,h3,h4⟩:=wG e
   exact ⟨j,h1,h,h2,h3,h4⟩
noncomputable def xY (b:Expr):Prop:=∀ o i,subscripted b false o i=operate [o,i] (getItem o i)
noncomputable def IxR (X:Cx) (r:R2):Prop:=
 ∀ (value slice:Expr) (pins:List (Addr × Obj)) (s:Shared) (σ:St) (H:Hp) (x y:V) (v u:Value) (Q:VK),Inv X pins σ H s->RelV x v->RelV y u->r x y H Q ->
   subscripted slice false v u=operate [v,u] (getItem v u)->wpAny (model X.prog X.w) X.A (subscriptTail value slice v u) (EP X pins σ Q) X.xe s
noncomputable def MtR (X:Cx) (id:String) (r:V->List V->Hp->VK->Prop):Prop:=
 ∀ (pins:List (Addr × Obj)) (s:Shared) (σ:St) (H:Hp) (x:V) (xs:List V) (v:Value) (us:List Value) (Q:VK),Inv X pins σ H s->RelV x v->Vals xs us->r x xs H Q ->
   wpAny (model X.prog X.w) X.A (call (.builtin id) (v :: us)) (EP X pins σ Q) X.xe s
section
variable {X:Cx} {a b:Expr} {ta tb:TE} {pos:Pos}
theorem EX {r:R2} (hr:IxR X r) (ha:PE X a ta) (hb:PE X b tb) (hs:xY b):PE X (.Subscript a b pos) (tOp r ta tb):=by
 intro pins s σ H Q I h
 exact Subscript_ (Gz ha hb I h λv u s2 x y H2 I2 rx ry q=>hr a b pins s2 σ H2 x y v u Q I2 rx ry q (hs _ _))
noncomputable def HX (K:PySem.W.Frag):R2:=λx y H Q=>∃ p xs i v,x=.ref p/\y=.int i/\SqL K H p xs/\atI xs i=some v/\Q v H
noncomputable def Js (K:PySem.W.Frag):R2:=λx y H Q=>∃ p xs i v,x=.ref p/\y=.int i/\SqT K H p xs/\atI xs i=some v/\Q v H
theorem yh:IxR X (HX X.K):=by
 intro value slice pins s σ H x y v u Q I rx ry h hs
 obtain ⟨p,xs,i,z,rfl,rfl,hq,he,q⟩:=h
 cases rx
 obtain ⟨t,rfl⟩:=ry
 obtain ⟨its,r,pl,hz⟩:=I.list hq
 obtain ⟨j,h1,h2,h3,h4,h5⟩:=wV he
 obtain ⟨w,ew,rw'⟩:=r.get h2
 have hl:=r.length
 have hn:=rA
 have fin:EP X pins σ Q w s:=⟨z,H,I,rw',q⟩
 by_cases h0:0<=i
 · have hj:i.toNat=j:=by
     rw [seqIndex_of h0 h5] at h1
     exact Option.some.inj h1
   exact item_listR pl.isList h0 (by omega) (by rw [hj]; simpa using ew) fin hs
 · have hj:(i + (its.toArray.size:Int)).toNat=j:=by
     rw [seqIndex_neg (by omega) h4] at h1
     rw [List.size_toArray,<- hl]
     exact Option.some.inj h1
   exact subscriptTail_builtinR (x:=w) pl.isList.typeIs slot_list_getitem.lookup
     (wpAny_getItem_list_neg (Q:=λr s'=>r=w/\EP X pins σ Q r s') pl.isList (by omega) (by rw [List.size_toArray] <;> omega) (by omega) (by rw [hj]; simpa using ew) ⟨rfl,fin⟩) hs
theorem Gq:IxR X (Js X.K):=by
 intro value slice pins s σ H x y v u Q I rx ry h hs
 obtain ⟨p,xs,i,z,rfl,rfl,hq,he,q⟩:=h
 cases rx
 obtain ⟨t,rfl⟩:=ry
 obtain ⟨its,r,pl,hz⟩:=I.tuple hq
 obtain ⟨j,h1,h2,h3,h4,h5⟩:=wV he
 obtain ⟨w,ew,rw'⟩:=r.get h2
 have hl:=r.length
 have hn:=rA
 have fin:EP X pins σ Q w s:=⟨z,H,I,rw',q⟩
 exact subscriptTail_builtinR (x:=w) pl.typeIs slot_tuple_getitem.lookup
   (getItem_tuple (j:=j) (Q:=λr s'=>r=w/\EP X pins σ Q r s') pl (by omega) (by omega) (by rw [List.size_toArray,<- hl]; exact h1) (by simpa using ew) ⟨rfl,fin⟩) hs
theorem vV (its:List Value) (n j:Nat) (u:Value):Obj.mapSeq (·.setIfInBounds j u) { cls:=.type "list",data:=.seq its.toArray n }={ cls:=.type "list",data:=.seq (its.set j u).toArray n }:=by
 simp [Obj.mapSeq]
theorem Inv.lst {pins:List (Addr × Obj)} {σ:St} {H:Hp} {s:Shared} {p:Addr} {xs:List V} (I:Inv X pins σ H s) (h:H p=some (.lst xs)) :
   ∃ (its:List Value) (n:Nat),Vals xs its/\s.heap.get? p=some { cls:=.type "list",data:=.seq its.toArray n }/\xs.length<=sizeLine:=by
 obtain ⟨z,its,n,r,e⟩:=I.hok p _ h
 exact ⟨its,n,r,e,z⟩
theorem Inv.G4 {pins:List (Addr × Obj)} {σ:St} {H:Hp} {s:Shared} {p:Addr} {xs ys:List V} {its its':List Value} {n n':Nat} {f:Obj->Obj} (I:Inv X pins σ H s) (h:H p=some (.lst xs))
   (ho:s.heap.get? p=some { cls:=.type "list",data:=.seq its.toArray n }) (hf:f { cls:=.type "list",data:=.seq its.toArray n }={ cls:=.type "list",data:=.seq its'.toArray n' }) (r:Vals ys its') (hz:ys.length<=sizeLine) (t:Nat) :
   Inv X pins σ (upd H p (.lst ys)) { s with heap:=s.heap.update p f,toks:=t }:=by
 have e:(s.heap.update p f).get? p=some { cls:=.type "list",data:=.seq its'.toArray n' }:=by
   rw [Heap.get?_update_self f ho (by rw [hf] <;> rfl),hf]
 refine I.write (x:=p) (e:=p) (by rw [h]; trivial) (.inl rfl) (λb u hb q=>(Heap.get?_update_other _ _ (Ne.symm hb)).trans q) ⟨_,e⟩ ?_
 exact ⟨hz,its',n',r,e⟩
noncomputable def Ht:V->V->V->Hp->(Hp->Prop)->Prop:=λo i v H Q=>∃ p xs k j,o=.ref p/\i=.int k/\H p=some (.lst xs)/\ixN xs.length k=some j/\Q (upd H p (.lst (xs.set j v)))
theorem set_list:Gv X Ht:=by
 intro pins s σ H o i v ov iv u Q I ro ri rv h
 obtain ⟨p,xs,k,j,rfl,rfl,hp,hj,q⟩:=h
 cases ro
 obtain ⟨t,rfl⟩:=ri
 obtain ⟨its,n,r,ho,hz⟩:=I.lst hp
 obtain ⟨h1,h2,h3,h4⟩:=wG hj
 have hl:=r.length
 have hn:=rA
 have I':Inv X pins σ (upd H p (.lst (xs.set j v))) { s with heap:=s.heap.update p (Obj.mapSeq (·.setIfInBounds j u)) }:=
   I.G4 hp ho (vV its n j u) (r.set rv j) (by rw [List.length_set]; exact hz) s.toks
 by_cases h0:0<=k
 · have hk:k.toNat=j:=by
     rw [seqIndex_of h0 h4] at h1
     exact Option.some.inj h1
   exact PySem.W.ki_setAt ho h0 (by omega) (by rw [List.size_toArray,<- hl]; exact h4) (by rw [hk]; exact ⟨_,I',q⟩)
 · have hk:(k + (its.toArray.size:Int)).toNat=j:=by
     rw [seqIndex_neg (by omega) h3] at h1
     rw [List.size_toArray,<- hl]
     exact Option.some.inj h1
   exact PySem.W.ki_setBack ho (by omega) (by rw [List.size_toArray,<- hl]; exact h3) (by omega) (by rw [hk]; exact ⟨_,I',q⟩)
theorem sE (lo hi:Option Int) (n:Nat):(sliceBounds lo hi none n).1=((HT.sIx n 0 lo:Nat):Int)/\(sliceBounds lo hi none n).2.1=((HT.sIx n n hi:Nat):Int)/\(sliceBounds lo hi none n).2.2=1:=by
 refine ⟨?_,?_,rfl⟩
 · cases lo with
   | none=>simp [sliceBounds,HT.sIx]
   | some i=>
     simp only [sliceBounds,HT.sIx,Option.getD_none,show (1:Int) > 0 by decide,if_true]
     by_cases h:i < 0
     · simp only [h,if_true] <;> omega
     · simp only [h,if_false] <;> omega
 · cases hi with
   | none=>simp [sliceBounds,HT.sIx]
   | some i=>
     simp only [sliceBounds,HT.sIx,Option.getD_none,show (1:Int) > 0 by decide,if_true]
     by_cases h:i < 0
     · simp only [h,if_true] <;> omega
     · simp only [h,if_false] <;> omega
theorem pw (its:List Value) (lo hi:Option Int):slicePick its.toArray lo hi none=((its.drop (HT.sIx its.length 0 lo)).take (HT.sIx its.length its.length hi - HT.sIx its.length 0 lo)).toArray:=by
 obtain ⟨h1,h2,h3⟩:=sE lo hi its.toArray.size
 unfold slicePick
 rw [h1,h2,h3]
 simp only [sliceRange_one,pick_run,List.size_toArray] <;> rfl
noncomputable def Ji (K:PySem.W.Frag):V->Option Int->Option Int->Hp->VK->Prop:=λx lo hi H Q=>∃ a xs,x=.ref a/\SqL K H a xs/\∀ p,H p=none->Q (.ref p) (upd H p (.lst (zw xs lo hi)))
theorem CN:SlR X (Ji X.K):=by
 intro pins s σ H x v vl vu lo hi sl Q I rx hs pl pu h
 obtain ⟨a,xs,rfl,hx,q⟩:=h
 cases rx
 obtain ⟨its,r,ht,hz⟩:=I.list hx
 have hlen:=r.length
 refine ⟨"list",_,slot_list_getitem.lookup,ht.isList.typeIs,?_⟩
 refine wpAny_getItem_list_slice ht.isList hs pl pu .none (by simp) ?_ (by rw [List.size_toArray] <;> omega)
 rw [pw,<- hlen]
 refine ⟨.ref s.heap.objs.size,_,I.laid (t':=s.toks) (o:=.lst (zw xs lo hi)) (λb ob q=>Heap.get?_push_of_some _ q) (Nat.le_refl _) ?_,rfl,q _ (I.hok.fresh (Nat.le_refl _))⟩
 exact ⟨Nat.le_trans (tK xs lo hi) hz,_,0,(r.drop (HT.sIx xs.length 0 lo)).take (HT.sIx xs.length xs.length hi - HT.sIx xs.length 0 lo),Heap.get?_push_size _ rfl⟩
theorem iM:eY X (.builtin "len") (λxs H Q=>∃ p ys,xs=[.ref p]/\(SqL X.K H p ys\/SqT X.K H p ys)/\Q (.int ys.length) H):=by
 intro pins s σ H xs us Q I r h
 obtain ⟨p,ys,rfl,hq,q⟩:=h
 obtain ⟨u,rfl,rx⟩:=vals1 r
 cases rx
 have hn:=rA
 rcases hq with hq | hq
 · obtain ⟨its,r',pl,hz⟩:=I.list hq
   have hlen:=r'.length
   exact Calls.call_len_list pl.isList (by simp only [List.size_toArray] <;> omega) ⟨.int ys.length,H,I.tok _,⟨s.toks + 1,by rw [List.size_toArray,hlen]⟩,q⟩
 · obtain ⟨its,r',pl,hz⟩:=I.tuple hq
   have hlen:=r'.length
   exact len_tuple pl (by simp only [List.size_toArray] <;> omega) ⟨.int ys.length,H,I.tok _,⟨s.toks + 1,by rw [List.size_toArray,hlen]⟩,q⟩
theorem rq:eY X (.type "list") (λxs H Q=>∃ p ys,xs=[.ref p]/\(SqL X.K H p ys\/SqT X.K H p ys)/\∀ l,H l=none->Q (.ref l) (upd H l (.lst ys))):=by
 intro pins s σ H xs us Q I r h
 obtain ⟨p,ys,rfl,hq,q⟩:=h
 obtain ⟨u,rfl,rx⟩:=vals1 r
 cases rx
 have fin:∀ (its:List Value),Vals ys its->ys.length<=sizeLine->∀ (h':Heap) (c':Nat),(∀ b o',s.heap.get? b=some o'->h'.get? b=some o') ->
     h'.get? s.heap.objs.size=some { cls:=.type "list",dict:=none,data:=.seq its.toArray c',slots:=#[] }->EP X pins σ Q (.ref s.heap.objs.size) { s with heap:=h' }:=λits r' hz h' c' kp e=>
   ⟨.ref s.heap.objs.size,_,I.laid (t':=s.toks) kp (Nat.le_refl _) (show dU X.prog X.w _ h' _ (.lst ys) from ⟨hz,its,c',r',e⟩),rfl,q _ (I.hok.fresh (Nat.le_refl _))⟩
 rcases hq with hq | hq
 · obtain ⟨its,r',pl,hz⟩:=I.list hq
   have hlen:=r'.length
   obtain ⟨o,ho,hc,n,hd⟩:=pl.isList
   exact call_list_seq p (.inl rfl) ho hc hd (λh' c' kp e=>fin its r' hz h' c' kp e) (by simp only [List.size_toArray] <;> omega)
 · obtain ⟨its,r',pl,hz⟩:=I.tuple hq
   have hlen:=r'.length
   obtain ⟨o,ho,hc,n,hd⟩:=pl
   exact call_list_seq p (.inr rfl) ho hc hd (λh' c' kp e=>fin its r' hz h' c' kp e) (by simp only [List.size_toArray] <;> omega)
noncomputable def tyV (K:PySem.W.Frag) (T:String) (x:V) (H:Hp):Prop:=match x with
 | .str _=>T = "str"
 | .int _=>T = "int"
 | .ref p=>(T = "list" /\ ∃ xs,SqL K H p xs)\/(T = "tuple" /\ ∃ o,K.lookup p=some o/\o.cls=.type "tuple" /\ o.dict=none) \/
     (T = "dict" /\ ((∃ kvs,H p=some (.dK kvs))\/∃ kvs,H p=some (.dT kvs)))\/(T = "set" /\ ∃ S n,H p=some (.set S n))
 | _=>False
theorem Cf {pins:List (Addr × Obj)} {σ:St} {H:Hp} {s:Shared} {T:String} {x:V} {v:Value} (I:Inv X pins σ H s) (r:RelV x v) (ty:tyV X.K T x H) :
   s.TypeIs v T/\∀ a,v=.ref a->∃ ob,s.heap.get? a=some ob/\ob.dict=none:=by
 cases x with
 | str z=>
   obtain ⟨t,rfl⟩:=r
   cases (show T = "str" from ty)
   exact ⟨typeIs_str s z t,λ_ e=>nomatch e⟩
 | int i=>
   obtain ⟨t,rfl⟩:=r
   cases (show T = "int" from ty)
   exact ⟨typeIs_int s i t,λ_ e=>nomatch e⟩
 | ref p=>
   cases r
   rcases ty with ⟨rfl,xs,hq⟩ | ⟨rfl,o,hk,hc,hd⟩ | ⟨rfl,hk⟩ | ⟨rfl,S,n,hk⟩
   · obtain ⟨its,_,pl,_⟩:=I.list hq
     refine ⟨pl.isList.typeIs,λa e=>?_⟩
     cases e
     obtain ⟨o,n,e,c,hd,_⟩:=pl
     exact ⟨o,e,hd⟩
   · refine ⟨⟨o,I.kIn p o hk,hc⟩,λa e=>?_⟩
     cases e
     exact ⟨o,I.kIn _ o hk,hd⟩
   · have z:∃ o,s.heap.get? p=some o/\o.ExactDict:=by
       rcases hk with ⟨kvs,hk⟩ | ⟨kvs,hk⟩
       · obtain ⟨_,_,_,_,o,_,_,e,ex,_⟩:=I.hok p _ hk
         exact ⟨o,e,ex⟩
       · obtain ⟨_,_,_,_,o,_,_,e,ex,_⟩:=I.hok p _ hk
         exact ⟨o,e,ex⟩
     obtain ⟨o,e,ex⟩:=z
     refine ⟨⟨o,e,ex.1⟩,λa e2=>?_⟩
     cases e2
     exact ⟨o,e,ex.2.1⟩
   · obtain ⟨o,_,_,_,e,ex,_⟩:=I.hok p _ hk
     refine ⟨⟨o,e,ex.1⟩,λa e2=>?_⟩
     cases e2
     exact ⟨o,e,ex.2.1⟩
 | _=>exact False.elim ty
noncomputable def Hy (K:PySem.W.Frag) (T:String) (r:V->List V->Hp->VK->Prop) (to:TE):TE:=λσ H Q=>to σ H λx H1=>tyV K T x H1/\r x [] H1 Q
noncomputable def tBM (K:PySem.W.Frag) (T:String) (r:V->List V->Hp->VK->Prop) (to:TE) (t:TA):TE:=λσ H Q=>to σ H λx H1=>tyV K T x H1/\t σ H1 λxs H2=>r x xs H2 Q
variable {o e:Expr} {es:List Expr} {to:TE} {t:TA} {name:Str} {apos cpos:Pos} {T id:String} {r:V->List V->Hp->VK->Prop}
theorem zL (pa:PlainAttrs T) (slot:Slot T name id) (hty:typeOf (.builtin id)=pure (.type "method_descriptor")) (hm:MtR X id r) (ho:PE X o to)
   (hbase:attributeBase o name X.env (eval o X.env)=eval o X.env:=by rfl) (hline:(apos.endLine == cpos.line)=true:=by rfl):PE X (.Call (.Attribute o name apos) [] [] cpos) (Hy X.K T r to):=by
 intro pins s σ H Q I h
 refine wpAny_Call_method0_late hbase hline (thn (ho pins s σ H _ I h) λv s1 ⟨x,H1,I1,r1,ty,q1⟩=>?_)
 obtain ⟨h1,h2⟩:=Cf I1 r1 ty
 exact ⟨T,id,pa,slot,hty,h1,h2,Calls.callWith_builtin rfl (PySem.evalArgs_none (hm pins s1 σ H1 x [] v [] Q I1 r1 .nil q1))⟩
theorem AI (pa:PlainAttrs T) (slot:Slot T name id) (hty:typeOf (.builtin id)=pure (.type "method_descriptor")) (hm:MtR X id r) (ho:PE X o to) (ha:PA X (e :: es) t)
   (hbase:attributeBase o name X.env (eval o X.env)=eval o X.env:=by rfl)
   (hfew:((backTo cpos (starEach (e :: es) X.env)).all (λx=>!x.1) && (backToKw cpos (keywordEach [] X.env)).all (λx=>x.1.isSome)
     && decide ((e :: es).length + ([]:List Keyword).length + (if ([]:List Keyword).isEmpty then 0 else 1) < 30))=true:=by rfl)
   (hline:(apos.endLine == cpos.line)=true:=by rfl) (hs:starEach (e :: es) X.env=(false,eval e X.env) :: starEach es X.env:=by rfl) (hplain:(backTo cpos (starEach es X.env)).any (·.1)=false:=by rfl) :
   PE X (.Call (.Attribute o name apos) (e :: es) [] cpos) (tBM X.K T r to t):=by
 intro pins s σ H Q I h
 refine wpAny_Call_method_late hbase hfew hline rfl (thn (ho pins s σ H _ I h) λv s1 ⟨x,H1,I1,r1,ty,q1⟩=>?_)
 obtain ⟨h1,h2⟩:=Cf I1 r1 ty
 refine ⟨T,id,pa,slot,hty,h1,h2,?_⟩
 have hA:=ha cpos pins s1 σ H1 _ I1 q1
 rw [hs] at hA ⊢
 refine Calls.callWith_builtin (by show (false || (backTo cpos (starEach es X.env)).any (·.1))=false; rw [hplain] <;> rfl) (Calls.evalArgs_plain ?_)
 exact thn hA λus s2 ⟨vs,H2,I2,r2,q2⟩=>hm pins s2 σ H2 x vs v us Q I2 r1 r2 q2
end
noncomputable def MtM (X:Cx) (id:String) (r:V->List V->Hp->VK->Prop):Prop:=
 ∀ (pins:List (Addr × Obj)) (s:Shared) (σ:St) (H:Hp) (x:V) (xs:List V) (v:Value) (us:List Value) (Q:VK),Inv X pins σ H s->RelV x v->Vals xs us->r x xs H Q ->
   wpAny (model X.prog X.w) X.A (call (.builtin id) (v :: us)) (EP X pins σ Q) X.xe s
theorem Vals.one {x:V} {us:List Value} (r:Vals [x] us):∃ u,us=[u]/\RelV x u:=vals1 r
theorem Vals.two {x y:V} {us:List Value} (r:Vals [x,y] us):∃ u v,us=[u,v]/\RelV x u/\RelV y v:=vals2 r
theorem Vals.zero:∀ {us:List Value},Vals [] us->us=[]
 | _,.nil=>rfl
theorem Vals.dropLast {xs:List V} {us:List Value} (h:Vals xs us):Vals xs.dropLast us.dropLast:=by
 induction h with
 | nil=>exact .nil
 | cons r t ih=>
   cases t with
   | nil=>exact .nil
   | cons q t'=>exact .cons r ih
theorem Vals.eraseIdx:∀ {xs:List V} {us:List Value} (i:Nat),Vals xs us->Vals (xs.eraseIdx i) (us.eraseIdx i)
 | _,_,_,.nil=>.nil
 | _,_,0,.cons _ t=>t
 | _,_,i + 1,.cons r t=>.cons r (Vals.eraseIdx i t)
theorem wx {α:Type} (l:List α):l.eraseIdx (l.length - 1)=l.dropLast:=by
 induction l with
 | nil=>rfl
 | cons a r ih=>
   cases r with
   | nil=>rfl
   | cons b r=>
     have e:(a :: b :: r).length - 1=((b :: r).length - 1) + 1:=by
       have h1:(a :: b :: r).length=r.length + 2:=rfl
       have h2:(b :: r).length=r.length + 1:=rfl
       omega
     rw [e,List.eraseIdx_cons_succ,ih]
     all_goals rfl
theorem qf {α:Type}:∀ (l:List α) (i:Nat),(l.eraseIdx i).length<=l.length
 | [],_=>Nat.le_refl _
 | _ :: _,0=>Nat.le_succ _
 | _ :: r,i + 1=>Nat.succ_le_succ (qf r i)
section
variable {X:Cx} {pins:List (Addr × Obj)} {σ:St} {H:Hp} {s:Shared} {l b:Addr} {xs ys zs:List V}
theorem Inv.AN {its its':List Value} {n:Nat} {f:Array Value->Array Value} {t':Nat} (I:Inv X pins σ H s) (hH:H l=some (.lst xs))
   (e:s.heap.get? l=some { cls:=.type "list",data:=.seq its.toArray n }) (hf:f its.toArray=its'.toArray) (hv:Vals ys its') (hz:ys.length<=sizeLine) :
   Inv X pins σ (upd H l (.lst ys)) { s with heap:=s.heap.update l (Obj.mapSeq f),toks:=t' }:=by
 have q:=PySem.IsL.update e f
 rw [hf] at q
 refine I.write (x:=l) (e:=l) (by rw [hH]; exact trivial) (.inl rfl) (λb' u hb hu=>(Heap.get?_update_other s.heap (Obj.mapSeq f) (Ne.symm hb)).trans hu) ⟨_,q⟩ ?_
 exact ⟨hz,its',_,hv,q⟩
theorem Inv.Jv {its:List Value} {t':Nat} (I:Inv X pins σ H s) (hv:Vals ys its) (hz:ys.length<=sizeLine) :
   Inv X pins σ (upd H s.heap.objs.size (.lst ys)) { s with heap:=s.heap.push { cls:=.type "list",data:=.seq its.toArray },toks:=t' }:=
 I.laid (λ_ _ q=>Heap.get?_push_of_some _ q) (Nat.le_refl _) ⟨hz,its,0,hv,Heap.get?_push_size _ rfl⟩
theorem Inv.fresh (I:Inv X pins σ H s):H s.heap.objs.size=none:=I.hok.fresh (Nat.le_refl _)
theorem Inv.z5 (I:Inv X pins σ H s) (hH:H l=some (.lst xs)):xs.length<=sizeLine/\∃ (its:List Value) (n:Nat),Vals xs its/\xs.length=its.length/\s.heap.get? l=some { cls:=.type "list",data:=.seq its.toArray n }:=by
 obtain ⟨z,its,n,r,e⟩:=I.hok l _ hH
 exact ⟨z,its,n,r,r.length,e⟩
end
section
variable {X:Cx}
noncomputable def EB:V->List V->Hp->VK->Prop:=λx vs H Q=>∃ l xs y,x=.ref l/\vs=[y]/\H l=some (.lst xs)/\xs.length < sizeLine/\Q .non (upd H l (.lst (xs++[y])))
theorem lZ:MtM X "list.append" EB:=by
 intro pins s σ H x vs v us Q I rx rv h
 obtain ⟨l,xs,y,rfl,rfl,hH,hz,q⟩:=h
 cases rx
 obtain ⟨u,rfl,ru⟩:=rv.one
 obtain ⟨z,its,n,r,hl,e⟩:=I.z5 hH
 refine call_meets F.slot_list_append ⟨_,e,rfl⟩ F.entry_list_append (F.args_list_append_2 _ _) (PySem.list_append l its.toArray n u (by rw [List.size_toArray]; omega)) ⟨e,?_⟩
 refine ⟨.non,_,I.AN (its':=its++[u]) hH e (by simp) (r.append (.cons ru .nil)) ?_,rfl,q⟩
 rw [List.length_append,List.length_singleton]
 omega
noncomputable def JL:V->List V->Hp->VK->Prop:=λx vs H Q=>∃ l xs y,x=.ref l/\vs=[]/\H l=some (.lst xs)/\xs[xs.length - 1]?=some y/\Q y (upd H l (.lst xs.dropLast))
theorem Fe:MtM X "list.pop" JL:=by
 intro pins s σ H x vs v us Q I rx rv h
 obtain ⟨l,xs,y,rfl,rfl,hH,hy,q⟩:=h
 cases rx
 have hus:=rv.zero
 subst hus
 obtain ⟨z,its,n,r,hl,e⟩:=I.z5 hH
 obtain ⟨u,hu,ru⟩:=r.get hy
 have hy':its.toArray[its.toArray.size - 1]?=some u:=by
   show its.toArray[its.length - 1]?=some u
   rw [<- Array.getElem?_toList,<- hl]
   exact hu
 refine call_meets F.slot_list_pop ⟨_,e,rfl⟩ F.entry_list_pop (F.args_list_pop_1 _) (MeetsSeq.list_pop_last l its.toArray n u hy' (by rw [List.size_toArray]; omega)) ⟨e,?_⟩
 refine ⟨y,_,I.AN (its':=its.dropLast) hH e ?_ r.dropLast ?_,ru,q⟩
 · show its.toArray.eraseIdxIfInBounds (its.toArray.size - 1)=its.dropLast.toArray
   rw [List.size_toArray,List.eraseIdxIfInBounds_toArray,wx]
 · rw [List.length_dropLast]
   omega
noncomputable def GX:V->List V->Hp->VK->Prop:=λx vs H Q=>∃ l xs i k y,x=.ref l/\vs=[.int i]/\H l=some (.lst xs)/\-(2 ^ 63)<=i/\i < 2 ^ 63/\seqIndex? i xs.length=some k/\xs[k]?=some y/\Q y (upd H l (.lst (xs.eraseIdx k)))
theorem Ac:MtM X "list.pop" GX:=by
 intro pins s σ H x vs v us Q I rx rv h
 obtain ⟨l,xs,i,k,y,rfl,rfl,hH,h1,h2,hk,hy,q⟩:=h
 cases rx
 obtain ⟨u,rfl,ru⟩:=rv.one
 obtain ⟨t,rfl⟩:=ru
 obtain ⟨z,its,n,r,hl,e⟩:=I.z5 hH
 obtain ⟨w,hw,rw'⟩:=r.get hy
 refine call_meets F.slot_list_pop ⟨_,e,rfl⟩ F.entry_list_pop (F.args_list_pop_2 _ _)
   (MeetsSeq.list_pop_at l its.toArray n i t k w (fitsIndex_both h1 h2) (by rw [List.size_toArray,<- hl]; exact hk) (by rw [<- Array.getElem?_toList]; exact hw) (by rw [List.size_toArray]; omega)) ⟨e,?_⟩
 refine ⟨y,_,I.AN (its':=its.eraseIdx k) hH e ?_ (r.eraseIdx k) ?_,rw',q⟩
 · show its.toArray.eraseIdxIfInBounds k=(its.eraseIdx k).toArray
   rw [List.eraseIdxIfInBounds_toArray]
 · have:=qf xs k
   omega
noncomputable def Gx:V->List V->Hp->VK->Prop:=λx vs H Q=>∃ l xs,x=.ref l/\vs=[]/\H l=some (.lst xs)/\Q .non (upd H l (.lst []))
theorem zN:MtM X "list.clear" Gx:=by
 intro pins s σ H x vs v us Q I rx rv h
 obtain ⟨l,xs,rfl,rfl,hH,q⟩:=h
 cases rx
 have hus:=rv.zero
 subst hus
 obtain ⟨z,its,n,r,hl,e⟩:=I.z5 hH
 refine call_meets F.slot_list_clear ⟨_,e,rfl⟩ F.entry_list_clear (F.args_list_clear_1 _) (AutoSeq1.list_clear_list_0 l its.toArray n (by rw [List.size_toArray]; omega)) ⟨e,?_⟩
 exact ⟨.non,_,I.AN (its':=[]) (ys:=[]) hH e rfl .nil (Nat.zero_le _),rfl,q⟩
end
section
variable {prog:Program} {w:World} {A:Around} {E:Value->Shared->Prop} {s:Shared}
end
section
variable {X:Cx}
end
end L2
namespace Att
open PySem PySem.W PySem.Calls PyProof.Rows
theorem mP {P:Params} {h:Heap}:∀ (ns:List Int) (vs:List Value),WellAll P h vs (ns.map WData.int)->IntsAre vs ns:=by
 intro ns
 induction ns with
 | nil=>
   intro vs w
   rw [List.map_nil] at w
   cases w
   exact .nil
 | cons n ns ih=>
   intro vs w
   rw [List.map_cons] at w
   cases w with
   | cons a b=>
     cases a
     exact .cons _ _ (ih _ b)
theorem za {l:OpenLaw} {n:Nat} (hn:l.most=some n) {P:Params} {h:Heap} {args:List WData} {vals:List Value}
   (hpre:l.row.toRowW.claim.pre args=true) (hwl:WellAll P h vals args) :
   ∃ a vs ns,vals=[Value.ref a]/\args=[WData.list (ns.map WData.int)]/\h.get? a=some { cls:=.type "list",data:=.seq vs.toArray }/\IntsAre vs ns/\ns.length<=n:=by
 have hsh:WShape.hasAll [] args [.list .int]=true:=(pre_splitW hpre).1
 have hc:l.pre.holds [] { args:=args }=true:=(pre_splitW hpre).2
 obtain ⟨d,r,rfl,h1,h2⟩:=hasAllW_cons hsh
 obtain rfl:=hasAllW_nil h2
 obtain ⟨xs,rfl,h3⟩:=hasW_list h1
 obtain ⟨ns,rfl⟩:=items_int h3
 have hlen:ns.length<=n:=by
   unfold OpenLaw.pre at hc
   have h4:(WTm.not (.lt (.lit (.int (n:Int))) (.len (.arg 0)))).holds [] { args:=[.list (ns.map .int)] }=true:=by
     have h4:=(holds_andW hc).1
     rw [hn] at h4
     exact h4
   have h5:=condW_of h4 (w_not (w_lt w_lit (w_len_list (w_arg rfl))))
   rw [List.length_map] at h5
   refine Nat.le_of_not_lt λq=>?_
   have q':(n:Int) < ((ns.length:Nat):Int):=by omega
   first
     | (rw [decide_eq_true q'] at h5; exact absurd h5 (by decide))
     | (simp at h5; omega)
 cases hwl with
 | cons w1 w2=>
   cases w2
   cases w1 with
   | list ho hall=>exact ⟨_,_,ns,rfl,rfl,ho,mP ns _ hall,hlen⟩
theorem yw (l:OpenLaw) (args:List WData):l.row.toRowW.claim.post args (.bool true) args=true:=
 postW_of (r:=l.row.toRowW) (X:=(true == true))
   (show WShape.has [] (.bool true) .bool=true by first | rfl | decide | simp [WShape.has,WShape.arms,WShape.armsAll])
   (show (WTm.eq .res (.lit (.bool true))).value [] { args:=args,res:=some (.bool true),after:=args }=some (.bool (true == true)) from w_eq_bool (w_res rfl) w_lit) rfl
theorem vd {l:OpenLaw} {n:Nat} {q:Program} {loose:List Str} {XP:(Str->Option Value)->Heap->Prop} {YP:World->Heap->Prop} {d:DefRec}
   (hn:l.most=some n) (hdf:d.params.defaults=[])
   (call:∀ (w:World) (s₀ s₁:Shared) (mg mb:Str->Option Value) (fa:Addr) (o:Obj) (pm cd doc:Value) (a:Addr) (vs:List Value) (ns:List Int),
     Ground q loose [] XP w s₀ mg mb s₁.heap->YP w s₁.heap ->
     s₁.heap.get? fa=some o->o.data=.func (docDef d.name d.params d.body d.scope pm cd doc)->s₁.heap.CodeRec cd d.name->mg d.name=some (.ref fa) ->
     s₁.heap.get? a=some { cls:=.type "list",data:=.seq vs.toArray }->IntsAre vs ns->ns.length<=n->s₁.gens=#[] ->
     codeAny (model l.prog w) callerA (.call (.ref fa) ⟨[.ref a],[]⟩) (λr s'=>r=.ok (.ret (.bool true))/\OldK s₁.heap s'.heap/\s'.os=s₁.os/\AllBare s'.gens) s₁) :
   WalkO q loose XP YP l.row.toRowW d [] (λf vs=>PySem.call f vs):=by
 intro w s₀ s₁ mg mb G Y fa o pm cd doc dV kV ho hd hcd hD hmg hg args vals as hpre hlay hrd hwl hlo
 obtain rfl:dV=.none:=Dflts.none hD hdf
 obtain rfl:kV=.none:=Dflts.noKw hD
 obtain ⟨a,vs,ns,rfl,rfl,hobj,hints,hlen⟩:=za hn hpre hwl
 refine enter_call (codeAny_mono (call w s₀ s₁ mg mb fa o pm cd doc a vs ns G Y ho (fd_plain hd) hcd hmg hobj hints hlen hg) λr s' hq=>?_)
 obtain ⟨rfl,h2,h3,h4⟩:=hq
 exact ⟨.inl ⟨.bool true,.bool true,[],rfl,λ_=>rfl,.bool true,yw l _,λ_=>⟨List.Pairwise.nil,λ_ hm=>(nomatch hm)⟩⟩,h2,h3,h4⟩
section
variable {prog:Program} {w:World} {A:Around} {E:Value->Shared->Prop} {s:Shared} {K:Frag}
end
end Att
namespace L2
open PySem PySem.Spec PyProof.Rows
theorem qr:∀ {vs:List Value} {ns:List Int},IntsAre vs ns->Vals (ns.map V.int) vs
 | _,_,.nil=>.nil
 | _,_,.cons n t h=>.cons ⟨t,rfl⟩ (qr h)
noncomputable def Dc (H:Hp):Prop:=∀ b,H b=none\/∃ o xs,H b=some (.frz o (.lst xs))
theorem Br {P:Program} {w:World} {K:PySem.W.Frag} {mg mb:Str->Option Value} {CX:CXT} {k:Nat} {fa a:Addr} {fd:FuncData} {x:Str} {sp:Sp} {s₁:Shared} {vs:List Value} {ns:List Int}
   (KX:K.In s₁.heap) (hns:s₁.heap.Ns mainGlobals mg) (hb:s₁.heap.Ns builtinsNs mb) (hbb:∀ x:Str,x ≠ "__name__" -> mb x=bootBuiltins x) (hlim:s₁.heap.NoLimit) (hg:s₁.gens=#[])
   (ha:s₁.heap.get? a=some { cls:=.type "list",data:=.seq vs.toArray }) (hi:IntsAre vs ns) (hl:ns.length<=sizeLine) (hr:gX k callerA)
   (F:∀ base:Heap,K.In base->base.Ns mainGlobals mg->i9 P w K mg base CX k fa fd [x] sp) (hbind:∀ (s:Shared) (u:Value),BindsTo s fd ⟨[u],[]⟩ [(x,u)])
   (hsp:∀ H:Hp,Dc H->SqL K H a (ns.map V.int)->sp [.ref a] H (λv _=>v=.bl true) λ_ _ _=>False)
   (hCX:∀ H e s',CX [] H s₁ (λ_ _ _=>False) e s'->False) :
   codeAny (model P w) callerA (.call (.ref fa) ⟨[.ref a],[]⟩) (λr s'=>r=.ok (.ret (.bool true))/\OldK s₁.heap s'.heap/\s'.os=s₁.os/\AllBare s'.gens) s₁:=by
 have rv:=qr hi
 have lenV:=hi.length
 have core:∀ H:Hp,Dc H->SqL K H a (ns.map V.int)->HOk P w H s₁.heap->(∀ b,H b ≠ none->b=a)->(H a ≠ none->K.lookup a=none) ->
     codeAny (model P w) callerA (.call (.ref fa) ⟨[.ref a],[]⟩) (λr s'=>r=.ok (.ret (.bool true))/\OldK s₁.heap s'.heap/\s'.os=s₁.os/\AllBare s'.gens) s₁:=by
   intro H hO hS hok hA hK
   have jy:∀ {b:Addr} {o:Obj},s₁.heap.get? b=some o->H b=none->(rm s₁.heap H).get? b=some o:=λe n=>A3 e n
   have noA:∀ {b:Addr} {o:Obj} {es:Array DictEntry} {ep:Nat},s₁.heap.get? b=some o->o.data=.dict es ep->H b=none:=λ{b o es ep} e d=>by
     cases q:H b with
     | none=>rfl
     | some u=>
       have e':b=a:=hA b (by rw [q]; simp)
       subst e'
       rw [ha] at e; cases e
       have d':Data.seq vs.toArray _=Data.dict es ep:=d
       cases d'
   have nsK:∀ {b:Addr} {m:Str->Option Value},s₁.heap.Ns b m->(rm s₁.heap H).Ns b m:=λ{b m} ⟨o,es,ep,e,d,r⟩=>⟨o,es,ep,jy e (noA e d),d,r⟩
   have hKb:K.In (rm s₁.heap H):=λb o e=>jy (KX b o e) (by
     cases q:H b with
     | none=>rfl
     | some u=>
       have e':b=a:=hA b (by rw [q]; simp)
       subst e'
       rw [hK (by rw [q]; simp)] at e; cases e)
   have hM:Mod K mg (rm s₁.heap H):=⟨hKb,nsK hns,⟨mb,nsK hb,hbb⟩,let ⟨mc,h1,h2⟩:=hlim; ⟨mc,nsK h1,h2⟩⟩
   have e0:CJ P w K mg (rm s₁.heap H) callerA [] s₁ H:=⟨rfl,hM,λb o e=>Ek e,Nat.le_of_eq (zi _ _),trivial,λb hb=>absurd (show b ∈ ([]:List Addr) from hb) (by simp),hok,.of_eq hg⟩
   refine codeAny_mono ((F _ hKb (nsK hns)).run callerA [] s₁ H ⟨[.ref a],[]⟩ [.ref a] [.ref a] _ _ hr e0 (hbind s₁ (.ref a)) (.cons rfl .nil) (hsp H hO hS)) λr s' h=>?_
   cases r with
   | error e=>exact (hCX H e s' h).elim
   | ok fl=>
     cases fl with
     | next=>exact False.elim h
     | brk=>exact False.elim h
     | cont=>exact False.elim h
     | ret u=>
       obtain ⟨v,H',os,bare,un,hok',r',q⟩:=h
       have q':v=.bl true:=q
       subst q'
       obtain rfl:u=Value.bool true:=r'
       refine ⟨rfl,OldK.of_keep λb o e=>?_,os,bare⟩
       cases q:H b with
       | none=>exact un.keep b o e q (by intro z; exact absurd (show b ∈ ([]:List Addr) from z) (by simp)) (by simp)
       | some u=>
         rcases hO b with z | ⟨ob,xs,z⟩
         · rw [q] at z; cases z
         · have z2:=un.frzs b ob _ z
           obtain ⟨e1,_⟩:=hok b _ z
           obtain ⟨e2,_⟩:=hok' b _ z2
           rw [e] at e1; cases e1
           exact e2
 cases hk:K.lookup a with
 | some o=>
   have e:=KX a o hk
   rw [ha] at e
   cases e
   refine core (λ_=>none) (λ_=>.inl rfl) (.inr ⟨_,vs.toArray,_,hk,rfl,rfl,rfl,by rw [List.size_toArray,lenV]; exact hl,by simpa using rv⟩) (λb u z=>by have z':(none:Option HO)=some u:=z; cases z') (λb z=>absurd rfl z) λz=>absurd rfl z
 | none=>
   refine core (λb=>if b=a then some (.frz { cls:=.type "list",data:=.seq vs.toArray } (.lst (ns.map V.int))) else none) (λb=>?_) (.inl (.inr ⟨{ cls:=.type "list",data:=.seq vs.toArray },if_pos rfl⟩)) (λb u z=>?_) (λb z=>?_) λ_=>hk
   · by_cases hb:b=a
     · exact .inr ⟨_,_,if_pos hb⟩
     · exact .inl (if_neg hb)
   · by_cases hb:b=a
     · have z':=(if_pos hb).symm.trans z
       cases z'
       subst hb
       exact ⟨ha,by rw [List.length_map]; exact hl,vs,_,rv,ha⟩
     · have z':=(if_neg hb).symm.trans z
       cases z'
   · by_cases hb:b=a
     · exact hb
     · exact absurd (if_neg hb) z
theorem Ew {l:PySem.W.OpenLaw} {n k:Nat} {q:Program} {loose:List Str} {XP:(Str->Option Value)->Heap->Prop} {YP:World->Heap->Prop} {d:DefRec} {K:Params->PySem.W.Frag} {CX:World->CXT} {sp:World->Sp} {x:Str}
   (hn:l.most=some n) (hn2:n<=sizeLine) (hdf:d.params.defaults=[]) (hr:gX k callerA)
   (hY:∀ (w:World) (h:Heap),YP w h->(K w.params).In h)
   (F:∀ (w:World) (mg:Str->Option Value) (fa:Addr) (h:Heap),(K w.params).In h->h.Ns mainGlobals mg->mg d.name=some (.ref fa) ->
     ∃ fd:FuncData,(∀ (s:Shared) (u:Value),BindsTo s fd ⟨[u],[]⟩ [(x,u)]) /\
       ∀ base:Heap,(K w.params).In base->base.Ns mainGlobals mg->i9 l.prog w (K w.params) mg base (CX w) k fa fd [x] (sp w))
   (hsp:∀ (w:World) (H:Hp) (a:Addr) (ns:List Int),ns.length<=n->Dc H->SqL (K w.params) H a (ns.map V.int)->sp w [.ref a] H (λv _=>v=.bl true) λ_ _ _=>False)
   (hCX:∀ (w:World) (H:Hp) (s:Shared) (e:Value) (s':Shared),CX w [] H s (λ_ _ _=>False) e s'->False) :
   PySem.W.WalkO q loose XP YP l.row.toRowW d [] (λf vs=>PySem.call f vs):=by
 refine Att.vd hn hdf λw s₀ s₁ mg mb fa o pm cd doc a vs ns G Y ho hd hcd hmg hobj hints hlen hg=>?_
 have KX:=hY w _ Y
 obtain ⟨fd,hb,hF⟩:=F w mg fa _ KX G.T.g hmg
 exact Br KX G.T.g G.T.b G.T.builtins G.T.nolimit hg hobj hints (Nat.le_trans hlen hn2) hr hF hb (λH hO hS=>hsp w H a ns hlen hO hS) λH e s'=>hCX w H s₁ e s'
noncomputable def ff (s:Stmt):Arguments:=match s with
 | .FunctionDef _ a _ _ _ _ _ _ _ _=>a
 | _=>{ posonlyargs:=[],args:=[],vararg:=none,kwonlyargs:=[],kw_defaults:=[],kwarg:=none,defaults:=[] }
noncomputable def dB (s:Stmt):List Stmt:=match s with
 | .FunctionDef _ _ b _ _ _ _ _ _ _=>b
 | _=>[]
noncomputable def a5 (s:Stmt):Scope:=match s with
 | .FunctionDef _ _ _ _ _ _ sc _ _ _=>sc
 | _=>{ kind:=.function,names:=[],isGenerator:=false,isCoroutine:=false }
noncomputable abbrev CX0:CXT:=λ_ _ _ _ _ _=>False
structure Fun (K:PySem.W.Frag) (x qual:Str) (st:Stmt) (f:Addr) (fd:FuncData):Prop where
 ex:∃ (oc:Value) (od:Option Addr) (dV kV doc pm:Value) (an:Option Addr) (cdv ct:Value) (osl:Array (Option Value)),
   fd=PySem.W.fnOf x qual (ff st) (dB st) (a5 st) dV kV doc pm an cdv ct/\K.lookup f=some ⟨oc,od,.func fd,osl⟩/\PySem.W.codeIn K cdv qual=true
 kp:PySem.W.keepIn K (.ref f)=true
section
variable {P:Program} {w:World} {K:PySem.W.Frag} {mg:Str->Option Value} {base:Heap}
theorem Fun.ok {x qual:Str} {st:Stmt} {f:Addr} {fd:FuncData} {N ps:List Str} {k:Nat} {sp:Sp} (F:Fun K x qual st f fd) (S:jC N ps (a5 st)) (len:∀ vs H Q E,sp vs H Q E->vs.length=ps.length)
   (hbody:∀ (cdv:Value) (A:Around) (outer:List Env) (s:Shared) (H:Hp) (vs:List V) (Q:VK) (E:XK),gX k (A.deeper (envOfC qual (a5 st) s.heap.objs.size f cdv))->sp vs H Q E ->
     ∃ t,PSs (vn CX0 P w K mg base N qual (a5 st) f cdv A outer s H E).nox (dB st) t/\t { nx:=λ_ H'=>Q .non H',rt:=Q } (start N vs) H):i9 P w K mg base CX0 (k + 1) f fd ps sp:=by
 obtain ⟨oc,od,dV,kV,doc,pm,an,cdv,ct,osl,rfl,lk,hcd⟩:=F.ex
 refine IT lk hcd S len λA outer s H vs Q E hr hsp=>?_
 obtain ⟨t,h,q⟩:=hbody cdv A outer s H vs Q E hr hsp
 exact ⟨t,h.nox,q⟩
theorem Fun.binds {x qual:Str} {st:Stmt} {f:Addr} {fd:FuncData} {ps:List Str} (_:Fun K x qual st f fd) (h:∀ us:List Value,us.length=ps.length->bindArgs fd ⟨us,[]⟩=pure (ps.zip us)):Binds K fd ps []:=.all h
theorem vU {x qual:Str} {st:Stmt} {f:Addr} {oc:Value} {od an:Option Addr} {osl:Array (Option Value)} {dV kV doc pm cdv ct:Value} (l:K.lookup f=some ⟨oc,od,.func (PySem.W.fnOf x qual (ff st) (dB st) (a5 st) dV kV doc pm an cdv ct),osl⟩)
   (c:PySem.W.codeIn K cdv qual=true) (k:PySem.W.keepIn K (.ref f)=true):Fun K x qual st f (PySem.W.fnOf x qual (ff st) (dB st) (a5 st) dV kV doc pm an cdv ct):=⟨⟨oc,od,dV,kV,doc,pm,an,cdv,ct,osl,rfl,l,c⟩,k⟩
end
theorem Ih {A:Around} {k:Nat} (hr:gX k A):A.units + 1 < cLine:=Nat.lt_of_le_of_lt (Nat.add_le_add_left (by decide:1<=64) _) hr.units
section
variable {X:Cx}
theorem pv (i:Nat) {x:Str} {pos:Pos} (hN:X.N[i]?=some x:=by rfl) (hv:Vis X.env.scope x:=by first | exact Or.inl rfl | exact Or.inr (Or.inl rfl) | exact Or.inr (Or.inr rfl)) (hd:(x == ("__debug__" : Str))=false:=by decide)
   (hcd:(x == ("__classdict__" : Str))=false:=by decide):PE X (.Name x pos) (fO i):=BO hN hv hd hcd
end
theorem pq {A B:Prop} (h:B):if false=true then A else B:=by
 rw [if_neg Bool.false_ne_true]
 exact h
theorem pE {A B:Prop} (h:A):if true=true then A else B:=by
 rw [if_pos rfl]
 exact h
noncomputable def lK (H H':Hp):Prop:=∀ b o,H b=some o->H' b=some o
theorem lK.refl (H:Hp):lK H H:=λ_ _ h=>h
theorem lK.seq {K:PySem.W.Frag} {H H':Hp} {a:Addr} {xs:List V} (e:lK H H') (h:SqL K H a xs):SqL K H' a xs:=by
 rcases h with (h | ⟨o,h⟩) | h
 · exact .inl (.inl (e _ _ h))
 · exact .inl (.inr ⟨o,e _ _ h⟩)
 · exact .inr h
end L2
set_option linter.all false
set_option maxRecDepth 100000
namespace Ev
open PySem PySem.Spec PyProof.Rows L2
inductive D where
 | non | bl (b:Bool) | int (i:Int) | str (x:Str) | tup (xs:List D) | lst (xs:List D)
 deriving Inhabited
mutual
inductive Den (K:PySem.W.Frag) (H:Hp):V->D->Prop where
 | non:Den K H .non .non
 | bl {b:Bool}:Den K H (.bl b) (.bl b)
 | int {i:Int}:Den K H (.int i) (.int i)
 | str {x:Str}:Den K H (.str x) (.str x)
 | tup {a:Addr} {vs:List V} {ds:List D} (h:SqT K H a vs) (r:wt K H vs ds):Den K H (.ref a) (.tup ds)
 | lst {a:Addr} {vs:List V} {ds:List D} (h:SqL K H a vs) (r:wt K H vs ds):Den K H (.ref a) (.lst ds)
inductive wt (K:PySem.W.Frag) (H:Hp):List V->List D->Prop where
 | nil:wt K H [] []
 | cons {v:V} {d:D} {vs:List V} {ds:List D} (h:Den K H v d) (r:wt K H vs ds):wt K H (v :: vs) (d :: ds)
end
section
variable {K:PySem.W.Frag} {H H':Hp}
theorem jd (e:lK H H') {a:Addr} {xs:List V} (h:SqT K H a xs):SqT K H' a xs:=by
 rcases h with (h | ⟨o,h⟩) | h
 · exact .inl (.inl (e _ _ h))
 · exact .inl (.inr ⟨o,e _ _ h⟩)
 · exact .inr h
theorem iW (e:lK H H') {a:Addr} {xs:List V} (h:SqL K H a xs):SqL K H' a xs:=e.seq h
end
noncomputable def aA (i j:Int):Prop:=i.natAbs.log2 < 64\/j.natAbs.log2 < 64\/(i.natAbs.log2 < 1000000/\j.natAbs.log2 < 1000000)
noncomputable instance (i j:Int):Decidable (aA i j):=inferInstanceAs (Decidable (_\/_\/(_/\_)))
noncomputable def aK (j:Int):Prop:=j ≠ 0/\j.natAbs.log2 < 9000
noncomputable instance (j:Int):Decidable (aK j):=inferInstanceAs (Decidable (_/\_))
noncomputable def ae:Nat:=1000000
mutual
noncomputable def eqD:D->D->Bool
 | .non,.non=>true
 | .bl a,.bl b=>a == b
 | .bl a,.int j=>(if a then 1 else 0) == j
 | .int i,.bl b=>i == (if b then 1 else 0)
 | .int a,.int b=>a == b
 | .str a,.str b=>a == b
 | .tup xs,.tup ys=>ll xs ys
 | .lst xs,.lst ys=>ll xs ys
 | .non,.bl _ | .non,.int _ | .non,.str _ | .non,.tup _ | .non,.lst _=>false
 | .bl _,.non | .bl _,.str _ | .bl _,.tup _ | .bl _,.lst _=>false
 | .int _,.non | .int _,.str _ | .int _,.tup _ | .int _,.lst _=>false
 | .str _,.non | .str _,.bl _ | .str _,.int _ | .str _,.tup _ | .str _,.lst _=>false
 | .tup _,.non | .tup _,.bl _ | .tup _,.int _ | .tup _,.str _ | .tup _,.lst _=>false
 | .lst _,.non | .lst _,.bl _ | .lst _,.int _ | .lst _,.str _ | .lst _,.tup _=>false
noncomputable def ll:List D->List D->Bool
 | [],[]=>true
 | x :: xs,y :: ys=>eqD x y && ll xs ys
 | [],_ :: _=>false
 | _ :: _,[]=>false
end
mutual
noncomputable def toP:D->PyData
 | .non=>.none
 | .bl b=>.bool b
 | .int i=>.int i
 | .str x=>.str x
 | .tup xs=>.tuple (jK xs)
 | .lst xs=>.list (jK xs)
noncomputable def jK:List D->List PyData
 | []=>[]
 | x :: xs=>toP x :: jK xs
end
mutual
noncomputable def cln:D->Bool
 | .str x=>PyData.strOk x
 | .tup xs=>sX xs
 | .lst xs=>sX xs
 | .non | .bl _ | .int _=>true
noncomputable def sX:List D->Bool
 | []=>true
 | x :: xs=>cln x && sX xs
end
mutual
noncomputable def dep:D->Nat
 | .tup xs=>u5 xs + 1
 | .lst xs=>u5 xs + 1
 | .non | .bl _ | .int _ | .str _=>0
noncomputable def u5:List D->Nat
 | []=>0
 | x :: xs=>max (dep x) (u5 xs)
end
noncomputable def vv (x:D):Prop:=cln x=true/\dep x<=64
noncomputable instance (x:D):Decidable (vv x):=inferInstanceAs (Decidable (_/\_))
mutual
theorem qZ:∀ x y:D,PyData.eqv (toP x) (toP y)=eqD x y
 | .non,y=>by cases y <;> simp [toP,PyData.eqv,eqD]
 | .bl a,y=>by cases y <;> simp [toP,PyData.eqv,eqD]
 | .int a,y=>by cases y <;> simp [toP,PyData.eqv,eqD]
 | .str a,y=>by cases y <;> simp [toP,PyData.eqv,eqD]
 | .tup xs,.tup ys=>by simp only [toP,PyData.eqv,eqD]; exact nQ xs ys
 | .lst xs,.lst ys=>by simp only [toP,PyData.eqv,eqD]; exact nQ xs ys
 | .tup xs,.non=>by simp [toP,PyData.eqv,eqD]
 | .tup xs,.bl _=>by simp [toP,PyData.eqv,eqD]
 | .tup xs,.int _=>by simp [toP,PyData.eqv,eqD]
 | .tup xs,.str _=>by simp [toP,PyData.eqv,eqD]
 | .tup xs,.lst _=>by simp [toP,PyData.eqv,eqD]
 | .lst xs,.non=>by simp [toP,PyData.eqv,eqD]
 | .lst xs,.bl _=>by simp [toP,PyData.eqv,eqD]
 | .lst xs,.int _=>by simp [toP,PyData.eqv,eqD]
 | .lst xs,.str _=>by simp [toP,PyData.eqv,eqD]
 | .lst xs,.tup _=>by simp [toP,PyData.eqv,eqD]
theorem nQ:∀ xs ys:List D,PyData.eqvAll (jK xs) (jK ys)=ll xs ys
 | [],[]=>by simp [jK,PyData.eqvAll,ll]
 | [],_ :: _=>by simp [jK,PyData.eqvAll,ll]
 | _ :: _,[]=>by simp [jK,PyData.eqvAll,ll]
 | x :: xs,y :: ys=>by simp only [jK,PyData.eqvAll,ll]; rw [qZ x y,nQ xs ys]
end
mutual
theorem xl:∀ x:D,(toP x).canLay0=cln x
 | .non=>by simp [toP,PyData.canLay0,cln]
 | .bl _=>by simp [toP,PyData.canLay0,cln]
 | .int _=>by simp [toP,PyData.canLay0,cln]
 | .str _=>by simp [toP,PyData.canLay0,cln]
 | .tup xs=>by simp only [toP,PyData.canLay0,cln]; exact oW xs
 | .lst xs=>by simp only [toP,PyData.canLay0,cln]; exact oW xs
theorem oW:∀ xs:List D,PyData.canLayAll0 (jK xs)=sX xs
 | []=>by simp [jK,PyData.canLayAll0,sX]
 | x :: xs=>by simp only [jK,PyData.canLayAll0,sX]; rw [xl x,oW xs]
end
mutual
theorem xy:∀ x:D,(toP x).depth=dep x
 | .non=>by simp [toP,PyData.depth,dep]
 | .bl _=>by simp [toP,PyData.depth,dep]
 | .int _=>by simp [toP,PyData.depth,dep]
 | .str _=>by simp [toP,PyData.depth,dep]
 | .tup xs=>by simp only [toP,PyData.depth,dep]; rw [pf xs]
 | .lst xs=>by simp only [toP,PyData.depth,dep]; rw [pf xs]
theorem pf:∀ xs:List D,PyData.depthAll (jK xs)=u5 xs
 | []=>by simp [jK,PyData.depthAll,u5]
 | x :: xs=>by simp only [jK,PyData.depthAll,u5]; rw [xy x,pf xs]
end
theorem iF {x:D} (h:vv x):SeqAt.shaped (toP x)=true:=by
 unfold SeqAt.shaped
 rw [xl,xy,h.1,Bool.true_and]
 exact decide_eq_true h.2
section
variable {X:Cx} {pins:List (Addr × Obj)} {σ:L2.St} {H G:Hp} {s:Shared}
mutual
theorem jf (I:Inv X pins σ H s) (e:lK G H):∀ {v:V} {d:D} {u:Value},Den X.K G v d->RelV v u->∃ as,Reads s.heap u (toP d) as
 | _,_,_,.non,r=>by cases r; exact ⟨_,.none⟩
 | _,_,_,.bl,r=>by cases r; exact ⟨_,.bool _⟩
 | _,_,_,.int,r=>by obtain ⟨t,rfl⟩:=r; exact ⟨_,.int _ _⟩
 | _,_,_,.str,r=>by obtain ⟨t,rfl⟩:=r; exact ⟨_,.str _ _⟩
 | _,_,_,.tup h q,r=>by
   cases r
   obtain ⟨its,rv,⟨o,h1,h2,n,h3⟩,_⟩:=I.tuple (jd e h)
   obtain ⟨as,z⟩:=lh I e q rv
   exact ⟨_,.tuple h1 h2 h3 (by simpa using z)⟩
 | _,_,_,.lst h q,r=>by
   cases r
   obtain ⟨its,rv,⟨o,n,h1,h2,_,h3⟩,_⟩:=I.list (iW e h)
   obtain ⟨as,z⟩:=lh I e q rv
   exact ⟨_,.list h1 h2 h3 (by simpa using z)⟩
theorem lh (I:Inv X pins σ H s) (e:lK G H):∀ {vs:List V} {ds:List D} {us:List Value},wt X.K G vs ds->Vals vs us->∃ as,ReadsAll s.heap us (jK ds) as
 | _,_,_,.nil,.nil=>⟨_,.nil⟩
 | _,_,_,.cons h q,.cons r rs=>by
   obtain ⟨as,z⟩:=jf I e h r
   obtain ⟨bs,z'⟩:=lh I e q rs
   exact ⟨_,.cons z z'⟩
end
end
section
variable {K:PySem.W.Frag} {H₀ H H':Hp} {W:Hp->Hp} {acc:List Nat} {A:List (Option Addr)} {σ:L2.St} {ρ:Env}
theorem dj {H:Hp} {p:Addr} (h:H p=none) (o:HO):lK H (upd H p o):=λb u q=>by rw [ar (ay q h)]; exact q
end
noncomputable def Ite (K:PySem.W.Frag) (a:Addr):L2.It:=
 ⟨λi H=>∃ xs x,SqL K H a xs/\xs[i]?=some x,λi H v H'=>∃ p x,H p=none/\v=.ref p/\H'=upd H p (.tup [.int (i:Nat),x])/\∀ xs,SqL K H a xs->xs[i]?=some x,λi H=>∃ xs,SqL K H a xs/\xs.length<=i⟩
theorem yC {P:Program} {w:World} {K:PySem.W.Frag} {ts:List Expr} {q:Nat} {tp:Pos} (a e it:Addr) (hne:e ≠ it) :
   Turn P w K (.Tuple ts q tp) (Ite K a) [e,it] e (λi h=>(∃ old,IsEnum h e it (i:Nat) old)/\h.IsListIter it a i) where
 mem:=by simp
 obj:=λi h st b hb=>by
   obtain ⟨⟨old,h1⟩,o,h2,h3,h4⟩:=st
   rcases List.mem_cons.mp hb with rfl | hb
   · exact ⟨_,h1,λv z=>nomatch z⟩
   · have z:b=it:=by simpa using hb
     subst z
     exact ⟨o,h2,λv z=>by rw [h4] at z; cases z⟩
 keep:=λi h h' st k=>by
   obtain ⟨⟨old,h1⟩,o,h2,h3,h4⟩:=st
   exact ⟨⟨old,k e (by simp) _ h1⟩,o,k it (by simp) o h2,h3,h4⟩
 item:=by
   intro X hP hw hK hc i pins s σ H E I hf st hg
   subst hP hw hK
   obtain ⟨xs,x,hq,hx⟩:=hg
   obtain ⟨its,rv,p,hz⟩:=I.list hq
   obtain ⟨u,hu,ru⟩:=rv.get hx
   obtain ⟨⟨old,h1⟩,h2⟩:=st
   have fe:=hf e (by simp)
   have fi:=hf it (by simp)
   refine wpAny_pyNext_enum_item h1 h2 p.isList (x:=u) (by simpa using hu) hne λh' g1 g2 g3 g4 g5=>⟨_,rfl,?_⟩
   refine wpAny_letOwnedTupleGo_enum (s:={ s with heap:=h',toks:=s.toks + 1 }) g1 λh2' k1 k2=>?_
   have hn:H s.heap.objs.size=none:=I.hok.fresh (Nat.le_refl _)
   have le1:e < s.heap.objs.size:=Heap.lt_size h1
   have le2:it < s.heap.objs.size:=by obtain ⟨o,z,_⟩:=h2; exact Heap.lt_size z
   have kp:∀ b o,b ≠ e->b ≠ it->s.heap.get? b=some o->h2'.get? b=some o:=λb o b1 b2 z=>(k2.2 b b1).trans (g5 b o b1 b2 z)
   have nt:h2'.get? s.heap.objs.size=some { cls:=.type "tuple",data:=.seq #[.int (i:Nat) s.toks,u] }:=(k2.2 _ (Nat.ne_of_gt le1)).trans g3
   have ne1:∀ b v,H b=some v->b ≠ e:=λb v z q=>by rw [q,fe.1] at z; cases z
   have ne2:∀ b v,H b=some v->b ≠ it:=λb v z q=>by rw [q,fi.1] at z; cases z
   have hok0:HOk X.prog X.w H h2':=λb v z=>(I.hok b v z).kn (λc v' hc' q=>kp c v' (by
       rcases hc' with hc' | hc'
       · rw [hc']; exact ne1 b v z
       · exact ne1 c _ hc') (by
       rcases hc' with hc' | hc'
       · rw [hc']; exact ne2 b v z
       · exact ne2 c _ hc') q) (λ_ q=>q) λ_ _ q=>q
   have hok1:HOk X.prog X.w (upd H s.heap.objs.size (.tup [.int (i:Nat),x])) h2':=λb v z=>by
     by_cases hb:b=s.heap.objs.size
     · subst hb
       rw [aW] at z; cases z
       exact ⟨(by show 2<=sizeLine; decide),[.int (i:Nat) s.toks,u],.cons ⟨_,rfl⟩ (.cons ru .nil),_,nt,rfl,_,rfl⟩
     · rw [ar hb] at z
       exact (hok0 b v z).kn (λc v' _ q=>q) (λc q=>by rw [ar (ay q hn)]; exact q) λc ys q=>by rw [ar (ay q hn)]; exact q
   have I1:Inv X pins σ (upd H s.heap.objs.size (.tup [.int (i:Nat),x])) { s with heap:=h2',toks:=s.toks + 1 }:=by
     refine I.step (g':=s.gens) (d':=s.drawn) (ch:=[e,it]) (λb hb=>?_) (λb o _ _ hc' z _=>kp b o (λq=>hc' (by simp [q])) (λq=>hc' (by simp [q])) z)
       (λb o _ _ hc' z _=>⟨o.slots,kp b o (λq=>hc' (by simp [q])) (λq=>hc' (by simp [q])) z⟩)
       (λb o hc' z n=>by rw [ar (Nat.ne_of_lt (Heap.lt_size z))]; exact n) (λb o hc' z=>⟨o,kp b o (λq=>hc' (by simp [q])) (λq=>hc' (by simp [q])) z⟩)
       (λb ys z=>by rw [ar (ay z hn)]; exact z) (λb o u z=>by rw [ar (ay z hn)]; exact z) (λb ps z=>⟨#[],by rw [ar (ay z hn),z]; simp⟩) (λm hm=>?_) hok1 I.bare
     · rcases List.mem_cons.mp hb with rfl | hb
       · exact ⟨fe.2.2.2.1,fe.2.1,fe.2.2.2.2.1,fe.2.2.2.2.2⟩
       · have z:b=it:=by simpa using hb
         subst z
         exact ⟨fi.2.2.2.1,fi.2.1,fi.2.2.2.2.1,fi.2.2.2.2.2⟩
     · obtain ⟨o,es,ep,ho,r⟩:=hm
       exact ⟨o,es,ep,kp _ o (Ne.symm fe.2.1) (Ne.symm fi.2.1) ho,r⟩
   refine ⟨.ref s.heap.objs.size,_,I1,rfl,⟨s.heap.objs.size,x,hn,rfl,rfl,λys hy=>by rw [I.kd hy hq]; exact hx⟩,⟨⟨_,k1⟩,?_⟩,λb hb=>?_⟩
   · obtain ⟨o,z1,z2,z3⟩:=g2
     exact ⟨o,(k2.2 it (Ne.symm hne)).trans z1,z2,z3⟩
   · rcases List.mem_cons.mp hb with rfl | hb
     · rw [ar (Nat.ne_of_lt le1)]; exact fe.1
     · have z:b=it:=by simpa using hb
       subst z
       rw [ar (Nat.ne_of_lt le2)]; exact fi.1
 done:=by
   intro X hP hw hK hc i pins s σ H E I hf st hg
   subst hP hw hK
   obtain ⟨xs,hq,hx⟩:=hg
   obtain ⟨its,rv,p,hz⟩:=I.list hq
   obtain ⟨⟨old,h1⟩,h2⟩:=st
   obtain ⟨f0,f1,f2,f3,f4,f5⟩:=hf it (by simp)
   have hl:=rv.length
   exact wpAny_pyNext_enum_end (I.ok.hd hc) h1 h2 p.isList (by simp; omega) λh' eb=>⟨rfl,I.turned (t':=s.toks) (λb o hb z=>eb b o hb z) f0 f1 f3 f4 f5⟩
 self:=λ_ _ _ _ _ st h=>by
   obtain ⟨⟨old,h1⟩,_⟩:=st
   exact wpAny_pyIter_enum h1 h
section
variable {X:Cx}
noncomputable def B6 (K:PySem.W.Frag) (ta:TA):TI:=λσ H R=>ta σ H λvs H1=>∃ a,vs=[.ref a]/\(∃ xs,SqL K H1 a xs)/\R (Ite K a) H1
theorem zj:bootBuiltins "enumerate" = some (.type "enumerate"):=by decide +kernel
theorem rG {ts:List Expr} {q:Nat} {tp:Pos} {a:Expr} {ta:TA} {p pos:Pos} (hg:Gl X "enumerate") (hm:X.mg "enumerate" = none) (ha:PA X [a] ta) (hs:starEach [a] X.env=[(false,eval a X.env)]) :
   PI X (.Tuple ts q tp) (.Call (.Name "enumerate" p) [a] [] pos) (B6 X.K ta):=by
 intro pins s σ H R I h
 refine Call_ (g8 I hg hm zj (PyProof.Rows.callWith_type1 (thn (ha pos pins s σ H _ I h) λus s1 ⟨vs,H1,I1,r1,q1⟩=>?_) hs rfl))
 obtain ⟨l,e,⟨xs,hq⟩,q⟩:=q1
 subst e
 obtain ⟨u,rfl,ru⟩:=vals1 r1
 cases ru
 obtain ⟨its,rv,pl,hz⟩:=I1.list hq
 refine call_enumerate_list pl.isList λh' g1 g2 g3 g4=>?_
 refine wpAny_pyIter_enum (s:={ s1 with heap:=h' }) g1 ?_
 have I2:Inv X pins σ H1 { s1 with heap:=h' }:=I1.kept (t':=s1.toks) g4
 have n1:H1 (s1.heap.objs.size + 1)=none:=I1.hok.fresh (by omega)
 have n2:H1 s1.heap.objs.size=none:=I1.hok.fresh (Nat.le_refl _)
 refine ⟨s1.heap.objs.size + 1,[s1.heap.objs.size + 1,s1.heap.objs.size],_,_,H1,rfl,I2,yC l (s1.heap.objs.size + 1) s1.heap.objs.size (Nat.succ_ne_self _),⟨⟨_,g1⟩,g2⟩,λb hb=>?_,q⟩
 rcases List.mem_cons.mp hb with rfl | hb
 · exact I1.sj (by omega) n1
 · have z:b=s1.heap.objs.size:=by simpa using hb
   subst z
   exact I1.sj (Nat.le_refl _) n2
end
noncomputable def Itz (K:PySem.W.Frag) (a b:Addr):L2.It:=
 ⟨λi H=>∃ xs ys x y,SqL K H a xs/\SqL K H b ys/\xs[i]?=some x/\ys[i]?=some y,
  λi H v H'=>∃ p x y,H p=none/\v=.ref p/\H'=upd H p (.tup [x,y])/\(∀ xs,SqL K H a xs->xs[i]?=some x)/\∀ ys,SqL K H b ys->ys[i]?=some y,
  λi H=>∃ xs ys,SqL K H a xs/\SqL K H b ys/\(xs.length<=i\/ys.length<=i)⟩
noncomputable def zSt (a b z TI TO i1 i2:Addr) (i:Nat) (h:Heap):Prop:=
 IsZip h z TI TO .none/\IsPair h TI (.ref i1) (.ref i2)/\(∃ u v,IsPair h TO u v)/\h.IsListIter i1 a i/\h.IsListIter i2 b i
theorem qb {h:Heap} {a b z TI TO i1 i2:Addr} {i:Nat} {xs ys:Array Value} (n:TI ≠ TO) (m:i1 ≠ i2) (s:zSt a b z TI TO i1 i2 i h) (l1:h.IsList a xs) (l2:h.IsList b ys):ZipApart z TI TO i1 i2 a b:=by
 obtain ⟨h1,h2,⟨u,v,h3⟩,⟨o4,h4,c4,d4⟩,⟨o5,h5,c5,d5⟩⟩:=s
 obtain ⟨o6,h6,c6,n6,d6⟩:=l1
 obtain ⟨o7,h7,c7,n7,d7⟩:=l2
 have kk:∀ {x y:Addr} {o p:Obj},h.get? x=some o->h.get? y=some p->o.cls ≠ p.cls->x ≠ y:=λe1 e2 c q=>by subst q; rw [e1] at e2; cases e2; exact c rfl
 have cz:∀ {s t:String},s ≠ t->Value.type s ≠ Value.type t:=λn q=>n (by cases q; rfl)
 refine ⟨kk h2 h1 (cz (by decide)),kk h3 h1 (cz (by decide)),kk h4 h1 ?_,kk h5 h1 ?_,n,kk h2 h4 ?_,kk h2 h5 ?_,kk h3 h4 ?_,kk h3 h5 ?_,m,kk h6 h1 ?_,kk h6 h3 ?_,kk h6 h4 ?_,kk h6 h5 ?_,kk h7 h1 ?_,kk h7 h3 ?_,kk h7 h4 ?_,kk h7 h5 ?_⟩
 all_goals first | (rw [c4]; exact cz (by decide)) | (rw [c5]; exact cz (by decide)) | (rw [c6]; exact cz (by decide)) | (rw [c7]; exact cz (by decide)) | (rw [c6,c4]; exact cz (by decide)) | (rw [c6,c5]; exact cz (by decide)) | (rw [c7,c4]; exact cz (by decide)) | (rw [c7,c5]; exact cz (by decide))
theorem BI {P:Program} {w:World} {K:PySem.W.Frag} {ts:List Expr} {q:Nat} {tp:Pos} (a b z TI TO i1 i2:Addr) (nT:TI ≠ TO) (nI:i1 ≠ i2) :
   Turn P w K (.Tuple ts q tp) (Itz K a b) [z,TI,TO,i1,i2] z (zSt a b z TI TO i1 i2) where
 mem:=by simp
 obj:=λi h st c hb=>by
   obtain ⟨h1,h2,⟨u,v,h3⟩,⟨o4,h4,c4,d4⟩,⟨o5,h5,c5,d5⟩⟩:=st
   simp only [List.mem_cons,List.not_mem_nil,or_false] at hb
   rcases hb with rfl | rfl | rfl | rfl | rfl
   · exact ⟨_,h1,λv z=>nomatch z⟩
   · exact ⟨_,h2,λv z=>nomatch z⟩
   · exact ⟨_,h3,λv z=>nomatch z⟩
   · exact ⟨_,h4,λv z=>by rw [d4] at z; cases z⟩
   · exact ⟨_,h5,λv z=>by rw [d5] at z; cases z⟩
 keep:=λi h h' st k=>by
   obtain ⟨h1,h2,⟨u,v,h3⟩,⟨o4,h4,c4,d4⟩,⟨o5,h5,c5,d5⟩⟩:=st
   exact ⟨k z (by simp) _ h1,k TI (by simp) _ h2,⟨u,v,k TO (by simp) _ h3⟩,⟨o4,k i1 (by simp) _ h4,c4,d4⟩,⟨o5,k i2 (by simp) _ h5,c5,d5⟩⟩
 item:=by
   intro X hP hw hK hc i pins s σ H E I hf st hg
   subst hP hw hK
   obtain ⟨xs,ys,x,y,hq1,hq2,hx,hy⟩:=hg
   obtain ⟨its1,rv1,p1,hz1⟩:=I.list hq1
   obtain ⟨its2,rv2,p2,hz2⟩:=I.list hq2
   obtain ⟨u1,hu1,ru1⟩:=rv1.get hx
   obtain ⟨u2,hu2,ru2⟩:=rv2.get hy
   have D:=qb nT nI st p1.isList p2.isList
   obtain ⟨h1,h2,⟨u,v,h3⟩,h4,h5⟩:=st
   refine wpAny_pyNext_zip_item D h1 h2 h3 h4 h5 p1.isList p2.isList (x:=u1) (y:=u2) (by simpa using hu1) (by simpa using hu2) λh' g1 g2 g3 g4 g5 g6 g7=>⟨_,rfl,?_⟩
   refine wpAny_letOwnedTupleGo_zip (s:={ s with heap:=h' }) g1 λh2' k1 k2=>?_
   have hn:H s.heap.objs.size=none:=I.hok.fresh (Nat.le_refl _)
   have le1:z < s.heap.objs.size:=Heap.lt_size h1
   have lt2:TI < s.heap.objs.size:=Heap.lt_size h2
   have lt3:TO < s.heap.objs.size:=Heap.lt_size h3
   have lt4:i1 < s.heap.objs.size:=by obtain ⟨o,z,_⟩:=h4; exact Heap.lt_size z
   have lt5:i2 < s.heap.objs.size:=by obtain ⟨o,z,_⟩:=h5; exact Heap.lt_size z
   have kp:∀ c o,c ≠ z->c ≠ TO->c ≠ i1->c ≠ i2->s.heap.get? c=some o->h2'.get? c=some o:=λc o b1 b2 b3 b4 e=>(k2.2 c b1).trans (g7 c o b1 b2 b3 b4 e)
   have nt:IsPair h2' s.heap.objs.size u1 u2:=(k2.2 _ (Nat.ne_of_gt le1)).trans g5
   have ne:∀ c,c ∈ [z,TI,TO,i1,i2]->∀ d v,H d=some v->d ≠ c:=λc hc d v e q=>by
     have:=(hf c hc).1
     rw [q,this] at e; cases e
   have hok0:HOk X.prog X.w H h2':=λd v e=>(I.hok d v e).kn (λc v' hc' q=>kp c v'
       (by rcases hc' with hc' | hc'
           · rw [hc']; exact ne z (by simp) d v e
           · exact ne z (by simp) c _ hc')
       (by rcases hc' with hc' | hc'
           · rw [hc']; exact ne TO (by simp) d v e
           · exact ne TO (by simp) c _ hc')
       (by rcases hc' with hc' | hc'
           · rw [hc']; exact ne i1 (by simp) d v e
           · exact ne i1 (by simp) c _ hc')
       (by rcases hc' with hc' | hc'
           · rw [hc']; exact ne i2 (by simp) d v e
           · exact ne i2 (by simp) c _ hc') q) (λ_ q=>q) λ_ _ q=>q
   have hok1:HOk X.prog X.w (upd H s.heap.objs.size (.tup [x,y])) h2':=λd v e=>by
     by_cases hb:d=s.heap.objs.size
     · subst hb
       rw [aW] at e; cases e
       exact ⟨(by show 2<=sizeLine; decide),[u1,u2],.cons ru1 (.cons ru2 .nil),_,nt,rfl,_,rfl⟩
     · rw [ar hb] at e
       exact (hok0 d v e).kn (λc v' _ q=>q) (λc q=>by rw [ar (ay q hn)]; exact q) λc ys q=>by rw [ar (ay q hn)]; exact q
   have I1:Inv X pins σ (upd H s.heap.objs.size (.tup [x,y])) { s with heap:=h2' }:=by
     refine I.step (t':=s.toks) (g':=s.gens) (d':=s.drawn) (ch:=[z,TO,i1,i2]) (λc hb=>?_) (λc o _ _ hc' e _=>kp c o (λq=>hc' (by simp [q])) (λq=>hc' (by simp [q])) (λq=>hc' (by simp [q])) (λq=>hc' (by simp [q])) e)
       (λc o _ _ hc' e _=>⟨o.slots,kp c o (λq=>hc' (by simp [q])) (λq=>hc' (by simp [q])) (λq=>hc' (by simp [q])) (λq=>hc' (by simp [q])) e⟩)
       (λc o hc' e n=>by rw [ar (Nat.ne_of_lt (Heap.lt_size e))]; exact n) (λc o hc' e=>⟨o,kp c o (λq=>hc' (by simp [q])) (λq=>hc' (by simp [q])) (λq=>hc' (by simp [q])) (λq=>hc' (by simp [q])) e⟩)
       (λc ys e=>by rw [ar (ay e hn)]; exact e) (λc o u e=>by rw [ar (ay e hn)]; exact e) (λc ps e=>⟨#[],by rw [ar (ay e hn),e]; simp⟩) (λm hm=>?_) hok1 I.bare
     · have hb':c ∈ [z,TI,TO,i1,i2]:=by
         simp only [List.mem_cons,List.not_mem_nil,or_false] at hb ⊢
         rcases hb with h | h | h | h <;> simp [h]
       have fe:=hf c hb'
       exact ⟨fe.2.2.2.1,fe.2.1,fe.2.2.2.2.1,fe.2.2.2.2.2⟩
     · obtain ⟨o,es,ep,ho,r⟩:=hm
       exact ⟨o,es,ep,kp _ o (Ne.symm (hf z (by simp)).2.1) (Ne.symm (hf TO (by simp)).2.1) (Ne.symm (hf i1 (by simp)).2.1) (Ne.symm (hf i2 (by simp)).2.1) ho,r⟩
   refine ⟨.ref s.heap.objs.size,_,I1,rfl,⟨s.heap.objs.size,x,y,hn,rfl,rfl,λzs hy'=>by rw [I.kd hy' hq1]; exact hx,λzs hy'=>by rw [I.kd hy' hq2]; exact hy⟩,⟨k1,?_,⟨u1,u2,(k2.2 TO D.TOz).trans g2⟩,?_,?_⟩,λc hb=>?_⟩
   · exact kp TI _ D.TIz D.TITO D.TIi1 D.TIi2 h2
   · obtain ⟨o,z1,z2,z3⟩:=g3
     exact ⟨o,(k2.2 i1 D.i1z).trans z1,z2,z3⟩
   · obtain ⟨o,z1,z2,z3⟩:=g4
     exact ⟨o,(k2.2 i2 D.i2z).trans z1,z2,z3⟩
   · have fc:=(hf c hb).1
     have lt:c < s.heap.objs.size:=by
       simp only [List.mem_cons,List.not_mem_nil,or_false] at hb
       rcases hb with rfl | rfl | rfl | rfl | rfl <;> assumption
     rw [ar (Nat.ne_of_lt lt)]
     exact fc
 done:=by
   intro X hP hw hK hc i pins s σ H E I hf st hg
   subst hP hw hK
   obtain ⟨xs,ys,hq1,hq2,hx⟩:=hg
   obtain ⟨its1,rv1,p1,hz1⟩:=I.list hq1
   obtain ⟨its2,rv2,p2,hz2⟩:=I.list hq2
   have D:=qb nT nI st p1.isList p2.isList
   obtain ⟨h1,h2,⟨u,v,h3⟩,h4,h5⟩:=st
   have hl1:=rv1.length
   have hl2:=rv2.length
   refine wpAny_pyNext_zip_end (I.ok.hd hc) D h1 h2 h3 h4 h5 p1.isList p2.isList (by
     rcases hx with hx | hx
     · left; simp; omega
     · right; simp; omega) λh' eb=>⟨rfl,?_⟩
   have ne:∀ c,c ∈ [z,TI,TO,i1,i2]->∀ d v,H d=some v->d ≠ c:=λc hc d v e q=>by
     have:=(hf c hc).1
     rw [q,this] at e; cases e
   have hok0:HOk X.prog X.w H h':=λd v e=>(I.hok d v e).kn (λc v' hc' q=>eb c v'
       (by rcases hc' with hc' | hc'
           · rw [hc']; exact ne z (by simp) d v e
           · exact ne z (by simp) c _ hc')
       (by rcases hc' with hc' | hc'
           · rw [hc']; exact ne TO (by simp) d v e
           · exact ne TO (by simp) c _ hc')
       (by rcases hc' with hc' | hc'
           · rw [hc']; exact ne i1 (by simp) d v e
           · exact ne i1 (by simp) c _ hc')
       (by rcases hc' with hc' | hc'
           · rw [hc']; exact ne i2 (by simp) d v e
           · exact ne i2 (by simp) c _ hc') q) (λ_ q=>q) λ_ _ q=>q
   refine I.step (t':=s.toks) (g':=s.gens) (d':=s.drawn) (ch:=[z,TO,i1,i2]) (λc hb=>?_) (λc o _ _ hc' e _=>eb c o (λq=>hc' (by simp [q])) (λq=>hc' (by simp [q])) (λq=>hc' (by simp [q])) (λq=>hc' (by simp [q])) e)
       (λc o _ _ hc' e _=>⟨o.slots,eb c o (λq=>hc' (by simp [q])) (λq=>hc' (by simp [q])) (λq=>hc' (by simp [q])) (λq=>hc' (by simp [q])) e⟩)
       (λc o hc' e n=>n) (λc o hc' e=>⟨o,eb c o (λq=>hc' (by simp [q])) (λq=>hc' (by simp [q])) (λq=>hc' (by simp [q])) (λq=>hc' (by simp [q])) e⟩)
       (λc ys e=>e) (λc o u e=>e) (λc ps e=>⟨#[],by rw [e]; simp⟩) (λm hm=>?_) hok0 I.bare
   · have hb':c ∈ [z,TI,TO,i1,i2]:=by
       simp only [List.mem_cons,List.not_mem_nil,or_false] at hb ⊢
       rcases hb with h | h | h | h <;> simp [h]
     have fe:=hf c hb'
     exact ⟨fe.2.2.2.1,fe.2.1,fe.2.2.2.2.1,fe.2.2.2.2.2⟩
   · obtain ⟨o,es,ep,ho,r⟩:=hm
     exact ⟨o,es,ep,eb _ o (Ne.symm (hf z (by simp)).2.1) (Ne.symm (hf TO (by simp)).2.1) (Ne.symm (hf i1 (by simp)).2.1) (Ne.symm (hf i2 (by simp)).2.1) ho,r⟩
 self:=λ_ _ _ _ _ st h=>wpAny_pyIter_zip st.1 h
section
variable {X:Cx}
noncomputable def JA (K:PySem.W.Frag) (ta:TA):TI:=λσ H R=>ta σ H λvs H1=>∃ a b,vs=[.ref a,.ref b]/\(∃ xs,SqL K H1 a xs)/\(∃ ys,SqL K H1 b ys)/\R (Itz K a b) H1
theorem FQ {ts:List Expr} {q:Nat} {tp:Pos} {a b:Expr} {ta:TA} {p pos:Pos} (hg:Gl X "zip") (hm:X.mg "zip" = none) (ha:PA X [a,b] ta) (hs:starEach [a,b] X.env=(false,eval a X.env) :: starEach [b] X.env) (hs2:starEach [b] X.env=[(false,eval b X.env)]) :
   PI X (.Tuple ts q tp) (.Call (.Name "zip" p) [a,b] [] pos) (JA X.K ta):=by
 intro pins s σ H R I h
 refine Call_ (g8 I hg hm boot_zip (PyProof.Rows.callWith_type1 (thn (ha pos pins s σ H _ I h) λus s1 ⟨vs,H1,I1,r1,q1⟩=>?_) hs (by rw [hs2]; rfl)))
 obtain ⟨l,l',e,⟨xs,hq1⟩,⟨ys,hq2⟩,q⟩:=q1
 subst e
 obtain ⟨u,u',rfl,ru,ru'⟩:=vals2 r1
 cases ru
 cases ru'
 obtain ⟨its1,rv1,pl1,hz1⟩:=I1.list hq1
 obtain ⟨its2,rv2,pl2,hz2⟩:=I1.list hq2
 refine call_zip_2 pl1.isList pl2.isList λh' g1 g2 g3 g4 g5 g6 g7=>?_
 refine wpAny_pyIter_zip (s:={ s1 with heap:=h' }) g1 ?_
 have I2:Inv X pins σ H1 { s1 with heap:=h' }:=I1.kept (t':=s1.toks) g7
 have nn:∀ j,H1 (s1.heap.objs.size + j)=none:=λj=>I1.hok.fresh (by omega)
 refine ⟨s1.heap.objs.size + 4,[s1.heap.objs.size + 4,s1.heap.objs.size + 2,s1.heap.objs.size + 3,s1.heap.objs.size,s1.heap.objs.size + 1],_,_,H1,rfl,I2,BI l l' (s1.heap.objs.size + 4) (s1.heap.objs.size + 2) (s1.heap.objs.size + 3) s1.heap.objs.size (s1.heap.objs.size + 1) (by simp) (Ne.symm (Nat.succ_ne_self _)),⟨g1,g2,⟨_,_,g3⟩,g4,g5⟩,λc hb=>?_,q⟩
 have hb':∃ j,c=s1.heap.objs.size + j:=by
   simp only [List.mem_cons,List.not_mem_nil,or_false] at hb
   rcases hb with h | h | h | h | h
   · exact ⟨_,h⟩
   · exact ⟨_,h⟩
   · exact ⟨_,h⟩
   · exact ⟨0,h⟩
   · exact ⟨_,h⟩
 obtain ⟨j,rfl⟩:=hb'
 exact I1.sj (Nat.le_add_right _ _) (nn j)
end
section
variable {X:Cx} {tg:Expr}
theorem zS:bootBuiltins "reversed" = some (.type "reversed"):=by decide +kernel
end
theorem Ae:∀ (names:List (Str × NameKind)) (n:Nat) (acc:List (Str × Addr)) (x:Str) (c:Addr),(cellsFrom n names acc).lookup x=some c->n<=c\/acc.lookup x=some c
 | [],_,_,_,_,h=>.inr h
 | (y,k) :: r,n,acc,x,c,h=>by
   unfold cellsFrom at h
   split at h
   · rcases Ae r (n + 1) _ x c h with q | q
     · exact .inl (by omega)
     · rw [List.lookup_cons] at q
       split at q
       · cases q; exact .inl (Nat.le_refl _)
       · exact .inr q
   · exact Ae r n acc x c h
theorem nR:∀ (names:List (Str × NameKind)) (n:Nat) (acc:List (Str × Addr)) (x:Str),(x,NameKind.cell) ∉ names->(cellsFrom n names acc).lookup x=acc.lookup x
 | [],_,_,_,_=>rfl
 | (y,k) :: r,n,acc,x,h=>by
   have h1:(x,NameKind.cell) ∉ r:=λz=>h (List.mem_cons_of_mem _ z)
   unfold cellsFrom
   split
   · rename_i hk
     rw [nR r _ _ x h1,List.lookup_cons]
     have:(x == y)=false:=by
       rw [beq_eq_false_iff_ne]
       rintro rfl
       exact h (by rw [eq_of_beq hk]; exact List.mem_cons_self)
     rw [this]
   · exact nR r n acc x h1
theorem qB:∀ (names:List (Str × NameKind)) (n:Nat) (acc:List (Str × Addr)) (x:Str),(x,NameKind.cell) ∈ names->∃ c,(cellsFrom n names acc).lookup x=some c/\n<=c
 | (y,k) :: r,n,acc,x,h=>by
   unfold cellsFrom
   by_cases hr:(x,NameKind.cell) ∈ r
   · split
     · obtain ⟨c,e,l⟩:=qB r (n + 1) ((y,n) :: acc) x hr
       exact ⟨c,e,by omega⟩
     · exact qB r n acc x hr
   · rcases List.mem_cons.mp h with q | q
     · cases q
       rw [if_pos (by rfl),nR r _ _ _ hr]
       exact ⟨n,by simp [List.lookup_cons],Nat.le_refl _⟩
     · exact absurd q hr
theorem wm:∀ (names:List (Str × NameKind)) (n:Nat) (acc:List (Str × Addr)),(∀ x c,acc.lookup x=some c->c < n)->(∀ x y c,acc.lookup x=some c->acc.lookup y=some c->x=y) ->
   ∀ x y c,(cellsFrom n names acc).lookup x=some c->(cellsFrom n names acc).lookup y=some c->x=y
 | [],_,_,_,h=>h
 | (z,k) :: r,n,acc,hl,h=>by
   unfold cellsFrom
   split
   · refine wm r (n + 1) _ (λx c e=>?_) (λx y c e1 e2=>?_)
     · rw [List.lookup_cons] at e
       split at e
       · cases e; exact Nat.lt_succ_self _
       · exact Nat.lt_succ_of_lt (hl x c e)
     · rw [List.lookup_cons] at e1 e2
       split at e1
       · rename_i q1
         cases e1
         split at e2
         · rename_i q2
           exact (eq_of_beq q1).trans (eq_of_beq q2).symm
         · exact absurd (hl y _ e2) (Nat.lt_irrefl _)
       · split at e2
         · cases e2
           exact absurd (hl x _ e1) (Nat.lt_irrefl _)
         · exact h x y c e1 e2
   · exact wm r n acc hl h
theorem qC:∀ (names:List (Str × NameKind)) (h:Heap) (acc:List (Str × Addr)),(∀ x c,acc.lookup x=some c->∃ v,h.IsCell c v)->∀ x c,(cellsFrom h.objs.size names acc).lookup x=some c->∃ v,(pushCells h names).IsCell c v
 | [],_,_,ha,x,c,e=>ha x c e
 | (z,k) :: r,h,acc,ha,x,c,e=>by
   unfold cellsFrom at e
   unfold pushCells
   split at e
   · rename_i hk
     rw [if_pos hk]
     refine qC r _ ((z,h.objs.size) :: acc) (λy d q=>?_) x c (by rw [Heap.size_push]; exact e)
     rw [List.lookup_cons] at q
     split at q
     · cases q
       exact ⟨none,_,Heap.get?_push_size _ rfl,rfl⟩
     · obtain ⟨v,o,ho,hd⟩:=ha y d q
       exact ⟨v,o,Heap.get?_push_of_some _ ho,hd⟩
   · rename_i hk
     rw [if_neg hk]
     exact qC r h acc ha x c e
noncomputable def eX (env:PySem.Env):List (Str × NameKind)->List (Str × Addr)->List (Str × Addr)
 | [],acc=>acc
 | (n,k) :: r,acc=>if k == .free then (match env.cells.lookup n with | some c=>eX env r ((n,c) :: acc) | none=>eX env r acc) else eX env r acc
theorem oJ (env:PySem.Env):∀ (names:List (Str × NameKind)) (acc:List (Str × Addr)),(∀ x ∈ names,x.2=.free->∃ c,env.cells.lookup x.1=some c) ->
   (forIn (m:=Sem) names acc λx cs=>do
     let (name,kind):=x
     if kind == .free then do
       let c <- cellOf env name
       pure (ForInStep.yield ((name,c) :: cs))
     else pure (ForInStep.yield cs))=pure (eX env names acc)
 | [],acc,_=>rfl
 | (n,k) :: r,acc,h=>by
   rw [List.forIn_cons]
   unfold eX
   by_cases hk:(k == .free)=true
   · obtain ⟨c,hc⟩:=h (n,k) List.mem_cons_self (eq_of_beq hk)
     simp only [hk,if_true,cellOf,hc,pure_bind]
     exact oJ env r _ λx hx=>h x (List.mem_cons_of_mem _ hx)
   · simp only [hk,Bool.false_eq_true,if_false,pure_bind]
     exact oJ env r _ λx hx=>h x (List.mem_cons_of_mem _ hx)
theorem ym {env:PySem.Env} {scope:Scope} (h:∀ x ∈ scope.names,x.2=.free->∃ c,env.cells.lookup x.1=some c):closureFor scope env=pure (eX env scope.names []):=by
 unfold closureFor
 have:=oJ env scope.names [] h
 simp only [bind_pure]
 exact this
theorem g9 (env:PySem.Env):∀ (names:List (Str × NameKind)) (acc:List (Str × Addr)) (x:Str) (c:Addr),(∀ y d,acc.lookup y=some d->env.cells.lookup y=some d)->(eX env names acc).lookup x=some c->env.cells.lookup x=some c
 | [],_,x,c,ha,h=>ha x c h
 | (n,k) :: r,acc,x,c,ha,h=>by
   unfold eX at h
   split at h
   · split at h
     · rename_i c' hc
       refine g9 env r _ x c (λy d q=>?_) h
       rw [List.lookup_cons] at q
       split at q
       · rename_i qq
         cases q
         rw [eq_of_beq qq]; exact hc
       · exact ha y d q
     · exact g9 env r acc x c ha h
   · exact g9 env r acc x c ha h
theorem fK (env:PySem.Env):∀ (names:List (Str × NameKind)) (acc:List (Str × Addr)) (x:Str) (c:Addr),(∀ y d,acc.lookup y=some d->env.cells.lookup y=some d)->env.cells.lookup x=some c->((x,NameKind.free) ∈ names\/acc.lookup x=some c)->(eX env names acc).lookup x=some c
 | [],_,x,c,_,_,h=>h.elim (λz=>absurd z (by simp)) id
 | (n,k) :: r,acc,x,c,ha,hc,h=>by
   unfold eX
   split
   · split
     · rename_i c' hc'
       refine fK env r _ x c (λy d q=>?_) hc ?_
       · rw [List.lookup_cons] at q
         split at q
         · rename_i qq
           cases q
           rw [eq_of_beq qq]; exact hc'
         · exact ha y d q
       · by_cases q:x=n
         · subst q
           rw [hc] at hc'; cases hc'
           exact .inr (by simp [List.lookup_cons])
         · rcases h with h | h
           · rcases List.mem_cons.mp h with z | z
             · cases z; exact absurd rfl q
             · exact .inl z
           · refine .inr ?_
             rw [List.lookup_cons,beq_eq_false_iff_ne.mpr q]
             exact h
     · rename_i hc'
       refine fK env r acc x c ha hc ?_
       rcases h with h | h
       · rcases List.mem_cons.mp h with z | z
         · cases z; rw [hc] at hc'; cases hc'
         · exact .inl z
       · exact .inr h
   · rename_i hk
     refine fK env r acc x c ha hc ?_
     rcases h with h | h
     · rcases List.mem_cons.mp h with z | z
       · cases z; exact absurd rfl hk
       · exact .inl z
     · exact .inr h
theorem p9 {M:Model} {A:Around} {E:Value->Shared->Prop} {s:Shared} {scope:Scope} {cl:List (Str × Addr)} {env:PySem.Env} {Q:PySem.Env->Shared->Prop}
   (h:Q (newEnv scope s.heap.objs.size env.globals (cellsFrom (s.heap.objs.size + 1) scope.names cl) env.qual none .none (some env) builtinsNs) { s with heap:=pushCells (s.heap.push { cls:=.type "dict",data:=.dict #[] }) scope.names }) :
   wpAny M A (newFunctionEnv scope env.globals cl [] env.qual none .none (some env)) Q E s:=by
 simp only [newFunctionEnv,Option.isSome_some,if_true]
 refine wpAny_bind (wpAny_alloc ?_)
 refine wpAny_bind (wpAny_layCells _ (λname kind cells=>by cases hkc:kind == NameKind.cell <;> simp [hkc]) _ _ _ _ ?_)
 rw [show ({ s with heap:=s.heap.push { cls:=.type "dict",data:=.dict #[] } }:Shared).heap.objs.size=s.heap.objs.size + 1 from Heap.size_push ..]
 exact wpAny_bind (wpAny_pure (wpAny_pure h))
noncomputable def aH (X:Cx) (s:Shared) (H:Hp) (scope:Scope) (N:List Str) (fp:List Addr):Cx:=
 { prog:=X.prog,w:=X.w,K:=X.K,mg:=X.mg,base:=X.base,A:=X.A,N:=N,s₀:=s,H₀:=H
   env:=compEnvC scope (cellsFrom (s.heap.objs.size + 1 + 1) scope.names (eX X.env scope.names [])) (s.heap.objs.size + 1) X.env
   outer:=X.stack,stack:=X.stack,ex:=fp,fn:=λx=>decide ((x,NameKind.cell) ∈ scope.names),calm:=X.calm,pn:=[],xe:=λ_ _=>False }
noncomputable def lx (σ:L2.St) (caps:List (Option Nat)):L2.St:=caps.map λo=>o.bind λi=>(σ[i]?).join
structure kR (X:Cx) (scope:Scope) (N:List Str) (caps:List (Option Nat)):Prop where
 kind:scope.kind=.function
 loc:∀ x ∈ scope.names,x.2=.local->scope.names.lookup x.1=some .local
 fre:∀ x ∈ scope.names,x.2=.free->X.env.kindOf x.1=some .cell
 one:∀ x,(x,NameKind.free) ∈ scope.names->(x,NameKind.cell) ∉ scope.names
 noboth:∀ x,(x,NameKind.free) ∈ scope.names->(x,NameKind.local) ∉ scope.names
 len:N.length=caps.length + 1
 cap:∀ (j i:Nat),caps[j]?=some (some i)->∃ x,N[j]?=some x/\X.N[i]?=some x/\(x,NameKind.free) ∈ scope.names
 acc:∃ z,N[caps.length]?=some z/\¬ Vis (relabel scope X.env) z
section
variable {X:Cx} {pins:List (Addr × Obj)} {σ:L2.St} {H:Hp} {s:Shared} {scope:Scope} {N:List Str} {caps:List (Option Nat)} {fp:List Addr}
theorem bZ {env:PySem.Env} {x:Str} {names:List (Str × NameKind)} (h:∀ y,(y,NameKind.free) ∈ names->env.kindOf y=some .cell) (hk:env.scope.kind=.function) {k:NameKind}
   (e:(names.map λ(n,k)=>if (k == NameKind.free && env.scope.kind == .function && env.kindOf n == some .cell) then (n,NameKind.cell) else (n,k)).lookup x=some k) :
   (x,k) ∈ names\/((x,NameKind.free) ∈ names/\k=.cell):=by
 induction names with
 | nil=>cases e
 | cons p r ih=>
   obtain ⟨n,q⟩:=p
   rw [List.map_cons] at e
   have hr:∀ y,(y,NameKind.free) ∈ r->env.kindOf y=some .cell:=λy hy=>h y (List.mem_cons_of_mem _ hy)
   have sub:((x,k) ∈ r\/((x,NameKind.free) ∈ r/\k=.cell))->(x,k) ∈ (n,q) :: r\/((x,NameKind.free) ∈ (n,q) :: r/\k=.cell):=λz=>
     z.elim (λy=>.inl (List.mem_cons_of_mem _ y)) λy=>.inr ⟨List.mem_cons_of_mem _ y.1,y.2⟩
   dsimp only at e
   split at e
   · rename_i c
     rw [List.lookup_cons] at e
     split at e
     · rename_i qq
       cases e
       rw [Bool.and_eq_true,Bool.and_eq_true] at c
       rw [eq_of_beq qq,eq_of_beq c.1.1]
       exact .inr ⟨List.mem_cons_self,rfl⟩
     · exact sub (ih hr e)
   · rename_i c
     rw [List.lookup_cons] at e
     split at e
     · rename_i qq
       cases e
       rw [eq_of_beq qq]
       exact .inl List.mem_cons_self
     · exact sub (ih hr e)
theorem j2 (I:Inv X pins σ H s) (c:kR X scope N caps):∀ x ∈ scope.names,x.2=.free->∃ d,X.env.cells.lookup x.1=some d:=λx hx hf=>I.ok.has x.1 (.inl (c.fre x hx hf))
theorem ug (I:Inv X pins σ H s) (hf:∀ b ∈ fp,pS X pins H b) (ho:∀ b ∈ fp,∃ o,s.heap.get? b=some o) (c:kR X scope N caps) :
   Inv (aH X s H scope N fp) [] (lx σ caps++[some (.ref s.heap.objs.size)]) (upd H s.heap.objs.size (.lst []))
     { s with heap:=pushCells ((s.heap.push { cls:=.type "list",data:=.seq ([]:List Value).toArray }).push { cls:=.type "dict",data:=.dict #[] }) scope.names }:=by
 have hcl:∀ x d,(eX X.env scope.names []).lookup x=some d->X.env.cells.lookup x=some d:=λx d=>g9 X.env scope.names [] x d (λy d z=>by simp at z)
 have kp:∀ b o,s.heap.get? b=some o->(pushCells ((s.heap.push { cls:=.type "list",data:=.seq ([]:List Value).toArray }).push { cls:=.type "dict",data:=.dict #[] }) scope.names).get? b=some o:=λb o e=>
   pushCells_keeps _ _ b o (Heap.get?_push_of_some _ (Heap.get?_push_of_some _ e))
 have sz2:((s.heap.push { cls:=.type "list",data:=.seq ([]:List Value).toArray }).push { cls:=.type "dict",data:=.dict #[] }).objs.size=s.heap.objs.size + 1 + 1:=by rw [Heap.size_push,Heap.size_push]
 have oldc:∀ x d,X.env.cells.lookup x=some d->d < s.heap.objs.size:=λx d e=>by
   obtain ⟨v,o,q,_⟩:=I.cell x d e
   exact Heap.lt_size q
 have cel:∀ x d,(aH X s H scope N fp).env.cells.lookup x=some d->s.heap.objs.size + 1 + 1<=d\/X.env.cells.lookup x=some d:=λx d e=>by
   rcases Ae _ _ _ x d e with q | q
   · exact .inl q
   · exact .inr (hcl x d q)
 have ok:(aH X s H scope N fp).Ok:=by
   refine ⟨I.ok.mod,c.kind,I.ok.glob,I.ok.blt,Nat.le_succ _,?_,?_,?_,I.ok.hd,I.ok.frames,.inl rfl,?_,I.bs,Nat.le_trans I.ok.bsz I.sz,?_,?_,I.stack,I.xj⟩
   · exact wm _ _ _ (λx d e=>Nat.lt_of_lt_of_le (oldc x d (hcl x d e)) (by omega)) λx y d e1 e2=>I.ok.inj x y d (hcl x d e1) (hcl y d e2)
   · intro x hx
     have hfk:∀ y,(y,NameKind.free) ∈ scope.names->X.env.kindOf y=some .cell:=λy hy=>c.fre _ hy rfl
     have fre:(x,NameKind.free) ∈ scope.names->∃ d,(aH X s H scope N fp).env.cells.lookup x=some d:=λhm=>by
       obtain ⟨d,hd⟩:=j2 I c _ hm rfl
       exact ⟨d,by
         show (cellsFrom _ scope.names _).lookup x=_
         rw [nR _ _ _ x (c.one x hm)]
         exact fK X.env scope.names [] x d (λy e z=>by simp at z) hd (.inl hm)⟩
     have own:(x,NameKind.cell) ∈ scope.names->∃ d,(aH X s H scope N fp).env.cells.lookup x=some d:=λhm=>by
       obtain ⟨d,e,_⟩:=qB scope.names (s.heap.objs.size + 1 + 1) (eX X.env scope.names []) x hm
       exact ⟨d,e⟩
     rcases hx with hx | hx
     · rcases bZ hfk I.ok.kind (show (scope.names.map _).lookup x=some .cell from hx) with q | q
       · exact own q
       · exact fre q.1
     · rcases bZ hfk I.ok.kind (show (scope.names.map _).lookup x=some .free from hx) with q | q
       · exact fre q
       · exact fre q.1
   · intro x d hfn e
     have hm:(x,NameKind.cell) ∈ scope.names:=of_decide_eq_true hfn
     obtain ⟨d',e',l⟩:=qB scope.names (s.heap.objs.size + 1 + 1) (eX X.env scope.names []) x hm
     have e2:(cellsFrom (s.heap.objs.size + 1 + 1) scope.names (eX X.env scope.names [])).lookup x=some d:=e
     rw [e'] at e2; cases e2
     exact Nat.le_trans (Nat.le_trans (Nat.le_succ _) (Nat.le_succ _)) l
   · intro b hb
     obtain ⟨o,q⟩:=ho b hb
     have bl:=Heap.lt_size q
     refine ⟨λz=>?_,λx d e z=>?_⟩
     · have z':b=s.heap.objs.size + 1:=z
       rw [z'] at bl
       exact absurd bl (Nat.not_lt.mpr (Nat.le_succ _))
     · subst z
       rcases cel x d e with q | q
       · exact absurd (Nat.lt_of_lt_of_le bl (Nat.le_trans (Nat.le_trans (Nat.le_succ _) (Nat.le_succ _)) q)) (Nat.lt_irrefl _)
       · exact (hf d hb).2.2.2.2.1 x d q rfl
   · intro b o e hb
     rcases (hf b hb).2.2.2.1 with q | q
     · exact I.ok.noex b o e q
     · have:=Nat.lt_of_lt_of_le (Heap.lt_size e) I.ok.bsz
       exact absurd (Nat.lt_of_lt_of_le this q) (Nat.lt_irrefl _)
   · intro b hb hm
     rcases List.mem_cons.mp (I.vK b hm) with q | q
     · exact (hf b hb).2.1 q
     · exact (hf b hb).2.2.1 q
 have hD:(pushCells ((s.heap.push { cls:=.type "list",data:=.seq ([]:List Value).toArray }).push { cls:=.type "dict",data:=.dict #[] }) scope.names).get? s.heap.objs.size=some { cls:=.type "list",data:=.seq ([]:List Value).toArray }:=
   pushCells_keeps _ _ _ _ (Heap.get?_push_of_some _ (Heap.get?_push_size _ rfl))
 have fr:∀ a,s.heap.objs.size<=a->a ≠ s.heap.objs.size->(upd H s.heap.objs.size (.lst [])) a=none:=λa h1 h2=>by rw [ar h2]; exact I.hok.fresh h1
 refine ⟨ok,rfl,I.bare,Un.laid kp (Nat.le_refl _) (I.hok.fresh (Nat.le_refl _)),⟨λ_=>none,?_,λi x v e1 e2 e3=>?_⟩,λx d e=>?_,?_,λx d e=>?_,λp hp=>absurd (show p ∈ ([]:List (Addr × Obj)) from hp) (by simp),?_,?_⟩
 · have:=Heap.Ns.new (s.heap.push { cls:=.type "list",data:=.seq ([]:List Value).toArray }) (.type "dict")
   rw [Heap.size_push] at this
   exact this.keeps (pushCells_keeps _ _)
 · by_cases hi:i < caps.length
   · rw [List.getElem?_append_left (by unfold lx; rw [List.length_map]; exact hi)] at e2
     unfold lx at e2
     rw [List.getElem?_map] at e2
     cases hc:caps[i]? with
     | none=>rw [hc] at e2; cases e2
     | some o=>
       rw [hc] at e2
       cases o with
       | none=>cases e2
       | some j=>
         have e2':(σ[j]?).join=some v:=Option.some.inj e2
         have e4:σ[j]?=some (some v):=by
           cases q:σ[j]? with
           | none=>rw [q] at e2'; cases e2'
           | some y=>rw [q] at e2'; exact congrArg some e2'
         obtain ⟨x',g1,g2,g3⟩:=c.cap i j hc
         rw [show (aH X s H scope N fp).N=N from rfl,g1] at e1
         cases e1
         have hkc:=c.fre _ g3 rfl
         obtain ⟨m,_,hl⟩:=I.loc
         obtain ⟨u,ru,look⟩:=hl j x v g2 e4 (.inr (.inl hkc))
         refine ⟨u,ru,?_⟩
         rcases look with ⟨k,_⟩ | ⟨k,d,hd,hcell⟩
         · rw [hkc] at k; cases k
         · have e5:(aH X s H scope N fp).env.cells.lookup x=some d:=by
             show (cellsFrom _ scope.names _).lookup x=_
             rw [nR _ _ _ x (c.one x g3)]
             exact fK X.env scope.names [] x d (λy e z=>by simp at z) hd (.inl g3)
           have hcell':Heap.IsCell (pushCells ((s.heap.push { cls:=.type "list",data:=.seq ([]:List Value).toArray }).push { cls:=.type "dict",data:=.dict #[] }) scope.names) d (some u):=by
             obtain ⟨o,q1,q2⟩:=hcell
             exact ⟨o,kp _ _ q1,q2⟩
           refine .inr ⟨?_,d,e5,hcell'⟩
           rcases e3 with e3 | e3 | e3
           · exfalso
             rcases bZ (λy hy=>c.fre _ hy rfl) I.ok.kind (show (scope.names.map _).lookup x=some .local from e3) with q | q
             · have q1:=c.loc _ q rfl
               exact c.noboth x g3 q
             · cases q.2
           · exact .inl e3
           · exact .inr e3
   · exfalso
     obtain ⟨z,z1,z2⟩:=c.acc
     have hl:i < N.length:=(List.getElem?_eq_some_iff.mp e1).1
     have:i=caps.length:=by have:=c.len; omega
     subst this
     rw [show (aH X s H scope N fp).N=N from rfl,z1] at e1
     cases e1
     exact z2 e3
 · rw [show (aH X s H scope N fp).env.cells=cellsFrom (s.heap.objs.size + 1 + 1) scope.names (eX X.env scope.names []) from rfl,<- sz2] at e
   refine qC scope.names _ _ (λy d' q=>?_) x d e
   obtain ⟨v,o,q1,q2⟩:=I.cell y d' (hcl y d' q)
   exact ⟨v,o,Heap.get?_push_of_some _ (Heap.get?_push_of_some _ q1),q2⟩
 · exact fr _ (Nat.le_succ _) (Nat.succ_ne_self _)
 · rcases cel x d e with q | q
   · exact fr d (by omega) (by intro z; omega)
   · rw [ar (Nat.ne_of_lt (oldc x d q))]; exact I.freeC x d q
 · exact I.hok.laid kp (Nat.le_refl _) ⟨Nat.zero_le _,[],0,.nil,hD⟩
 · rw [List.length_append]
   unfold lx
   rw [List.length_map,show (aH X s H scope N fp).N=N from rfl,c.len]
   rfl
end
noncomputable def PTs (X:Cx) (ifs:List Expr) (t:TT):Prop:=
 ∀ (pins:List (Addr × Obj)) (s:Shared) (σ:L2.St) (H:Hp) (Q:Bool->Hp->Prop),Inv X pins σ H s->t σ H Q ->
   wpAny (model X.prog X.w) X.A (forIn ifs true λc r=>if r=true then do let ok <- isTrue c X.env (eval c X.env); pure (ForInStep.yield ok) else pure (ForInStep.yield r)) (TP X pins σ Q) X.xe s
section
variable {prog:Program} {w:World} {A:Around} {R:Result->Shared->Prop} {s:Shared}
theorem oy {elt target iter:Expr} {ifs:List Expr} {scope:Scope} {pos:Pos} {it acc:Value} {env:PySem.Env} (Iv:Nat->Shared->Prop)
   (step:∀ n s,Iv n s->wpAny (model prog w) A (pyNext it) (λr s₁=>match r with
     | none=>R (.ok .next) s₁
     | some v=>wpAny (model prog w) A (letOwnedTupleGo target it v) (λ_ s₀=>wpAny (model prog w) A (assign target env v) (λ_ s₂=>
         wpAny (model prog w) A (forIn ifs true λc r=>if r=true then do let ok <- isTrue c env (eval c env); pure (ForInStep.yield ok) else pure (ForInStep.yield r)) (λok s₃=>
           if ok=true then wpAny (model prog w) A (eval elt env) (λx s₄=>
             wpAny (model prog w) A (call (.builtin "list.append") [acc,x]) (λ_ s₅=>∃ m,m < n/\Iv m s₅) (λ_ _=>False) s₄) (λ_ _=>False) s₃
           else ∃ m,m < n/\Iv m s₃) (λ_ _=>False) s₂) (λ_ _=>False) s₀) (λ_ _=>False) s₁) (λ_ _=>False) s)
   (n:Nat) (h:Iv n s):codeAny (model prog w) A (.compLoop (.ListComp elt [⟨target,iter,ifs,0⟩] scope pos) 0 it acc env) R s:=by
 have no:∀ {α:Type} {t:Sem α} {Q:α->Shared->Prop} {s:Shared} {E:Value->Shared->Prop},wpAny (model prog w) A t Q (λ_ _=>False) s->wpAny (model prog w) A t Q E s:=λh=>wpAny_mono h (λ_ _ q=>q) λ_ _ q=>q.elim
 refine codeAny_loop rfl Iv (λn s hI=>?_) n h
 show wpAny _ A (Sem.onRaise (compTurn (.ListComp elt [⟨target,iter,ifs,0⟩] scope pos) 0 it acc env) (λx=>do noteFrame x env; theTreesLotGoes x)) _ _ s
 refine wpAny_noted ?_
 rw [compTurn_list]
 refine wpAny_bind (wpAny_standAt (wpAny_bind (thn (no (step n s hI)) λr s₁ h₁=>?_)))
 cases r with
 | none=>exact wpAny_pure h₁
 | some v=>
   refine wpAny_bind (thn (no h₁) λ_ s₀ h₀=>wpAny_bind (thn (no h₀) λ_ s₂ h₂=>wpAny_bind (thn (no h₂) λok s₃ h₃=>?_)))
   cases ok with
   | false=>exact wpAny_pure ⟨rfl,h₃⟩
   | true=>exact wpAny_bind (wpAny_bind (thn (no h₃) λx s₄ h₄=>wpAny_bind (thn (no h₄) λ_ s₅ h₅=>wpAny_pure (wpAny_pure ⟨rfl,h₅⟩))))
end
noncomputable def mq (In:TG->TT->TE->Prop) (caps:List (Option Nat)) (wi:TI):TE:=λσ H Q=>wi σ H λJ H1=>∃ g tt te,In g tt te/\∀ D,H1 D=none ->
 ∃ Z:Nat->Nat->L2.St->Hp->Prop,(∃ m,Z 0 m (lx σ caps++[some (.ref D)]) (upd H1 D (.lst [])))/\∀ i m σ' H',Z i m σ' H' ->
   (J.stop i H'/\Q (.ref D) H')\/(J.go i H'/\∀ x H2,J.yld i H' x H2->g x σ' H2 λσ2 H3=>tt σ2 H3 λb H4=>
     if b=true then te σ2 H4 λv H5=>∃ vs m',H5 D=some (.lst vs)/\vs.length < sizeLine/\m' < m/\Z (i + 1) m' σ2 (upd H5 D (.lst (vs++[v]))) else ∃ m',m' < m/\Z (i + 1) m' σ2 H4)
theorem kH {X:Cx} {elt tg iter:Expr} {ifs:List Expr} {scope:Scope} {N:List Str} {caps:List (Option Nat)} {pos:Pos} {wi:TI} {In:TG->TT->TE->Prop} (hc:X.calm=true) (c:kR X scope N caps) (hi:PI X tg iter wi)
   (hs:∀ x,foldedSetIterable iter X.env x=pure x)
   (hin:∀ g tt te,In g tt te->∀ s H fp,PG (aH X s H scope N fp) tg g/\PTs (aH X s H scope N fp) ifs tt/\PE (aH X s H scope N fp) elt te) :
   PE X (.ListComp elt [⟨tg,iter,ifs,0⟩] scope pos) (mq In caps wi):=by
 intro pins s σ H Q I h
 rw [eval_ListComp]
 have hcl:=ym (j2 I c)
 refine wpAny_comprehension_free (use:=none) (g:=⟨tg,iter,ifs,0⟩) (gs:=[]) rfl hs hcl c.kind c.loc ?_
 show wpAny _ _ (eval iter X.env) _ _ s
 refine thn (hi pins s σ H _ I h) λv s1 h1=>thn h1 λitv s2 h2=>?_
 obtain ⟨it,fp,tn,J,H2,e,I2,T,st2,f2,g,tt,te,hI,q⟩:=h2
 subst e
 obtain ⟨Z,⟨m0,z0⟩,turn⟩:=q s2.heap.objs.size (I2.hok.fresh (Nat.le_refl _))
 have ho:∀ b ∈ fp,∃ o,s2.heap.get? b=some o:=λb hb=>let ⟨o,e,_⟩:=T.obj _ _ st2 b hb; ⟨o,e⟩
 have I4:=ug (scope:=scope) (N:=N) (caps:=caps) I2 f2 ho c
 obtain ⟨hg,ht,he⟩:=hin g tt te hI s2 H2 fp
 refine wpAny_newObj_type (p9 ?_) (by show 0<=sizeLine; decide)
 have hC:(s2.heap.push { cls:=.type "list",dict:=none,data:=.seq ([]:List Value).toArray }).objs.size=s2.heap.objs.size + 1:=Heap.size_push ..
 dsimp only
 rw [hC]
 have kp:∀ b o,s2.heap.get? b=some o->(pushCells ((s2.heap.push { cls:=.type "list",data:=.seq ([]:List Value).toArray }).push { cls:=.type "dict",data:=.dict #[] }) scope.names).get? b=some o:=λb o e=>
   pushCells_keeps _ _ b o (Heap.get?_push_of_some _ (Heap.get?_push_of_some _ e))
 have st4:tn 0 (pushCells ((s2.heap.push { cls:=.type "list",data:=.seq ([]:List Value).toArray }).push { cls:=.type "dict",data:=.dict #[] }) scope.names):=T.keep _ _ _ st2 λb _ o e=>kp b o e
 have stat:∀ {H':Hp},(∀ b ∈ fp,H' b=none)->∀ b ∈ fp,pS (aH X s2 H2 scope N fp) [] H' b:=λhn b hb=>
   ⟨hn b hb,(I4.ok.exf b hb).1,I4.ok.exfs b hb,.inl hb,(I4.ok.exf b hb).2,λp hp=>absurd (show p ∈ ([]:List (Addr × Obj)) from hp) (by simp)⟩
 have fr4:∀ b ∈ fp,(upd H2 s2.heap.objs.size (.lst [])) b=none:=λb hb=>by
   obtain ⟨o,e⟩:=ho b hb
   rw [ar (Nat.ne_of_lt (Heap.lt_size e))]; exact (f2 b hb).1
 have loop:codeAny (model X.prog X.w) X.A (.compLoop (.ListComp elt [⟨tg,iter,ifs,0⟩] scope pos) 0 (.ref it) (.ref s2.heap.objs.size) (aH X s2 H2 scope N fp).env)
     (compPost (model X.prog X.w) X.A X.xe none (EP X pins σ Q) (.ref s2.heap.objs.size) (s2.heap.objs.size + 1))
     { s2 with heap:=pushCells ((s2.heap.push { cls:=.type "list",data:=.seq ([]:List Value).toArray }).push { cls:=.type "dict",data:=.dict #[] }) scope.names }:=by
   refine oy (λn s'=>∃ i σ' H',Inv (aH X s2 H2 scope N fp) [] σ' H' s'/\tn i s'.heap/\(∀ b ∈ fp,H' b=none)/\Z i n σ' H') ?_ m0 ⟨0,_,_,I4,st4,fr4,z0⟩
   rintro n s3 ⟨i,σ3,H3,I3,st3,fr3,w3⟩
   rcases turn i n σ3 H3 w3 with ⟨stop,qn⟩ | ⟨go,step⟩
   · refine thn (T.done (aH X s2 H2 scope N fp) rfl rfl rfl hc i [] s3 σ3 H3 _ I3 (stat fr3) st3 stop) λr s5 ⟨hr,I5⟩=>?_
     subst hr
     obtain ⟨m,hn,_⟩:=id I5.loc
     refine ⟨m,hn,λh' sb=>⟨.ref s2.heap.objs.size,H3,?_,rfl,qn⟩⟩
     have lt:∀ b o,s2.heap.get? b=some o->b ≠ s2.heap.objs.size + 1:=λb o e=>Nat.ne_of_lt (Nat.lt_succ_of_lt (Heap.lt_size e))
     have u:=I5.base
     have u':Un (frs X.stack) fp H2 H3 s2.heap h':=⟨λb o e n1 n2 n3=>(sb.2 b (lt b o e)).trans (u.keep b o e n1 n2 n3),λb o e n1 n2 n3=>let ⟨sl,z⟩:=u.slot b o e n1 n2 n3; ⟨sl,(sb.2 b (lt b o e)).trans z⟩,
       u.free,λb o e n1=>let ⟨o',z⟩:=u.there b o e n1; ⟨o',(sb.2 b (lt b o e)).trans z⟩,u.tups,u.frzs,u.tbls⟩
     have fC:H3 (s2.heap.objs.size + 1)=none:=I5.free
     refine I2.E4 (s':={ s5 with heap:=h' }) I5.os u' (λb o e=>(I5.hok b o e).kn (λd v hd z=>(sb.2 d ?_).trans z) (λ_ z=>z) λ_ _ z=>z) I5.bare λb hb=>⟨(f2 b hb).2.2.2.1,(f2 b hb).2.1,(f2 b hb).2.2.2.2.1,(f2 b hb).2.2.2.2.2⟩
     rcases hd with hd | hd
     · rw [hd]; exact ay e fC
     · exact ay hd fC
   · refine thn (T.item (aH X s2 H2 scope N fp) rfl rfl rfl hc i [] s3 σ3 H3 _ I3 (stat fr3) st3 go) λr s4 ⟨u,hr,h4⟩=>?_
     subst hr
     refine thn h4 λ_ s5 ⟨x,H5,I5,r5,y5,st5,fr5⟩=>?_
     have I5':=I5.pinned (stat fr5) (T.obj _ _ st5)
     refine thn (hg _ s5 σ3 H5 x u _ I5' r5 (step x H5 y5)) λ_ s6 ⟨σ6,H6,I6,q6⟩=>?_
     have again:∀ {s7:Shared} {σ7:L2.St} {H7:Hp} {m':Nat},Inv (aH X s2 H2 scope N fp) ([]++j4 fp s5.heap) σ7 H7 s7->m' < n->Z (i + 1) m' σ7 H7 ->
         ∃ m,m < n/\∃ i σ' H',Inv (aH X s2 H2 scope N fp) [] σ' H' s7/\tn i s7.heap/\(∀ b ∈ fp,H' b=none)/\Z i m σ' H':=λ{s7 σ7 H7 m'} I7 hm z7=>by
       refine ⟨m',hm,i + 1,σ7,H7,I7.gO,T.keep _ _ _ st5 λb hb o e=>(I7.pin (b,o) (List.mem_append_right _ (List.mem_append_right _ (dC hb e)))).1,λb hb=>?_,z7⟩
       obtain ⟨o,e,d⟩:=T.obj _ _ st5 b hb
       exact (I7.pin (b,o) (List.mem_append_right _ (List.mem_append_right _ (dC hb e)))).2.1
     refine thn (ht _ s6 σ6 H6 _ I6 q6) λok s7 ⟨H7,I7,q7⟩=>?_
     cases ok with
     | false=>
       rw [if_neg (by decide)] at q7
       obtain ⟨m',hm,z7⟩:=q7
       exact again I7 hm z7
     | true=>
       rw [if_pos rfl] at q7
       refine thn (he _ s7 σ6 H7 _ I7 q7) λv' s8 ⟨v,H8,I8,r8,vs,m',q8,l8,hm,z8⟩=>?_
       refine thn (lZ (X:=aH X s2 H2 scope N fp) _ s8 σ6 H8 (.ref s2.heap.objs.size) [v] (.ref s2.heap.objs.size) [v'] (λ_ H9=>H9=upd H8 s2.heap.objs.size (.lst (vs++[v]))) I8 rfl (.cons r8 .nil) ⟨_,vs,v,rfl,rfl,q8,l8,rfl⟩) λ_ s9 ⟨_,H9,I9,_,e9⟩=>?_
       subst e9
       exact again I9 hm z8
 exact codeAny_compStart_list loop (T.self _ 0 _ _ _ st4 loop)
noncomputable def slot:List Str->Str->Option Nat
 | [],_=>none
 | y :: r,x=>if y=x then some 0 else (slot r x).map (· + 1)
theorem slot_get:∀ {N:List Str} {x:Str} {i:Nat},slot N x=some i->N[i]?=some x
 | [],_,_,h=>by cases h
 | y :: r,x,i,h=>by
   unfold slot at h
   split at h
   · rename_i e; cases h; rw [e]; rfl
   · cases q:slot r x with
     | none=>rw [q] at h; cases h
     | some j=>
       rw [q] at h; cases h
       show (y :: r)[j + 1]?=some x
       rw [List.getElem?_cons_succ]; exact slot_get q
noncomputable def gA (sc:Scope) (x:Str):Bool:=match sc.names.lookup x with
 | some .local=>true
 | some .cell=>true
 | _=>false
noncomputable def jH (sc:Scope) (x:Str):Bool:=match sc.names.lookup x with
 | some .globalImplicit=>true
 | _=>false
theorem iX {sc:Scope} {x:Str} (h:gA sc x=true):sc.names.lookup x=some .local\/sc.names.lookup x=some .cell:=by
 unfold gA at h
 split at h
 · exact .inl (by assumption)
 · exact .inr (by assumption)
 · cases h
theorem kM {sc:Scope} {x:Str} (h:jH sc x=true):sc.names.lookup x=some .globalImplicit:=by
 unfold jH at h
 split at h
 · assumption
 · cases h
noncomputable def iN (scope sc:Scope):Scope:={ scope with names:=scope.names.map λ(n,k)=>if (k == .free && sc.kind == .function && sc.names.lookup n == some .cell) then (n,.cell) else (n,k) }
theorem eu {scope sc:Scope} {env:PySem.Env} (h:env.scope=sc):relabel scope env=iN scope sc:=by
 subst h; rfl
noncomputable def iS (scope:Scope):List Str:=(scope.names.filter λp=>(p.2 == .local || p.2 == .cell || p.2 == .free) && p.1 != (".0" : Str)).map (·.1)
section
variable {X:Cx} {k:Nat} {H₀:Hp}
theorem lN {sc:Scope} {x:Str} (h:sc.names.lookup x=some .local\/sc.names.lookup x=some .cell):Vis sc x:=h.elim .inl λz=>.inr (.inl z)
theorem aA.ok {i j:Int} (h:aA i j):IntMulOk i j:=by
 have b:∀ {k:Int} {n:Nat},k.natAbs.log2 < n->Builtin.Int.intBits k<=n:=λ{k n} q=>by
   unfold Builtin.Int.intBits
   split
   · exact Nat.zero_le _
   · exact q
 rcases h with h | h | ⟨h1,h2⟩
 · exact .of_left (b h)
 · exact .of_right (b h)
 · exact .of_bits (Nat.le_trans (b h1) (by decide)) (Nat.le_trans (b h2) (by decide))
theorem BB:OpR X (binaryOp .FloorDiv) (rI (λ_ j=>aK j) λi j=>.int (i.fdiv j)):=opI λ_ _ _ _ _ _ _ hc q=>floordiv_int hc.1 q (.inl (PyProof.noPylong_of_log2 hc.2))
theorem nk:OpR X (binaryOp .Mult) (rI aA λi j=>.int (i * j)):=opI λ_ _ _ _ _ _ _ hc q=>mul_int q hc.ok
theorem sJ:OpR X (binaryOp .Add) (rI (λ_ _=>True) λi j=>.int (i + j)):=opI λ_ _ _ _ _ _ _ _ q=>add_int q
theorem qJ:OpR X (binaryOp .Sub) (rI (λ_ _=>True) λi j=>.int (i - j)):=opI λ_ _ _ _ _ _ _ _ q=>sub_int q
theorem Dv:OpR X (binaryOp .BitAnd) (rI (λ_ _=>True) λi j=>.int (Builtin.bitAnd i j)):=opI λ_ _ _ _ _ _ _ _ q=>and_int q
theorem nj:OpR X (binaryOp .Add) (λx y H Q=>∃ l b xs zs,x=.ref l/\y=.ref b/\SqL X.K H l xs/\SqL X.K H b zs/\xs.length + zs.length<=sizeLine/\∀ p,H p=none->Q (.ref p) (upd H p (.lst (xs++zs)))):=by
 intro pins s σ H x y v u Q I rx ry h
 obtain ⟨l,b,xs,zs,rfl,rfl,hH,hB,hz,q⟩:=h
 cases rx
 cases ry
 obtain ⟨its,r,pl,_⟩:=I.list hH
 obtain ⟨its2,r2,pl2,_⟩:=I.list hB
 have hl:=r.length
 have hl2:=r2.length
 obtain ⟨⟨cls,dd,data,sl⟩,ho,hc,n,hd⟩:=pl.isList
 obtain ⟨⟨cls2,dd2,data2,sl2⟩,ho2,hc2,n2,hd2⟩:=pl2.isList
 simp only at hc hd hc2 hd2
 subst hc hd hc2 hd2
 have e:its.toArray++its2.toArray=(its++its2).toArray:=by simp
 refine concat_meets ⟨_,ho,rfl⟩ ⟨_,ho2,rfl⟩ noFill_list_add seq_list_add PySem.F.slot_list_add PySem.F.entry_list_add (PySem.F.args_list_add_2 _ _) (list_addW l b its.toArray its2.toArray n n2 dd dd2 sl sl2 (by rw [List.size_toArray,List.size_toArray]; omega)) ⟨ho,ho2,?_⟩
 rw [e]
 exact ⟨.ref _,_,I.Jv (t':=s.toks) (r.append r2) (by rw [List.length_append]; omega),rfl,q _ I.fresh⟩
theorem cO:ae < sizeLine:=by decide
end
section
variable {X:Cx} {k:Nat} {H₀:Hp}
end
section
variable {X:Cx} {k:Nat} {H₀:Hp}
end
end Ev
namespace Sv
open PySem PySem.Spec PyProof.Rows L2
open Ev (D aA aK ae)
inductive U where
 | non | bl (b:Bool) | int (i:Int) | str (x:Str) | tup (xs:List U) | loc (l:Nat) | exo (c:Nat) | kl (xs:List U)
 deriving Inhabited
noncomputable abbrev Sto:=List (Bool × List U)
noncomputable abbrev Env:=List (Option U)
inductive Rs (α:Type) where
 | ok (a:α) (st:Sto) | exc (c:Nat) (st:Sto) | bad
noncomputable def Rs.bind {α β:Type}:Rs α->(α->Sto->Rs β)->Rs β
 | .ok a st,f=>f a st
 | .exc c st,_=>.exc c st
 | .bad,_=>.bad
noncomputable def Rs.noX {α:Type}:Rs α->Rs α
 | .exc _ _=>.bad
 | x=>x
theorem Rs.aa {α β:Type} (a:α) (st:Sto) (f:α->Sto->Rs β):(Rs.ok a st).bind f=f a st:=rfl
theorem bj {α:Type} {x:α} {p:Prop} (h:(none:Option α)=some x):p:=by cases h
noncomputable def uV {α β:Type} (f:α->Option β):List α->Option (List β)
 | []=>some []
 | x :: xs=>(f x).bind λy=>(uV f xs).map (y :: ·)
noncomputable def rsv (st:Sto):Nat->U->Option D
 | _,.non=>some .non
 | _,.bl b=>some (.bl b)
 | _,.int i=>some (.int i)
 | _,.str x=>some (.str x)
 | n + 1,.tup xs=>(uV (rsv st n) xs).map .tup
 | n + 1,.kl xs=>(uV (rsv st n) xs).map .lst
 | n + 1,.loc l=>match st[l]? with | some (_,xs)=>(uV (rsv st n) xs).map .lst | none=>none
 | _,_=>none
inductive Op2 where
 | add | sub | mul | fdiv | mod | pow
inductive Cm where
 | eq | ne | lt | le | gt | ge
inductive Ty where
 | int | bool | tuple | list | str
inductive Bi where
 | len | abs | max | min | int | list | all
inductive Tg where
 | nm (i:Nat) | tp (is:List Nat)
mutual
inductive E where
 | var (i:Nat)
 | cN | cB (b:Bool) | cI (i:Int) | cS (x:Str)
 | op (o:Op2) (a b:E)
 | neg (a:E) | not (a:E)
 | cmp (o:Cm) (a b:E)
 | chain (o o':Cm) (a b c:E)
 | and (a b:E) | or (a b:E)
 | ite (c a b:E)
 | tup (es:List E) | lst (es:List E)
 | ix (a i:E)
 | sl (a lo hi:E)
 | call (f:Nat) (es:List E)
 | bi (b:Bi) (es:List E)
 | isi (a:E) (t:Ty)
 | isN (neg:Bool) (a:E)
 | comp (caps:List (Option Nat)) (t:Tg) (it:It) (ifs:List E) (elt:E)
inductive It where
 | seq (e:E) | rng (e:E) | rng2 (a b:E) | enu (e:E) | zip (a b:E)
end
instance:Inhabited E:=⟨.cN⟩
noncomputable def new (st:Sto) (xs:List U):Rs U:=.ok (.loc st.length) (st++[(false,xs)])
noncomputable def pM (st:Sto):U->Option (List U)
 | .loc l=>(st[l]?).map (·.2)
 | .kl xs=>some xs
 | _=>none
noncomputable def seq? (st:Sto):U->Option (List U)
 | .loc l=>(st[l]?).map (·.2)
 | .kl xs=>some xs
 | .tup xs=>some xs
 | _=>none
noncomputable def ev2:Op2->U->U->Sto->Rs U
 | .add,.int i,.int j,st=>.ok (.int (i + j)) st
 | .add,.loc a,.loc b,st=>match st[a]?,st[b]? with
   | some (_,xs),some (_,ys)=>if xs.length + ys.length < ae then new st (xs++ys) else .bad
   | _,_=>.bad
 | .add,.kl xs,.loc b,st=>match st[b]? with
   | some (_,ys)=>if xs.length + ys.length < ae then new st (xs++ys) else .bad
   | _=>.bad
 | .add,.loc a,.kl ys,st=>match st[a]? with
   | some (_,xs)=>if xs.length + ys.length < ae then new st (xs++ys) else .bad
   | _=>.bad
 | .add,.kl xs,.kl ys,st=>if xs.length + ys.length < ae then new st (xs++ys) else .bad
 | .sub,.int i,.int j,st=>.ok (.int (i - j)) st
 | .mul,.int i,.int j,st=>if aA i j then .ok (.int (i * j)) st else .bad
 | .fdiv,.int i,.int j,st=>if aK j then .ok (.int (i.fdiv j)) st else .bad
 | .mod,.int i,.int j,st=>if j ≠ 0 then .ok (.int (i.fmod j)) st else .bad
 | .pow,.int i,.int j,st=>if 0<=j/\j<=1000000/\i.natAbs < 2 ^ 64 then .ok (.int (i ^ j.toNat)) st else .bad
 | _,_,_,_=>.bad
noncomputable def nS:List U->Option (List Int)
 | []=>some []
 | .int i :: r=>(nS r).map (i :: ·)
 | _=>none
noncomputable def evC:Cm->U->U->Sto->Option Bool
 | .eq,x,y,st=>match rsv st 64 x,rsv st 64 y with | some a,some b=>if Ev.vv a/\Ev.vv b then some (Ev.eqD a b) else none | _,_=>none
 | .ne,x,y,st=>match rsv st 64 x,rsv st 64 y with | some a,some b=>if Ev.vv a/\Ev.vv b then some (!Ev.eqD a b) else none | _,_=>none
 | .lt,.int i,.int j,_=>some (decide (i < j))
 | .le,.int i,.int j,_=>some (decide (i<=j))
 | .gt,.int i,.int j,_=>some (decide (j < i))
 | .ge,.int i,.int j,_=>some (decide (j<=i))
 | _,_,_,_=>none
noncomputable def ofO:Option Bool->Sto->Rs U
 | some b,st=>.ok (.bl b) st
 | none,_=>.bad
noncomputable def yr:Ty->U->Bool
 | .int,.int _=>true
 | .int,.bl _=>true
 | .bool,.bl _=>true
 | .tuple,.tup _=>true
 | .list,.loc _=>true
 | .list,.kl _=>true
 | .str,.str _=>true
 | _,_=>false
noncomputable def allB:List U->Option Bool
 | []=>some true
 | .bl b :: r=>(allB r).map (b && ·)
 | _=>none
noncomputable def A6 (xs:List U) (lo hi:Option Int):List U:=(xs.drop (HT.sIx xs.length 0 lo)).take (HT.sIx xs.length xs.length hi - HT.sIx xs.length 0 lo)
noncomputable def vA:E->U->Option (Option Int)
 | .cN,_=>some none
 | _,.int i=>some (some i)
 | _,_=>none
noncomputable def CO (x:U) (lo hi:Option Int) (st:Sto):Rs U:=match pM st x with
 | some xs=>new st (A6 xs lo hi)
 | none=>.bad
noncomputable def yN:U->Bool
 | .non=>true
 | _=>false
noncomputable def evB:Bi->List U->Sto->Rs U
 | .len,[x],st=>match seq? st x with | some xs=>.ok (.int xs.length) st | none=>.bad
 | .abs,[.int i],st=>.ok (.int (if i < 0 then -i else i)) st
 | .max,[.int i,.int j],st=>.ok (.int (if j > i then j else i)) st
 | .min,[.int i,.int j],st=>.ok (.int (if j < i then j else i)) st
 | .int,[.int i],st=>.ok (.int i) st
 | .int,[.bl b],st=>.ok (.int (if b then 1 else 0)) st
 | .list,[x],st=>match seq? st x with | some xs=>new st xs | none=>.bad
 | .all,[x],st=>match pM st x with | some xs=>ofO (allB xs) st | none=>.bad
 | _,_,_=>.bad
noncomputable def evI (x y:U) (st:Sto):Rs U:=match seq? st x,y with
 | some xs,.int i=>match atI xs i with | some d=>.ok d st | none=>.bad
 | _,_=>.bad
noncomputable def l7 (ρ:Env) (i:Nat) (st:Sto):Rs U:=match ρ[i]? with | some (some d)=>.ok d st | _=>.bad
noncomputable def ka:List Nat->List U->Env->Option Env
 | [],[],ρ=>some ρ
 | i :: is,x :: xs,ρ=>ka is xs (ρ.set i (some x))
 | _,_,_=>none
noncomputable def fM:Tg->U->Env->Option Env
 | .nm i,d,ρ=>some (ρ.set i (some d))
 | .tp is,.tup xs,ρ=>ka is xs ρ
 | _,_,_=>none
inductive Sq where
 | vals (xs:List U) | lst (l:Nat) | enu (l:Nat) | zip (p q:Sq)
noncomputable def Hl:Option U->Option U->Option U
 | some x,some y=>some (.tup [x,y])
 | _,_=>none
noncomputable def Sq.at:Sq->Sto->Nat->Option (Option U)
 | .vals xs,_,i=>some xs[i]?
 | .lst l,st,i=>(st[l]?).map λo=>o.2[i]?
 | .enu l,st,i=>(st[l]?).map λo=>(o.2[i]?).map λx=>.tup [.int (i:Nat),x]
 | .zip p q,st,i=>(p.at st i).bind λo=>(q.at st i).map λo'=>Hl o o'
noncomputable def Sq.len:Sq->Sto->Nat
 | .vals xs,_=>xs.length
 | .lst l,st=>((st[l]?).map λo=>o.2.length).getD 0
 | .enu l,st=>((st[l]?).map λo=>o.2.length).getD 0
 | .zip p q,st=>min (p.len st) (q.len st)
noncomputable def src (st:Sto):U->Option Sq
 | .loc l=>if l < st.length then some (.lst l) else none
 | .kl xs=>some (.vals xs)
 | _=>none
noncomputable def Jt:Option Sq->Option Sq->Sto->Rs Sq
 | some p,some q,st=>.ok (.zip p q) st
 | _,_,_=>.bad
noncomputable def tW (k:Nat):List U->List U
 | []=>[]
 | x :: xs=>.tup [.int (k:Nat),x] :: tW (k + 1) xs
noncomputable def j7 (lo:Int) (n:Nat):List U:=(List.range n).map λk=>U.int (lo + (k:Nat))
noncomputable def jL (ρ:Env) (caps:List (Option Nat)):Env:=caps.map λo=>o.bind λi=>(ρ[i]?).join
noncomputable def kD (f:U->Sto->Rs (Option U)) (q:Sq):Nat->Nat->Sto->Rs (List U)
 | 0,_,_=>.bad
 | n + 1,i,st=>match q.at st i with
   | none=>.bad
   | some none=>.ok [] st
   | some (some x)=>(f x st).bind λo st1=>(kD f q n (i + 1) st1).bind λys st2=>.ok (match o with | some y=>y :: ys | none=>ys) st2
noncomputable abbrev Fn:=Nat->List U->Sto->Rs U
mutual
noncomputable def xE (Φ:Fn):E->Env->Sto->Rs U
 | .var i,ρ,st=>l7 ρ i st
 | .cN,_,st=>.ok .non st
 | .cB b,_,st=>.ok (.bl b) st
 | .cI i,_,st=>.ok (.int i) st
 | .cS x,_,st=>.ok (.str x) st
 | .op o a b,ρ,st=>(xE Φ a ρ st).bind λx st1=>(xE Φ b ρ st1).bind λy st2=>ev2 o x y st2
 | .neg a,ρ,st=>(xE Φ a ρ st).bind λx st1=>match x with | .int i=>.ok (.int (-i)) st1 | _=>.bad
 | .not a,ρ,st=>(xE Φ a ρ st).bind λx st1=>match x with | .bl b=>.ok (.bl (!b)) st1 | _=>.bad
 | .cmp o a b,ρ,st=>(xE Φ a ρ st).bind λx st1=>(xE Φ b ρ st1).bind λy st2=>ofO (evC o x y st2) st2
 | .chain o o' a b c,ρ,st=>(xE Φ a ρ st).bind λx st1=>(xE Φ b ρ st1).bind λy st2=>match evC o x y st2 with
   | some true=>(xE Φ c ρ st2).bind λu st3=>ofO (evC o' y u st3) st3
   | some false=>.ok (.bl false) st2
   | none=>.bad
 | .and a b,ρ,st=>(xE Φ a ρ st).bind λx st1=>match x with | .bl true=>xE Φ b ρ st1 | .bl false=>.ok (.bl false) st1 | _=>.bad
 | .or a b,ρ,st=>(xE Φ a ρ st).bind λx st1=>match x with | .bl true=>.ok (.bl true) st1 | .bl false=>xE Φ b ρ st1 | _=>.bad
 | .ite c a b,ρ,st=>(xE Φ c ρ st).bind λx st1=>match x with | .bl true=>xE Φ a ρ st1 | .bl false=>xE Φ b ρ st1 | _=>.bad
 | .tup es,ρ,st=>(xEs Φ es ρ st).bind λxs st1=>if xs.length < ae then .ok (.tup xs) st1 else .bad
 | .lst es,ρ,st=>(xEs Φ es ρ st).bind λxs st1=>if xs.length < ae then new st1 xs else .bad
 | .ix a i,ρ,st=>(xE Φ a ρ st).bind λx st1=>(xE Φ i ρ st1).bind λy st2=>evI x y st2
 | .sl a l h,ρ,st=>(xE Φ a ρ st).bind λx st1=>(xE Φ l ρ st1).bind λy st2=>match vA l y with
   | none=>.bad
   | some lo=>(xE Φ h ρ st2).bind λz st3=>match vA h z with | none=>.bad | some hi=>CO x lo hi st3
 | .call f es,ρ,st=>(xEs Φ es ρ st).bind λxs st1=>Φ f xs st1
 | .bi b es,ρ,st=>(xEs Φ es ρ st).bind λxs st1=>evB b xs st1
 | .isi a t,ρ,st=>(xE Φ a ρ st).bind λx st1=>match x with | .exo _=>.bad | x=>.ok (.bl (yr t x)) st1
 | .isN n a,ρ,st=>(xE Φ a ρ st).bind λx st1=>.ok (.bl (n ^^ yN x)) st1
 | .comp caps t it ifs elt,ρ,st=>(xIt Φ it ρ st).bind λq st1=>if q.len st1 < ae then
     ((kD (λx st=>match fM t x (jL ρ caps++[none]) with
         | none=>.bad
         | some ρ1=>(xIf Φ ifs ρ1 st).bind λb st2=>if b then (xE Φ elt ρ1 st2).bind λy st3=>.ok (some y) st3 else .ok none st2) q (q.len st1 + 1) 0 st1).bind λys st2=>new st2 ys).noX
   else .bad
noncomputable def xEs (Φ:Fn):List E->Env->Sto->Rs (List U)
 | [],_,st=>.ok [] st
 | e :: es,ρ,st=>(xE Φ e ρ st).bind λx st1=>(xEs Φ es ρ st1).bind λxs st2=>.ok (x :: xs) st2
noncomputable def xIf (Φ:Fn):List E->Env->Sto->Rs Bool
 | [],_,st=>.ok true st
 | c :: cs,ρ,st=>(xE Φ c ρ st).bind λx st1=>match x with | .bl true=>xIf Φ cs ρ st1 | .bl false=>.ok false st1 | _=>.bad
noncomputable def xIt (Φ:Fn):It->Env->Sto->Rs Sq
 | .seq e,ρ,st=>(xE Φ e ρ st).bind λx st1=>match x with | .loc l=>(if l < st1.length then .ok (.lst l) st1 else .bad) | .tup xs=>.ok (.vals xs) st1 | .kl xs=>.ok (.vals xs) st1 | _=>.bad
 | .rng e,ρ,st=>(xE Φ e ρ st).bind λx st1=>match x with | .int j=>if -(2 ^ 62)<=j/\j < 2 ^ 62 then .ok (.vals (j7 0 j.toNat)) st1 else .bad | _=>.bad
 | .rng2 a b,ρ,st=>(xE Φ a ρ st).bind λx st1=>(xE Φ b ρ st1).bind λy st2=>match x,y with
   | .int i,.int j=>if (-(2 ^ 62)<=i/\i < 2 ^ 62)/\-(2 ^ 62)<=j/\j < 2 ^ 62 then .ok (.vals (j7 i (j - i).toNat)) st2 else .bad
   | _,_=>.bad
 | .enu e,ρ,st=>(xE Φ e ρ st).bind λx st1=>match x with | .loc l=>(if l < st1.length then .ok (.enu l) st1 else .bad) | .kl xs=>.ok (.vals (tW 0 xs)) st1 | _=>.bad
 | .zip a b,ρ,st=>(xE Φ a ρ st).bind λx st1=>(xE Φ b ρ st1).bind λy st2=>Jt (src st2 x) (src st2 y) st2
end
inductive Lm where
 | append | rot | pop | clear
inductive S where
 | set (t:Tg) (e:E)
 | put (a i e:E)
 | mth (m:Lm) (a:E) (es:List E)
 | ret (e:E)
 | ite (c:E) (a b:List S)
 | for (t:Tg) (it:It) (body:List S)
 | while (c:E) (body:List S)
 | expr (e:E)
 | nev
 deriving Inhabited
inductive Fl where
 | nx (ρ:Env) | rt (d:U)
noncomputable def evM:Lm->U->List U->Sto->Option Sto
 | .append,.loc l,[x],st=>match st[l]? with | some (false,xs)=>if xs.length < ae then some (st.set l (false,xs++[x])) else none | _=>none
 | .rot,.loc l,[.int i,.int j],st=>match st[l]? with
   | some (false,xs)=>if xs.length < ae/\0<=i/\i.toNat < xs.length/\0<=j/\j.toNat < xs.length then (xs[j.toNat]?).map λx=>st.set l (false,(xs.eraseIdx j.toNat).insertIdx i.toNat x) else none
   | _=>none
 | .pop,.loc l,[],st=>match st[l]? with | some (false,xs)=>if xs=[] then none else some (st.set l (false,xs.dropLast)) | _=>none
 | .clear,.loc l,[],st=>match st[l]? with | some (false,_)=>some (st.set l (false,[])) | _=>none
 | _,_,_,_=>none
noncomputable def evP (x y z:U) (st:Sto):Option Sto:=match x,y with
 | .loc l,.int i=>match st[l]? with
   | some (false,xs)=>(L2.ixN xs.length i).map λj=>st.set l (false,xs.set j z)
   | _=>none
 | _,_=>none
noncomputable def ofS:Option Sto->Env->Rs Fl
 | some st,ρ=>.ok (.nx ρ) st
 | none,_=>.bad
noncomputable def loop (f:U->Env->Sto->Rs Fl) (q:Sq):Nat->Nat->Env->Sto->Rs Fl
 | 0,_,_,_=>.bad
 | n + 1,i,ρ,st=>match q.at st i with
   | none=>.bad
   | some none=>.ok (.nx ρ) st
   | some (some x)=>(f x ρ st).bind λr st1=>match r with
     | .nx ρ'=>loop f q n (i + 1) ρ' st1
     | .rt d=>.ok (.rt d) st1
noncomputable def nE (c:Env->Sto->Rs U) (f:Env->Sto->Rs Fl):Nat->Env->Sto->Rs Fl
 | 0,_,_=>.bad
 | n + 1,ρ,st=>(c ρ st).bind λx st1=>match x with
   | .bl true=>(f ρ st1).bind λr st2=>match r with
     | .nx ρ'=>nE c f n ρ' st2
     | .rt d=>.ok (.rt d) st2
   | .bl false=>.ok (.nx ρ) st1
   | _=>.bad
mutual
noncomputable def xS (Φ:Fn) (n:Nat):S->Env->Sto->Rs Fl
 | .set t e,ρ,st=>(xE Φ e ρ st).bind λx st1=>match fM t x ρ with | some ρ'=>.ok (.nx ρ') st1 | none=>.bad
 | .put a i e,ρ,st=>(xE Φ e ρ st).bind λz st1=>(xE Φ a ρ st1).bind λx st2=>(xE Φ i ρ st2).bind λy st3=>ofS (evP x y z st3) ρ
 | .mth m a es,ρ,st=>(xE Φ a ρ st).bind λx st1=>match x with
   | .loc l=>if l < st1.length then (xEs Φ es ρ st1).bind λxs st2=>ofS (evM m (.loc l) xs st2) ρ else .bad
   | _=>.bad
 | .ret e,ρ,st=>(xE Φ e ρ st).bind λx st1=>.ok (.rt x) st1
 | .ite c a b,ρ,st=>(xE Φ c ρ st).bind λx st1=>match x with | .bl true=>xSs Φ n a ρ st1 | .bl false=>xSs Φ n b ρ st1 | _=>.bad
 | .for t it body,ρ,st=>((xIt Φ it ρ st).bind λq st1=>loop (λx ρ' st'=>match fM t x ρ' with | some ρ2=>xSs Φ n body ρ2 st' | none=>.bad) q (q.len st1 + 1) 0 ρ st1).noX
 | .while c body,ρ,st=>(nE (λρ' st'=>xE Φ c ρ' st') (λρ' st'=>xSs Φ n body ρ' st') n ρ st).noX
 | .expr e,ρ,st=>(xE Φ e ρ st).bind λ_ st1=>.ok (.nx ρ) st1
 | .nev,_,_=>.bad
noncomputable def xSs (Φ:Fn) (n:Nat):List S->Env->Sto->Rs Fl
 | [],ρ,st=>.ok (.nx ρ) st
 | s :: ss,ρ,st=>(xS Φ n s ρ st).bind λr st1=>match r with | .nx ρ'=>xSs Φ n ss ρ' st1 | r=>.ok r st1
end
noncomputable def run:Rs Fl->Rs U
 | .ok (.rt d) st=>.ok d st
 | .ok (.nx _) st=>.ok .non st
 | _=>.bad
noncomputable def HA:U->Nat
 | .int i=>i.natAbs
 | _=>0
noncomputable def fuel:List U->Nat
 | []=>1
 | d :: r=>HA d + fuel r
noncomputable def mk (Φ:Fn) (ir:List S) (np nl:Nat) (ds:List U) (st:Sto):Rs U:=
 if ds.length=np then run (xSs Φ (fuel ds) ir (ds.map some++List.replicate (nl - np) none) st) else .bad
noncomputable def tab (fs:List (List U->Sto->Rs U)) (i:Nat):List U->Sto->Rs U:=fs.getD i λ_ _=>.bad
end Sv
namespace Sv
open PySem PySem.Spec PyProof.Rows L2
open Ev (D aA aK ae jd iW dj)
structure Zt where
 K:PySem.W.Frag
 cl:Nat->Addr
noncomputable def JI (C a:Addr) (h:Heap):Prop:=∃ o vs,h.get? a=some o/\o.cls=.ref C/\o.data=.fields vs/\vs[2]?=some .none
noncomputable def SqF (K:PySem.W.Frag) (H:Hp) (a:Addr) (vs:List V):Prop:=(∃ o,H a=some (.frz o (.lst vs)))\/SqL K (λ_=>none) a vs
theorem SqF.sq {K:PySem.W.Frag} {H:Hp} {a:Addr} {vs:List V} (h:SqF K H a vs):SqL K H a vs:=by
 rcases h with ⟨o,h⟩ | ((h | ⟨o,h⟩) | h)
 · exact .inl (.inr ⟨o,h⟩)
 · cases h
 · cases h
 · exact .inr h
mutual
inductive aT (Z:Zt) (m:List Addr) (H:Hp):V->U->Prop where
 | non:aT Z m H .non .non
 | bl {b:Bool}:aT Z m H (.bl b) (.bl b)
 | int {i:Int}:aT Z m H (.int i) (.int i)
 | str {x:Str}:aT Z m H (.str x) (.str x)
 | tup {a:Addr} {vs:List V} {ds:List U} (h:SqT Z.K H a vs) (r:aj Z m H vs ds):aT Z m H (.ref a) (.tup ds)
 | loc {a:Addr} {l:Nat} (h:m[l]?=some a):aT Z m H (.ref a) (.loc l)
 | exo {a:Addr} {c:Nat} (h:H a=some (.ext (JI (Z.cl c) a))):aT Z m H (.ref a) (.exo c)
 | kl {a:Addr} {vs:List V} {ds:List U} (h:SqF Z.K H a vs) (r:aj Z m H vs ds):aT Z m H (.ref a) (.kl ds)
inductive aj (Z:Zt) (m:List Addr) (H:Hp):List V->List U->Prop where
 | nil:aj Z m H [] []
 | cons {v:V} {d:U} {vs:List V} {ds:List U} (h:aT Z m H v d) (r:aj Z m H vs ds):aj Z m H (v :: vs) (d :: ds)
end
structure Go (m:List Addr) (H:Hp) (m':List Addr) (H':Hp):Prop where
 pre:m <+: m'
 kp:∀ b o,H b=some o->(b ∉ m\/∀ xs,o ≠ .lst xs)->H' b=some o
 tr:∀ b,H' b=none->H b=none
 fr:∀ (l:Nat) a,m.length<=l->m'[l]?=some a->H a=none
theorem Go.refl (m:List Addr) (H:Hp):Go m H m H:=⟨List.prefix_refl m,λ_ _ h _=>h,λ_ h=>h,λl a hl e=>by rw [List.getElem?_eq_none hl] at e; cases e⟩
theorem jz {m m':List Addr} (h:m <+: m') {l:Nat} {a:Addr} (e:m[l]?=some a):m'[l]?=some a:=by
 obtain ⟨r,rfl⟩:=h
 rw [List.getElem?_append_left (List.getElem?_eq_some_iff.mp e).1]; exact e
theorem vt {m m':List Addr} (h:m <+: m') {l:Nat} {a:Addr} (q:l < m.length) (e:m'[l]?=some a):m[l]?=some a:=by
 have:=jz h (List.getElem?_eq_getElem q)
 rw [e] at this
 rw [List.getElem?_eq_getElem q]; exact this.symm
theorem Go.trans {m m1 m2:List Addr} {H H1 H2:Hp} (g:Go m H m1 H1) (g':Go m1 H1 m2 H2):Go m H m2 H2:=by
 refine ⟨g.pre.trans g'.pre,λb o h hn=>?_,λb h=>g.tr b (g'.tr b h),λl a hl e=>?_⟩
 · refine g'.kp b o (g.kp b o h hn) ?_
   rcases hn with hn | hn
   · refine .inl λhm=>?_
     obtain ⟨l,hl⟩:=List.getElem?_of_mem hm
     rcases Nat.lt_or_ge l m.length with q | q
     · exact hn (List.mem_of_getElem? (vt g.pre q hl))
     · rw [g.fr l b q hl] at h; cases h
   · exact .inr hn
 · rcases Nat.lt_or_ge l m1.length with q | q
   · exact g.fr l a hl (vt g'.pre q e)
   · exact g.tr a (g'.fr l a q e)
section
variable {Z:Zt} {m m':List Addr} {H H':Hp}
theorem goT (g:Go m H m' H') {a:Addr} {xs:List V} (h:SqT Z.K H a xs):SqT Z.K H' a xs:=by
 rcases h with (h | ⟨o,h⟩) | h
 · exact .inl (.inl (g.kp _ _ h (.inr λ_ z=>nomatch z)))
 · exact .inl (.inr ⟨o,g.kp _ _ h (.inr λ_ z=>nomatch z)⟩)
 · exact .inr h
theorem goF (g:Go m H m' H') {a:Addr} {xs:List V} (h:SqF Z.K H a xs):SqF Z.K H' a xs:=by
 rcases h with ⟨o,h⟩ | h
 · exact .inl ⟨o,g.kp _ _ h (.inr λ_ z=>nomatch z)⟩
 · exact .inr h
mutual
theorem aT.mono (g:Go m H m' H'):∀ {v:V} {d:U},aT Z m H v d->aT Z m' H' v d
 | _,_,.non=>.non
 | _,_,.bl=>.bl
 | _,_,.int=>.int
 | _,_,.str=>.str
 | _,_,.tup h r=>.tup (goT g h) (aj.mono g r)
 | _,_,.loc h=>.loc (jz g.pre h)
 | _,_,.exo h=>.exo (g.kp _ _ h (.inr λ_ z=>nomatch z))
 | _,_,.kl h r=>.kl (goF g h) (aj.mono g r)
theorem aj.mono (g:Go m H m' H'):∀ {vs:List V} {ds:List U},aj Z m H vs ds->aj Z m' H' vs ds
 | _,_,.nil=>.nil
 | _,_,.cons h r=>.cons (aT.mono g h) (aj.mono g r)
end
theorem aj.length:∀ {vs:List V} {ds:List U},aj Z m H vs ds->vs.length=ds.length
 | _,_,.nil=>rfl
 | _,_,.cons _ r=>congrArg (· + 1) r.length
theorem aj.get:∀ {vs:List V} {ds:List U} {i:Nat} {d:U},aj Z m H vs ds->ds[i]?=some d->∃ v,vs[i]?=some v/\aT Z m H v d
 | _,_,_,_,.nil,e=>by simp at e
 | _,_,0,_,.cons h _,e=>by simp at e; subst e; exact ⟨_,rfl,h⟩
 | _,_,i + 1,d,.cons _ r,e=>by
   obtain ⟨v,h1,h2⟩:=aj.get (i:=i) (d:=d) r (by simpa using e)
   exact ⟨v,by simpa using h1,h2⟩
theorem aj.append:∀ {xs ys:List V} {ds es:List U},aj Z m H xs ds->aj Z m H ys es->aj Z m H (xs++ys) (ds++es)
 | _,_,_,_,.nil,s=>s
 | _,_,_,_,.cons h r,s=>.cons h (aj.append r s)
theorem aj.take:∀ {xs:List V} {ds:List U} (n:Nat),aj Z m H xs ds->aj Z m H (xs.take n) (ds.take n)
 | _,_,0,_=>.nil
 | _,_,_ + 1,.nil=>.nil
 | _,_,n + 1,.cons h r=>.cons h (aj.take n r)
theorem aj.drop:∀ {xs:List V} {ds:List U} (n:Nat),aj Z m H xs ds->aj Z m H (xs.drop n) (ds.drop n)
 | _,_,0,r=>r
 | _,_,_ + 1,.nil=>.nil
 | _,_,n + 1,.cons _ r=>aj.drop n r
theorem aj.set:∀ {xs:List V} {ds:List U} (n:Nat) {v:V} {d:U},aj Z m H xs ds->aT Z m H v d->aj Z m H (xs.set n v) (ds.set n d)
 | _,_,_,_,_,.nil,_=>.nil
 | _,_,0,_,_,.cons _ r,h=>.cons h r
 | _,_,n + 1,_,_,.cons h r,h'=>.cons h (aj.set n r h')
theorem aj.erase:∀ {xs:List V} {ds:List U} (n:Nat),aj Z m H xs ds->aj Z m H (xs.eraseIdx n) (ds.eraseIdx n)
 | _,_,_,.nil=>.nil
 | _,_,0,.cons _ r=>r
 | _,_,n + 1,.cons h r=>.cons h (aj.erase n r)
theorem aj.dropLast:∀ {xs:List V} {ds:List U},aj Z m H xs ds->aj Z m H xs.dropLast ds.dropLast
 | _,_,.nil=>.nil
 | _,_,.cons _ .nil=>.nil
 | _,_,.cons h (.cons h' r)=>.cons h (aj.dropLast (.cons h' r))
theorem aj.insert:∀ {xs:List V} {ds:List U} (n:Nat) {v:V} {d:U},aj Z m H xs ds->aT Z m H v d->aj Z m H (xs.insertIdx n v) (ds.insertIdx n d)
 | _,_,0,_,_,r,h=>.cons h r
 | _,_,_ + 1,_,_,.nil,_=>.nil
 | _,_,n + 1,_,_,.cons h r,h'=>.cons h (aj.insert n r h')
theorem rl {xs:List V} {d:U} (h:aj Z m H xs [d]):∃ x,xs=[x]/\aT Z m H x d:=by
 cases h with
 | cons a r=>cases r; exact ⟨_,rfl,a⟩
theorem HJ {xs:List V} {d e:U} (h:aj Z m H xs [d,e]):∃ x y,xs=[x,y]/\aT Z m H x d/\aT Z m H y e:=by
 cases h with
 | cons a r=>
   obtain ⟨y,rfl,b⟩:=rl r
   exact ⟨_,_,rfl,a,b⟩
theorem k8 {v:V} {i:Int} (h:aT Z m H v (.int i)):v=.int i:=by cases h; rfl
theorem hJ {v:V} {b:Bool} (h:aT Z m H v (.bl b)):v=.bl b:=by cases h; rfl
theorem fP {v:V} {l:Nat} (h:aT Z m H v (.loc l)):∃ a,v=.ref a/\m[l]?=some a:=by cases h; exact ⟨_,rfl,by assumption⟩
end
noncomputable def Lay (Z:Zt) (H:Hp) (a:Addr) (fz:Bool) (vs:List V):Prop:=if fz=true then SqL Z.K H a vs/\∃ o,H a=some o else H a=some (.lst vs)
structure R (Z:Zt) (m:List Addr) (st:Sto) (H:Hp):Prop where
 len:m.length=st.length
 inj:∀ (i j:Nat) a,m[i]?=some a->m[j]?=some a->i=j
 obj:∀ (l:Nat) a fz ds,m[l]?=some a->st[l]?=some (fz,ds)->∃ vs,Lay Z H a fz vs/\aj Z m H vs ds
theorem Lay.sq {Z:Zt} {H:Hp} {a:Addr} {fz:Bool} {vs:List V} (h:Lay Z H a fz vs):SqL Z.K H a vs:=by
 unfold Lay at h
 split at h
 · exact h.1
 · exact .inl (.inl h)
theorem Lay.tr {Z:Zt} {H:Hp} {a:Addr} {fz:Bool} {vs:List V} (h:Lay Z H a fz vs):∃ o,H a=some o:=by
 unfold Lay at h
 split at h
 · exact h.2
 · exact ⟨_,h⟩
theorem Lay.upd {Z:Zt} {H:Hp} {a p:Addr} {fz:Bool} {vs:List V} {o:HO} (h:Lay Z H a fz vs) (hn:a ≠ p):Lay Z (upd H p o) a fz vs:=by
 unfold Lay at h ⊢
 split at h
 · rename_i q
   rw [if_pos q]
   refine ⟨?_,by rw [ar hn]; exact h.2⟩
   rcases h.1 with (h | ⟨o,h⟩) | h
   · exact .inl (.inl (by rw [ar hn]; exact h))
   · exact .inl (.inr ⟨o,by rw [ar hn]; exact h⟩)
   · exact .inr h
 · rename_i q
   rw [if_neg q,ar hn]; exact h
section
variable {Z:Zt} {m m':List Addr} {H H':Hp} {st:Sto}
theorem R.at (r:R Z m st H) {l:Nat} {fz:Bool} {ds:List U} (e:st[l]?=some (fz,ds)):∃ a vs,m[l]?=some a/\Lay Z H a fz vs/\aj Z m H vs ds:=by
 have hl:=(List.getElem?_eq_some_iff.mp e).1
 have hm:l < m.length:=by rw [r.len]; exact hl
 obtain ⟨vs,h1,h2⟩:=r.obj l _ fz ds (List.getElem?_eq_getElem hm) e
 exact ⟨_,vs,List.getElem?_eq_getElem hm,h1,h2⟩
theorem R.loc (r:R Z m st H) {l:Nat} {a:Addr} (e:m[l]?=some a):∃ fz ds vs,st[l]?=some (fz,ds)/\Lay Z H a fz vs/\aj Z m H vs ds:=by
 have hl:=(List.getElem?_eq_some_iff.mp e).1
 have hs:l < st.length:=by rw [<- r.len]; exact hl
 obtain ⟨vs,h1,h2⟩:=r.obj l a st[l].1 st[l].2 e (List.getElem?_eq_getElem hs)
 exact ⟨_,_,vs,List.getElem?_eq_getElem hs,h1,h2⟩
theorem R.in (r:R Z m st H) {a:Addr} (e:a ∈ m):∃ o,H a=some o:=by
 obtain ⟨l,hl⟩:=List.getElem?_of_mem e
 obtain ⟨_,_,_,_,h,_⟩:=r.loc hl
 exact h.tr
theorem R.out (r:R Z m st H) {p:Addr} (h:H p=none):p ∉ m:=λz=>by
 obtain ⟨o,q⟩:=r.in z
 rw [h] at q; cases q
theorem Go.new (r:R Z m st H) {p:Addr} {o:HO} (h:H p=none):Go m H m (upd H p o):=by
 refine ⟨List.prefix_refl m,λb u e _=>?_,λb e=>?_,λl a hl e=>by rw [List.getElem?_eq_none hl] at e; cases e⟩
 · rw [ar (ay e h)]; exact e
 · unfold L2.upd at e
   split at e
   · cases e
   · exact e
theorem R.upd (r:R Z m st H) {p:Addr} {o:HO} (h:H p=none):R Z m st (upd H p o):=by
 refine ⟨r.len,r.inj,λl a fz ds e1 e2=>?_⟩
 obtain ⟨vs,h1,h2⟩:=r.obj l a fz ds e1 e2
 obtain ⟨o,ho⟩:=h1.tr
 exact ⟨vs,h1.upd (ay ho h),h2.mono (Go.new r h)⟩
theorem R.new (r:R Z m st H) {p:Addr} {vs:List V} {ds:List U} (h:H p=none) (hv:aj Z m H vs ds) :
   Go m H (m++[p]) (L2.upd H p (.lst vs))/\R Z (m++[p]) (st++[(false,ds)]) (L2.upd H p (.lst vs))/\aT Z (m++[p]) (L2.upd H p (.lst vs)) (.ref p) (.loc st.length):=by
 have hp:=r.out h
 have g:Go m H (m++[p]) (L2.upd H p (.lst vs)):=by
   have g0:=Go.new r (o:=.lst vs) h
   refine ⟨List.prefix_append m [p],g0.kp,g0.tr,λl a hl e=>?_⟩
   rw [List.getElem?_append_right hl] at e
   have:=List.mem_of_getElem? e
   rw [List.mem_singleton] at this
   rw [this]; exact h
 have hl:(m++[p])[st.length]?=some p:=by rw [<- r.len,List.getElem?_append_right (Nat.le_refl _),Nat.sub_self]; rfl
 refine ⟨g,⟨by rw [List.length_append,List.length_append,r.len]; rfl,λi j a e1 e2=>?_,λl a fz es e1 e2=>?_⟩,.loc hl⟩
 · have key:∀ (i:Nat) a,(m++[p])[i]?=some a->(m[i]?=some a/\a ≠ p)\/(i=m.length/\a=p):=λi a e=>by
     rcases Nat.lt_or_ge i m.length with q | q
     · rw [List.getElem?_append_left q] at e
       exact .inl ⟨e,λz=>hp (z ▸ List.mem_of_getElem? e)⟩
     · have hi:=(List.getElem?_eq_some_iff.mp e).1
       rw [List.length_append,List.length_singleton] at hi
       rw [List.getElem?_append_right q] at e
       have:=List.mem_of_getElem? e
       rw [List.mem_singleton] at this
       exact .inr ⟨by omega,this⟩
   rcases key i a e1 with ⟨q1,q2⟩ | ⟨q1,q2⟩ <;> rcases key j a e2 with ⟨w1,w2⟩ | ⟨w1,w2⟩
   · exact r.inj i j a q1 w1
   · exact absurd w2 q2
   · exact absurd q2 w2
   · rw [q1,w1]
 · rcases Nat.lt_or_ge l m.length with q | q
   · rw [List.getElem?_append_left q] at e1
     rw [List.getElem?_append_left (by rw [<- r.len]; exact q)] at e2
     obtain ⟨ws,h1,h2⟩:=r.obj l a fz es e1 e2
     obtain ⟨o,ho⟩:=h1.tr
     exact ⟨ws,h1.upd (ay ho h),h2.mono g⟩
   · have hi:=(List.getElem?_eq_some_iff.mp e1).1
     rw [List.length_append,List.length_singleton] at hi
     obtain rfl:l=m.length:=by omega
     rw [List.getElem?_append_right (Nat.le_refl _),Nat.sub_self] at e1
     rw [r.len,List.getElem?_append_right (Nat.le_refl _),Nat.sub_self] at e2
     cases e1; cases e2
     exact ⟨vs,by unfold Lay; rw [if_neg (by decide)]; exact aW,hv.mono g⟩
theorem R.put (r:R Z m st H) {l:Nat} {a:Addr} {vs:List V} {es ds:List U} (e:m[l]?=some a) (hs:st[l]?=some (false,es)) (hv:aj Z m H vs ds) :
   Go m H m (L2.upd H a (.lst vs))/\R Z m (st.set l (false,ds)) (L2.upd H a (.lst vs)):=by
 obtain ⟨us,hu,_⟩:=r.obj l a false es e hs
 have ha:H a=some (.lst us):=by unfold Lay at hu; rw [if_neg (by decide)] at hu; exact hu
 have g:Go m H m (L2.upd H a (.lst vs)):=by
   refine ⟨List.prefix_refl m,λb u q hn=>?_,λb q=>?_,λl a hl e=>by rw [List.getElem?_eq_none hl] at e; cases e⟩
   · by_cases hb:b=a
     · subst hb
       rcases hn with hn | hn
       · exact absurd (List.mem_of_getElem? e) hn
       · rw [ha] at q; cases q; exact absurd rfl (hn us)
     · rw [ar hb]; exact q
   · unfold L2.upd at q
     split at q
     · cases q
     · exact q
 refine ⟨g,⟨by rw [List.length_set]; exact r.len,r.inj,λk b fz xs e1 e2=>?_⟩⟩
 by_cases hk:k=l
 · subst hk
   rw [e] at e1; cases e1
   rw [List.getElem?_set_self (List.getElem?_eq_some_iff.mp hs).1] at e2
   cases e2
   exact ⟨vs,by unfold Lay; rw [if_neg (by decide)]; exact aW,hv.mono g⟩
 · rw [List.getElem?_set_ne (Ne.symm hk)] at e2
   obtain ⟨ws,h1,h2⟩:=r.obj k b fz xs e1 e2
   exact ⟨ws,h1.upd (λz=>hk (r.inj k l b e1 (z ▸ e))),h2.mono g⟩
theorem R.side (r:R Z m st H) {p:Addr} {us vs:List V} (h:H p=some (.lst us)) (hp:p ∉ m):R Z m st (L2.upd H p (.lst vs))/\∀ {v:V} {d:U},aT Z m H v d->aT Z m (L2.upd H p (.lst vs)) v d:=by
 have kT:∀ {a:Addr} {xs:List V},SqT Z.K H a xs->SqT Z.K (L2.upd H p (.lst vs)) a xs:=λ{a xs} q=>by
   have ne:∀ {o:HO},H a=some o->(∀ xs,o ≠ .lst xs)->a ≠ p:=λho hn z=>by subst z; rw [h] at ho; cases ho; exact hn us rfl
   rcases q with (q | ⟨o,q⟩) | q
   · exact .inl (.inl (by rw [ar (ne q λ_ z=>nomatch z)]; exact q))
   · exact .inl (.inr ⟨o,by rw [ar (ne q λ_ z=>nomatch z)]; exact q⟩)
   · exact .inr q
 have kF:∀ {a:Addr} {xs:List V},SqF Z.K H a xs->SqF Z.K (L2.upd H p (.lst vs)) a xs:=λ{a xs} q=>by
   rcases q with ⟨o,q⟩ | q
   · exact .inl ⟨o,by rw [ar (λz=>by subst z; rw [h] at q; cases q)]; exact q⟩
   · exact .inr q
 have key:(∀ {v:V} {d:U},aT Z m H v d->aT Z m (L2.upd H p (.lst vs)) v d):=by
   intro v d hd
   refine aT.rec (motive_1:=λv d _=>aT Z m (L2.upd H p (.lst vs)) v d) (motive_2:=λws es _=>aj Z m (L2.upd H p (.lst vs)) ws es) .non .bl .int .str (λh _ ih=>.tup (kT h) ih) (λh=>.loc h) (λ{a c} q=>.exo ?_) (λh _ ih=>.kl (kF h) ih) .nil (λ_ _ i1 i2=>.cons i1 i2) hd
   rw [ar (λz=>by subst z; rw [h] at q; cases q)]; exact q
 have keys:∀ {ws:List V} {es:List U},aj Z m H ws es->aj Z m (L2.upd H p (.lst vs)) ws es:=by
   intro ws es hd
   refine aj.rec (motive_1:=λv d _=>aT Z m (L2.upd H p (.lst vs)) v d) (motive_2:=λws es _=>aj Z m (L2.upd H p (.lst vs)) ws es) .non .bl .int .str (λh _ ih=>.tup (kT h) ih) (λh=>.loc h) (λ{a c} q=>.exo ?_) (λh _ ih=>.kl (kF h) ih) .nil (λ_ _ i1 i2=>.cons i1 i2) hd
   rw [ar (λz=>by subst z; rw [h] at q; cases q)]; exact q
 refine ⟨⟨r.len,r.inj,λl a fz ds e1 e2=>?_⟩,key⟩
 obtain ⟨ws,h1,h2⟩:=r.obj l a fz ds e1 e2
 exact ⟨ws,h1.upd (λz=>hp (z ▸ List.mem_of_getElem? e1)),keys h2⟩
end
structure bB (Z:Zt) (m:List Addr) (H:Hp) (σ:L2.St) (ρ:Env):Prop where
 len:σ.length=ρ.length
 get:∀ (i:Nat) (d:U),ρ[i]?=some (some d)->∃ v,σ[i]?=some (some v)/\aT Z m H v d
theorem bB.mono {Z:Zt} {m m':List Addr} {H H':Hp} {σ:L2.St} {ρ:Env} (e:bB Z m H σ ρ) (g:Go m H m' H'):bB Z m' H' σ ρ:=
 ⟨e.len,λi d h=>let ⟨v,h1,h2⟩:=e.get i d h; ⟨v,h1,h2.mono g⟩⟩
theorem bB.set {Z:Zt} {m:List Addr} {H:Hp} {σ:L2.St} {ρ:Env} (e:bB Z m H σ ρ) {i:Nat} {v:V} {d:U} (h:aT Z m H v d):bB Z m H (σ.set i (some v)) (ρ.set i (some d)):=by
 refine ⟨by rw [List.length_set,List.length_set]; exact e.len,λj x hx=>?_⟩
 by_cases q:i=j
 · subst q
   by_cases hl:i < ρ.length
   · rw [List.getElem?_set_self hl] at hx
     cases hx
     exact ⟨v,List.getElem?_set_self (by rw [e.len]; exact hl),h⟩
   · rw [List.getElem?_eq_none (by rw [List.length_set]; omega)] at hx; cases hx
 · rw [List.getElem?_set_ne q] at hx
   rw [List.getElem?_set_ne q]
   exact e.get j x hx
noncomputable def post {α:Type} (ex:Nat->Sto->Prop) (k:α->Sto->Prop):Rs α->Prop
 | .ok a st=>k a st
 | .exc c st=>ex c st
 | .bad=>False
theorem aw {α β:Type} {ex:Nat->Sto->Prop} {k:β->Sto->Prop} {x:Rs α} {f:α->Sto->Rs β} (h:post ex k (x.bind f)):post ex (λa st=>post ex k (f a st)) x:=by
 cases x with
 | ok a st=>exact h
 | exc c st=>exact h
 | bad=>exact h
theorem ao {α:Type} {ex ex':Nat->Sto->Prop} {k k':α->Sto->Prop} {x:Rs α} (h:post ex k x) (he:∀ c st,ex c st->ex' c st) (hk:∀ a st,x=.ok a st->k a st->k' a st):post ex' k' x:=by
 cases x with
 | ok a st=>exact hk a st rfl h
 | exc c st=>exact he c st h
 | bad=>exact h
theorem oP {α:Type} {ex:Nat->Sto->Prop} {k:α->Sto->Prop} {x:Rs α} (h:post ex k x.noX):post (λ_ _=>False) k x:=by
 cases x with
 | ok a st=>exact h
 | exc c st=>exact h
 | bad=>exact h
section
variable {Z:Zt} {m:List Addr} {H:Hp} {st:Sto}
theorem kC {f:U->Option D} (ih:∀ {v:V} {d:U} {x:D},aT Z m H v d->f d=some x->Ev.Den Z.K H v x):∀ {vs:List V} {ds:List U} {xs:List D},aj Z m H vs ds->uV f ds=some xs->Ev.wt Z.K H vs xs
 | _,_,_,.nil,h=>by cases h; exact .nil
 | _,_,_,.cons a r,h=>by
   rw [uV] at h
   obtain ⟨y,h1,h⟩:=Option.bind_eq_some_iff.mp h
   obtain ⟨ys,h2,rfl⟩:=Option.map_eq_some_iff.mp h
   exact .cons (ih a h1) (kC ih r h2)
theorem ib (r:R Z m st H):∀ (n:Nat) {v:V} {d:U} {x:D},aT Z m H v d->rsv st n d=some x->Ev.Den Z.K H v x
 | n,_,_,_,.non,h=>by cases n <;> (rw [rsv] at h; cases h; exact .non)
 | n,_,_,_,.bl,h=>by cases n <;> (rw [rsv] at h; cases h; exact .bl)
 | n,_,_,_,.int,h=>by cases n <;> (rw [rsv] at h; cases h; exact .int)
 | n,_,_,_,.str,h=>by cases n <;> (rw [rsv] at h; cases h; exact .str)
 | 0,_,_,_,.tup _ _,h=>by rw [rsv] at h <;> first | cases h | (intros; simp_all)
 | n + 1,_,_,_,.tup q rr,h=>by
   rw [rsv] at h
   obtain ⟨xs,h1,rfl⟩:=Option.map_eq_some_iff.mp h
   exact .tup q (kC (λa b=>ib r n a b) rr h1)
 | 0,_,_,_,.kl _ _,h=>by rw [rsv] at h <;> first | cases h | (intros; simp_all)
 | n + 1,_,_,_,.kl q rr,h=>by
   rw [rsv] at h
   obtain ⟨xs,h1,rfl⟩:=Option.map_eq_some_iff.mp h
   exact .lst q.sq (kC (λa b=>ib r n a b) rr h1)
 | 0,_,_,_,.loc _,h=>by rw [rsv] at h <;> first | cases h | (intros; simp_all)
 | n + 1,_,_,_,.loc q,h=>by
   rw [rsv] at h
   split at h
   · rename_i xs e
     obtain ⟨ys,h1,rfl⟩:=Option.map_eq_some_iff.mp h
     obtain ⟨a,vs,e1,l1,d1⟩:=r.at e
     rw [q] at e1; cases e1
     exact .lst l1.sq (kC (λa b=>ib r n a b) d1 h1)
   · cases h
 | n,_,_,_,.exo _,h=>by cases n <;> (rw [rsv] at h <;> first | cases h | (intros; simp_all))
end
noncomputable def kE (Z:Zt) (Ex:Nat->Hp->Prop) (m:List Addr) (H:Hp):Nat->Sto->Prop:=λc st'=>∀ m' H',Go m H m' H'->R Z m' st' H'->Ex c H'
noncomputable def kV (Z:Zt) (m:List Addr) (H:Hp) (Q:VK):U->Sto->Prop:=λd st'=>∀ m' H' v,Go m H m' H'->R Z m' st' H'->aT Z m' H' v d->Q v H'
noncomputable def kB (Z:Zt) (m:List Addr) (H:Hp) (Q:Bool->Hp->Prop):Bool->Sto->Prop:=λb st'=>∀ m' H',Go m H m' H'->R Z m' st' H'->Q b H'
noncomputable def kT (Z:Zt) (m:List Addr) (H:Hp) (Q:Bool->Hp->Prop):U->Sto->Prop:=λd st'=>∃ b,d=.bl b/\∀ m' H',Go m H m' H'->R Z m' st' H'->Q b H'
noncomputable def kA (Z:Zt) (m:List Addr) (H:Hp) (Q:List V->Hp->Prop):List U->Sto->Prop:=λds st'=>∀ m' H' vs,Go m H m' H'->R Z m' st' H'->aj Z m' H' vs ds->Q vs H'
theorem kE.sh {Z:Zt} {Ex:Nat->Hp->Prop} {m m1:List Addr} {H H1:Hp} (g:Go m H m1 H1):∀ c st,kE Z Ex m H c st->kE Z Ex m1 H1 c st:=λ_ _ h m' H' g'=>h m' H' (g.trans g')
theorem kV.sh {Z:Zt} {m m1:List Addr} {H H1:Hp} {Q:VK} (g:Go m H m1 H1):∀ d st,kV Z m H Q d st->kV Z m1 H1 Q d st:=λ_ _ h m' H' v g'=>h m' H' v (g.trans g')
theorem kT.sh {Z:Zt} {m m1:List Addr} {H H1:Hp} {Q:Bool->Hp->Prop} (g:Go m H m1 H1):∀ d st,kT Z m H Q d st->kT Z m1 H1 Q d st:=λ_ _ ⟨b,e,h⟩=>⟨b,e,λm' H' g'=>h m' H' (g.trans g')⟩
noncomputable abbrev Po (Z:Zt) (Ex:Nat->Hp->Prop) (m:List Addr) (H:Hp) (Q:VK) (x:Rs U):Prop:=post (kE Z Ex m H) (kV Z m H Q) x
theorem Po.sh {Z:Zt} {Ex:Nat->Hp->Prop} {m m1:List Addr} {H H1:Hp} {Q:VK} {x:Rs U} (h:Po Z Ex m H Q x) (g:Go m H m1 H1):Po Z Ex m1 H1 Q x:=ao h (kE.sh g) λa st _=>kV.sh g a st
noncomputable abbrev PoT (Z:Zt) (Ex:Nat->Hp->Prop) (m:List Addr) (H:Hp) (Q:Bool->Hp->Prop) (x:Rs U):Prop:=post (kE Z Ex m H) (kT Z m H Q) x
theorem PoT.sh {Z:Zt} {Ex:Nat->Hp->Prop} {m m1:List Addr} {H H1:Hp} {Q:Bool->Hp->Prop} {x:Rs U} (h:PoT Z Ex m H Q x) (g:Go m H m1 H1):PoT Z Ex m1 H1 Q x:=ao h (kE.sh g) λa st _=>kT.sh g a st
section
variable (Z:Zt) (Φ:Fn) (Ex:Nat->Hp->Prop)
noncomputable def lE (e:E):TE:=λσ H Q=>∃ m st ρ,R Z m st H/\bB Z m H σ ρ/\Po Z Ex m H Q (xE Φ e ρ st)
noncomputable def lT (e:E):TT:=λσ H Q=>∃ m st ρ,R Z m st H/\bB Z m H σ ρ/\PoT Z Ex m H Q (xE Φ e ρ st)
noncomputable def lIf (es:List E):TT:=λσ H Q=>∃ m st ρ,R Z m st H/\bB Z m H σ ρ/\post (kE Z Ex m H) (kB Z m H Q) (xIf Φ es ρ st)
noncomputable def lEs (es:List E):TA:=λσ H Q=>∃ m st ρ,R Z m st H/\bB Z m H σ ρ/\post (kE Z Ex m H) (kA Z m H Q) (xEs Φ es ρ st)
noncomputable def lP (e:E):TO:=λσ H Q=>∃ m st ρ,R Z m st H/\bB Z m H σ ρ/\post (kE Z Ex m H) (λd st'=>∃ o,vA e d=some o/\∀ m' H',Go m H m' H'->R Z m' st' H'->Q o H') (xE Φ e ρ st)
noncomputable def lG (t:Tg):TG:=λv σ H Q=>∃ m st ρ d ρ',R Z m st H/\bB Z m H σ ρ/\aT Z m H v d/\fM t d ρ=some ρ'/\∀ σ',bB Z m H σ' ρ'->Q σ' H
noncomputable def Yl (J:L2.It) (q:Sq) (m0:List Addr) (H0:Hp):Prop:=∀ m st H,Go m0 H0 m H->R Z m st H->∀ i,match q.at st i with
 | none=>True
 | some none=>J.stop i H
 | some (some x)=>J.go i H/\∀ v H',J.yld i H v H'->Go m H m H'/\R Z m st H'/\aT Z m H' v x
noncomputable def lI (it:It):TI:=λσ H Rr=>∃ m st ρ,R Z m st H/\bB Z m H σ ρ/\post (kE Z Ex m H) (λq st'=>∀ J m' H',Go m H m' H'->R Z m' st' H'->Yl Z J q m' H'->Rr J H') (xIt Φ it ρ st)
noncomputable def spU (F:List U->Sto->Rs U):Sp:=λvs H Q E=>∃ m st ds,R Z m st H/\aj Z m H vs ds/\post (λc st'=>∀ m' H',Go m H m' H'->R Z m' st' H'->E (.ref (Z.cl c)) none H') (kV Z m H Q) (F ds st)
noncomputable def xk:XK:=λC _ H'=>∃ c,C=.ref (Z.cl c)/\Ex c H'
end
noncomputable def rO (Z:Zt) (Ex:Nat->Hp->Prop) (g:U->U->Sto->Rs U):R2:=λx y H Q=>∃ m st a b,R Z m st H/\aT Z m H x a/\aT Z m H y b/\Po Z Ex m H Q (g a b st)
noncomputable def rB (Z:Zt) (Ex:Nat->Hp->Prop) (g:List U->Sto->Rs U):List V->Hp->VK->Prop:=λxs H Q=>∃ m st ds,R Z m st H/\aj Z m H xs ds/\Po Z Ex m H Q (g ds st)
noncomputable abbrev zt (X:Cx) (cl:Nat->Addr):Zt:=⟨X.K,cl⟩
theorem Po.ok {Z:Zt} {Ex:Nat->Hp->Prop} {m:List Addr} {H:Hp} {Q:VK} {d:U} {st:Sto} (h:Po Z Ex m H Q (.ok d st)) (r:R Z m st H) {v:V} (dv:aT Z m H v d):Q v H:=h m H v (Go.refl m H) r dv
theorem Po.new {Z:Zt} {Ex:Nat->Hp->Prop} {m:List Addr} {H:Hp} {Q:VK} {st:Sto} {xs:List U} (h:Po Z Ex m H Q (new st xs)) (r:R Z m st H) {vs:List V} (dv:aj Z m H vs xs) {p:Addr} (hp:H p=none):Q (.ref p) (upd H p (.lst vs)):=by
 obtain ⟨g,r',d'⟩:=r.new hp dv
 exact h _ _ _ g r' d'
theorem Po.tup {Z:Zt} {Ex:Nat->Hp->Prop} {m:List Addr} {H:Hp} {Q:VK} {st:Sto} {xs:List U} (h:Po Z Ex m H Q (.ok (.tup xs) st)) (r:R Z m st H) {vs:List V} (dv:aj Z m H vs xs) {p:Addr} (hp:H p=none):Q (.ref p) (upd H p (.tup vs)):=
 h m _ _ (Go.new r hp) (r.upd hp) (.tup (.inl (.inl aW)) (dv.mono (Go.new r hp)))
noncomputable def trO:Operator->Option Op2
 | .Add=>some .add
 | .Sub=>some .sub
 | .Mult=>some .mul
 | .FloorDiv=>some .fdiv
 | .Mod=>some .mod
 | .Pow=>some .pow
 | _=>none
noncomputable def trC:CmpOp->Option Cm
 | .Eq=>some .eq
 | .NotEq=>some .ne
 | .Lt=>some .lt
 | .LtE=>some .le
 | .Gt=>some .gt
 | .GtE=>some .ge
 | _=>none
section
variable {X:Cx} {cl:Nat->Addr} {Ex:Nat->Hp->Prop}
theorem ny {Z:Zt} {m:List Addr} {H:Hp} {st:Sto} (r:R Z m st H) {v:V} {d:U} {xs:List U} (dv:aT Z m H v d) (e:pM st d=some xs) :
   ∃ p vs,v=.ref p/\SqL Z.K H p vs/\aj Z m H vs xs:=by
 cases dv with
 | kl h1 r1=>cases e; exact ⟨_,_,rfl,h1.sq,r1⟩
 | loc h=>
   simp only [pM] at e
   obtain ⟨⟨fz,ys⟩,e1,e2⟩:=Option.map_eq_some_iff.mp e
   cases e2
   obtain ⟨a,vs,f1,f2,f3⟩:=r.at e1
   rw [h] at f1; cases f1
   exact ⟨_,vs,rfl,f2.sq,f3⟩
 | _=>cases e
theorem iJ {f:Value->Value->Sem Value} {C:Int->Int->Prop} {g:Int->Int->V} {h:U->U->Sto->Rs U} {h':Int->Int->U} (o:OpR X f (rI C g))
   (sh:∀ a b st,h a b st=.bad\/∃ i j,a=.int i/\b=.int j/\C i j/\h a b st=.ok (h' i j) st) (sd:∀ Z m H i j,aT Z m H (g i j) (h' i j)):OpR X f (rO (zt X cl) Ex h):=by
 intro pins s σ H x y v u Q I rx ry q
 obtain ⟨m,st,a,b,r,dx,dy,q⟩:=q
 rcases sh a b st with e | ⟨i,j,rfl,rfl,c,e⟩
 · rw [e] at q; exact q.elim
 · rw [e] at q
   have e1:=k8 dx
   have e2:=k8 dy
   subst e1 e2
   exact o pins s σ H _ _ v u Q I rx ry ⟨i,j,rfl,rfl,c,q.ok r (sd _ _ _ _ _)⟩
theorem Gm:∀ {op:Operator} {o:Op2},trO op=some o->OpR X (binaryOp op) (rO (zt X cl) Ex (ev2 o)):=by
 intro op o h
 cases op <;> simp only [trO.eq_def,Option.some.injEq,reduceCtorEq] at h <;> subst h
 case Add=>
   intro pins s σ H x y v u Q I rx ry q
   obtain ⟨m,st,a,b,r,dx,dy,q⟩:=q
   cases dx <;> first | exact False.elim q | (cases dy <;> first | exact False.elim q | simp only [ev2.eq_def] at q)
   case int.int i j=>exact Ev.sJ pins s σ H _ _ v u Q I rx ry ⟨i,j,rfl,rfl,trivial,q.ok r .int⟩
   case loc.loc a l h1 a2 l2 h2=>
     split at q
     · rename_i xs ys e1 e2
       split at q
       · rename_i hl
         obtain ⟨b,vs,f1,f2,f3⟩:=r.at e1
         obtain ⟨b2,vs2,g1,g2,g3⟩:=r.at e2
         rw [h1] at f1; cases f1
         rw [h2] at g1; cases g1
         have l1:=f3.length
         have l2:=g3.length
         refine Ev.nj pins s σ H _ _ v u Q I rx ry ⟨_,_,vs,vs2,rfl,rfl,f2.sq,g2.sq,?_,λz hz=>q.new r (f3.append g3) hz⟩
         have:=Ev.cO
         omega
       · exact q.elim
     · exact q.elim
   case loc.kl a l h1 a2 vs2 ys h2 g3=>
     split at q
     · rename_i xs e1
       split at q
       · rename_i hl
         obtain ⟨b,vs,f1,f2,f3⟩:=r.at e1
         rw [h1] at f1; cases f1
         have l1:=f3.length
         have l2:=g3.length
         refine Ev.nj pins s σ H _ _ v u Q I rx ry ⟨_,_,vs,vs2,rfl,rfl,f2.sq,h2.sq,?_,λz hz=>q.new r (f3.append g3) hz⟩
         have:=Ev.cO
         omega
       · exact q.elim
     · exact q.elim
   case kl.loc a vs xs h1 f3 a2 l2 h2=>
     split at q
     · rename_i ys e2
       split at q
       · rename_i hl
         obtain ⟨b2,vs2,g1,g2,g3⟩:=r.at e2
         rw [h2] at g1; cases g1
         have l1:=f3.length
         have l2:=g3.length
         refine Ev.nj pins s σ H _ _ v u Q I rx ry ⟨_,_,vs,vs2,rfl,rfl,h1.sq,g2.sq,?_,λz hz=>q.new r (f3.append g3) hz⟩
         have:=Ev.cO
         omega
       · exact q.elim
     · exact q.elim
   case kl.kl a vs xs h1 f3 a2 vs2 ys h2 g3=>
     split at q
     · rename_i hl
       have l1:=f3.length
       have l2:=g3.length
       refine Ev.nj pins s σ H _ _ v u Q I rx ry ⟨_,_,vs,vs2,rfl,rfl,h1.sq,h2.sq,?_,λz hz=>q.new r (f3.append g3) hz⟩
       have:=Ev.cO
       omega
     · exact q.elim
 case Sub=>exact iJ (h':=λi j=>.int (i - j)) Ev.qJ (λa b st=>by cases a <;> first | exact .inl rfl | (cases b <;> first | exact .inl rfl | exact .inr ⟨_,_,rfl,rfl,trivial,rfl⟩)) λ_ _ _ _ _=>.int
 case Mult=>
   refine iJ (h':=λi j=>.int (i * j)) Ev.nk (λa b st=>?_) λ_ _ _ _ _=>.int
   cases a <;> first | exact .inl rfl | (cases b <;> first | exact .inl rfl | skip)
   simp only [ev2.eq_def]
   split
   · exact .inr ⟨_,_,rfl,rfl,by assumption,rfl⟩
   · exact .inl rfl
 case FloorDiv=>
   refine iJ (h':=λi j=>.int (i.fdiv j)) Ev.BB (λa b st=>?_) λ_ _ _ _ _=>.int
   cases a <;> first | exact .inl rfl | (cases b <;> first | exact .inl rfl | skip)
   simp only [ev2.eq_def]
   split
   · exact .inr ⟨_,_,rfl,rfl,by assumption,rfl⟩
   · exact .inl rfl
 case Mod=>
   refine iJ (h':=λi j=>.int (i.fmod j)) xo (λa b st=>?_) λ_ _ _ _ _=>.int
   cases a <;> first | exact .inl rfl | (cases b <;> first | exact .inl rfl | skip)
   simp only [ev2.eq_def]
   split
   · exact .inr ⟨_,_,rfl,rfl,by assumption,rfl⟩
   · exact .inl rfl
 case Pow=>
   refine iJ (h':=λi j=>.int (i ^ j.toNat)) Gi (λa b st=>?_) λ_ _ _ _ _=>.int
   cases a <;> first | exact .inl rfl | (cases b <;> first | exact .inl rfl | skip)
   simp only [ev2.eq_def]
   split
   · exact .inr ⟨_,_,rfl,rfl,by assumption,rfl⟩
   · exact .inl rfl
noncomputable def rC (Z:Zt) (Ex:Nat->Hp->Prop) (o:Cm):R2:=rO Z Ex λa b st=>ofO (evC o a b st) st
theorem l6 (hu:X.A.units + 64 < cLine):∀ {op:CmpOp} {o:Cm},trC op=some o->OpR X (compareOp op) (rC (zt X cl) Ex o):=by
 intro op o h
 have ltB:OpR X (compareOp .Lt) (rI (λ_ _=>True) λi j=>.bl (decide (i < j))):=λpins s σ H x y v u Q I rx ry ⟨i,j,h1,h2,_,q⟩=>Ij pins s σ H x y v u Q I rx ry ⟨i,j,h1,h2,q⟩
 have leB:OpR X (compareOp .LtE) (rI (λ_ _=>True) λi j=>.bl (decide (i<=j))):=λpins s σ H x y v u Q I rx ry ⟨i,j,h1,h2,_,q⟩=>Hz pins s σ H x y v u Q I rx ry ⟨i,j,h1,h2,q⟩
 have gtB:OpR X (compareOp .Gt) (rI (λ_ _=>True) λi j=>.bl (decide (j < i))):=λpins s σ H x y v u Q I rx ry ⟨i,j,h1,h2,_,q⟩=>Hm pins s σ H x y v u Q I rx ry ⟨i,j,h1,h2,q⟩
 have geB:OpR X (compareOp .GtE) (rI (λ_ _=>True) λi j=>.bl (decide (j<=i))):=λpins s σ H x y v u Q I rx ry ⟨i,j,h1,h2,_,q⟩=>II pins s σ H x y v u Q I rx ry ⟨i,j,h1,h2,q⟩
 cases op <;> simp only [trC.eq_def,Option.some.injEq,reduceCtorEq] at h <;> subst h
 case Eq=>
   intro pins s σ H x y v u Q I rx ry q
   obtain ⟨m,st,a,b,r,dx,dy,q⟩:=q
   simp only [evC.eq_def] at q
   split at q
   · rename_i a' b' e1 e2
     split at q
     · rename_i c
       obtain ⟨as,r1⟩:=Ev.jf I (lK.refl H) (ib r _ dx e1) rx
       obtain ⟨bs,r2⟩:=Ev.jf I (lK.refl H) (ib r _ dy e2) ry
       exact eq_dataH r1 r2 (Ev.iF c.1) (Ev.iF c.2) hu ⟨.bl _,H,I,by rw [Ev.qZ]; rfl,Po.ok q r .bl⟩
     · exact q.elim
   · exact q.elim
 case NotEq=>
   intro pins s σ H x y v u Q I rx ry q
   obtain ⟨m,st,a,b,r,dx,dy,q⟩:=q
   simp only [evC.eq_def] at q
   split at q
   · rename_i a' b' e1 e2
     split at q
     · rename_i c
       obtain ⟨as,r1⟩:=Ev.jf I (lK.refl H) (ib r _ dx e1) rx
       obtain ⟨bs,r2⟩:=Ev.jf I (lK.refl H) (ib r _ dy e2) ry
       exact ne_dataH r1 r2 (Ev.iF c.1) (Ev.iF c.2) hu ⟨.bl _,H,I,by rw [Ev.qZ]; rfl,Po.ok q r .bl⟩
     · exact q.elim
   · exact q.elim
 case Lt=>exact iJ (h':=λi j=>.bl (decide (i < j))) ltB (λa b st=>by cases a <;> first | exact .inl rfl | (cases b <;> first | exact .inl rfl | exact .inr ⟨_,_,rfl,rfl,trivial,rfl⟩)) λ_ _ _ _ _=>.bl
 case LtE=>exact iJ (h':=λi j=>.bl (decide (i<=j))) leB (λa b st=>by cases a <;> first | exact .inl rfl | (cases b <;> first | exact .inl rfl | exact .inr ⟨_,_,rfl,rfl,trivial,rfl⟩)) λ_ _ _ _ _=>.bl
 case Gt=>exact iJ (h':=λi j=>.bl (decide (j < i))) gtB (λa b st=>by cases a <;> first | exact .inl rfl | (cases b <;> first | exact .inl rfl | exact .inr ⟨_,_,rfl,rfl,trivial,rfl⟩)) λ_ _ _ _ _=>.bl
 case GtE=>exact iJ (h':=λi j=>.bl (decide (j<=i))) geB (λa b st=>by cases a <;> first | exact .inl rfl | (cases b <;> first | exact .inl rfl | exact .inr ⟨_,_,rfl,rfl,trivial,rfl⟩)) λ_ _ _ _ _=>.bl
end
section
variable {X:Cx} {cl:Nat->Addr} {Ex:Nat->Hp->Prop}
theorem rW {Z:Zt} {m:List Addr} {H:Hp} {st:Sto} (r:R Z m st H) {v:V} {d:U} {xs:List U} (dv:aT Z m H v d) (e:seq? st d=some xs) :
   ∃ p vs,v=.ref p/\(SqL Z.K H p vs\/(SqT Z.K H p vs/\d=.tup xs))/\aj Z m H vs xs:=by
 cases dv with
 | tup h1 r1=>cases e; exact ⟨_,_,rfl,.inr ⟨h1,rfl⟩,r1⟩
 | kl h1 r1=>cases e; exact ⟨_,_,rfl,.inl h1.sq,r1⟩
 | loc h=>
   simp only [seq?] at e
   obtain ⟨⟨fz,ys⟩,e1,e2⟩:=Option.map_eq_some_iff.mp e
   cases e2
   obtain ⟨a,vs,f1,f2,f3⟩:=r.at e1
   rw [h] at f1; cases f1
   exact ⟨_,vs,rfl,.inl f2.sq,f3⟩
 | _=>cases e
theorem G7:eY X (.builtin "len") (rB (zt X cl) Ex (evB .len)):=by
 intro pins s σ H xs us Q I r q
 obtain ⟨m,st,ds,rr,dn,q⟩:=q
 match ds,q with
 | [x],q=>
   obtain ⟨v,rfl,dx⟩:=rl dn
   simp only [evB.eq_def] at q
   split at q
   · rename_i ys e
     obtain ⟨p,vs,rfl,h1,h2⟩:=rW rr dx e
     have hl:=h2.length
     refine iM pins s σ H _ us Q I r ⟨p,vs,rfl,h1.imp id λz=>z.1,?_⟩
     rw [hl]; exact Po.ok q rr .int
   · exact q.elim
theorem F9:eY X (.builtin "abs") (rB (zt X cl) Ex (evB .abs)):=by
 intro pins s σ H xs us Q I r q
 obtain ⟨m,st,ds,rr,dn,q⟩:=q
 match ds,q with
 | [.int i],q=>
   obtain ⟨x,rfl,dx⟩:=rl dn
   cases dx
   exact Ad pins s σ H _ us Q I r ⟨i,rfl,Po.ok q rr .int⟩
theorem Fj (hc:X.calm=true):eY X (.builtin "max") (rB (zt X cl) Ex (evB .max)):=by
 intro pins s σ H xs us Q I r q
 obtain ⟨m,st,ds,rr,dn,q⟩:=q
 match ds,q with
 | [.int i,.int j],q=>
   obtain ⟨x,y,rfl,dx,dy⟩:=HJ dn
   cases dx; cases dy
   exact yq hc pins s σ H _ us Q I r ⟨i,j,rfl,Po.ok q rr .int⟩
theorem F7 (hc:X.calm=true):eY X (.builtin "min") (rB (zt X cl) Ex (evB .min)):=by
 intro pins s σ H xs us Q I r q
 obtain ⟨m,st,ds,rr,dn,q⟩:=q
 match ds,q with
 | [.int i,.int j],q=>
   obtain ⟨x,y,rfl,dx,dy⟩:=HJ dn
   cases dx; cases dy
   exact zf hc pins s σ H _ us Q I r ⟨i,j,rfl,Po.ok q rr .int⟩
theorem GK:eY X (.type "int") (rB (zt X cl) Ex (evB .int)):=by
 intro pins s σ H xs us Q I r q
 obtain ⟨m,st,ds,rr,dn,q⟩:=q
 match ds,q with
 | [.int i],q=>
   obtain ⟨x,rfl,dx⟩:=rl dn
   cases dx
   exact pX pins s σ H _ us Q I r (.inl ⟨i,rfl,Po.ok q rr .int⟩)
 | [.bl b],q=>
   obtain ⟨x,rfl,dx⟩:=rl dn
   cases dx
   exact pX pins s σ H _ us Q I r (.inr ⟨b,rfl,Po.ok q rr .int⟩)
theorem Es:eY X (.type "list") (rB (zt X cl) Ex (evB .list)):=by
 intro pins s σ H xs us Q I r q
 obtain ⟨m,st,ds,rr,dn,q⟩:=q
 match ds,q with
 | [x],q=>
   obtain ⟨v,rfl,dx⟩:=rl dn
   simp only [evB.eq_def] at q
   split at q
   · rename_i ys e
     obtain ⟨p,vs,rfl,h1,h2⟩:=rW rr dx e
     exact rq pins s σ H _ us Q I r ⟨p,vs,rfl,h1.imp id λz=>z.1,λl hl=>Po.new q rr h2 hl⟩
   · exact q.elim
theorem pj {Z:Zt} {m:List Addr} {H:Hp}:∀ {vs:List V} {ds:List U} {us:List Value} {b:Bool},aj Z m H vs ds->Vals vs us->allB ds=some b->(∀ u ∈ us,∃ c,u=Value.bool c)/\b=(List.range us.length).all λi=>us[i]? == some (Value.bool true)
 | _,_,_,b,.nil,.nil,h=>by
   cases h
   exact ⟨λu hu=>absurd hu (by simp),rfl⟩
 | _,_,_,b,.cons dv r,.cons rv rs,h=>by
   cases dv with
   | @bl c=>
     rw [allB] at h
     obtain ⟨b',h1,h2⟩:=Option.map_eq_some_iff.mp h
     obtain ⟨i1,i2⟩:=pj r rs h1
     obtain rfl:=(show _=Value.bool c from rv)
     refine ⟨λu hu=>?_,?_⟩
     · rcases List.mem_cons.mp hu with rfl | hu
       · exact ⟨c,rfl⟩
       · exact i1 u hu
     · rw [<- h2,i2,List.length_cons,List.range_succ_eq_map,List.all_cons,List.all_map]
       congr 1
       cases c <;> rfl
   | _=>cases h
theorem Gh (hc:X.calm=true):eY X (.builtin "all") (rB (zt X cl) Ex (evB .all)):=by
 intro pins s σ H xs us Q I r q
 obtain ⟨m,st,ds,rr,dn,q⟩:=q
 match ds,q with
 | [x],q=>
   obtain ⟨v,rfl,dx⟩:=rl dn
   simp only [evB.eq_def] at q
   split at q
   · rename_i ys e
     obtain ⟨p,vs,rfl,h1,h2⟩:=ny rr dx e
     cases hb:allB ys with
     | none=>rw [hb] at q; exact q.elim
     | some b=>
       rw [hb] at q
       obtain ⟨u,rfl,ru⟩:=vals1 r
       cases (show u=Value.ref _ from ru)
       obtain ⟨its,rv,p,hz⟩:=I.list h1
       obtain ⟨i1,i2⟩:=pj h2 rv hb
       have lt:∀ a,s.heap.IsList a its.toArray->a ≠ s.heap.objs.size:=λa ⟨o,z,_⟩=>Nat.ne_of_lt (Heap.lt_size z)
       refine call_all_walk (wpAny_pyIter_list p.isList ⟨_,_,_,_,_,_,λi=>its[i]? == some (Value.bool true),rfl,Walks.list (A:=X.A.in1) (I.ok.hd hc) _ _ (lt _ p.isList) its.toArray,⟨⟨_,Heap.get?_push_size _ rfl,rfl,rfl⟩,?_⟩,λi v s' Q' E' hP hQ=>?_,λh' tk hk=>?_⟩)
       · obtain ⟨o,z1,z2⟩:=p.isList
         exact ⟨o,Heap.get?_push_of_some _ z1,z2⟩
       · have hP':its[i]?=some v:=by simpa using hP
         obtain ⟨c,rfl⟩:=i1 v (List.mem_of_getElem? hP')
         refine wpAny_truthy_bool ?_
         have hQ:Q' (its[i]? == some (Value.bool true)) s':=hQ
         rw [hP'] at hQ
         cases c
         · exact hQ
         · exact hQ
       · have e1:its.toArray.size=its.length:=List.size_toArray
         refine ⟨.bl b,H,I.kept (t':=tk) λb' o z=>?_,?_,Po.ok q rr .bl⟩
         · refine hk b' o (λhm=>?_) (Heap.get?_push_of_some _ z)
           have:b'=s.heap.objs.size:=by simpa using hm
           exact absurd (Heap.lt_size z) (by rw [this]; exact Nat.lt_irrefl _)
         · rw [e1,<- i2]; rfl
   · exact q.elim
noncomputable def aL:List Str:=["len","abs","max","min","int","bool","list","tuple","str","isinstance","range","enumerate","all","zip","sorted","sum","any","reversed"]
noncomputable def trT (x:Str):Option Ty:=
 if x = "int" then some .int else if x = "bool" then some .bool else if x = "tuple" then some .tuple else if x = "list" then some .list else if x = "str" then some .str else none
noncomputable def trB (x:Str):Option Bi:=
 if x = "len" then some .len else if x = "abs" then some .abs else if x = "max" then some .max else if x = "min" then some .min else if x = "int" then some .int else
 if x = "list" then some .list else if x = "all" then some .all else none
theorem Ip (hc:X.calm=true) (hb:∀ x ∈ aL,X.mg x=none) {x:Str} {b:Bi} {p pos:Pos} {e:Expr} {es:List Expr} {t:TA} (h:trB x=some b) (hg:Gl X x) (ha:PA X (e :: es) t)
   (he:starEach (e :: es) X.env=(false,eval e X.env) :: starEach es X.env) (hpl:(backTo pos (starEach es X.env)).any (·.1)=false):PE X (.Call (.Name x p) (e :: es) [] pos) (tCB (rB (zt X cl) Ex (evB b)) t):=by
 unfold trB at h
 split at h
 · rename_i q; subst q; cases h
   exact eT G7 hg (hb _ (by simp [aL])) (by decide +kernel) ha (by decide) (by decide) he hpl
 split at h
 · rename_i q; subst q; cases h
   exact eT F9 hg (hb _ (by simp [aL])) (by decide +kernel) ha (by decide) (by decide) he hpl
 split at h
 · rename_i q; subst q; cases h
   exact eT (Fj hc) hg (hb _ (by simp [aL])) (by decide +kernel) ha (by decide) (by decide) he hpl
 split at h
 · rename_i q; subst q; cases h
   exact eT (F7 hc) hg (hb _ (by simp [aL])) (by decide +kernel) ha (by decide) (by decide) he hpl
 split at h
 · rename_i q; subst q; cases h
   exact pY GK hg (hb _ (by simp [aL])) (by decide +kernel) ha (by decide) (by decide) he hpl
 split at h
 · rename_i q; subst q; cases h
   exact pY Es hg (hb _ (by simp [aL])) (by decide +kernel) ha (by decide) (by decide) he hpl
 split at h
 · rename_i q; subst q; cases h
   exact eT (Gh hc) hg (hb _ (by simp [aL])) (by decide +kernel) ha (by decide) (by decide) he hpl
 cases h
noncomputable def tyN:Ty->String
 | .int=>"int" | .bool=>"bool" | .tuple=>"tuple" | .list=>"list" | .str=>"str"
noncomputable def IC:U->String
 | .non=>"NoneType" | .bl _=>"bool" | .int _=>"int" | .str _=>"str" | .tup _=>"tuple" | .loc _=>"list" | .kl _=>"list" | .exo _=>"NoneType"
theorem G3 (K:PySem.W.Frag) (d:U) (t:Ty):PySem.W.kitOne K (.type (IC d)) (.type (tyN t))=some (yr t d):=by
 cases d <;> cases t <;> (show PySem.W.kitOne K (.type _) (.type _)=some _) <;> with_unfolding_all rfl
theorem Fh (t:Ty):eY X (.builtin "isinstance") (λxs H Q=>∃ m st x d,R (zt X cl) m st H/\xs=[x,.ty (tyN t)]/\aT (zt X cl) m H x d/\(∀ c,d ≠ .exo c)/\Q (.bl (yr t d)) H):=by
 intro pins s σ H xs us Q I r q
 obtain ⟨m,st,x,d,rr,rfl,dx,ne,q⟩:=q
 obtain ⟨u,w,rfl,rx,rt⟩:=vals2 r
 cases (show w=Value.type (tyN t) from rt)
 have kt:=G3 X.K d t
 have fin:∀ tk,EP X pins σ Q (.bool (yr t d)) { s with toks:=tk }:=λtk=>⟨.bl _,H,I.tok _,rfl,q⟩
 cases dx with
 | non=>cases (show u=Value.none from rx); exact PySem.W.kia_one PySem.W.kitx_none I.kIn True.intro kt (λz=>nomatch z) fin
 | bl=>cases (show u=Value.bool _ from rx); exact PySem.W.kia_one PySem.W.kitx_bool I.kIn True.intro kt (λz=>nomatch z) fin
 | int=>obtain ⟨t',z⟩:=(show ∃ t,u=Value.int _ t from rx); cases z; exact PySem.W.kia_one PySem.W.kitx_int I.kIn True.intro kt (λz=>nomatch z) fin
 | str=>obtain ⟨t',z⟩:=(show ∃ t,u=Value.str _ t from rx); cases z; exact PySem.W.kia_one PySem.W.kitx_str I.kIn True.intro kt (λz=>nomatch z) fin
 | tup h r1=>
   cases (show u=Value.ref _ from rx)
   obtain ⟨its,_,⟨o,h1,h2,_⟩,_⟩:=I.tuple h
   exact PySem.W.kia_one PySem.W.kitx_tuple I.kIn ⟨o,h1,h2⟩ kt (λz=>nomatch z) fin
 | loc h=>
   cases (show u=Value.ref _ from rx)
   obtain ⟨fz,ds,vs,_,ly,_⟩:=rr.loc h
   obtain ⟨its,_,⟨o,n,h1,h2,_⟩,_⟩:=I.list ly.sq
   exact PySem.W.kia_one PySem.W.kitx_list I.kIn ⟨o,h1,h2⟩ kt (λz=>nomatch z) fin
 | exo h=>exact absurd rfl (ne _)
 | kl h r1=>
   cases (show u=Value.ref _ from rx)
   obtain ⟨its,_,⟨o,n,h1,h2,_⟩,_⟩:=I.list h.sq
   exact PySem.W.kia_one PySem.W.kitx_list I.kIn ⟨o,h1,h2⟩ kt (λz=>nomatch z) fin
theorem Ie (hb:∀ x ∈ aL,X.mg x=none) {x:Str} {t:Ty} {p:Pos} (h:trT x=some t) (hg:Gl X x):PE X (.Name x p) (tC (.ty (tyN t))):=by
 unfold trT at h
 split at h
 · rename_i q; subst q; cases h
   exact kU (u:=.type "int") hg (hb _ (by simp [aL])) (by decide +kernel) rfl (by decide) (by decide)
 split at h
 · rename_i q; subst q; cases h
   exact kU (u:=.type "bool") hg (hb _ (by simp [aL])) (by decide +kernel) rfl (by decide) (by decide)
 split at h
 · rename_i q; subst q; cases h
   exact kU (u:=.type "tuple") hg (hb _ (by simp [aL])) (by decide +kernel) rfl (by decide) (by decide)
 split at h
 · rename_i q; subst q; cases h
   exact kU (u:=.type "list") hg (hb _ (by simp [aL])) (by decide +kernel) rfl (by decide) (by decide)
 split at h
 · rename_i q; subst q; cases h
   exact kU (u:=.type "str") hg (hb _ (by simp [aL])) (by decide +kernel) rfl (by decide) (by decide)
 cases h
theorem Ef {Z:Zt} {m:List Addr} {H:Hp} {vs:List V} {ds:List U} {i:Int} {d:U} (r:aj Z m H vs ds) (h:atI ds i=some d):∃ v,atI vs i=some v/\aT Z m H v d:=by
 unfold atI at h ⊢
 rw [r.length]
 cases e:ixN ds.length i with
 | none=>rw [e] at h; cases h
 | some j=>
   rw [e] at h
   obtain ⟨v,h1,h2⟩:=r.get (show ds[j]?=some d from h)
   exact ⟨v,h1,h2⟩
theorem F3:IxR X (rO (zt X cl) Ex evI):=by
 intro value slice pins s σ H x y v u Q I rx ry q hs
 obtain ⟨m,st,a,b,r,dx,dy,q⟩:=q
 unfold evI at q
 split at q
 · rename_i xs i e
   cases dy
   split at q
   · rename_i z hz
     obtain ⟨p,vs,rfl,h1,h2⟩:=rW r dx e
     obtain ⟨w,g1,g2⟩:=Ef h2 hz
     rcases h1 with h1 | ⟨h1,_⟩
     · exact yh value slice pins s σ H _ _ v u Q I rx ry ⟨p,vs,_,w,rfl,rfl,h1,g1,Po.ok q r g2⟩ hs
     · exact Gq value slice pins s σ H _ _ v u Q I rx ry ⟨p,vs,_,w,rfl,rfl,h1,g1,Po.ok q r g2⟩ hs
   · exact q.elim
 · exact q.elim
theorem DH {Z:Zt} {m:List Addr} {H:Hp} {vs:List V} {ds:List U} (r:aj Z m H vs ds) (lo hi:Option Int):aj Z m H (zw vs lo hi) (A6 ds lo hi):=by
 unfold zw A6
 rw [r.length]
 exact (r.drop _).take _
theorem Eu:Gv X (λo i v H Q=>∃ m st a b c,R (zt X cl) m st H/\aT (zt X cl) m H o a/\aT (zt X cl) m H i b/\aT (zt X cl) m H v c/\∃ st',evP a b c st=some st'/\∀ H',Go m H m H'->R (zt X cl) m st' H'->Q H'):=by
 intro pins s σ H o i v ov iv u Q I ro ri rv q
 obtain ⟨m,st,a,b,c,r,dA,db,dc,st',e,q⟩:=q
 unfold evP at e
 split at e
 · rename_i l j
   split at e
   · rename_i xs hs
     obtain ⟨k,hk,rfl⟩:=Option.map_eq_some_iff.mp e
     obtain ⟨p,rfl,hp⟩:=fP dA
     cases db
     obtain ⟨p',vs,f1,f2,f3⟩:=r.at hs
     rw [hp] at f1; cases f1
     unfold Lay at f2
     rw [if_neg (by decide)] at f2
     have hl:=f3.length
     obtain ⟨g,r'⟩:=r.put hp hs (f3.set k dc)
     exact set_list pins s σ H _ _ v ov iv u Q I ro ri rv ⟨_,vs,_,k,rfl,rfl,f2,by rw [hl]; exact hk,q _ g r'⟩
   · cases e
 · cases e
end
end Sv
namespace Sv
open PySem PySem.Spec PyProof.Rows L2
open Ev (D aA aK ae jd iW dj slot slot_get gA jH iX kM iN eu iS aH lx kR PTs kH mq B6 Ite)
structure Tr where
 sc:Scope
 N:List Str
 F:List Str
 cap:List Nat
 cst:List (Str × Int)
noncomputable def fN (T:Tr) (scope:Scope):List (Option Nat):=(iS scope).map λx=>if (x,NameKind.free) ∈ scope.names then slot T.N x else none
noncomputable def oz (T:Tr) (scope:Scope):Tr:=
 { sc:=iN scope T.sc,N:=iS scope++[("#" : Str)],F:=T.F,cap:=(List.range (fN T scope).length).filter λj=>((fN T scope).getD j none).isSome,cst:=T.cst }
noncomputable def xT (T:Tr) (scope:Scope):Bool:=
 scope.names.all (λp=>p.2 != .free || (slot T.N p.1).isSome) && scope.kind == .function && T.sc.kind == .function && scope.names.all (λp=>p.2 != .local || scope.names.lookup p.1 == some .local) && scope.names.all (λp=>p.2 != .free || T.sc.names.lookup p.1 == some .cell)
   && scope.names.all (λp=>p.2 != .free || (!decide ((p.1,NameKind.cell) ∈ scope.names) && !decide ((p.1,NameKind.local) ∈ scope.names))) && decide (iS scope++[("#" : Str)]).Nodup
   && !gA (iN scope T.sc) ("#" : Str) && (match (iN scope T.sc).names.lookup ("#" : Str) with | some .free=>false | _=>true)
noncomputable def trV (T:Tr) (x:Str):Option Nat:=
 if gA T.sc x=true/\(x == ("__debug__" : Str))=false/\(x == ("__classdict__" : Str))=false then slot T.N x else none
noncomputable def dh (T:Tr):List Expr->Option (List Nat)
 | []=>some []
 | .Name x _ :: r=>(trV T x).bind λi=>if i ∈ T.cap then none else (dh T r).bind λis=>some (i :: is)
 | _=>none
noncomputable def kO (T:Tr):Expr->Option Tg
 | .Name x _=>(trV T x).bind λi=>if i ∈ T.cap then none else some (.nm i)
 | .Tuple es _ _=>(dh T es).bind λis=>some (.tp is)
 | _=>none
noncomputable def ua:Expr->It->Bool
 | .Tuple _ _ _,_=>true
 | _,.enu _=>false
 | _,.zip _ _=>false
 | _,_=>true
noncomputable def stE (T:Tr) (rE:Tr->Expr->Option E) (rEs:List Expr->Option (List E)) (rP:Option Expr->Option E) (rI:Expr->Option It) (rIf:Tr->List Expr->Option (List E)):Expr->Option E
 | .Name x _=>if jH T.sc x=true/\(x == ("__debug__" : Str))=false then (T.cst.lookup x).bind λi=>some (.cI i) else (trV T x).bind λi=>some (.var i)
 | .Constant (.int i) _ _=>some (.cI i)
 | .Constant (.bool b) _ _=>some (.cB b)
 | .Constant .none _ _=>some .cN
 | .Constant (.str x) _ _=>some (.cS x)
 | .BinOp a o b _=>(trO o).bind λo'=>(rE T a).bind λa'=>(rE T b).bind λb'=>some (.op o' a' b')
 | .UnaryOp .USub a _=>(rE T a).bind λa'=>some (.neg a')
 | .UnaryOp .Not a _=>(rE T a).bind λa'=>some (.not a')
 | .Compare a [o] [b] _=>
   match o,b with
   | .Is,.Constant .none _ _=>(rE T a).bind λa'=>some (.isN false a')
   | .IsNot,.Constant .none _ _=>(rE T a).bind λa'=>some (.isN true a')
   | o,b=>(trC o).bind λo'=>(rE T a).bind λa'=>(rE T b).bind λb'=>some (.cmp o' a' b')
 | .Compare a [o,p] [b,c] _=>(trC o).bind λo'=>(trC p).bind λp'=>(rE T a).bind λa'=>(rE T b).bind λb'=>(rE T c).bind λc'=>some (.chain o' p' a' b' c')
 | .BoolOp _ [a] _=>rE T a
 | .BoolOp .And (a :: b :: r) pos=>(rE T a).bind λa'=>(rE T (.BoolOp .And (b :: r) pos)).bind λb'=>some (.and a' b')
 | .BoolOp .Or (a :: b :: r) pos=>(rE T a).bind λa'=>(rE T (.BoolOp .Or (b :: r) pos)).bind λb'=>some (.or a' b')
 | .IfExp c a b _=>(rE T c).bind λc'=>(rE T a).bind λa'=>(rE T b).bind λb'=>some (.ite c' a' b')
 | .Tuple es _ _=>(rEs es).bind λes'=>some (.tup es')
 | .List es _=>(rEs es).bind λes'=>some (.lst es')
 | .Subscript a (.Slice lo hi none _) _=>(rE T a).bind λa'=>(rP lo).bind λl'=>(rP hi).bind λh'=>some (.sl a' l' h')
 | .Subscript _ (.Slice _ _ (some _) _) _=>none
 | .Subscript a i _=>(rE T a).bind λa'=>(rE T i).bind λi'=>some (.ix a' i')
 | .Call (.Name x _) (e :: es) [] _=>
   if jH T.sc x=true/\(x == ("__debug__" : Str))=false then
     match slot T.F x with
     | some k=>(rEs (e :: es)).bind λes'=>some (.call k es')
     | none=>
       if x = "isinstance" then
         match es with
         | [.Name t _]=>if jH T.sc t=true then (trT t).bind λty=>(rE T e).bind λa'=>some (.isi a' ty) else none
         | _=>none
       else (trB x).bind λb=>(rEs (e :: es)).bind λes'=>some (.bi b es')
   else none
 | .ListComp elt [⟨tg,iter,ifs,asy⟩] scope _=>
   if asy=0/\xT T scope=true then
     (kO (oz T scope) tg).bind λt=>(rI iter).bind λit=>(rIf (oz T scope) ifs).bind λfs=>(rE (oz T scope) elt).bind λe=>
       if ua tg it=true then some (.comp (fN T scope) t it fs e) else none
   else none
 | _=>none
mutual
noncomputable def trE (T:Tr):Nat->Expr->Option E
 | 0,_=>none
 | n + 1,e=>stE T (λT' e'=>trE T' n e') (λes=>iu T n es) (λo=>trP T n o) (λi=>trI T n i) (λT' es=>ub T' n es) e
noncomputable def iu (T:Tr):Nat->List Expr->Option (List E)
 | 0,_=>none
 | _ + 1,[]=>some []
 | n + 1,e :: es=>(trE T n e).bind λe'=>(iu T n es).bind λes'=>some (e' :: es')
noncomputable def trP (T:Tr):Nat->Option Expr->Option E
 | _,none=>some .cN
 | 0,some _=>none
 | n + 1,some e=>(trE T n e).bind λe'=>match e' with | .cN=>none | e'=>some e'
noncomputable def ub (T:Tr):Nat->List Expr->Option (List E)
 | _,[]=>some []
 | 0,_ :: _=>none
 | n + 1,[c]=>(trE T n c).bind λc'=>some [c']
 | _ + 1,_ :: _ :: _=>none
noncomputable def trI (T:Tr):Nat->Expr->Option It
 | 0,_=>none
 | n + 1,.Call (.Name x p) (a :: r) [] pos=>
   if x = "range" /\ jH T.sc x=true/\slot T.F x=none then
     match r with
     | []=>(trE T n a).bind λe=>some (.rng e)
     | [b]=>(trE T n a).bind λe=>(trE T n b).bind λe2=>some (.rng2 e e2)
     | _=>none
   else if x = "enumerate" /\ jH T.sc x=true/\slot T.F x=none then
     match r with
     | []=>(trE T n a).bind λe=>some (.enu e)
     | _=>none
   else if x = "zip" /\ jH T.sc x=true/\slot T.F x=none then
     match r with
     | [b]=>(trE T n a).bind λe=>(trE T n b).bind λe2=>some (.zip e e2)
     | _=>none
   else (trE T n (.Call (.Name x p) (a :: r) [] pos)).bind λe=>some (.seq e)
 | n + 1,it=>(trE T n it).bind λe=>some (.seq e)
end
theorem bL {T:Tr} {n:Nat} {e:Expr} {e':E} (h:trE T n e=some e') (es:List Expr) (env:PySem.Env):starEach (e :: es) env=(false,eval e env) :: starEach es env:=by
 cases n with
 | zero=>rw [trE] at h; cases h
 | succ n=>
   cases e with
   | Starred v p=>exact bj (show (none:Option E)=some _ from h)
   | _=>rfl
theorem oQ {T:Tr}:∀ {n:Nat} {es:List Expr} {es':List E},iu T n es=some es'->∀ (env:PySem.Env) (pos:Pos),(backTo pos (starEach es env)).any (·.1)=false
 | 0,_,_,h,_,_=>by rw [iu] at h; cases h
 | _ + 1,[],_,_,_,_=>rfl
 | n + 1,e :: es,_,h,env,pos=>by
   simp only [iu,Option.bind_eq_some_iff] at h
   obtain ⟨e',h1,es',h2,_⟩:=h
   rw [bL h1]
   have q:=oQ h2 env pos
   unfold backTo at q ⊢
   rw [List.map_cons,List.any_cons]
   exact q
theorem jG {T:Tr} {n:Nat} {e:Expr} {es:List Expr} {es':List E} (h:iu T n (e :: es)=some es') (env:PySem.Env):starEach (e :: es) env=(false,eval e env) :: starEach es env:=by
 cases n with
 | zero=>rw [iu] at h; cases h
 | succ n=>
   simp only [iu,Option.bind_eq_some_iff,Option.some.injEq] at h
   obtain ⟨z1,z2,_⟩:=h
   exact bL z2 es env
theorem jo {T:Tr} {n:Nat} {e:Expr} {es:List Expr} {es':List E} (h:iu T n (e :: es)=some es') (env:PySem.Env) (pos:Pos):(backTo pos (starEach es env)).any (·.1)=false:=by
 cases n with
 | zero=>rw [iu] at h; cases h
 | succ n=>
   simp only [iu,Option.bind_eq_some_iff,Option.some.injEq] at h
   obtain ⟨z1,z2,z3,z4,_⟩:=h
   exact oQ z4 env pos
theorem G8 {T:Tr} {n:Nat} {e:Expr} {e':E} (h:trE T n e=some e') (env:PySem.Env) (x:Value):foldedSetIterable e env x=pure x:=by
 cases n with
 | zero=>rw [trE] at h; cases h
 | succ n=>
   cases e with
   | Set a b c=>exact bj (show (none:Option E)=some _ from h)
   | _=>rfl
structure Cal (P:Program) (w:World) (K:PySem.W.Frag) (mg:Str->Option Value) (base:Heap) (CX:CXT) (cl:Nat->Addr) (k:Nat) (x:Str) (F:List U->Sto->Rs U):Prop where
 ex:∃ (f:Addr) (fd:FuncData) (ps:List Str) (G:List U->Sto->Rs U),
   i9 P w K mg base CX k f fd ps (spU ⟨K,cl⟩ G)/\mg x=some (.ref f)/\PySem.W.keepIn K (.ref f)=true/\∀ n:Nat,∃ (dvs:List V) (dus:List Value) (dds:List U),Binds K fd ps dus/\Vals dvs dus/\(∀ m H,aj ⟨K,cl⟩ m H dvs dds)/\∀ ds st,ds.length=n->F ds st=G (ds++dds) st
structure Bg (X:Cx) (T:Tr) (Φ:Fn) (cl:Nat->Addr) (CX:CXT) (Ex:Nat->Hp->Prop) (k:Nat):Prop where
 sc:X.env.scope=T.sc
 nm:X.N=T.N
 nd:T.N.Nodup
 calm:X.calm=true
 room:gX k X.A
 blt:∀ x ∈ aL,X.mg x=none
 cal:∀ i x,T.F[i]?=some x->Cal X.prog X.w X.K X.mg X.base CX cl k x (Φ i)
 fn:∀ (i:Nat) (x:Str),T.N[i]?=some x->i ∉ T.cap->T.sc.names.lookup x=some .cell->X.fn x=true
 cst:∀ x i,T.cst.lookup x=some i->∃ t,X.mg x=some (.int i t)
 cxn:∀ outer H s E e s',(∀ C a H',¬ E C a H')->¬ CX outer H s E e s'
 pas:Passes CX X (xk (zt X cl) Ex)
section
variable {X:Cx} {T:Tr} {Φ:Fn} {cl:Nat->Addr} {CX:CXT} {Ex:Nat->Hp->Prop} {k:Nat}
theorem PE.wk {e:Expr} {t t':TE} (h:PE X e t) (f:∀ σ H Q,t' σ H Q->t σ H Q):PE X e t':=λpins s σ H Q I q=>h pins s σ H Q I (f σ H Q q)
theorem PT.wk {e:Expr} {t t':TT} (h:PT X e t) (f:∀ σ H Q,t' σ H Q->t σ H Q):PT X e t':=λpins s σ H Q I q=>h pins s σ H Q I (f σ H Q q)
theorem PW.wk {e:Expr} {t t':TT} (h:PW X e t) (f:∀ σ H Q,t' σ H Q->t σ H Q):PW X e t':=λwh pins s σ H Q I q=>h wh pins s σ H Q I (f σ H Q q)
theorem PA.wk {e:List Expr} {t t':TA} (h:PA X e t) (f:∀ σ H Q,t' σ H Q->t σ H Q):PA X e t':=λp pins s σ H Q I q=>h p pins s σ H Q I (f σ H Q q)
theorem PO.wk {e:Option Expr} {t t':TO} (h:PO X e t) (f:∀ σ H Q,t' σ H Q->t σ H Q):PO X e t':=λpins s σ H Q I q=>h pins s σ H Q I (f σ H Q q)
theorem PI.wk {tg e:Expr} {t t':TI} (h:PI X tg e t) (f:∀ σ H Q,t' σ H Q->t σ H Q):PI X tg e t':=λpins s σ H Q I q=>h pins s σ H Q I (f σ H Q q)
theorem PG.wk {e:Expr} {t t':TG} (h:PG X e t) (f:∀ v σ H Q,t' v σ H Q->t v σ H Q):PG X e t':=λpins s σ H v u Q I r q=>h pins s σ H v u Q I r (f v σ H Q q)
theorem PGs.wk {e:List Expr} {t t':TGs} (h:PGs X e t) (f:∀ v σ H Q,t' v σ H Q->t v σ H Q):PGs X e t':=λpins s σ H v u Q I r q=>h pins s σ H v u Q I r (f v σ H Q q)
theorem Hs {tg it:Expr} {w1 w2:TI} (h1:PI X tg it w1) (h2:PI X tg it w2):PI X tg it (λσ H R=>w1 σ H R\/w2 σ H R):=by
 intro pins s σ H R I h
 rcases h with h | h
 · exact h1 pins s σ H R I h
 · exact h2 pins s σ H R I h
theorem Bg.gl (B:Bg X T Φ cl CX Ex k) {x:Str} (h:jH T.sc x=true):Gl X x:=by
 show X.env.scope.names.lookup x=_
 rw [B.sc]; exact kM h
theorem Bg.vis (B:Bg X T Φ cl CX Ex k) {x:Str} {i:Nat} (h:trV T x=some i):X.N[i]?=some x/\(X.env.scope.names.lookup x=some .local\/X.env.scope.names.lookup x=some .cell)/\(x == ("__debug__" : Str))=false/\(x == ("__classdict__" : Str))=false:=by
 unfold trV at h
 split at h
 · rename_i c
   exact ⟨by rw [B.nm]; exact slot_get h,by rw [B.sc]; exact iX c.1,c.2.1,c.2.2⟩
 · cases h
theorem Bg.sto (B:Bg X T Φ cl CX Ex k) {x:Str} {i:Nat} (h:trV T x=some i) (hc:i ∉ T.cap):X.fn x=true\/X.env.scope.names.lookup x=some .local:=by
 have hv:=(B.vis h).2.1
 rcases hv with z | z
 · exact .inr z
 · refine .inl (B.fn i x ?_ hc (by rw [<- B.sc]; exact z))
   unfold trV at h
   split at h
   · exact slot_get h
   · cases h
theorem xp (B:Bg X T Φ cl CX Ex k):∀ {es:List Expr} {is:List Nat},dh T es=some is->PGs X es (λvs σ H Q=>∃ m st ρ ds ρ',R (zt X cl) m st H/\bB (zt X cl) m H σ ρ/\aj (zt X cl) m H vs ds/\ka is ds ρ=some ρ'/\∀ σ',bB (zt X cl) m H σ' ρ'->Q σ' H) /\
   (assignEach es X.env).length=is.length/\(assignEach es X.env).findIdx? (·.1)=none
 | [],is,h=>by
   cases h
   refine ⟨PGs.wk EA ?_,rfl,rfl⟩
   rintro vs σ H Q ⟨m,st,ρ,ds,ρ',r,en,dn,e,q⟩
   cases dn with
   | nil=>cases e; exact ⟨rfl,q _ en⟩
   | cons _ _=>cases e
 | .Name x p :: es,is,h=>by
   simp only [dh,Option.bind_eq_some_iff] at h
   obtain ⟨i,h1,h2⟩:=h
   split at h2
   · cases h2
   · rename_i na
     simp only [Option.bind_eq_some_iff,Option.some.injEq] at h2
     obtain ⟨is',h3,rfl⟩:=h2
     obtain ⟨v1,v2,v3,v4⟩:=B.vis h1
     have nd:X.N.Nodup:=by rw [B.nm]; exact B.nd
     obtain ⟨ih,il,ix⟩:=xp B h3
     refine ⟨PGs.wk (Ba (kP nd v1 v2 (B.sto h1 na)) ih rfl) ?_,?_,?_⟩
     · rintro vs σ H Q ⟨m,st,ρ,ds,ρ',r,en,dn,e,q⟩
       cases dn with
       | nil=>cases e
       | cons d1 dr=>
         rw [ka] at e
         exact ⟨_,_,rfl,m,st,_,_,ρ',r,en.set d1,dr,e,q⟩
     · show (assignEach es X.env).length + 1=_
       rw [il]; rfl
     · show List.findIdx? _ ((false,_) :: assignEach es X.env)=none
       rw [List.findIdx?_cons,ix]; rfl
 | .BoolOp _ _ _ :: _,_,h=>by simp [dh] at h
 | .NamedExpr _ _ _ :: _,_,h=>by simp [dh] at h
 | .BinOp _ _ _ _ :: _,_,h=>by simp [dh] at h
 | .UnaryOp _ _ _ :: _,_,h=>by simp [dh] at h
 | .Lambda _ _ _ _ :: _,_,h=>by simp [dh] at h
 | .IfExp _ _ _ _ :: _,_,h=>by simp [dh] at h
 | .Dict _ _ _ :: _,_,h=>by simp [dh] at h
 | .Set _ _ _ :: _,_,h=>by simp [dh] at h
 | .ListComp _ _ _ _ :: _,_,h=>by simp [dh] at h
 | .SetComp _ _ _ _ :: _,_,h=>by simp [dh] at h
 | .DictComp _ _ _ _ _ :: _,_,h=>by simp [dh] at h
 | .GeneratorExp _ _ _ _ :: _,_,h=>by simp [dh] at h
 | .Await _ _ :: _,_,h=>by simp [dh] at h
 | .Yield _ _ :: _,_,h=>by simp [dh] at h
 | .YieldFrom _ _ :: _,_,h=>by simp [dh] at h
 | .Compare _ _ _ _ :: _,_,h=>by simp [dh] at h
 | .Call _ _ _ _ :: _,_,h=>by simp [dh] at h
 | .FormattedValue _ _ _ _ :: _,_,h=>by simp [dh] at h
 | .JoinedStr _ _ :: _,_,h=>by simp [dh] at h
 | .Constant _ _ _ :: _,_,h=>by simp [dh] at h
 | .Attribute _ _ _ :: _,_,h=>by simp [dh] at h
 | .Subscript _ _ _ :: _,_,h=>by simp [dh] at h
 | .Starred _ _ :: _,_,h=>by simp [dh] at h
 | .List _ _ :: _,_,h=>by simp [dh] at h
 | .Tuple _ _ _ :: _,_,h=>by simp [dh] at h
 | .Slice _ _ _ _ :: _,_,h=>by simp [dh] at h
theorem ux:∀ {is:List Nat} {ds:List U} {ρ ρ':Env},ka is ds ρ=some ρ'->ds.length=is.length
 | [],[],_,_,_=>rfl
 | _ :: _,_ :: _,_,_,h=>by rw [ka] at h; exact congrArg (· + 1) (ux h)
theorem nV (B:Bg X T Φ cl CX Ex k) {tg:Expr} {t:Tg} (h:kO T tg=some t):PG X tg (lG (zt X cl) t):=by
 have nd:X.N.Nodup:=by rw [B.nm]; exact B.nd
 cases tg <;> simp only [kO,Option.bind_eq_some_iff,reduceCtorEq] at h
 case Name x p=>
   obtain ⟨i,h1,h2⟩:=h
   split at h2
   · cases h2
   · rename_i na
     cases h2
     obtain ⟨v1,v2,v3,v4⟩:=B.vis h1
     refine PG.wk (kP nd v1 v2 (B.sto h1 na)) ?_
     rintro v σ H Q ⟨m,st,ρ,d,ρ',r,en,dv,e,q⟩
     rw [fM] at e; cases e
     exact q _ (en.set dv)
 case Tuple es a b=>
   obtain ⟨is,h1,h2⟩:=h
   cases h2
   obtain ⟨g1,g2,g3⟩:=xp B h1
   refine PG.wk (GZ B.calm g1 g2 g3) ?_
   rintro v σ H Q ⟨m,st,ρ,d,ρ',r,en,dv,e,q⟩
   cases dv with
   | tup h1 r1=>
     rw [fM] at e
     exact ⟨_,_,rfl,h1,by rw [r1.length,ux e],m,st,ρ,_,ρ',r,en,r1,e,q⟩
   | _=>cases e
theorem Dl {Z:Zt} {m0:List Addr} {H0:Hp} {a:Addr} {l:Nat} (h:m0[l]?=some a):Yl Z (Itl Z.K a) (.lst l) m0 H0:=by
 intro m st H g r i
 obtain ⟨fz,ds,vs,e,ly,dn⟩:=r.loc (jz g.pre h)
 simp only [Sq.at,e,Option.map_some]
 have hl:=dn.length
 cases hx:ds[i]? with
 | none=>exact ⟨vs,ly.sq,by have:=List.getElem?_eq_none_iff.mp hx; omega⟩
 | some x=>
   obtain ⟨v,hv,dv⟩:=dn.get hx
   refine ⟨⟨vs,v,ly.sq,hv⟩,λy H' ⟨e1,e2⟩=>?_⟩
   subst e1
   have ex:y=v:=by have:=e2 vs ly.sq; rw [hv] at this; exact (Option.some.inj this).symm
   subst ex
   exact ⟨Go.refl m _,r,dv⟩
theorem GA {Z:Zt} {m0:List Addr} {H0:Hp} {a:Addr} {vs:List V} {xs:List U} (h:SqT Z.K H0 a vs) (d:aj Z m0 H0 vs xs):Yl Z (Itt Z.K a) (.vals xs) m0 H0:=by
 intro m st H g r i
 have h':=goT g h
 have d':=d.mono g
 have hl:=d'.length
 simp only [Sq.at]
 cases hx:xs[i]? with
 | none=>exact ⟨vs,h',by have:=List.getElem?_eq_none_iff.mp hx; omega⟩
 | some x=>
   obtain ⟨v,hv,dv⟩:=d'.get hx
   refine ⟨⟨vs,v,h',hv⟩,λy H' ⟨e1,e2⟩=>?_⟩
   subst e1
   have ex:y=v:=by have:=e2 vs h'; rw [hv] at this; exact (Option.some.inj this).symm
   subst ex
   exact ⟨Go.refl m _,r,dv⟩
theorem HY {Z:Zt} {m0:List Addr} {H0:Hp} {a:Addr} {vs:List V} {xs:List U} (h:SqF Z.K H0 a vs) (d:aj Z m0 H0 vs xs):Yl Z (Itl Z.K a) (.vals xs) m0 H0:=by
 intro m st H g r i
 have h':=(goF g h).sq
 have d':=d.mono g
 have hl:=d'.length
 simp only [Sq.at]
 cases hx:xs[i]? with
 | none=>exact ⟨vs,h',by have:=List.getElem?_eq_none_iff.mp hx; omega⟩
 | some x=>
   obtain ⟨v,hv,dv⟩:=d'.get hx
   refine ⟨⟨vs,v,h',hv⟩,λy H' ⟨e1,e2⟩=>?_⟩
   subst e1
   have ex:y=v:=by have:=e2 vs h'; rw [hv] at this; exact (Option.some.inj this).symm
   subst ex
   exact ⟨Go.refl m _,r,dv⟩
theorem tJ:∀ (xs:List U) (k i:Nat),(tW k xs)[i]?=(xs[i]?).map λx=>.tup [.int ((k + i:Nat):Int),x]
 | [],_,_=>by simp [tW]
 | x :: xs,k,0=>by simp [tW]
 | x :: xs,k,i + 1=>by
   simp only [tW,List.getElem?_cons_succ]
   rw [tJ xs (k + 1) i,show k + 1 + i=k + (i + 1) by omega]
theorem He {Z:Zt} {m0:List Addr} {H0:Hp} {a:Addr} {vs:List V} {xs:List U} (h:SqF Z.K H0 a vs) (d:aj Z m0 H0 vs xs):Yl Z (Ite Z.K a) (.vals (tW 0 xs)) m0 H0:=by
 intro m st H g r i
 have h':=(goF g h).sq
 have d':=d.mono g
 have hl:=d'.length
 simp only [Sq.at]
 rw [tJ,Nat.zero_add]
 cases hx:xs[i]? with
 | none=>exact ⟨vs,h',by have:=List.getElem?_eq_none_iff.mp hx; omega⟩
 | some x=>
   obtain ⟨v,hv,dv⟩:=d'.get hx
   refine ⟨⟨vs,v,h',hv⟩,λy H' ⟨p,x',hp,e0,e1,e2⟩=>?_⟩
   subst e0 e1
   have ex:x'=v:=by have:=e2 vs h'; rw [hv] at this; exact (Option.some.inj this).symm
   subst ex
   have g':=Go.new r (o:=.tup [.int (i:Nat),x']) hp
   exact ⟨g',r.upd hp,.tup (.inl (.inl aW)) (.cons .int (.cons (dv.mono g') .nil))⟩
theorem vQ (lo:Int) (n i:Nat):(j7 lo n)[i]?=if i < n then some (.int (lo + (i:Nat))) else none:=by
 simp only [j7,List.getElem?_map,List.getElem?_range]
 split <;> simp_all
theorem Ak {Z:Zt} {m0:List Addr} {H0:Hp} (lo:Int) (n:Nat):Yl Z (Itr lo n) (.vals (j7 lo n)) m0 H0:=by
 intro m st H g r i
 simp only [Sq.at,vQ]
 by_cases hi:i < n
 · rw [if_pos hi]
   refine ⟨hi,λy H' ⟨e1,e2⟩=>?_⟩
   subst e1 e2
   exact ⟨Go.refl m _,r,.int⟩
 · rw [if_neg hi]
   show n<=i
   omega
theorem Gj {Z:Zt} {m0:List Addr} {H0:Hp} {a:Addr} {l:Nat} (h:m0[l]?=some a):Yl Z (Ite Z.K a) (.enu l) m0 H0:=by
 intro m st H g r i
 obtain ⟨fz,ds,vs,e,ly,dn⟩:=r.loc (jz g.pre h)
 simp only [Sq.at,e,Option.map_some]
 have hl:=dn.length
 cases hx:ds[i]? with
 | none=>exact ⟨vs,ly.sq,by have:=List.getElem?_eq_none_iff.mp hx; omega⟩
 | some x=>
   obtain ⟨v,hv,dv⟩:=dn.get hx
   refine ⟨⟨vs,v,ly.sq,hv⟩,λy H' ⟨p,x',hp,e0,e1,e2⟩=>?_⟩
   subst e0 e1
   have ex:x'=v:=by have:=e2 vs ly.sq; rw [hv] at this; exact (Option.some.inj this).symm
   subst ex
   have g':=Go.new r (o:=.tup [.int (i:Nat),x']) hp
   exact ⟨g',r.upd hp,.tup (.inl (.inl aW)) (.cons .int (.cons (dv.mono g') .nil))⟩
noncomputable def GN (Z:Zt) (a:Addr) (p:Sq) (m0:List Addr) (H0:Hp):Prop:=∀ m st H,Go m0 H0 m H->R Z m st H->∀ i,match p.at st i with
 | none=>True
 | some none=>∃ vs,SqL Z.K H a vs/\vs.length<=i
 | some (some x)=>∃ vs v,SqL Z.K H a vs/\vs[i]?=some v/\aT Z m H v x
theorem xc {Z:Zt} {m0:List Addr} {st0:Sto} {H0:Hp} {v:V} {x:U} {p:Sq} (r0:R Z m0 st0 H0) (d:aT Z m0 H0 v x) (e:src st0 x=some p):∃ a,v=.ref a/\(∃ xs,SqL Z.K H0 a xs)/\GN Z a p m0 H0:=by
 cases d with
 | loc hl=>
   simp only [src] at e
   split at e
   · cases e
     obtain ⟨_,_,vs0,_,ly0,_⟩:=r0.loc hl
     refine ⟨_,rfl,⟨vs0,ly0.sq⟩,?_⟩
     intro m st H g r i
     obtain ⟨fz,ds,vs,e,ly,dn⟩:=r.loc (jz g.pre hl)
     simp only [Sq.at,e,Option.map_some]
     have hl:=dn.length
     cases hx:ds[i]? with
     | none=>exact ⟨vs,ly.sq,by have:=List.getElem?_eq_none_iff.mp hx; omega⟩
     | some x=>
       obtain ⟨v,hv,dv⟩:=dn.get hx
       exact ⟨vs,v,ly.sq,hv,dv⟩
   · cases e
 | kl h1 d1=>
   cases e
   refine ⟨_,rfl,⟨_,h1.sq⟩,?_⟩
   intro m st H g r i
   have h':=(goF g h1).sq
   have d':=d1.mono g
   have hl:=d'.length
   simp only [Sq.at]
   split
   · trivial
   · rename_i hx
     exact ⟨_,h',by have:=List.getElem?_eq_none_iff.mp (Option.some.inj hx); omega⟩
   · rename_i x hx
     obtain ⟨v,hv,dv⟩:=d'.get (Option.some.inj hx)
     exact ⟨_,v,h',hv,dv⟩
 | _=>cases e
theorem GD {Z:Zt} {m0:List Addr} {H0:Hp} {a b:Addr} {p q:Sq} (sa:GN Z a p m0 H0) (sb:GN Z b q m0 H0):Yl Z (Ev.Itz Z.K a b) (.zip p q) m0 H0:=by
 intro m st H g r i
 have ha:=sa m st H g r i
 have hb:=sb m st H g r i
 simp only [Sq.at]
 cases ep:p.at st i with
 | none=>trivial
 | some o=>
   cases eq:q.at st i with
   | none=>trivial
   | some o'=>
     rw [ep] at ha
     rw [eq] at hb
     cases o with
     | none=>
       obtain ⟨vs,h1,h2⟩:=ha
       cases o' with
       | none=>obtain ⟨ws,h3,_⟩:=hb; exact ⟨vs,ws,h1,h3,.inl h2⟩
       | some y=>obtain ⟨ws,w,h3,_⟩:=hb; exact ⟨vs,ws,h1,h3,.inl h2⟩
     | some x=>
       obtain ⟨vs,v,h1,h2,dv⟩:=ha
       cases o' with
       | none=>obtain ⟨ws,h3,h4⟩:=hb; exact ⟨vs,ws,h1,h3,.inr h4⟩
       | some y=>
         obtain ⟨ws,w,h3,h4,dw⟩:=hb
         refine ⟨⟨vs,ws,v,w,h1,h3,h2,h4⟩,λu H' ⟨p',x',y',hp,e0,e1,e2,e3⟩=>?_⟩
         subst e0 e1
         have ex:x'=v:=by have:=e2 vs h1; rw [h2] at this; exact (Option.some.inj this).symm
         have ey:y'=w:=by have:=e3 ws h3; rw [h4] at this; exact (Option.some.inj this).symm
         subst ex ey
         have g':=Go.new r (o:=.tup [x',y']) hp
         exact ⟨g',r.upd hp,.tup (.inl (.inl aW)) (.cons (dv.mono g') (.cons (dw.mono g') .nil))⟩
end
end Sv
namespace Sv
open PySem PySem.Spec PyProof.Rows L2
open Ev (D aA aK ae jd iW dj slot slot_get gA jH iX kM iN eu iS aH lx kR PTs kH mq B6 Ite bZ)
section
variable {X:Cx} {T:Tr} {Φ:Fn} {cl:Nat->Addr} {CX:CXT} {Ex:Nat->Hp->Prop} {k:Nat}
theorem tD {a b:Bool} (h:(a && b)=true):a=true/\b=true:=by rw [Bool.and_eq_true] at h; exact h
theorem DK {T:Tr} {scope:Scope} {j i:Nat} (h:(fN T scope)[j]?=some (some i)):∃ x,(iS scope)[j]?=some x/\T.N[i]?=some x/\(x,NameKind.free) ∈ scope.names:=by
 unfold fN at h
 rw [List.getElem?_map] at h
 cases e:(iS scope)[j]? with
 | none=>rw [e] at h; cases h
 | some x=>
   rw [e] at h
   have h':(if (x,NameKind.free) ∈ scope.names then slot T.N x else none)=some i:=Option.some.inj h
   split at h'
   · rename_i hm
     exact ⟨x,rfl,slot_get h',hm⟩
   · cases h'
structure Bf (T:Tr) (scope:Scope):Prop where
 slt:∀ x,(x,NameKind.free) ∈ scope.names->(slot T.N x).isSome=true
 kind:scope.kind=.function
 tk:T.sc.kind=.function
 loc:∀ x ∈ scope.names,x.2=.local->scope.names.lookup x.1=some .local
 fre:∀ x ∈ scope.names,x.2=.free->T.sc.names.lookup x.1=some .cell
 one:∀ x,(x,NameKind.free) ∈ scope.names->(x,NameKind.cell) ∉ scope.names
 nob:∀ x,(x,NameKind.free) ∈ scope.names->(x,NameKind.local) ∉ scope.names
 nd:(iS scope++[("#" : Str)]).Nodup
 vis:¬ Vis (iN scope T.sc) ("#" : Str)
theorem ue {T:Tr} {scope:Scope} (h:xT T scope=true):Bf T scope:=by
 unfold xT at h
 obtain ⟨h,h9⟩:=tD h
 obtain ⟨h,h8⟩:=tD h
 obtain ⟨h,h6⟩:=tD h
 obtain ⟨h,h5⟩:=tD h
 obtain ⟨h,h4⟩:=tD h
 obtain ⟨h,h3⟩:=tD h
 obtain ⟨h,h2⟩:=tD h
 obtain ⟨h0,h1⟩:=tD h
 rw [List.all_eq_true] at h0 h3 h4 h5
 refine ⟨λx hx=>by simpa using h0 _ hx,eq_of_beq h1,eq_of_beq h2,λx hx hk=>?_,λx hx hk=>?_,λx hx hm=>?_,λx hx hm=>?_,of_decide_eq_true h6,λhv=>?_⟩
 · have:=h3 x hx
   rw [hk] at this
   simpa using this
 · have:=h4 x hx
   rw [hk] at this
   simpa using this
 · have:=h5 _ hx
   simp [hm] at this
 · have:=h5 _ hx
   simp [hm] at this
 · rcases hv with hv | hv | hv
   · unfold gA at h8; rw [hv] at h8; simp at h8
   · unfold gA at h8; rw [hv] at h8; simp at h8
   · rw [hv] at h9; simp at h9
theorem Ct (B:Bg X T Φ cl CX Ex k) {scope:Scope} (b:Bf T scope):kR X scope (oz T scope).N (fN T scope) where
 kind:=b.kind
 loc:=b.loc
 fre:=λx hx hk=>by
   show X.env.scope.names.lookup x.1=_
   rw [B.sc]; exact b.fre x hx hk
 one:=b.one
 noboth:=b.nob
 len:=by
   show (iS scope++[("#" : Str)]).length=_
   unfold fN
   rw [List.length_append,List.length_map]; rfl
 cap:=λj i h=>by
   obtain ⟨x,h1,h2,h3⟩:=DK h
   refine ⟨x,?_,by rw [B.nm]; exact h2,h3⟩
   show (iS scope++[("#" : Str)])[j]?=some x
   rw [List.getElem?_append_left (List.getElem?_eq_some_iff.mp h1).1]; exact h1
 acc:=by
   refine ⟨("#" : Str),?_,by rw [eu B.sc]; exact b.vis⟩
   show (iS scope++[("#" : Str)])[(fN T scope).length]?=_
   unfold fN
   rw [List.length_map,List.getElem?_append_right (Nat.le_refl _),Nat.sub_self]
   rfl
theorem Ha {X':Cx} {Z:Zt} (h:∀ outer H s E e s',(∀ C a H',¬ E C a H')->¬ CX outer H s E e s'):Passes CX X' (xk Z λ_ _=>False):=λ_ _ _ _ _ _ _ q=>absurd q (h _ _ _ _ _ _ λ_ _ _ ⟨_,_,z⟩=>z)
theorem A5 (B:Bg X T Φ cl CX Ex k) {scope:Scope} (b:Bf T scope) (s:Shared) (H:Hp) (fp:List Addr):Bg (aH X s H scope (oz T scope).N fp) (oz T scope) Φ cl CX (λ_ _=>False) k where
 sc:=eu B.sc
 nm:=rfl
 nd:=b.nd
 calm:=B.calm
 room:=B.room
 blt:=B.blt
 cal:=B.cal
 cst:=B.cst
 cxn:=B.cxn
 pas:=Ha B.cxn
 fn:=λi x hx hc hl=>by
   show decide _=true
   refine decide_eq_true ?_
   have hfk:∀ y,(y,NameKind.free) ∈ scope.names->X.env.kindOf y=some .cell:=λy hy=>by
     show X.env.scope.names.lookup y=_
     rw [B.sc]; exact b.fre _ hy rfl
   have hl':(relabel scope X.env).names.lookup x=some .cell:=by rw [eu B.sc]; exact hl
   rcases bZ hfk (by rw [B.sc]; exact b.tk) hl' with q | q
   · exact q
   · exfalso
     have hx':(iS scope++[("#" : Str)])[i]?=some x:=hx
     have il:i < (iS scope).length:=by
       rcases Nat.lt_or_ge i (iS scope).length with z | z
       · exact z
       · exfalso
         have e0:i=(iS scope).length:=by
           have:=(List.getElem?_eq_some_iff.mp hx').1
           rw [List.length_append,List.length_singleton] at this
           omega
         rw [e0,List.getElem?_append_right (Nat.le_refl _),Nat.sub_self] at hx'
         have ex:x=("#" : Str):=(Option.some.inj hx').symm
         rw [ex] at hl
         exact b.vis (.inr (.inl hl))
     rw [List.getElem?_append_left il] at hx'
     cases hs:slot T.N x with
     | none=>
       have:=b.slt x q.1
       rw [hs] at this; cases this
     | some j=>
       have hc':(fN T scope)[i]?=some (some j):=by
         unfold fN
         rw [List.getElem?_map,hx']
         show some (if (x,NameKind.free) ∈ scope.names then slot T.N x else none)=_
         rw [if_pos q.1,hs]
       apply hc
       show i ∈ (List.range (fN T scope).length).filter _
       rw [List.mem_filter,List.mem_range]
       refine ⟨by unfold fN; rw [List.length_map]; exact il,?_⟩
       rw [List.getD_eq_getElem?_getD,hc']
       rfl
theorem ud {ρ:Env} {caps:List (Option Nat)} {j:Nat} {d:U} (h:(jL ρ caps++[none])[j]?=some (some d)):∃ i,j < caps.length/\caps[j]?=some (some i)/\ρ[i]?=some (some d):=by
 have cl:(jL ρ caps).length=caps.length:=by unfold jL; rw [List.length_map]
 rcases Nat.lt_or_ge j caps.length with z | z
 · rw [List.getElem?_append_left (by rw [cl]; exact z)] at h
   unfold jL at h
   rw [List.getElem?_map] at h
   cases e:caps[j]? with
   | none=>rw [e] at h; cases h
   | some o=>
     rw [e] at h
     have h':(o.bind λi=>(ρ[i]?).join)=some d:=Option.some.inj h
     cases o with
     | none=>cases h'
     | some i=>
       refine ⟨i,z,rfl,?_⟩
       have h2:(ρ[i]?).join=some d:=h'
       cases q:ρ[i]? with
       | none=>rw [q] at h2; cases h2
       | some y=>rw [q] at h2; exact congrArg some h2
 · rw [List.getElem?_append_right (by rw [cl]; exact z)] at h
   have:=List.mem_of_getElem? h
   simp at this
theorem zh {Z:Zt} {m:List Addr} {H:Hp} {σ:L2.St} {ρ:Env} {caps:List (Option Nat)} {D0:Addr} (en:bB Z m H σ ρ):bB Z m H (lx σ caps++[some (.ref D0)]) (jL ρ caps++[none]):=by
 refine ⟨by unfold lx jL; simp,λj d h=>?_⟩
 obtain ⟨i,hj,e1,e2⟩:=ud h
 obtain ⟨v,g1,g2⟩:=en.get i d e2
 refine ⟨v,?_,g2⟩
 rw [List.getElem?_append_left (by unfold lx; rw [List.length_map]; exact hj)]
 unfold lx
 rw [List.getElem?_map,e1]
 show some ((σ[i]?).join)=_
 rw [g1]; rfl
theorem qe:∀ {is:List Nat} {ds:List U} {ρ ρ':Env},ka is ds ρ=some ρ'->ρ'.length=ρ.length/\∀ (i:Nat),i ∉ is->ρ'[i]?=ρ[i]?
 | [],[],_,_,h=>by cases h; exact ⟨rfl,λ_ _=>rfl⟩
 | j :: is,x :: xs,ρ,ρ',h=>by
   rw [ka] at h
   obtain ⟨h1,h2⟩:=qe h
   refine ⟨by rw [h1,List.length_set],λi hi=>?_⟩
   rw [h2 i (λz=>hi (List.mem_cons_of_mem _ z)),List.getElem?_set_ne (λz=>hi (by rw [z]; exact List.mem_cons_self))]
noncomputable def tgS:Tg->List Nat
 | .nm i=>[i]
 | .tp is=>is
theorem yT {t:Tg} {d:U} {ρ ρ':Env} (h:fM t d ρ=some ρ'):ρ'.length=ρ.length/\∀ (i:Nat),i ∉ tgS t->ρ'[i]?=ρ[i]?:=by
 cases t with
 | nm j=>
   rw [fM] at h; cases h
   refine ⟨List.length_set,λi hi=>List.getElem?_set_ne (λz=>hi (by subst z; exact List.mem_singleton_self _))⟩
 | tp is=>
   cases d <;> rw [fM] at h <;> first | cases h | exact qe h | (intros; simp_all)
theorem u6 {T:Tr}:∀ {es:List Expr} {is:List Nat},dh T es=some is->∀ i ∈ is,i ∉ T.cap
 | [],_,h=>by cases h; exact λi hi=>absurd hi (by simp)
 | e :: es,is,h=>by
   cases e <;> simp only [dh,Option.bind_eq_some_iff,reduceCtorEq] at h
   obtain ⟨i,h1,h2⟩:=h
   split at h2
   · cases h2
   · rename_i na
     simp only [Option.bind_eq_some_iff,Option.some.injEq] at h2
     obtain ⟨is',h3,rfl⟩:=h2
     intro j hj
     rcases List.mem_cons.mp hj with rfl | hj
     · exact na
     · exact u6 h3 j hj
theorem Hi {T:Tr} {tg:Expr} {t:Tg} (h:kO T tg=some t):∀ i ∈ tgS t,i ∉ T.cap:=by
 cases tg <;> simp only [kO,Option.bind_eq_some_iff,reduceCtorEq] at h
 case Name x p=>
   obtain ⟨i,h1,h2⟩:=h
   split at h2
   · cases h2
   · rename_i na
     cases h2
     intro j hj
     rw [show j=i from List.mem_singleton.mp hj]; exact na
 case Tuple es a b=>
   obtain ⟨is,h1,h2⟩:=h
   cases h2
   exact u6 h1
theorem Du {T:Tr} {scope:Scope} {tg:Expr} {t:Tg} {ρ:Env} (h:kO (oz T scope) tg=some t) {i:Nat} {d:U} (e:(jL ρ (fN T scope)++[none])[i]?=some (some d)):i ∉ tgS t:=λhi=>by
 refine Hi h i hi ?_
 obtain ⟨j,hl,e1,_⟩:=ud e
 show i ∈ (List.range (fN T scope).length).filter _
 rw [List.mem_filter,List.mem_range]
 refine ⟨hl,?_⟩
 rw [List.getD_eq_getElem?_getD,e1]; rfl
theorem Go.mE {m m':List Addr} {H H':Hp} (g:Go m H m' H') {p:Addr} {o:HO} (hp:p ∉ m) (h:H p=some o):p ∉ m':=λz=>by
 obtain ⟨l,hl⟩:=List.getElem?_of_mem z
 rcases Nat.lt_or_ge l m.length with q | q
 · exact hp (List.mem_of_getElem? (vt g.pre q hl))
 · rw [g.fr l p q hl] at h; cases h
theorem Go.side {m m':List Addr} {H H':Hp} (g:Go m H m' H') {p:Addr} {o:HO} (hp:H p=none):Go m H m' (upd H' p o):=by
 refine ⟨g.pre,λb u e hn=>?_,λb e=>?_,g.fr⟩
 · rw [ar (ay e hp)]; exact g.kp b u e hn
 · unfold L2.upd at e
   split at e
   · cases e
   · exact g.tr b e
theorem R.adopt {Z:Zt} {m:List Addr} {st:Sto} {H:Hp} (r:R Z m st H) {p:Addr} {vs:List V} {ds:List U} (hp:p ∉ m) (h:H p=some (.lst vs)) (dn:aj Z m H vs ds) :
   R Z (m++[p]) (st++[(false,ds)]) H/\aT Z (m++[p]) H (.ref p) (.loc st.length):=by
 have up:∀ {vs:List V} {ds:List U},aj Z m H vs ds->aj Z (m++[p]) H vs ds:=λ{vs ds} d=>by
   refine aj.rec (motive_1:=λv d _=>aT Z (m++[p]) H v d) (motive_2:=λws es _=>aj Z (m++[p]) H ws es) .non .bl .int .str (λh _ ih=>.tup h ih) (λh=>.loc (jz (List.prefix_append m [p]) h)) (λh=>.exo h) (λh _ ih=>.kl h ih) .nil (λ_ _ i1 i2=>.cons i1 i2) d
 have hl:(m++[p])[st.length]?=some p:=by rw [<- r.len,List.getElem?_append_right (Nat.le_refl _),Nat.sub_self]; rfl
 refine ⟨⟨by rw [List.length_append,List.length_append,r.len]; rfl,λi j a e1 e2=>?_,λl a fz es e1 e2=>?_⟩,.loc hl⟩
 · have key:∀ (i:Nat) a,(m++[p])[i]?=some a->(m[i]?=some a/\a ≠ p)\/(i=m.length/\a=p):=λi a e=>by
     rcases Nat.lt_or_ge i m.length with q | q
     · rw [List.getElem?_append_left q] at e
       exact .inl ⟨e,λz=>hp (z ▸ List.mem_of_getElem? e)⟩
     · have hi:=(List.getElem?_eq_some_iff.mp e).1
       rw [List.length_append,List.length_singleton] at hi
       rw [List.getElem?_append_right q] at e
       have:=List.mem_of_getElem? e
       rw [List.mem_singleton] at this
       exact .inr ⟨by omega,this⟩
   rcases key i a e1 with ⟨q1,q2⟩ | ⟨q1,q2⟩ <;> rcases key j a e2 with ⟨w1,w2⟩ | ⟨w1,w2⟩
   · exact r.inj i j a q1 w1
   · exact absurd w2 q2
   · exact absurd q2 w2
   · rw [q1,w1]
 · rcases Nat.lt_or_ge l m.length with q | q
   · rw [List.getElem?_append_left q] at e1
     rw [List.getElem?_append_left (by rw [<- r.len]; exact q)] at e2
     obtain ⟨ws,h1,h2⟩:=r.obj l a fz es e1 e2
     exact ⟨ws,h1,up h2⟩
   · have hi:=(List.getElem?_eq_some_iff.mp e1).1
     rw [List.length_append,List.length_singleton] at hi
     obtain rfl:l=m.length:=by omega
     rw [List.getElem?_append_right (Nat.le_refl _),Nat.sub_self] at e1
     rw [r.len,List.getElem?_append_right (Nat.le_refl _),Nat.sub_self] at e2
     cases e1; cases e2
     exact ⟨vs,by unfold Lay; rw [if_neg (by decide)]; exact h,up dn⟩
theorem Go.adopt {m m':List Addr} {H H':Hp} (g:Go m H m' H') {p:Addr} (hp:H p=none):Go m H (m'++[p]) H':=by
 refine ⟨g.pre.trans (List.prefix_append m' [p]),g.kp,g.tr,λl a hl e=>?_⟩
 rcases Nat.lt_or_ge l m'.length with q | q
 · rw [List.getElem?_append_left q] at e; exact g.fr l a hl e
 · rw [List.getElem?_append_right q] at e
   have:=List.mem_of_getElem? e
   rw [List.mem_singleton] at this
   rw [this]; exact hp
structure Snd (X:Cx) (T:Tr) (Φ:Fn) (cl:Nat->Addr) (Ex:Nat->Hp->Prop) (n:Nat):Prop where
 e:∀ pe e,trE T n pe=some e->PE X pe (lE (zt X cl) Φ Ex e)/\PT X pe (lT (zt X cl) Φ Ex e)
 w:∀ op vs pos e,trE T n (.BoolOp op vs pos)=some e->PW X (.BoolOp op vs pos) (lT (zt X cl) Φ Ex e)
 a:∀ es es',iu T n es=some es'->PA X es (lEs (zt X cl) Φ Ex es')
 p:∀ e e',trP T n e=some e'->PO X e (lP (zt X cl) Φ Ex e')
 f:∀ es es',ub T n es=some es'->PTs X es (lIf (zt X cl) Φ Ex es')
 i:∀ tg it it',trI T n it=some it'->ua tg it'=true->PI X tg it (lI (zt X cl) Φ Ex it')/\∀ x,foldedSetIterable it X.env x=pure x
theorem xt {scope:Scope} {tg:Expr} {t:Tg} {it:It} {fs:List E} {e:E} (h1:kO (oz T scope) tg=some t):∀ σ H Q,lE (zt X cl) Φ Ex (.comp (fN T scope) t it fs e) σ H Q ->
   mq (λg tt te=>g=lG (zt X cl) t/\tt=lIf (zt X cl) Φ (λ_ _=>False) fs/\te=lE (zt X cl) Φ (λ_ _=>False) e) (fN T scope) (lI (zt X cl) Φ Ex it) σ H Q:=by
 rintro σ H Q ⟨m,st,ρ,r,en,h⟩
 simp only [xE] at h
 refine ⟨m,st,ρ,r,en,ao (aw h) (λ_ _ z=>z) λq st1 _ hq J m1 H1 g1 r1 yl=>?_⟩
 split at hq
 · rename_i hlx
   have hq:=aw (oP hq)
   refine ⟨_,_,_,⟨rfl,rfl,rfl⟩,λD0 hD=>?_⟩
   have rD:=r1.upd (o:=.lst []) hD
   have gD:=Go.new r1 (o:=.lst []) hD
   generalize hf:(λ(x:U) (st:Sto)=>match fM t x (jL ρ (fN T scope)++[none]) with
       | none=>(Rs.bad:Rs (Option U))
       | some ρ1=>(xIf Φ fs ρ1 st).bind λb st2=>if b=true then (xE Φ e ρ1 st2).bind λy st3=>.ok (some y) st3 else .ok none st2)=f at hq
   refine ⟨λi n σ' H'=>∃ m' st' us vs,R (zt X cl) m' st' H'/\D0 ∉ m'/\Go m1 H1 m' H'/\bB (zt X cl) m' H' σ' (jL ρ (fN T scope)++[none])/\H' D0=some (.lst vs)/\aj (zt X cl) m' H' vs us/\us.length<=i/\i + n=q.len st1 + 1 /\
     post (λ_ _=>False) (λrest st2=>post (λ_ _=>False) (kV (zt X cl) m H Q) (new st2 (us++rest))) (kD f q n i st'),⟨q.len st1 + 1,m1,st1,[],[],rD,r1.out hD,gD,zh (en.mono (g1.trans gD)),aW,.nil,Nat.le_refl _,by omega,hq⟩,?_⟩
   rintro i n σ' H' ⟨m',st',us,vs,r',hDm,g',en',hv,du,hul,hin,hc⟩
   cases n with
   | zero=>exact hc.elim
   | succ n=>
     rw [kD] at hc
     have yi:=yl m' st' H' g' r' i
     split at hc
     · exact hc.elim
     · rename_i hat
       rw [hat] at yi
       refine .inl ⟨yi,?_⟩
       have hc:post (λ_ _=>False) (kV (zt X cl) m H Q) (new st' (us++[])):=hc
       rw [List.append_nil] at hc
       obtain ⟨ra,da⟩:=r'.adopt hDm hv du
       exact hc _ H' _ (g1.trans (g'.adopt hD)) ra da
     · rename_i x hat
       rw [hat] at yi
       refine .inr ⟨yi.1,λv H2 hy=>?_⟩
       obtain ⟨g2,r2,dv⟩:=yi.2 v H2 hy
       have hc:=aw hc
       subst hf
       dsimp only at hc
       split at hc
       · exact hc.elim
       · rename_i ρ1 hset
         have hv2:=g2.kp _ _ hv (.inl hDm)
         refine ⟨m',st',_,x,ρ1,r2,en'.mono g2,dv,hset,λσ2 en2=>?_⟩
         have less:∀ {m3:List Addr} {H3:Hp},bB (zt X cl) m3 H3 σ2 ρ1->bB (zt X cl) m3 H3 σ2 (jL ρ (fN T scope)++[none]):=λz=>by
           obtain ⟨l1,l2⟩:=yT hset
           exact ⟨by rw [z.len,l1],λj d hj=>z.get j d (by rw [l2 j (Du h1 hj)]; exact hj)⟩
         refine ⟨m',st',ρ1,r2,en2,ao (aw hc) (λ_ _ z=>z.elim) λbb st2 _ hb m2 H4 g3 r3=>?_⟩
         have hv4:=g3.kp _ _ hv2 (.inl hDm)
         have hD4:=g3.mE hDm hv2
         cases bb with
         | false=>
           rw [if_neg (by decide)] at hb
           have hb:=aw hb
           refine pq ⟨n,Nat.lt_succ_self n,m2,st2,us,vs,r3,hD4,(g'.trans g2).trans g3,less (en2.mono g3),hv4,du.mono (g2.trans g3),by omega,by omega,?_⟩
           exact ao hb (λ_ _ z=>z) λrest st3 _ z=>z
         | true=>
           rw [if_pos rfl] at hb
           refine pE ⟨m2,st2,ρ1,r3,en2.mono g3,ao (aw hb) (λ_ _ z=>z.elim) λy st3 _ hy m3 H5 w g4 r4 dw=>?_⟩
           have hv5:=g4.kp _ _ hv4 (.inl hD4)
           have hD5:=g4.mE hD4 hv4
           have hy:=aw hy
           have g5:=(((g'.trans g2).trans g3).trans g4)
           obtain ⟨r5,k5⟩:=r4.side (vs:=vs++[w]) hv5 hD5
           have ks:∀ {ws:List V} {es:List U},aj (zt X cl) m3 H5 ws es->aj (zt X cl) m3 (upd H5 D0 (.lst (vs++[w]))) ws es:=λ{ws es} z=>by
             induction ws generalizing es with
             | nil=>cases z; exact .nil
             | cons a ws ih=>cases z with | cons z1 z2=>exact .cons (k5 z1) (ih z2)
           have l5:=du.length
           have le:us.length<=i:=hul
           refine ⟨vs,n,hv5,?_,Nat.lt_succ_self n,m3,st3,us++[y],vs++[w],r5,hD5,g5.side hD,?_,aW,(ks (du.mono ((g2.trans g3).trans g4))).append (.cons (k5 dw) .nil),by rw [List.length_append,List.length_singleton]; omega,by omega,?_⟩
           · have:=Ev.cO; omega
           · have z:=less (en2.mono (g3.trans g4))
             exact ⟨z.len,λj d hj=>let ⟨v',e1,e2⟩:=z.get j d hj; ⟨v',e1,k5 e2⟩⟩
           · refine ao hy (λ_ _ z=>z) λrest st4 _ z=>?_
             have z:post (λ_ _=>False) (kV (zt X cl) m H Q) (new st4 (us++y :: rest)):=z
             rw [List.append_assoc]; exact z
 · exact hq.elim
theorem Bh {n:Nat} (B:Bg X T Φ cl CX Ex k) (S:Snd X T Φ cl Ex n) (IH:∀ {X:Cx} {T:Tr} {Ex:Nat->Hp->Prop},Bg X T Φ cl CX Ex k->Snd X T Φ cl Ex n) {elt tg iter:Expr} {ifs:List Expr} {scope:Scope} {pos:Pos} {t:Tg} {it:It} {fs:List E} {e:E}
   (hb:xT T scope=true) (h1:kO (oz T scope) tg=some t) (h2:trI T n iter=some it) (h3:ub (oz T scope) n ifs=some fs) (h4:trE (oz T scope) n elt=some e) (ho:ua tg it=true) :
   PE X (.ListComp elt [⟨tg,iter,ifs,0⟩] scope pos) (lE (zt X cl) Φ Ex (.comp (fN T scope) t it fs e)):=by
 have b:=ue hb
 obtain ⟨hi,hs⟩:=S.i tg iter it h2 ho
 refine PE.wk (kH (In:=λg tt te=>g=lG (zt X cl) t/\tt=lIf (zt X cl) Φ (λ_ _=>False) fs/\te=lE (zt X cl) Φ (λ_ _=>False) e) B.calm (Ct B b) hi hs ?_) ?_
 · rintro g tt te ⟨rfl,rfl,rfl⟩ s H fp
   have B':=A5 B b s H fp
   have S':=IH B'
   exact ⟨nV B' h1,S'.f _ _ h3,(S'.e _ _ h4).1⟩
 · exact xt h1
end
end Sv
namespace Sv
open PySem PySem.Spec PyProof.Rows L2
open Ev (D aA aK ae jd iW dj slot slot_get gA jH iX kM iN eu iS aH lx kR PTs kH mq B6 Ite bZ rG lN)
section
variable {X:Cx} {T:Tr} {Φ:Fn} {cl:Nat->Addr} {CX:CXT} {Ex:Nat->Hp->Prop} {k:Nat}
theorem PoT.po {Z:Zt} {m:List Addr} {H:Hp} {Q:Bool->Hp->Prop} {x:Rs U} (h:PoT Z Ex m H Q x):Po Z Ex m H (λv H=>∃ b,v=.bl b/\Q b H) x:=
 ao h (λ_ _ z=>z) λd st _ ⟨b,e,q⟩ m' H' v g r dv=>by subst e; exact ⟨b,hJ dv,q m' H' g r⟩
theorem cW {Z:Zt} {m:List Addr} {st:Sto} {ρ:Env} {H:Hp} {σ:L2.St} {Q Q1:VK} {a:E} {f:U->Sto->Rs U} (r:R Z m st H) (en:bB Z m H σ ρ) (h:Po Z Ex m H Q ((xE Φ a ρ st).bind f))
   (k:∀ x st1 m1 H1 v,Go m H m1 H1->R Z m1 st1 H1->bB Z m1 H1 σ ρ->aT Z m1 H1 v x->Po Z Ex m1 H1 Q (f x st1)->Q1 v H1):lE Z Φ Ex a σ H Q1:=
 ⟨m,st,ρ,r,en,ao (aw h) (λ_ _ z=>z) λx st1 _ hx m1 H1 v g1 r1 dv=>k x st1 m1 H1 v g1 r1 (en.mono g1) dv (Po.sh hx g1)⟩
theorem Eh {Z:Zt} {m:List Addr} {st:Sto} {ρ:Env} {H:Hp} {σ:L2.St} {Q:VK} {Q1:Bool->Hp->Prop} {a:E} {f:U->Sto->Rs U} (r:R Z m st H) (en:bB Z m H σ ρ) (h:Po Z Ex m H Q ((xE Φ a ρ st).bind f)) (hf:∀ x st,(∀ b,x ≠ .bl b)->f x st=.bad)
   (k:∀ b st1 m1 H1,Go m H m1 H1->R Z m1 st1 H1->bB Z m1 H1 σ ρ->Po Z Ex m1 H1 Q (f (.bl b) st1)->Q1 b H1):lT Z Φ Ex a σ H Q1:=
 ⟨m,st,ρ,r,en,ao (aw h) (λ_ _ z=>z) λx st1 _ hx=>by
   cases x with
   | bl b=>exact ⟨b,rfl,λm1 H1 g1 r1=>k b st1 m1 H1 g1 r1 (en.mono g1) (Po.sh hx g1)⟩
   | _=>rw [hf _ _ (by intro b z; cases z)] at hx; exact hx.elim⟩
theorem kN {Z:Zt} {m:List Addr} {st:Sto} {ρ:Env} {H:Hp} {σ:L2.St} {Q:Bool->Hp->Prop} {Q1:Bool->Hp->Prop} {a:E} {f:U->Sto->Rs U} (r:R Z m st H) (en:bB Z m H σ ρ) (h:PoT Z Ex m H Q ((xE Φ a ρ st).bind f)) (hf:∀ x st,(∀ b,x ≠ .bl b)->f x st=.bad)
   (k:∀ b st1 m1 H1,Go m H m1 H1->R Z m1 st1 H1->bB Z m1 H1 σ ρ->PoT Z Ex m1 H1 Q (f (.bl b) st1)->Q1 b H1):lT Z Φ Ex a σ H Q1:=
 ⟨m,st,ρ,r,en,ao (aw h) (λ_ _ z=>z) λx st1 _ hx=>by
   cases x with
   | bl b=>exact ⟨b,rfl,λm1 H1 g1 r1=>k b st1 m1 H1 g1 r1 (en.mono g1) (PoT.sh hx g1)⟩
   | _=>rw [hf _ _ (by intro b z; cases z)] at hx; exact hx.elim⟩
theorem nP {Z:Zt} {m:List Addr} {st:Sto} {ρ:Env} {H:Hp} {σ:L2.St} {Q:VK} {Q1:List V->Hp->Prop} {es:List E} {f:List U->Sto->Rs U} (r:R Z m st H) (en:bB Z m H σ ρ) (h:Po Z Ex m H Q ((xEs Φ es ρ st).bind f))
   (k:∀ xs st1 m1 H1 vs,Go m H m1 H1->R Z m1 st1 H1->aj Z m1 H1 vs xs->Po Z Ex m1 H1 Q (f xs st1)->Q1 vs H1):lEs Z Φ Ex es σ H Q1:=
 ⟨m,st,ρ,r,en,ao (aw h) (λ_ _ z=>z) λxs st1 _ hx m1 H1 vs g1 r1 dv=>k xs st1 m1 H1 vs g1 r1 dv (Po.sh hx g1)⟩
theorem sM {Z:Zt} {a b:E} {g:U->U->Sto->Rs U} {m:List Addr} {st:Sto} {ρ:Env} {H:Hp} {σ:L2.St} {Q:VK} (r:R Z m st H) (en:bB Z m H σ ρ)
   (h:Po Z Ex m H Q ((xE Φ a ρ st).bind λx st1=>(xE Φ b ρ st1).bind λy st2=>g x y st2)):tOp (rO Z Ex g) (lE Z Φ Ex a) (lE Z Φ Ex b) σ H Q:=
 cW r en h λx st1 m1 H1 v g1 r1 en1 dv h1=>cW r1 en1 h1 λy st2 m2 H2 u g2 r2 _ du h2=>⟨m2,st2,x,y,r2,dv.mono g2,du,h2⟩
theorem FP {n:Nat} (B:Bg X T Φ cl CX Ex k) (S:Snd X T Φ cl Ex n):∀ tg it it',trI T (n + 1) it=some it'->ua tg it'=true->PI X tg it (lI (zt X cl) Φ Ex it')/\∀ x,foldedSetIterable it X.env x=pure x:=by
 intro tg it it' h ho
 have seq:∀ e,trE T n it=some e->it'=.seq e->PI X tg it (lI (zt X cl) Φ Ex it')/\∀ x,foldedSetIterable it X.env x=pure x:=by
   intro e he hi
   subst hi
   refine ⟨?_,λx=>G8 he _ _⟩
   have pe:=(S.e _ _ he).1
   refine PI.wk (Hs (xw pe) (F4 pe)) ?_
   rintro σ H Rr ⟨m,st,ρ,r,en,hq⟩
   simp only [xIt] at hq
   cases ho:xE Φ e ρ st with
   | bad=>rw [ho] at hq; exact hq.elim
   | exc c st1=>rw [ho] at hq; exact .inl ⟨m,st,ρ,r,en,by rw [ho]; exact hq⟩
   | ok x st1=>
     rw [ho,Rs.aa] at hq
     cases x with
     | loc l=>
       refine .inl ⟨m,st,ρ,r,en,?_⟩
       rw [ho]
       intro m1 H1 v g1 r1 dv
       obtain ⟨a,rfl,hl⟩:=fP dv
       dsimp only at hq
       split at hq
       · obtain ⟨fz,ds,vs,_,ly,_⟩:=r1.loc hl
         exact ⟨a,rfl,⟨vs,ly.sq⟩,hq _ m1 H1 g1 r1 (Dl hl)⟩
       · exact hq.elim
     | tup xs=>
       refine .inr ⟨m,st,ρ,r,en,?_⟩
       rw [ho]
       intro m1 H1 v g1 r1 dv
       cases dv with
       | tup h1 d1=>exact ⟨_,rfl,⟨_,h1⟩,hq _ m1 H1 g1 r1 (GA h1 d1)⟩
     | kl xs=>
       refine .inl ⟨m,st,ρ,r,en,?_⟩
       rw [ho]
       intro m1 H1 v g1 r1 dv
       cases dv with
       | kl h1 d1=>exact ⟨_,rfl,⟨_,h1.sq⟩,hq _ m1 H1 g1 r1 (HY h1 d1)⟩
     | _=>exact hq.elim
 unfold trI at h
 split at h
 · cases h
 · rename_i n' x p a rr pos hn
   cases hn
   split at h
   · rename_i c
     obtain ⟨rfl,c2,_⟩:=c
     split at h
     · simp only [Option.bind_eq_some_iff,Option.some.injEq] at h
       obtain ⟨e,h3,rfl⟩:=h
       have st:=bL h3 [] X.env
       refine ⟨?_,λ_=>rfl⟩
       refine PI.wk (yY (B.gl c2) (B.blt _ (by simp [aL])) (bU (S.e _ _ h3).1 fD st) st) ?_
       rintro σ H Rr ⟨m,st,ρ,r,en,hq⟩
       simp only [xIt] at hq
       refine ⟨m,st,ρ,r,en,ao (aw hq) (λ_ _ z=>z) λx st1 _ hx m1 H1 v g1 r1 dv=>?_⟩
       cases dv with
       | @int j=>
         dsimp only at hx
         split at hx
         · rename_i hj
           exact ⟨j,rfl,hj.1,hj.2,hx _ m1 H1 g1 r1 (Ak 0 _)⟩
         · exact hx.elim
       | _=>exact hx.elim
     · rename_i bx
       simp only [Option.bind_eq_some_iff,Option.some.injEq] at h
       obtain ⟨e,h3,e2,h4,rfl⟩:=h
       have st2:=bL h4 [] X.env
       have st:=bL h3 [bx] X.env
       refine ⟨?_,λ_=>rfl⟩
       refine PI.wk (yQ (B.gl c2) (B.blt _ (by simp [aL])) (bU (S.e _ _ h3).1 (bU (S.e _ _ h4).1 fD st2) st) (st.trans (by rw [st2]; rfl)) st2) ?_
       rintro σ H Rr ⟨m,st,ρ,r,en,hq⟩
       simp only [xIt] at hq
       refine ⟨m,st,ρ,r,en,ao (aw hq) (λ_ _ z=>z) λx st1 _ hx m1 H1 v g1 r1 dv=>?_⟩
       refine ⟨m1,st1,ρ,r1,en.mono g1,ao (aw hx) (λc s z=>kE.sh g1 c s z) λy st2 _ hy m2 H2 u g2 r2 du=>?_⟩
       cases dv with
       | @int i=>
         cases du with
         | @int j=>
           dsimp only at hy
           split at hy
           · rename_i hj
             exact ⟨i,j,rfl,⟨hj.1.1,hj.1.2,hj.2.1,hj.2.2⟩,hy _ m2 H2 (g1.trans g2) r2 (Ak i _)⟩
           · exact hy.elim
         | _=>exact hy.elim
       | _=>cases du <;> exact hy.elim
     · cases h
   · split at h
     · rename_i c
       obtain ⟨rfl,c2,_⟩:=c
       split at h
       · simp only [Option.bind_eq_some_iff,Option.some.injEq] at h
         obtain ⟨e,h3,rfl⟩:=h
         have st:=bL h3 [] X.env
         obtain ⟨ts,q,tp,rfl⟩:∃ ts q tp,tg=.Tuple ts q tp:=by
           cases tg <;> first | exact ⟨_,_,_,rfl⟩ | cases ho
         refine ⟨?_,λ_=>rfl⟩
         refine PI.wk (rG (B.gl c2) (B.blt _ (by simp [aL])) (bU (S.e _ _ h3).1 fD st) st) ?_
         rintro σ H Rr ⟨m,st,ρ,r,en,hq⟩
         simp only [xIt] at hq
         refine ⟨m,st,ρ,r,en,ao (aw hq) (λ_ _ z=>z) λx st1 _ hx m1 H1 v g1 r1 dv=>?_⟩
         cases dv with
         | loc hl=>
           dsimp only at hx
           split at hx
           · obtain ⟨fz,ds,vs,_,ly,_⟩:=r1.loc hl
             exact ⟨_,rfl,⟨vs,ly.sq⟩,hx _ m1 H1 g1 r1 (Gj hl)⟩
           · exact hx.elim
         | kl h1 d1=>exact ⟨_,rfl,⟨_,h1.sq⟩,hx _ m1 H1 g1 r1 (He h1 d1)⟩
         | _=>exact hx.elim
       · cases h
     · split at h
       · rename_i c
         obtain ⟨rfl,c2,_⟩:=c
         split at h
         · rename_i bx
           simp only [Option.bind_eq_some_iff,Option.some.injEq] at h
           obtain ⟨e,h3,e2,h4,rfl⟩:=h
           have st2:=bL h4 [] X.env
           have st:=bL h3 [bx] X.env
           obtain ⟨ts,q,tp,rfl⟩:∃ ts q tp,tg=.Tuple ts q tp:=by
             cases tg <;> first | exact ⟨_,_,_,rfl⟩ | cases ho
           refine ⟨?_,λ_=>rfl⟩
           refine PI.wk (Ev.FQ (B.gl c2) (B.blt _ (by simp [aL])) (bU (S.e _ _ h3).1 (bU (S.e _ _ h4).1 fD st2) st) st st2) ?_
           rintro σ H Rr ⟨m,st,ρ,r,en,hq⟩
           simp only [xIt] at hq
           refine ⟨m,st,ρ,r,en,ao (aw hq) (λ_ _ z=>z) λx st1 _ hx m1 H1 v g1 r1 dv=>?_⟩
           refine ⟨m1,st1,ρ,r1,en.mono g1,ao (aw hx) (λc s z=>kE.sh g1 c s z) λy st2 _ hy m2 H2 u g2 r2 du=>?_⟩
           cases e1:src st2 x with
           | none=>rw [e1] at hy; exact hy.elim
           | some p=>
             cases e3:src st2 y with
             | none=>rw [e1,e3] at hy; exact hy.elim
             | some q=>
               rw [e1,e3] at hy
               obtain ⟨a,rfl,ha,sa⟩:=xc r2 (dv.mono g2) e1
               obtain ⟨b,rfl,hb,sb⟩:=xc r2 du e3
               exact ⟨a,b,rfl,ha,hb,hy _ m2 H2 (g1.trans g2) r2 (GD sa sb)⟩
         · cases h
       · simp only [Option.bind_eq_some_iff,Option.some.injEq] at h
         obtain ⟨e,h3,rfl⟩:=h
         exact seq e h3 rfl
 · rename_i n' heq hn
   cases heq
   simp only [Option.bind_eq_some_iff,Option.some.injEq] at h
   obtain ⟨e,h3,rfl⟩:=h
   exact seq e h3 rfl
theorem BQ {n:Nat} (S:Snd X T Φ cl Ex n):∀ es es',iu T (n + 1) es=some es'->PA X es (lEs (zt X cl) Φ Ex es'):=by
 intro es es' h
 cases es with
 | nil=>
   simp only [iu,Option.some.injEq] at h
   subst h
   refine PA.wk fD ?_
   rintro σ H Q ⟨m,st,ρ,r,en,q⟩
   simp only [xEs] at q
   exact q m H [] (Go.refl m H) r .nil
 | cons e es=>
   simp only [iu,Option.bind_eq_some_iff,Option.some.injEq] at h
   obtain ⟨e',h1,es',h2,rfl⟩:=h
   refine PA.wk (bU (S.e _ _ h1).1 (S.a _ _ h2) (bL h1 _ _)) ?_
   rintro σ H Q ⟨m,st,ρ,r,en,q⟩
   simp only [xEs] at q
   refine ⟨m,st,ρ,r,en,ao (aw q) (λ_ _ z=>z) λx st1 _ hx m1 H1 v g1 r1 dv=>?_⟩
   refine ⟨m1,st1,ρ,r1,en.mono g1,ao (aw hx) (λc s z=>kE.sh g1 c s z) λxs st2 _ hy m2 H2 vs g2 r2 dvs=>?_⟩
   exact hy m2 H2 _ (g1.trans g2) r2 (.cons (dv.mono g2) dvs)
theorem wK {Φ:Fn}:∀ {es:List E} {ρ:Env} {st st':Sto} {xs:List U},xEs Φ es ρ st=.ok xs st'->xs.length=es.length
 | [],ρ,st,st',xs,h=>by rw [xEs] at h; cases h; rfl
 | e :: es,ρ,st,st',xs,h=>by
   rw [xEs] at h
   cases h1:xE Φ e ρ st with
   | ok x st1=>
     rw [h1,Rs.aa] at h
     cases h2:xEs Φ es ρ st1 with
     | ok ys st2=>
       rw [h2,Rs.aa] at h
       cases h
       rw [List.length_cons,List.length_cons,wK h2]
     | exc c s=>rw [h2] at h; cases h
     | bad=>rw [h2] at h; cases h
   | exc c s=>rw [h1] at h; cases h
   | bad=>rw [h1] at h; cases h
theorem D3 (B:Bg X T Φ cl CX Ex k) {i:Nat} {x:Str} {e:Expr} {es:List Expr} {es':List E} {p pos:Pos} (hi:slot T.F x=some i) (hg:Gl X x) (hdb:(x == ("__debug__" : Str))=false) (ha:PA X (e :: es) (lEs (zt X cl) Φ Ex es'))
   (he:starEach (e :: es) X.env=(false,eval e X.env) :: starEach es X.env) (hpl:(backTo pos (starEach es X.env)).any (·.1)=false):PE X (.Call (.Name x p) (e :: es) [] pos) (lE (zt X cl) Φ Ex (.call i es')):=by
 obtain ⟨f,fd,ps,G,F,hm,hk,hn⟩:=(B.cal i x (slot_get hi)).ex
 obtain ⟨dvs,dus,dds,hb,hd,hdd,hF⟩:=hn es'.length
 refine PE.wk (DM F B.room hg hm hk hb hd B.pas ha hdb he hpl) ?_
 rintro σ H Q ⟨m,st,ρ,r,en,q⟩
 simp only [xE] at q
 refine ⟨m,st,ρ,r,en,ao (aw q) (λ_ _ z=>z) λxs st1 ex hx m1 H1 vs g1 r1 dv=>?_⟩
 have h1:=Po.sh hx g1
 rw [hF _ _ (wK ex)] at h1
 exact ⟨m1,st1,xs++dds,r1,dv.append (hdd _ _),ao h1 (λc s z m' H' g r=>⟨c,rfl,z m' H' g r⟩) λ_ _ _ z=>z⟩
theorem xB:PTs X [] (lIf (zt X cl) Φ Ex []):=by
 rintro pins s σ H Q I ⟨m,st,ρ,r,en,q⟩
 simp only [xIf] at q
 exact wpAny_tests_nil ⟨H,I,q m H (Go.refl m H) r⟩
theorem wZ:PO X none (lP (zt X cl) Φ Ex .cN):=by
 refine PO.wk El ?_
 rintro σ H Q ⟨m,st,ρ,r,en,q⟩
 simp only [xE] at q
 obtain ⟨o,e,q⟩:=q
 cases e
 exact q m H (Go.refl m H) r
end
section
variable {Φ:Fn} {cl:Nat->Addr} {CX:CXT} {k:Nat}
theorem CB {X:Cx} (ng:Bool):OpR X (compareOp (if ng then .IsNot else .Is)) (λx y H Q=>∃ m d,y=.non/\aT (zt X cl) m H x d/\Q (.bl (ng ^^ yN d)) H):=by
 rintro pins s σ H x y v u Q I rx ry ⟨m,d,hy,dx,q⟩
 subst hy
 have hd:decide (x=.non)=yN d:=by cases dx <;> rfl
 cases ng with
 | true=>exact DA pins s σ H _ _ v u Q I rx ry ⟨rfl,by rw [hd]; cases h:yN d <;> rw [h] at q <;> exact q⟩
 | false=>exact Gs pins s σ H _ _ v u Q I rx ry ⟨rfl,by rw [hd]; cases h:yN d <;> rw [h] at q <;> exact q⟩
theorem xI {T:Tr} {n:Nat} {e:Expr} {e':E} (h:trE T n e=some e') (o:CmpOp):behindInMarks o e=false:=by
 cases n with
 | zero=>rw [trE] at h; cases h
 | succ n=>rw [trE] at h; cases e <;> first | rfl | (simp [stE.eq_def] at h)
theorem ip:∀ (n:Nat) {X:Cx} {T:Tr} {Ex:Nat->Hp->Prop},Bg X T Φ cl CX Ex k->Snd X T Φ cl Ex n
 | 0,X,T,Ex,B=>⟨(λ_ _ h=>by exact bj (show (none:Option E)=some _ from h)),(λ_ _ _ _ h=>by exact bj (show (none:Option E)=some _ from h)),(λ_ _ h=>by simp [iu] at h),(λe e' h=>by
     cases e with
     | none=>simp only [trP,Option.some.injEq] at h; subst h; exact wZ
     | some e=>simp [trP] at h),(λes es' h=>by
     cases es with
     | nil=>simp only [ub,Option.some.injEq] at h; subst h; exact xB
     | cons a r=>simp [ub] at h),(λ_ _ _ h=>by unfold trI at h; cases h)⟩
 | n + 1,X,T,Ex,B=>by
   have S:=ip n B
   have val:∀ pe e,PE X pe (lE (zt X cl) Φ Ex e)->(∀ whole,isTrue pe X.env whole=(do let v <- whole; standAt pe.pos; holding [v] (truthy v)))->PE X pe (lE (zt X cl) Φ Ex e)/\PT X pe (lT (zt X cl) Φ Ex e):=
     λpe e h he=>⟨h,PT.wk (FG h he) λσ H Q ⟨m,st,ρ,r,en,q⟩=>⟨m,st,ρ,r,en,q.po⟩⟩
   have W1:∀ op vs pos e,trE T (n + 1) (.BoolOp op vs pos)=some e->PE X (.BoolOp op vs pos) (lE (zt X cl) Φ Ex e)/\PW X (.BoolOp op vs pos) (lT (zt X cl) Φ Ex e):=by
     intro op vs pos e h
     match op,vs with
     | op,[]=>cases op <;> exact bj (show (none:Option E)=some _ from h)
     | op,[a]=>
       have h':trE T n a=some e:=by cases op <;> simpa only [trE,stE.eq_def] using h
       obtain ⟨h1,h2⟩:=S.e a e h'
       refine ⟨GH h1,?_⟩
       cases op with
       | And=>exact pw_and1 h2
       | Or=>exact pw_or1 h2
     | .And,a :: b :: rs=>
       simp only [trE,stE.eq_def,Option.bind_eq_some_iff,Option.some.injEq] at h
       obtain ⟨a',h1,b',h2,rfl⟩:=h
       obtain ⟨p1,p2⟩:=S.e a a' h1
       obtain ⟨q1,q2⟩:=S.e _ b' h2
       refine ⟨PE.wk (G1 p1 q1) ?_,PW.wk (pw_and p2 (S.w _ _ _ _ h2)) ?_⟩
       · rintro σ H Q ⟨m,st,ρ,r,en,q⟩
         simp only [xE] at q
         refine cW r en q λx st1 m1 H1 v g1 r1 en1 dv h1=>?_
         match x,h1 with
         | .bl true,h1=>exact ⟨true,hJ dv,pE ⟨m1,st1,ρ,r1,en1,h1⟩⟩
         | .bl false,h1=>exact ⟨false,hJ dv,pq (Po.ok h1 r1 .bl)⟩
       · rintro σ H Q ⟨m,st,ρ,r,en,q⟩
         simp only [xE] at q
         refine kN r en q (λx st hx=>by cases x <;> first | rfl | exact absurd rfl (hx _)) λb st1 m1 H1 g1 r1 en1 h1=>?_
         cases b with
         | true=>exact pE ⟨m1,st1,ρ,r1,en1,h1⟩
         | false=>obtain ⟨b,eb,h1⟩:=h1; cases eb; exact pq (h1 m1 H1 (Go.refl _ _) r1)
     | .Or,a :: b :: rs=>
       simp only [trE,stE.eq_def,Option.bind_eq_some_iff,Option.some.injEq] at h
       obtain ⟨a',h1,b',h2,rfl⟩:=h
       obtain ⟨p1,p2⟩:=S.e a a' h1
       obtain ⟨q1,q2⟩:=S.e _ b' h2
       refine ⟨PE.wk (HH p1 q1) ?_,PW.wk (pw_or p2 (S.w _ _ _ _ h2)) ?_⟩
       · rintro σ H Q ⟨m,st,ρ,r,en,q⟩
         simp only [xE] at q
         refine cW r en q λx st1 m1 H1 v g1 r1 en1 dv h1=>?_
         match x,h1 with
         | .bl false,h1=>exact ⟨false,hJ dv,pq ⟨m1,st1,ρ,r1,en1,h1⟩⟩
         | .bl true,h1=>exact ⟨true,hJ dv,pE (Po.ok h1 r1 .bl)⟩
       · rintro σ H Q ⟨m,st,ρ,r,en,q⟩
         simp only [xE] at q
         refine kN r en q (λx st hx=>by cases x <;> first | rfl | exact absurd rfl (hx _)) λb st1 m1 H1 g1 r1 en1 h1=>?_
         cases b with
         | false=>exact pq ⟨m1,st1,ρ,r1,en1,h1⟩
         | true=>obtain ⟨b,eb,h1⟩:=h1; cases eb; exact pE (h1 m1 H1 (Go.refl _ _) r1)
   refine ⟨?_,λop vs pos e h=>(W1 op vs pos e h).2,BQ S,?_,?_,FP B S⟩
   case refine_2=>
     intro e e' h
     cases e with
     | none=>simp only [trP,Option.some.injEq] at h; subst h; exact wZ
     | some e=>
       simp only [trP,Option.bind_eq_some_iff] at h
       obtain ⟨e1,h1,h2⟩:=h
       have hne:e'=e1/\e1 ≠ .cN:=by
         split at h2
         · cases h2
         · rename_i hn
           cases h2
           exact ⟨rfl,hn⟩
       obtain ⟨rfl,hn⟩:=hne
       refine PO.wk (D7 (S.e _ _ h1).1) ?_
       rintro σ H Q ⟨m,st,ρ,r,en,q⟩
       refine ⟨m,st,ρ,r,en,ao q (λ_ _ z=>z) λd st1 _ ⟨o,bb,q⟩ m1 H1 v g1 r1 dv=>?_⟩
       obtain ⟨i,rfl,rfl⟩:∃ i,d=.int i/\o=some i:=by
         unfold vA at bb
         split at bb
         · exact absurd rfl hn
         · cases bb; exact ⟨_,rfl,rfl⟩
         · cases bb
       exact ⟨i,k8 dv,q m1 H1 g1 r1⟩
   case refine_3=>
     intro es es' h
     match es with
     | []=>simp only [ub,Option.some.injEq] at h; subst h; exact xB
     | [c]=>
       simp only [ub,Option.bind_eq_some_iff,Option.some.injEq] at h
       obtain ⟨c',h1,rfl⟩:=h
       rintro pins s σ H Q I ⟨m,st,ρ,r,en,q⟩
       simp only [xIf] at q
       refine wpAny_tests_one ((S.e _ _ h1).2 pins s σ H Q I ⟨m,st,ρ,r,en,ao (aw q) (λ_ _ z=>z) λx st1 _ hx=>?_⟩)
       match x,hx with
       | .bl true,hx=>exact ⟨true,rfl,hx⟩
       | .bl false,hx=>exact ⟨false,rfl,hx⟩
     | _ :: _ :: _=>simp [ub] at h
   intro pe e h
   cases pe with
   | BoolOp op vs pos=>exact ⟨(W1 op vs pos e h).1,(W1 op vs pos e h).2.pt⟩
   | Name x pos=>
     simp only [trE,stE.eq_def] at h
     split at h
     · rename_i hg
       simp only [Option.bind_eq_some_iff,Option.some.injEq] at h
       obtain ⟨i,h1,rfl⟩:=h
       obtain ⟨t,hm⟩:=B.cst x i h1
       refine val _ _ (PE.wk (D4 (v:=.int i) (B.gl hg.1) hm ⟨t,rfl⟩ hg.2) ?_) (λ_=>rfl)
       rintro σ H Q ⟨m,st,ρ,r,en,q⟩
       simp only [xE] at q
       exact Po.ok q r .int
     · simp only [Option.bind_eq_some_iff,Option.some.injEq] at h
       obtain ⟨i,h1,rfl⟩:=h
       obtain ⟨v1,v2,v3,v4⟩:=B.vis h1
       refine val _ _ (PE.wk (BO v1 (lN v2) v3 v4) ?_) (λ_=>rfl)
       rintro σ H Q ⟨m,st,ρ,r,en,q⟩
       simp only [xE,l7] at q
       split at q
       · rename_i hz
         obtain ⟨v,g1,g2⟩:=en.get i _ hz
         exact ⟨v,g1,Po.ok q r g2⟩
       · exact q.elim
   | Constant c kk pos=>
     have cst:∀ (v:V) (e:E) (d:U),(∀ ρ st,xE Φ e ρ st=.ok d st)->(∀ m H,aT (zt X cl) m H v d)->∀ σ H Q,lE (zt X cl) Φ Ex e σ H Q->tC v σ H Q:=λv e d h1 h2 σ H Q ⟨m,st,ρ,r,en,q⟩=>by
       rw [h1] at q
       exact Po.ok q r (h2 _ _)
     cases c <;> simp only [trE,stE.eq_def,Option.some.injEq,reduceCtorEq] at h <;> subst h
     case none=>exact val _ _ (PE.wk vC (cst _ _ .non (λ_ _=>by simp only [xE]) λ_ _=>.non)) (λ_=>rfl)
     case bool b=>exact val _ _ (PE.wk Jd (cst _ _ (.bl b) (λ_ _=>by simp only [xE]) λ_ _=>.bl)) (λ_=>rfl)
     case int i=>exact val _ _ (PE.wk ee (cst _ _ (.int i) (λ_ _=>by simp only [xE]) λ_ _=>.int)) (λ_=>rfl)
     case str x=>exact val _ _ (PE.wk GQ (cst _ _ (.str x) (λ_ _=>by simp only [xE]) λ_ _=>.str)) (λ_=>rfl)
   | BinOp a o b pos=>
     simp only [trE,stE.eq_def,Option.bind_eq_some_iff,Option.some.injEq] at h
     obtain ⟨o',h0,a',h1,b',h2,rfl⟩:=h
     refine val _ _ (PE.wk (fW (Gm (cl:=cl) (Ex:=Ex) h0) (S.e _ _ h1).1 (S.e _ _ h2).1) ?_) (λ_=>rfl)
     rintro σ H Q ⟨m,st,ρ,r,en,q⟩
     simp only [xE] at q
     exact sM r en q
   | UnaryOp o a pos=>
     cases o <;> simp only [trE,stE.eq_def,Option.bind_eq_some_iff,Option.some.injEq,reduceCtorEq] at h
     case USub=>
       obtain ⟨a',h1,rfl⟩:=h
       refine val _ _ (PE.wk (IL Gw (S.e _ _ h1).1) ?_) (λ_=>rfl)
       rintro σ H Q ⟨m,st,ρ,r,en,q⟩
       simp only [xE] at q
       refine cW r en q λx st1 m1 H1 v g1 r1 en1 dv h1=>?_
       match x,h1 with
       | .int i,h1=>exact ⟨i,k8 dv,Po.ok h1 r1 .int⟩
     case Not=>
       obtain ⟨a',h1,rfl⟩:=h
       refine ⟨PE.wk (Gy (S.e _ _ h1).1) ?_,PT.wk (Fq (S.e _ _ h1).2) ?_⟩
       · rintro σ H Q ⟨m,st,ρ,r,en,q⟩
         simp only [xE] at q
         refine cW r en q λx st1 m1 H1 v g1 r1 en1 dv h1=>?_
         match x,h1 with
         | .bl b,h1=>exact ⟨b,hJ dv,Po.ok h1 r1 .bl⟩
       · rintro σ H Q ⟨m,st,ρ,r,en,q⟩
         simp only [xE] at q
         refine kN r en q (λx st hx=>by cases x <;> first | rfl | exact absurd rfl (hx _)) λb st1 m1 H1 g1 r1 en1 h1=>?_
         obtain ⟨b',eb,h1⟩:=h1
         cases eb
         exact h1 m1 H1 (Go.refl _ _) r1
   | Compare a os bs pos=>
     match os,bs with
     | [o],[b]=>
       have cmp:∀ e,((trC o).bind λo'=>(trE T n a).bind λa'=>(trE T n b).bind λb'=>some (.cmp o' a' b'))=some e->PE X (.Compare a [o] [b] pos) (lE (zt X cl) Φ Ex e)/\PT X (.Compare a [o] [b] pos) (lT (zt X cl) Φ Ex e):=by
         intro e h
         simp only [Option.bind_eq_some_iff,Option.some.injEq] at h
         obtain ⟨o',h0,a',h1,b',h2,rfl⟩:=h
         have hm:behindInMarks o b=false:=xI h2 o
         refine ⟨PE.wk (yf (l6 (cl:=cl) (Ex:=Ex) B.room.units h0) (S.e _ _ h1).1 (S.e _ _ h2).1 hm) ?_,PT.wk (xR (l6 (cl:=cl) (Ex:=Ex) B.room.units h0) (S.e _ _ h1).1 (S.e _ _ h2).1 hm) ?_⟩
         · rintro σ H Q ⟨m,st,ρ,r,en,q⟩
           simp only [xE] at q
           exact sM r en q
         · rintro σ H Q ⟨m,st,ρ,r,en,q⟩
           simp only [xE] at q
           exact sM r en q.po
       have isn:∀ (ng:Bool) (a':E) (kk:Nat) (pp:Pos),trE T n a=some a'->b=.Constant .none kk pp->o=(if ng then .IsNot else .Is)->PE X (.Compare a [o] [b] pos) (lE (zt X cl) Φ Ex (.isN ng a'))/\PT X (.Compare a [o] [b] pos) (lT (zt X cl) Φ Ex (.isN ng a')):=by
         intro ng a' kk pp h1 hb ho
         subst hb ho
         have hm:behindInMarks (if ng then .IsNot else .Is) (.Constant .none kk pp)=false:=by cases ng <;> rfl
         refine ⟨PE.wk (yf (CB (cl:=cl) ng) (S.e _ _ h1).1 vC hm) ?_,PT.wk (xR (CB (cl:=cl) ng) (S.e _ _ h1).1 vC hm) ?_⟩
         · rintro σ H Q ⟨m,st,ρ,r,en,q⟩
           simp only [xE] at q
           exact cW r en q λx st1 m1 H1 v g1 r1 en1 dv h1=>⟨m1,x,rfl,dv,Po.ok h1 r1 .bl⟩
         · rintro σ H Q ⟨m,st,ρ,r,en,q⟩
           simp only [xE] at q
           exact cW r en q.po λx st1 m1 H1 v g1 r1 en1 dv h1=>⟨m1,x,rfl,dv,Po.ok h1 r1 .bl⟩
       simp only [trE,stE.eq_def] at h
       split at h
       · simp only [Option.bind_eq_some_iff,Option.some.injEq] at h
         obtain ⟨a',h1,rfl⟩:=h
         exact isn false a' _ _ h1 rfl rfl
       · simp only [Option.bind_eq_some_iff,Option.some.injEq] at h
         obtain ⟨a',h1,rfl⟩:=h
         exact isn true a' _ _ h1 rfl rfl
       · exact cmp e h
     | [o,p],[b,c]=>
       simp only [trE,stE.eq_def,Option.bind_eq_some_iff,Option.some.injEq] at h
       obtain ⟨o',h0,p',h0',a',h1,b',h2,c',h3,rfl⟩:=h
       have hm:lastMarks [o,p] [b,c]=false:=xI h3 p
       have core:∀ σ H Q,lE (zt X cl) Φ Ex (.chain o' p' a' b' c') σ H Q->vD (rC (zt X cl) Ex o') (rC (zt X cl) Ex p') (lE (zt X cl) Φ Ex a') (lE (zt X cl) Φ Ex b') (lE (zt X cl) Φ Ex c') σ H Q:=by
         rintro σ H Q ⟨m,st,ρ,r,en,q⟩
         simp only [xE] at q
         refine cW r en q λx st1 m1 H1 v g1 r1 en1 dv q1=>cW r1 en1 q1 λy st2 m2 H2 u g2 r2 en2 du q2=>?_
         refine ⟨m2,st2,x,y,r2,dv.mono g2,du,?_⟩
         show Po _ _ _ _ _ (ofO (evC o' x y st2) st2)
         cases ho:evC o' x y st2 with
         | none=>rw [ho] at q2; exact q2.elim
         | some tt=>
           rw [ho] at q2
           intro m3 H3 w g3 r3 dw
           cases tt with
           | true=>
             refine ⟨true,hJ dw,pE (cW r3 (en2.mono g3) (Po.sh q2 g3) λz st4 m4 H4 w' g4 r4 en4 dw' q4=>?_)⟩
             exact ⟨m4,st4,y,z,r4,(du.mono g3).mono g4,dw',q4⟩
           | false=>exact ⟨false,hJ dw,pq (Po.ok (Po.sh q2 g3) r3 .bl)⟩
       refine ⟨PE.wk (Cg (l6 (cl:=cl) (Ex:=Ex) B.room.units h0) (l6 (cl:=cl) (Ex:=Ex) B.room.units h0') (S.e _ _ h1).1 (S.e _ _ h2).1 (S.e _ _ h3).1 hm) core,PT.wk (BW (l6 (cl:=cl) (Ex:=Ex) B.room.units h0) (l6 (cl:=cl) (Ex:=Ex) B.room.units h0') (S.e _ _ h1).1 (S.e _ _ h2).1 (S.e _ _ h3).1 hm) ?_⟩
       rintro σ H Q ⟨m,st,ρ,r,en,q⟩
       exact core σ H _ ⟨m,st,ρ,r,en,q.po⟩
     | [],_=>exact bj (show (none:Option E)=some _ from h)
     | [_],[]=>exact bj (show (none:Option E)=some _ from h)
     | [_],_ :: _ :: _=>exact bj (show (none:Option E)=some _ from h)
     | [_,_],[]=>exact bj (show (none:Option E)=some _ from h)
     | [_,_],[_]=>exact bj (show (none:Option E)=some _ from h)
     | [_,_],_ :: _ :: _ :: _=>exact bj (show (none:Option E)=some _ from h)
     | _ :: _ :: _ :: _,_=>exact bj (show (none:Option E)=some _ from h)
   | IfExp c a b pos=>
     simp only [trE,stE.eq_def,Option.bind_eq_some_iff,Option.some.injEq] at h
     obtain ⟨c',h0,a',h1,b',h2,rfl⟩:=h
     have core:∀ σ H Q,lE (zt X cl) Φ Ex (.ite c' a' b') σ H Q->tIf (lT (zt X cl) Φ Ex c') (lE (zt X cl) Φ Ex a') (lE (zt X cl) Φ Ex b') σ H Q:=by
       rintro σ H Q ⟨m,st,ρ,r,en,q⟩
       simp only [xE] at q
       refine Eh r en q (λx st hx=>by cases x <;> first | rfl | exact absurd rfl (hx _)) λbb st1 m1 H1 g1 r1 en1 q1=>?_
       cases bb with
       | true=>exact pE ⟨m1,st1,ρ,r1,en1,q1⟩
       | false=>exact pq ⟨m1,st1,ρ,r1,en1,q1⟩
     refine ⟨PE.wk (Bc (S.e _ _ h0).2 (S.e _ _ h1).1 (S.e _ _ h2).1) core,?_⟩
     rintro pins s σ H Q I ⟨m,st,ρ,r,en,q⟩
     simp only [xE] at q
     show wpAny _ _ (do if <- isTrue c X.env (eval c X.env) then isTrue a X.env (eval a X.env) else isTrue b X.env (eval b X.env)) _ _ _
     have rd:lT (zt X cl) Φ Ex c' σ H (λbb H1=>if bb=true then lT (zt X cl) Φ Ex a' σ H1 Q else lT (zt X cl) Φ Ex b' σ H1 Q):=by
       refine kN r en q (λx st hx=>by cases x <;> first | rfl | exact absurd rfl (hx _)) λbb st1 m1 H1 g1 r1 en1 q1=>?_
       cases bb with
       | true=>exact pE ⟨m1,st1,ρ,r1,en1,q1⟩
       | false=>exact pq ⟨m1,st1,ρ,r1,en1,q1⟩
     refine wpAny_bind (thn ((S.e _ _ h0).2 pins s σ H _ I rd) ?_)
     rintro bb s1 ⟨H1,I1,hq⟩
     cases bb with
     | true=>rw [if_pos rfl] at hq; exact (S.e _ _ h1).2 pins s1 σ H1 Q I1 hq
     | false=>rw [if_neg (by decide)] at hq; exact (S.e _ _ h2).2 pins s1 σ H1 Q I1 hq
   | Tuple es kk pos=>
     simp only [trE,stE.eq_def,Option.bind_eq_some_iff,Option.some.injEq] at h
     obtain ⟨es',h1,rfl⟩:=h
     refine val _ _ (PE.wk (GG (S.a _ _ h1)) ?_) (λ_=>rfl)
     rintro σ H Q ⟨m,st,ρ,r,en,q⟩
     simp only [xE] at q
     refine nP r en q λxs st1 m1 H1 vs g1 r1 dv q1=>?_
     split at q1
     · exact ⟨by have:=dv.length; have:=Ev.cO; omega,λp hp=>Po.tup q1 r1 dv hp⟩
     · exact q1.elim
   | List es pos=>
     simp only [trE,stE.eq_def,Option.bind_eq_some_iff,Option.some.injEq] at h
     obtain ⟨es',h1,rfl⟩:=h
     refine val _ _ (PE.wk (Fp (S.a _ _ h1)) ?_) (λ_=>rfl)
     rintro σ H Q ⟨m,st,ρ,r,en,q⟩
     simp only [xE] at q
     refine nP r en q λxs st1 m1 H1 vs g1 r1 dv q1=>?_
     split at q1
     · exact ⟨by have:=dv.length; have:=Ev.cO; omega,λp hp=>Po.new q1 r1 dv hp⟩
     · exact q1.elim
   | Subscript a i pos=>
     have plain:(∀ l u st p,i ≠ .Slice l u st p)->PE X (.Subscript a i pos) (lE (zt X cl) Φ Ex e)/\PT X (.Subscript a i pos) (lT (zt X cl) Φ Ex e):=by
       intro hi
       have hps:xY i:=λo v=>by cases i <;> first | rfl | exact absurd rfl (hi _ _ _ _)
       have h':((trE T n a).bind λa'=>(trE T n i).bind λi'=>some (.ix a' i'))=some e:=by
         cases i <;> first | exact absurd rfl (hi _ _ _ _) | (simpa only [trE,stE.eq_def] using h)
       simp only [Option.bind_eq_some_iff,Option.some.injEq] at h'
       obtain ⟨a',h1,i',h2,rfl⟩:=h'
       refine val _ _ (PE.wk (EX (F3 (cl:=cl) (Ex:=Ex)) (S.e _ _ h1).1 (S.e _ _ h2).1 hps) ?_) (λ_=>rfl)
       rintro σ H Q ⟨m,st,ρ,r,en,q⟩
       simp only [xE] at q
       exact sM r en q
     cases i with
     | Slice lo hi st p2=>
       cases st with
       | some y=>exact bj (show (none:Option E)=some _ from h)
       | none=>
         simp only [trE,stE.eq_def,Option.bind_eq_some_iff,Option.some.injEq] at h
         obtain ⟨a',h1,l',h2,u',h3,rfl⟩:=h
         refine val _ _ (PE.wk (BP CN (S.e _ _ h1).1 (S.p _ _ h2) (S.p _ _ h3)) ?_) (λ_=>rfl)
         rintro σ H Q ⟨m,st,ρ,r,en,q⟩
         simp only [xE] at q
         refine cW r en q λx st1 m1 H1 v g1 r1 en1 dv q1=>?_
         refine ⟨m1,st1,ρ,r1,en1,ao (aw q1) (λ_ _ z=>z) λy st2 _ q2=>?_⟩
         cases hy:vA l' y with
         | none=>rw [hy] at q2; exact q2.elim
         | some lo'=>
           rw [hy] at q2
           refine ⟨lo',rfl,λm2 H2 g2 r2=>?_⟩
           refine ⟨m2,st2,ρ,r2,en1.mono g2,ao (aw q2) (λc s z=>kE.sh g2 c s z) λz st3 _ q3=>?_⟩
           cases hz:vA u' z with
           | none=>rw [hz] at q3; exact q3.elim
           | some hi'=>
             rw [hz] at q3
             refine ⟨hi',rfl,λm3 H3 g3 r3=>?_⟩
             dsimp only at q3
             unfold CO at q3
             split at q3
             · rename_i xs e1
               obtain ⟨p,vs,rfl,s1,d1⟩:=ny r3 (dv.mono (g2.trans g3)) e1
               exact ⟨p,vs,rfl,s1,λp' hp'=>Po.new (Po.sh q3 (g2.trans g3)) r3 (DH d1 _ _) hp'⟩
             · exact q3.elim
     | _=>exact plain (λ_ _ _ _ z=>nomatch z)
   | Call f es ks pos=>
     obtain ⟨x,p,e0,es0,rfl,rfl,rfl⟩:∃ x p e0 es0,f=.Name x p/\es=e0 :: es0/\ks=[]:=by
       cases f with
       | Name x p=>
         cases es with
         | cons e0 es0=>
           cases ks with
           | nil=>exact ⟨_,_,_,_,rfl,rfl,rfl⟩
           | cons k ks=>exact bj (show (none:Option E)=some _ from h)
         | nil=>exact bj (show (none:Option E)=some _ from h)
       | _=>exact bj (show (none:Option E)=some _ from h)
     simp only [trE,stE.eq_def] at h
     split at h
     · rename_i hg
       have gl:=B.gl hg.1
       split at h
       · rename_i i hi
         simp only [Option.bind_eq_some_iff,Option.some.injEq] at h
         obtain ⟨es',h1,rfl⟩:=h
         exact val _ _ (D3 B hi gl hg.2 (S.a _ _ h1) (jG h1 _) (jo h1 _ _)) (λ_=>rfl)
       · split at h
         · rename_i hx
           subst hx
           split at h
           · rename_i t q
             split at h
             · rename_i hgt
               simp only [Option.bind_eq_some_iff,Option.some.injEq] at h
               obtain ⟨ty,h0,a',h1,rfl⟩:=h
               refine val _ _ (PE.wk (eT (Fh (cl:=cl) ty) gl (B.blt _ (by simp [aL])) (by decide +kernel) (bU (S.e _ _ h1).1 (bU (Ie B.blt h0 (B.gl hgt)) fD rfl) (bL h1 _ _)) (by decide) hg.2 (bL h1 _ _) rfl) ?_) (λ_=>rfl)
               rintro σ H Q ⟨m,st,ρ,r,en,q⟩
               simp only [xE] at q
               refine cW r en q λx st1 m1 H1 v g1 r1 en1 dv q1=>?_
               have ne:(∀ c,x ≠ .exo c)/\Po (zt X cl) Ex m1 H1 Q (.ok (.bl (yr ty x)) st1):=by
                 cases x <;> first | exact ⟨(by intro c z; cases z),q1⟩ | exact q1.elim
               exact ⟨m1,st1,v,x,r1,rfl,dv,ne.1,Po.ok ne.2 r1 .bl⟩
             · cases h
           · cases h
         · simp only [Option.bind_eq_some_iff,Option.some.injEq] at h
           obtain ⟨b,h0,es',h1,rfl⟩:=h
           refine val _ _ (PE.wk (Ip (cl:=cl) (Ex:=Ex) B.calm B.blt h0 gl (S.a _ _ h1) (jG h1 _) (jo h1 _ _)) ?_) (λ_=>rfl)
           rintro σ H Q ⟨m,st,ρ,r,en,q⟩
           simp only [xE] at q
           exact nP r en q λxs st1 m1 H1 vs g1 r1 dv q1=>⟨m1,st1,xs,r1,dv,q1⟩
     · cases h
   | ListComp elt gens scope pos=>
     match gens with
     | [⟨tg,iter,ifs,asy⟩]=>
       simp only [trE,stE.eq_def] at h
       split at h
       · rename_i hb0
         obtain ⟨rfl,hb⟩:=hb0
         simp only [Option.bind_eq_some_iff] at h
         obtain ⟨t,h1,it,h2,fs,h3,e',h4,h5⟩:=h
         split at h5
         · rename_i ho
           cases h5
           exact val _ _ (Bh B S (λB'=>ip n B') hb h1 h2 h3 h4 ho) (λ_=>rfl)
         · cases h5
       · cases h
     | []=>exact bj (show (none:Option E)=some _ from h)
     | ⟨_,_,_,_⟩ :: _ :: _=>exact bj (show (none:Option E)=some _ from h)
   | _=>exact bj (show (none:Option E)=some _ from h)
end
end Sv
namespace Sv
open PySem PySem.Spec PyProof.Rows L2
open Ev (D aA aK ae jd iW dj slot slot_get gA jH lN)
section
variable {X:Cx} {cl:Nat->Addr}
theorem AK {α:Type}:∀ (its:List α) (k:Nat) (y:α),k<=its.length->its.insertIdx k y=its.take k++[y]++its.drop k
 | _,0,_,_=>rfl
 | a :: r,k + 1,y,h=>by
   rw [List.insertIdx_succ_cons,AK r k y (by simpa using h)]
   rfl
theorem G6 {its:List Value} {k:Nat} {y:Value} (h:k<=its.length):(its.toArray.extract 0 k).push y++its.toArray.extract k=(its.insertIdx k y).toArray:=by
 apply Array.toList_inj.mp
 simp only [Array.toList_append,Array.toList_push,Array.toList_extract,List.extract_eq_drop_take,List.drop_zero,Nat.sub_zero,List.size_toArray]
 rw [AK its k y h]
 congr 1
 exact List.take_of_length_le (by rw [List.length_drop]; exact Nat.le_refl _)
noncomputable def DO:V->List V->Hp->VK->Prop:=λx vs H Q=>∃ l xs,∃ i:Int,∃ y,x=.ref l/\vs=[.int i,y]/\H l=some (.lst xs)/\0<=i/\i.toNat<=xs.length/\xs.length < sizeLine/\Q .non (upd H l (.lst (xs.insertIdx i.toNat y)))
theorem yL:MtM X "list.insert" DO:=by
 intro pins s σ H x vs v us Q I rx rv h
 obtain ⟨l,xs,i,y,rfl,rfl,hH,h0,h1,h2,q⟩:=h
 cases rx
 obtain ⟨u,w,rfl,ru,rw'⟩:=rv.two
 obtain ⟨t,rfl⟩:=ru
 obtain ⟨z,its,n,r,hl,e⟩:=I.z5 hH
 have hi:i < 2 ^ 63:=by have:=Int.toNat_of_nonneg h0; have:sizeLine < 2 ^ 62:=(by decide); omega
 have hf:Builtin.List.listFitsIndex i=true:=by
   unfold Builtin.List.listFitsIndex
   rw [Bool.and_eq_true]
   exact ⟨decide_eq_true (by omega),decide_eq_true hi⟩
 refine call_meets PySem.F.slot_list_insert ⟨_,e,rfl⟩ PySem.F.entry_list_insert (PySem.F.args_list_insert_3 _ _ _) (PySem.AutoSeq1.list_insert_list_int_val_1 l its.toArray n i t w (by simp [hf]) (by rw [List.size_toArray]; omega)) ⟨e,?_⟩
 have vi:∀ {xs:List V} {us:List Value} (k:Nat) {a:V} {b:Value},Vals xs us->RelV a b->Vals (xs.insertIdx k a) (us.insertIdx k b):=λ{xs us} k {a b} r ra=>by
   induction k generalizing xs us with
   | zero=>exact .cons ra r
   | succ k ih=>cases r with
     | nil=>exact .nil
     | cons r1 r2=>exact .cons r1 (ih r2)
 refine ⟨.non,_,I.AN (its':=its.insertIdx i.toNat w) hH e ?_ (vi _ r rw') ?_,rfl,q⟩
 · show (its.toArray.extract 0 (if i < 0 then (i + (its.toArray.size:Int)).toNat else min i.toNat its.toArray.size)).push w++its.toArray.extract (if i < 0 then (i + (its.toArray.size:Int)).toNat else min i.toNat its.toArray.size)=_
   rw [if_neg (by omega),List.size_toArray,Nat.min_eq_left (by omega)]
   exact G6 (by omega)
 · rw [List.length_insertIdx_of_le_length h1]; omega
noncomputable def rM (Z:Zt) (lm:Lm):V->List V->Hp->VK->Prop:=λx vs H Q=>∃ m st a ds st',R Z m st H/\aT Z m H x a/\aj Z m H vs ds/\evM lm a ds st=some st'/\∀ v H',Go m H m H'->R Z m st' H'->Q v H'
theorem qM {Z:Zt} {m:List Addr} {st:Sto} {H:Hp} (r:R Z m st H) {x:V} {l:Nat} {xs:List U} (d:aT Z m H x (.loc l)) (e:st[l]?=some (false,xs)):∃ a vs,x=.ref a/\m[l]?=some a/\H a=some (.lst vs)/\aj Z m H vs xs:=by
 obtain ⟨a,rfl,hl⟩:=fP d
 obtain ⟨b,vs,f1,f2,f3⟩:=r.at e
 rw [hl] at f1; cases f1
 unfold Lay at f2
 rw [if_neg (by decide)] at f2
 exact ⟨_,vs,rfl,hl,f2,f3⟩
theorem BL:MtR X "list.append" (rM (zt X cl) .append):=by
 rintro pins s σ H x vs v us Q I rx rv ⟨m,st,a,ds,st',r,dx,dn,e,q⟩
 match a,ds,e with
 | .loc l,[d],e=>
   simp only [evM.eq_def] at e
   split at e
   · rename_i xs hs
     split at e
     · rename_i hl
       cases e
       obtain ⟨p,ws,rfl,f1,f2,f3⟩:=qM r dx hs
       obtain ⟨y,rfl,dy⟩:=rl dn
       obtain ⟨g,r'⟩:=r.put f1 hs (f3.append (.cons dy .nil))
       exact lZ pins s σ H _ _ v us Q I rx rv ⟨p,ws,y,rfl,rfl,f2,by have:=f3.length; have:=Ev.cO; omega,q _ _ g r'⟩
     · cases e
   · cases e
theorem HR:MtR X "list.pop" (rM (zt X cl) .pop):=by
 rintro pins s σ H x vs v us Q I rx rv ⟨m,st,a,ds,st',r,dx,dn,e,q⟩
 match a,ds,e with
 | .loc l,[],e=>
   simp only [evM.eq_def] at e
   split at e
   · rename_i xs hs
     split at e
     · cases e
     · rename_i hn
       cases e
       obtain ⟨p,ws,rfl,f1,f2,f3⟩:=qM r dx hs
       cases dn
       obtain ⟨g,r'⟩:=r.put f1 hs f3.dropLast
       have l3:=f3.length
       have hl:ws.length - 1 < ws.length:=by
         have:xs.length ≠ 0:=λz=>hn (List.eq_nil_of_length_eq_zero z)
         omega
       exact Fe pins s σ H _ _ v us Q I rx rv ⟨p,ws,ws[ws.length - 1],rfl,rfl,f2,List.getElem?_eq_getElem hl,q _ _ g r'⟩
   · cases e
theorem Dk:MtR X "list.clear" (rM (zt X cl) .clear):=by
 rintro pins s σ H x vs v us Q I rx rv ⟨m,st,a,ds,st',r,dx,dn,e,q⟩
 match a,ds,e with
 | .loc l,[],e=>
   simp only [evM.eq_def] at e
   split at e
   · rename_i xs hs
     cases e
     obtain ⟨p,ws,rfl,f1,f2,f3⟩:=qM r dx hs
     cases dn
     obtain ⟨g,r'⟩:=r.put f1 hs (aj.nil)
     exact zN pins s σ H _ _ v us Q I rx rv ⟨p,ws,rfl,rfl,f2,q _ _ g r'⟩
   · cases e
noncomputable def trM (m:Str) (n:Nat):Option Lm:=if m = "append" /\ n=1 then some .append else if m = "pop" /\ n=0 then some .pop else if m = "clear" /\ n=0 then some .clear else none
noncomputable def isNm:Expr->Bool
 | .Name _ _=>true
 | _=>false
noncomputable def su:Expr->Bool
 | .Tuple _ _ _=>false
 | _=>true
noncomputable def Fo:Expr->Str->List Expr->Option (Expr × Expr)
 | .Name g _,m,[a,.Call (.Attribute (.Name g2 _) m2 ap) [b] [] cp]=>if m = "insert" /\ m2 = "pop" /\ g2=g/\(ap.endLine == cp.line)=true then some (a,b) else none
 | _,_,_=>none
theorem A9 {o:Expr} {m:Str} {es:List Expr} {a b:Expr} (h:Fo o m es=some (a,b)):m = "insert" /\ ∃ g p p2 ap cp,o=.Name g p/\es=[a,.Call (.Attribute (.Name g p2) "pop" ap) [b] [] cp]/\(ap.endLine == cp.line)=true:=by
 unfold Fo at h
 split at h
 · split at h
   · rename_i hc
     obtain ⟨rfl,rfl,rfl,hl⟩:=hc
     cases h
     exact ⟨rfl,_,_,_,_,_,rfl,rfl,hl⟩
   · cases h
 · cases h
noncomputable def GB:E->Bool
 | .var _=>true
 | _=>false
noncomputable def stS (T:Tr) (rE:Expr->Option E) (rEs:List Expr->Option (List E)) (rI:Expr->Option It) (rS:List Stmt->Option (List S)):Stmt->Option S
 | .Assign [.Subscript a i p] e _=>if su i=true then (rE e).bind λe'=>(rE a).bind λa'=>(rE i).bind λi'=>some (.put a' i' e') else none
 | .Assign [tg] e _=>if su e=true\/isNm tg=true then (kO T tg).bind λt=>(rE e).bind λe'=>some (.set t e') else none
 | .Return (some e) _=>(rE e).bind λe'=>some (.ret e')
 | .If c a b _=>(rE c).bind λc'=>(rS a).bind λa'=>(rS b).bind λb'=>some (.ite c' a' b')
 | .For tg it body [] _=>(kO T tg).bind λt=>(rI it).bind λit'=>(rS body).bind λb'=>if ua tg it'=true then some (.for t it' b') else none
 | .While c body [] _=>(rE c).bind λc'=>(rS body).bind λb'=>some (.while c' b')
 | .Expr (.Call (.Attribute o m apos) es [] cpos) _=>
   if (apos.endLine == cpos.line)=true then match Fo o m es with
     | some (a,b)=>(rE o).bind λo'=>(rE a).bind λa'=>(rE b).bind λb'=>if GB o'=true then some (.mth .rot o' [a',b']) else none
     | none=>(trM m es.length).bind λlm=>(rE o).bind λo'=>(rEs es).bind λes'=>some (.mth lm o' es')
   else none
 | .Expr (.Call (.Name f p) es ks q) _=>(rE (.Call (.Name f p) es ks q)).bind λe'=>some (.expr e')
 | .Raise _ _ _=>some .nev
 | _=>none
mutual
noncomputable def trS (T:Tr):Nat->Stmt->Option S
 | 0,_=>none
 | n + 1,s=>stS T (λe=>trE T n e) (λes=>iu T n es) (λi=>trI T n i) (λss=>tT T n ss) s
noncomputable def tT (T:Tr):Nat->List Stmt->Option (List S)
 | 0,_=>none
 | _ + 1,[]=>some []
 | n + 1,s :: ss=>(trS T n s).bind λs'=>(tT T n ss).bind λss'=>some (s' :: ss')
end
end
noncomputable def kF (Z:Zt) (m:List Addr) (H:Hp) (D:Ends):Fl->Sto->Prop
 | .nx ρ,st'=>∀ m' H' σ',Go m H m' H'->R Z m' st' H'->bB Z m' H' σ' ρ->D.nx σ' H'
 | .rt d,st'=>∀ m' H' v,Go m H m' H'->R Z m' st' H'->aT Z m' H' v d->D.rt v H'
theorem kF.sh {Z:Zt} {m m1:List Addr} {H H1:Hp} {D:Ends} (g:Go m H m1 H1):∀ f st,kF Z m H D f st->kF Z m1 H1 D f st
 | .nx _,_,h=>λm' H' σ' g'=>h m' H' σ' (g.trans g')
 | .rt _,_,h=>λm' H' v g'=>h m' H' v (g.trans g')
noncomputable abbrev PoF (Z:Zt) (Ex:Nat->Hp->Prop) (m:List Addr) (H:Hp) (D:Ends) (x:Rs Fl):Prop:=post (kE Z Ex m H) (kF Z m H D) x
theorem PoF.sh {Z:Zt} {Ex:Nat->Hp->Prop} {m m1:List Addr} {H H1:Hp} {D:Ends} {x:Rs Fl} (h:PoF Z Ex m H D x) (g:Go m H m1 H1):PoF Z Ex m1 H1 D x:=ao h (kE.sh g) λa st _=>kF.sh g a st
section
variable (Z:Zt) (Φ:Fn) (Ex:Nat->Hp->Prop) (n:Nat)
noncomputable def lS (s:S):TS:=λD σ H=>∃ m st ρ,R Z m st H/\bB Z m H σ ρ/\PoF Z Ex m H D (xS Φ n s ρ st)
noncomputable def lSs (ss:List S):TS:=λD σ H=>∃ m st ρ,R Z m st H/\bB Z m H σ ρ/\PoF Z Ex m H D (xSs Φ n ss ρ st)
end
section
variable {X:Cx} {T:Tr} {Φ:Fn} {cl:Nat->Addr} {CX:CXT} {Ex:Nat->Hp->Prop} {k:Nat}
theorem PS.wk {e:Stmt} {t t':TS} (h:PS X e t) (f:∀ E σ H,t' E σ H->t E σ H):PS X e t':=λpins s σ H E I q=>h pins s σ H E I (f E σ H q)
theorem PSs.wk {e:List Stmt} {t t':TS} (h:PSs X e t) (f:∀ E σ H,t' E σ H->t E σ H):PSs X e t':=λpins s σ H E I q=>h pins s σ H E I (f E σ H q)
theorem PS.nox {st:Stmt} {t:TS} (h:PS X.nox st t):PS X st t:=λpins s σ H D I hw=>
 wpAny_mono (h pins s σ H D (I.oE _) hw) (λ_ _ q=>q.iG) λ_ _ z=>False.elim z
theorem Bg.nox (B:Bg X T Φ cl CX Ex k):Bg X.nox T Φ cl CX (λ_ _=>False) k:=
 ⟨B.sc,B.nm,B.nd,B.calm,B.room,B.blt,B.cal,B.fn,B.cst,B.cxn,Ha B.cxn⟩
theorem dN {Z:Zt} {m:List Addr} {st:Sto} {ρ:Env} {H:Hp} {σ:L2.St} {D:Ends} {Q1:VK} {a:E} {f:U->Sto->Rs Fl} (r:R Z m st H) (en:bB Z m H σ ρ) (h:PoF Z Ex m H D ((xE Φ a ρ st).bind f))
   (k:∀ x st1 m1 H1 v,Go m H m1 H1->R Z m1 st1 H1->bB Z m1 H1 σ ρ->aT Z m1 H1 v x->PoF Z Ex m1 H1 D (f x st1)->Q1 v H1):lE Z Φ Ex a σ H Q1:=
 ⟨m,st,ρ,r,en,ao (aw h) (λ_ _ z=>z) λx st1 _ hx m1 H1 v g1 r1 dv=>k x st1 m1 H1 v g1 r1 (en.mono g1) dv (PoF.sh hx g1)⟩
theorem zU {Z:Zt} {m:List Addr} {st:Sto} {ρ:Env} {H:Hp} {σ:L2.St} {D:Ends} {Q1:List V->Hp->Prop} {es:List E} {f:List U->Sto->Rs Fl} (r:R Z m st H) (en:bB Z m H σ ρ) (h:PoF Z Ex m H D ((xEs Φ es ρ st).bind f))
   (k:∀ xs st1 m1 H1 vs,Go m H m1 H1->R Z m1 st1 H1->bB Z m1 H1 σ ρ->aj Z m1 H1 vs xs->PoF Z Ex m1 H1 D (f xs st1)->Q1 vs H1):lEs Z Φ Ex es σ H Q1:=
 ⟨m,st,ρ,r,en,ao (aw h) (λ_ _ z=>z) λxs st1 _ hx m1 H1 vs g1 r1 dv=>k xs st1 m1 H1 vs g1 r1 (en.mono g1) dv (PoF.sh hx g1)⟩
theorem xg {Z:Zt} {m:List Addr} {st:Sto} {ρ:Env} {H:Hp} {σ:L2.St} {D:Ends} {Q1:Bool->Hp->Prop} {a:E} {f:U->Sto->Rs Fl} (r:R Z m st H) (en:bB Z m H σ ρ) (h:PoF Z Ex m H D ((xE Φ a ρ st).bind f)) (hf:∀ x st,(∀ b,x ≠ .bl b)->f x st=.bad)
   (k:∀ b st1 m1 H1,Go m H m1 H1->R Z m1 st1 H1->bB Z m1 H1 σ ρ->PoF Z Ex m1 H1 D (f (.bl b) st1)->Q1 b H1):lT Z Φ Ex a σ H Q1:=
 ⟨m,st,ρ,r,en,ao (aw h) (λ_ _ z=>z) λx st1 _ hx=>by
   cases x with
   | bl b=>exact ⟨b,rfl,λm1 H1 g1 r1=>k b st1 m1 H1 g1 r1 (en.mono g1) (PoF.sh hx g1)⟩
   | _=>rw [hf _ _ (by intro b z; cases z)] at hx; exact hx.elim⟩
theorem Ei {T:Tr} {n:Nat} {e:Expr} {e':E} (h:trE T n e=some e') (t:Option Expr) (l:Nat) (env:PySem.Env) (hs:∀ a b c d,e ≠ .ListComp a b c d):swapsWith e t l env=pure false:=by
 cases n with
 | zero=>rw [trE] at h; cases h
 | succ n=>
   cases e with
   | ListComp a b c d=>exact absurd rfl (hs _ _ _ _)
   | SetComp a b c d=>exact bj (show (none:Option E)=some _ from h)
   | DictComp a b c d e=>exact bj (show (none:Option E)=some _ from h)
   | _=>rfl
end
end Sv
namespace Ev
open PySem PySem.Spec PyProof.Rows L2
theorem tf {X:Cx} {gT:TG} {y:Str} {py spos:Pos} {elt tg iter:Expr} {ifs:List Expr} {scope:Scope} {N:List Str} {caps:List (Option Nat)} {pos:Pos} {wi:TI} {In:TG->TT->TE->Prop} (hT:PG X (.Name y py) gT) (hc:X.calm=true) (c:kR X scope N caps) (hi:PI X tg iter wi)
   (hs:∀ x,foldedSetIterable iter X.env x=pure x)
   (hin:∀ g tt te,In g tt te->∀ s H fp,PG (aH X s H scope N fp) tg g/\PTs (aH X s H scope N fp) ifs tt/\PE (aH X s H scope N fp) elt te)
   (hsw:swapsWith (.ListComp elt [⟨tg,iter,ifs,0⟩] scope pos) (some (.Name y py)) spos.line X.env=pure true) :
   PS X (.Assign [.Name y py] (.ListComp elt [⟨tg,iter,ifs,0⟩] scope pos) spos) (n9 (mq In caps wi) gT):=by
 intro pins s σ H D I h
 rw [exec_Assign_Name_used _ _ _ _ hsw]
 refine wpAny_bind (wpAny_standAt (wpAny_bind ?_))
 show wpAny _ _ (do let _ <- comprehension (.ListComp elt [⟨tg,iter,ifs,0⟩] scope pos) scope X.env _ (newList []) false _ (some (assign (.Name y py) X.env))) _ _ s
 refine wpAny_bind ?_
 have hcl:=ym (j2 I c)
 refine wpAny_comprehension_free (use:=some (assign (.Name y py) X.env)) (Q:=λ_ s'=>wpAny (model X.prog X.w) X.A (pure ()) (λ_ s''=>wpAny (model X.prog X.w) X.A (pure Flow.next) (SP X pins D) X.xe s'') X.xe s') (g:=⟨tg,iter,ifs,0⟩) (gs:=[]) rfl hs hcl c.kind c.loc ?_
 show wpAny _ _ (eval iter X.env) _ _ s
 refine thn (hi pins s σ H _ I h) λv s1 h1=>thn h1 λitv s2 h2=>?_
 obtain ⟨it,fp,tn,J,H2,e,I2,T,st2,f2,g,tt,te,hI,q⟩:=h2
 subst e
 obtain ⟨Z,⟨m0,z0⟩,turn⟩:=q s2.heap.objs.size (I2.hok.fresh (Nat.le_refl _))
 have ho:∀ b ∈ fp,∃ o,s2.heap.get? b=some o:=λb hb=>let ⟨o,e,_⟩:=T.obj _ _ st2 b hb; ⟨o,e⟩
 have I4:=ug (scope:=scope) (N:=N) (caps:=caps) I2 f2 ho c
 obtain ⟨hg,ht,he⟩:=hin g tt te hI s2 H2 fp
 refine wpAny_newObj_type (p9 ?_) (by show 0<=sizeLine; decide)
 have hC:(s2.heap.push { cls:=.type "list",dict:=none,data:=.seq ([]:List Value).toArray }).objs.size=s2.heap.objs.size + 1:=Heap.size_push ..
 dsimp only
 rw [hC]
 have kp:∀ b o,s2.heap.get? b=some o->(pushCells ((s2.heap.push { cls:=.type "list",data:=.seq ([]:List Value).toArray }).push { cls:=.type "dict",data:=.dict #[] }) scope.names).get? b=some o:=λb o e=>
   pushCells_keeps _ _ b o (Heap.get?_push_of_some _ (Heap.get?_push_of_some _ e))
 have st4:tn 0 (pushCells ((s2.heap.push { cls:=.type "list",data:=.seq ([]:List Value).toArray }).push { cls:=.type "dict",data:=.dict #[] }) scope.names):=T.keep _ _ _ st2 λb _ o e=>kp b o e
 have stat:∀ {H':Hp},(∀ b ∈ fp,H' b=none)->∀ b ∈ fp,pS (aH X s2 H2 scope N fp) [] H' b:=λhn b hb=>
   ⟨hn b hb,(I4.ok.exf b hb).1,I4.ok.exfs b hb,.inl hb,(I4.ok.exf b hb).2,λp hp=>absurd (show p ∈ ([]:List (Addr × Obj)) from hp) (by simp)⟩
 have fr4:∀ b ∈ fp,(upd H2 s2.heap.objs.size (.lst [])) b=none:=λb hb=>by
   obtain ⟨o,e⟩:=ho b hb
   rw [ar (Nat.ne_of_lt (Heap.lt_size e))]; exact (f2 b hb).1
 have loop:codeAny (model X.prog X.w) X.A (.compLoop (.ListComp elt [⟨tg,iter,ifs,0⟩] scope pos) 0 (.ref it) (.ref s2.heap.objs.size) (aH X s2 H2 scope N fp).env)
     (compPost (model X.prog X.w) X.A X.xe (some (assign (.Name y py) X.env)) (λ_ s'=>wpAny (model X.prog X.w) X.A (pure ()) (λ_ s''=>wpAny (model X.prog X.w) X.A (pure Flow.next) (SP X pins D) X.xe s'') X.xe s') (.ref s2.heap.objs.size) (s2.heap.objs.size + 1))
     { s2 with heap:=pushCells ((s2.heap.push { cls:=.type "list",data:=.seq ([]:List Value).toArray }).push { cls:=.type "dict",data:=.dict #[] }) scope.names }:=by
   refine oy (λn s'=>∃ i σ' H',Inv (aH X s2 H2 scope N fp) [] σ' H' s'/\tn i s'.heap/\(∀ b ∈ fp,H' b=none)/\Z i n σ' H') ?_ m0 ⟨0,_,_,I4,st4,fr4,z0⟩
   rintro n s3 ⟨i,σ3,H3,I3,st3,fr3,w3⟩
   rcases turn i n σ3 H3 w3 with ⟨stop,qn⟩ | ⟨go,step⟩
   · refine thn (T.done (aH X s2 H2 scope N fp) rfl rfl rfl hc i [] s3 σ3 H3 _ I3 (stat fr3) st3 stop) λr s5 ⟨hr,I5⟩=>?_
     subst hr
     obtain ⟨m,hn,_⟩:=id I5.loc
     have I6:Inv X pins σ H3 s5:=by
       have lt:∀ b o,s2.heap.get? b=some o->b ≠ s2.heap.objs.size + 1:=λb o e=>Nat.ne_of_lt (Nat.lt_succ_of_lt (Heap.lt_size e))
       have u:=I5.base
       have u':Un (frs X.stack) fp H2 H3 s2.heap s5.heap:=⟨λb o e n1 n2 n3=>u.keep b o e n1 n2 n3,λb o e n1 n2 n3=>u.slot b o e n1 n2 n3,u.free,λb o e n1=>u.there b o e n1,u.tups,u.frzs,u.tbls⟩
       exact I2.E4 (s':=s5) I5.os u' I5.hok I5.bare λb hb=>⟨(f2 b hb).2.2.2.1,(f2 b hb).2.1,(f2 b hb).2.2.2.2.1,(f2 b hb).2.2.2.2.2⟩
     have fC:H3 (s2.heap.objs.size + 1)=none:=I5.free
     have fk:pS X pins H3 (s2.heap.objs.size + 1):=I2.sj (Nat.le_succ _) fC
     obtain ⟨oC,es,ep,hoC,hdC,rC⟩:=id hn
     have hpin:=I6.pinned (fp:=[s2.heap.objs.size + 1]) (λb hb=>by rw [List.mem_singleton.mp hb]; exact fk) (λb hb=>by rw [List.mem_singleton.mp hb]; exact ⟨oC,hoC,λv z=>by rw [hdC] at z; cases z⟩)
     have hmem:(s2.heap.objs.size + 1,oC) ∈ j4 [s2.heap.objs.size + 1] s5.heap:=dC (List.mem_singleton_self _) hoC
     refine thn (hT _ s5 σ H3 (.ref s2.heap.objs.size) (.ref s2.heap.objs.size) _ hpin rfl qn) λ_ s6 ⟨σ6,H6,I7,q7⟩=>?_
     obtain ⟨p1,p2,p3,p4,p5⟩:=I7.pin _ (List.mem_append_right _ (List.mem_append_right _ hmem))
     refine ⟨m,⟨oC,es,ep,p1,hdC,rC⟩,λh' sb=>wpAny_pure (wpAny_pure ?_)⟩
     refine ⟨σ6,H6,?_,q7⟩
     exact (I7.gO).turned (t':=s6.toks) (it:=s2.heap.objs.size + 1) (λb o hb e=>(sb.2 b hb).trans e) p2 p3 fk.2.2.2.1 fk.2.2.2.2.1 fk.2.2.2.2.2
   · refine thn (T.item (aH X s2 H2 scope N fp) rfl rfl rfl hc i [] s3 σ3 H3 _ I3 (stat fr3) st3 go) λr s4 ⟨u,hr,h4⟩=>?_
     subst hr
     refine thn h4 λ_ s5 ⟨x,H5,I5,r5,y5,st5,fr5⟩=>?_
     have I5':=I5.pinned (stat fr5) (T.obj _ _ st5)
     refine thn (hg _ s5 σ3 H5 x u _ I5' r5 (step x H5 y5)) λ_ s6 ⟨σ6,H6,I6,q6⟩=>?_
     have again:∀ {s7:Shared} {σ7:L2.St} {H7:Hp} {m':Nat},Inv (aH X s2 H2 scope N fp) ([]++j4 fp s5.heap) σ7 H7 s7->m' < n->Z (i + 1) m' σ7 H7 ->
         ∃ m,m < n/\∃ i σ' H',Inv (aH X s2 H2 scope N fp) [] σ' H' s7/\tn i s7.heap/\(∀ b ∈ fp,H' b=none)/\Z i m σ' H':=λ{s7 σ7 H7 m'} I7 hm z7=>by
       refine ⟨m',hm,i + 1,σ7,H7,I7.gO,T.keep _ _ _ st5 λb hb o e=>(I7.pin (b,o) (List.mem_append_right _ (List.mem_append_right _ (dC hb e)))).1,λb hb=>?_,z7⟩
       obtain ⟨o,e,d⟩:=T.obj _ _ st5 b hb
       exact (I7.pin (b,o) (List.mem_append_right _ (List.mem_append_right _ (dC hb e)))).2.1
     refine thn (ht _ s6 σ6 H6 _ I6 q6) λok s7 ⟨H7,I7,q7⟩=>?_
     cases ok with
     | false=>
       rw [if_neg (by decide)] at q7
       obtain ⟨m',hm,z7⟩:=q7
       exact again I7 hm z7
     | true=>
       rw [if_pos rfl] at q7
       refine thn (he _ s7 σ6 H7 _ I7 q7) λv' s8 ⟨v,H8,I8,r8,vs,m',q8,l8,hm,z8⟩=>?_
       refine thn (lZ (X:=aH X s2 H2 scope N fp) _ s8 σ6 H8 (.ref s2.heap.objs.size) [v] (.ref s2.heap.objs.size) [v'] (λ_ H9=>H9=upd H8 s2.heap.objs.size (.lst (vs++[v]))) I8 rfl (.cons r8 .nil) ⟨_,vs,v,rfl,rfl,q8,l8,rfl⟩) λ_ s9 ⟨_,H9,I9,_,e9⟩=>?_
       subst e9
       exact again I9 hm z8
 exact codeAny_compStart_list loop (T.self _ 0 _ _ _ st4 loop)
end Ev
namespace Sv
open PySem PySem.Spec PyProof.Rows L2
open Ev (D aA aK ae jd iW dj slot slot_get gA jH lN tf mq PTs aH)
section
variable {Φ:Fn} {cl:Nat->Addr} {CX:CXT} {k:Nat}
structure JH (X:Cx) (T:Tr) (Φ:Fn) (cl:Nat->Addr) (Ex:Nat->Hp->Prop) (m n:Nat):Prop where
 s:∀ ps s,trS T n ps=some s->PS X ps (lS (zt X cl) Φ Ex m s)
 ss:∀ ps s,tT T n ps=some s->PSs X ps (lSs (zt X cl) Φ Ex m s)
theorem AL {tg e:Expr} (h:su e=true\/isNm tg=true) (env:PySem.Env):swappedStores [tg] e env=pure none:=by
 cases tg with
 | Tuple a b c=>
   rcases h with h | h
   · cases e <;> first | rfl | cases h
   · cases h
 | List a b=>
   rcases h with h | h
   · cases e <;> first | rfl | cases h
   · cases h
 | _=>rfl
theorem yP {X:Cx} {T:Tr} {Ex:Nat->Hp->Prop} {n:Nat} (B:Bg X T Φ cl CX Ex k) {elt tg iter:Expr} {ifs:List Expr} {scope:Scope} {pos:Pos} {e:E} {y:Str} {py spos:Pos} {t:Tg} {m:Nat} {asy:Int} (hT:kO T (.Name y py)=some t)
   (he:trE T n (.ListComp elt [⟨tg,iter,ifs,asy⟩] scope pos)=some e) (hsw:swapsWith (.ListComp elt [⟨tg,iter,ifs,asy⟩] scope pos) (some (.Name y py)) spos.line X.env=pure true) :
   PS X (.Assign [.Name y py] (.ListComp elt [⟨tg,iter,ifs,asy⟩] scope pos) spos) (lS (zt X cl) Φ Ex m (.set t e)):=by
 have hasg:=nV B hT
 cases n with
 | zero=>rw [trE] at he; cases he
 | succ n=>
   simp only [trE,stE.eq_def] at he
   split at he
   · rename_i hb0
     obtain ⟨rfl,hb⟩:=hb0
     simp only [Option.bind_eq_some_iff] at he
     obtain ⟨t',h1,it,h2,fs,h3,e',h4,h5⟩:=he
     split at h5
     · rename_i ho
       cases h5
       have b:=ue hb
       have S:=ip n B
       obtain ⟨hi,hs⟩:=S.i tg iter it h2 ho
       refine PS.wk (tf (In:=λg tt te=>g=lG (zt X cl) t'/\tt=lIf (zt X cl) Φ (λ_ _=>False) fs/\te=lE (zt X cl) Φ (λ_ _=>False) e') hasg B.calm (Ct B b) hi hs ?_ hsw) ?_
       · rintro g tt te ⟨rfl,rfl,rfl⟩ s H fp
         have B':=A5 B b s H fp
         have S':=ip n B'
         exact ⟨nV B' h1,S'.f _ _ h3,(S'.e _ _ h4).1⟩
       · rintro D σ H ⟨m,st,ρ,r,en,h⟩
         simp only [xS] at h
         have key:lE (zt X cl) Φ Ex (.comp (fN T scope) t' it fs e') σ H (λx H1=>lG (zt X cl) t x σ H1 D.nx):=by
           refine dN r en h λx st1 m1 H1 v g1 r1 en1 dv q1=>?_
           split at q1
           · rename_i ρ' hset
             exact ⟨m1,st1,ρ,x,ρ',r1,en1,dv,hset,λσ' en'=>q1 m1 H1 σ' (Go.refl _ _) r1 en'⟩
           · exact q1.elim
         exact xt h1 σ H _ key
     · cases h5
   · cases he
theorem jy {T:Tr} {n:Nat} {o:Expr} {o':E} {m:Str} (h:trE T n o=some o') (env:PySem.Env) (w:Sem Value):attributeBase o m env w=w:=by
 cases n with
 | zero=>rw [trE] at h; cases h
 | succ n=>
   cases o with
   | Call f es ks pos=>
     cases f with
     | Name x p=>
       cases es with
       | cons e0 es0=>rfl
       | nil=>
         cases ks with
         | cons k ks=>rfl
         | nil=>exact bj (show (none:Option E)=some _ from h)
     | _=>rfl
   | _=>rfl
theorem qS {Z:Zt} {m:List Addr} {H:Hp} {D:Ends} {Ex:Nat->Hp->Prop} {o:Option Sto} {ρ:Env} (h:PoF Z Ex m H D (ofS o ρ)):∃ st',o=some st'/\∀ m' H' σ',Go m H m' H'->R Z m' st' H'->bB Z m' H' σ' ρ->D.nx σ' H':=by
 cases o with
 | none=>exact h.elim
 | some st'=>exact ⟨st',rfl,h⟩
theorem rH (m:Nat):∀ (n:Nat) {X:Cx} {T:Tr} {Ex:Nat->Hp->Prop},Bg X T Φ cl CX Ex k->JH X T Φ cl Ex m n
 | 0,X,T,Ex,B=>⟨(λ_ _ h=>by exact bj (show (none:Option Sv.S)=some _ from h)),(λ_ _ h=>by simp [tT] at h)⟩
 | n + 1,X,T,Ex,B=>by
   have S:=rH m n B
   have Z:=ip n B
   refine ⟨?_,?_⟩
   case refine_2=>
     intro ps s h
     cases ps with
     | nil=>
       simp only [tT,Option.some.injEq] at h
       subst h
       refine PSs.wk D5 ?_
       rintro D σ H ⟨m,st,ρ,r,en,q⟩
       simp only [xSs] at q
       exact q m H σ (Go.refl m H) r en
     | cons p ps=>
       simp only [tT,Option.bind_eq_some_iff,Option.some.injEq] at h
       obtain ⟨s',h1,ss',h2,rfl⟩:=h
       refine PSs.wk (eR (S.s _ _ h1) (S.ss _ _ h2)) ?_
       rintro D σ H ⟨m,st,ρ,r,en,q⟩
       simp only [xSs] at q
       refine ⟨m,st,ρ,r,en,ao (aw q) (λ_ _ z=>z) λf st1 _ hf=>?_⟩
       cases f with
       | nx ρ'=>exact λm1 H1 σ1 g1 r1 en1=>⟨m1,st1,ρ',r1,en1,PoF.sh hf g1⟩
       | rt d=>exact hf
   case refine_1=>
     intro ps s h
     cases ps with
     | Assign ts e pos=>
       match ts with
       | []=>exact bj (show (none:Option Sv.S)=some _ from h)
       | t :: t2 :: rs=>cases t <;> exact bj (show (none:Option Sv.S)=some _ from h)
       | [tg]=>
         have gen:(∀ a i p,tg ≠ .Subscript a i p)->PS X (.Assign [tg] e pos) (lS (zt X cl) Φ Ex m s):=by
           intro hns
           have h':(if su e=true\/isNm tg=true then (kO T tg).bind λt=>(trE T n e).bind λe'=>some (.set t e') else none)=some s:=by
             cases tg <;> first | (simpa only [trS,stS.eq_def] using h) | exact absurd rfl (hns _ _ _)
           split at h'
           · rename_i hnt
             simp only [Option.bind_eq_some_iff,Option.some.injEq] at h'
             obtain ⟨t,h1,e',h3,rfl⟩:=h'
             have rd:∀ D σ H,lS (zt X cl) Φ Ex m (.set t e') D σ H->n9 (lE (zt X cl) Φ Ex e') (lG (zt X cl) t) D σ H:=by
               rintro D σ H ⟨m,st,ρ,r,en,q⟩
               simp only [xS] at q
               refine dN r en q λx st1 m1 H1 v g1 r1 en1 dv q1=>?_
               split at q1
               · rename_i ρ' hset
                 exact ⟨m1,st1,ρ,x,ρ',r1,en1,dv,hset,λσ' en'=>q1 m1 H1 σ' (Go.refl _ _) r1 en'⟩
               · exact q1.elim
             have ord:swapsWithSole [tg] e pos.line X.env=pure false->PS X (.Assign [tg] e pos) (lS (zt X cl) Φ Ex m (.set t e')):=λhsw=>by
               refine PS.wk (Bp (Z.e _ _ h3).1 (nV B h1) hsw (AL hnt _) ?_) rd
               cases tg <;> first | rfl | (simp [kO] at h1)
             by_cases hl:∃ a b c d,e=.ListComp a b c d
             · obtain ⟨elt,gens,sc,lp,rfl⟩:=hl
               match gens,h3 with
               | [⟨tg',iter,ifs,asy⟩],h3=>
                 cases tg with
                 | Name y py=>
                   have hb:∃ b,swapsWith (.ListComp elt [⟨tg',iter,ifs,asy⟩] sc lp) (some (.Name y py)) pos.line X.env=pure b:=⟨_,rfl⟩
                   obtain ⟨b,hb⟩:=hb
                   cases b with
                   | true=>exact yP B h1 h3 hb
                   | false=>exact ord hb
                 | Tuple _ _ _=>exact ord rfl
                 | _=>simp [kO] at h1
               | [],h3=>cases n <;> exact bj (show (none:Option E)=some _ from h3)
               | ⟨_,_,_,_⟩ :: _ :: _,h3=>cases n <;> exact bj (show (none:Option E)=some _ from h3)
             · exact ord (Ei h3 _ _ _ λa b c d z=>hl ⟨a,b,c,d,z⟩)
           · cases h'
         cases tg with
         | Subscript a i p=>
           simp only [trS,stS.eq_def] at h
           split at h
           · rename_i hnt
             simp only [Option.bind_eq_some_iff,Option.some.injEq] at h
             obtain ⟨e',h1,a',h2,i',h3,rfl⟩:=h
             have hsw:swapsWithSole [.Subscript a i p] e pos.line X.env=pure false:=by cases e <;> rfl
             have hns:∀ l u st q,i ≠ .Slice l u st q:=by
               rintro l u st q rfl
               cases n <;> exact bj (show (none:Option E)=some _ from h3)
             refine PS.wk (Bp (Z.e _ _ h1).1 (FY (Z.e _ _ h2).1 (Z.e _ _ h3).1 (Eu (cl:=cl)) (λv=>by cases i <;> first | rfl | exact absurd rfl (hns _ _ _ _))) hsw (by cases e <;> rfl) rfl) ?_
             rintro D σ H ⟨m,st,ρ,r,en,q⟩
             simp only [xS] at q
             refine dN r en q λz st1 m1 H1 w g1 r1 en1 dw q1=>dN r1 en1 q1 λx st2 m2 H2 v g2 r2 en2 dv q2=>dN r2 en2 q2 λy st3 m3 H3 u g3 r3 en3 du q3=>?_
             obtain ⟨st',e1,q4⟩:=qS q3
             exact ⟨m3,st3,x,y,z,r3,dv.mono g3,du,dw.mono (g2.trans g3),st',e1,λH' g' r'=>q4 m3 H' σ g' r' (en3.mono g')⟩
           · cases h
         | _=>exact gen (λ_ _ _ z=>nomatch z)
     | Return v pos=>
       cases v with
       | none=>exact bj (show (none:Option Sv.S)=some _ from h)
       | some e=>
         simp only [trS,stS.eq_def,Option.bind_eq_some_iff,Option.some.injEq] at h
         obtain ⟨e',h1,rfl⟩:=h
         refine PS.wk (AY (Z.e _ _ h1).1) ?_
         rintro D σ H ⟨m,st,ρ,r,en,q⟩
         simp only [xS] at q
         exact dN r en q λx st1 m1 H1 v g1 r1 en1 dv q1=>q1 m1 H1 v (Go.refl _ _) r1 dv
     | If c a b pos=>
       simp only [trS,stS.eq_def,Option.bind_eq_some_iff,Option.some.injEq] at h
       obtain ⟨c',h1,a',h2,b',h3,rfl⟩:=h
       refine PS.wk (EE (Z.e _ _ h1).2 (S.ss _ _ h2) (S.ss _ _ h3)) ?_
       rintro D σ H ⟨m,st,ρ,r,en,q⟩
       simp only [xS] at q
       refine xg r en q (λx st hx=>by cases x <;> first | rfl | exact absurd rfl (hx _)) λb st1 m1 H1 g1 r1 en1 q1=>?_
       cases b with
       | true=>exact pE ⟨m1,st1,ρ,r1,en1,q1⟩
       | false=>exact pq ⟨m1,st1,ρ,r1,en1,q1⟩
     | For tg it body orelse pos=>
       cases orelse with
       | cons a r=>exact bj (show (none:Option Sv.S)=some _ from h)
       | nil=>
         simp only [trS,stS.eq_def,Option.bind_eq_some_iff] at h
         obtain ⟨t,h1,it',h2,b',h3,h4⟩:=h
         split at h4
         · rename_i ho
           cases h4
           have BN:=B.nox
           have ZN:=ip n BN
           have SN:=rH m n BN
           obtain ⟨hi,hs⟩:=ZN.i tg it it' h2 ho
           refine PS.wk (PS.nox (rQ PassesOwn.never B.calm hi (nV BN h1) (SN.ss _ _ h3) hs)) ?_
           rintro D σ H ⟨m0,st,ρ,r,en,q⟩
           simp only [xS] at q
           have q:=aw (oP q)
           refine ⟨m0,st,ρ,r,en,ao q (λ_ _ z=>z.elim) λsq st1 _ hq J m1 H1 g1 r1 yl=>?_⟩
           generalize hf:(λ(x:U) (ρ':Env) (st':Sto)=>match fM t x ρ' with | some ρ2=>xSs Φ m b' ρ2 st' | none=>(Rs.bad:Rs Fl))=f at hq
           refine ⟨λi n σ' H'=>∃ m' st' ρ',R (zt X cl) m' st' H'/\bB (zt X cl) m' H' σ' ρ'/\Go m1 H1 m' H'/\post (λ_ _=>False) (kF (zt X cl) m' H' D) (loop f sq n i ρ' st'),⟨sq.len st1 + 1,m1,st1,ρ,r1,en.mono g1,Go.refl _ _,ao hq (λ_ _ z=>z) λa s _=>kF.sh g1 a s⟩,?_⟩
           rintro i n σ' H' ⟨m',st',ρ',r',en',g',hc⟩
           cases n with
           | zero=>exact hc.elim
           | succ n=>
             rw [loop] at hc
             have yi:=yl m' st' H' g' r' i
             split at hc
             · exact hc.elim
             · rename_i hat
               rw [hat] at yi
               exact .inl ⟨yi,hc m' H' σ' (Go.refl _ _) r' en'⟩
             · rename_i x hat
               rw [hat] at yi
               refine .inr ⟨yi.1,λσ3 H3=>∃ n',n' < n + 1/\∃ m' st' ρ',R (zt X cl) m' st' H3/\bB (zt X cl) m' H3 σ3 ρ'/\Go m1 H1 m' H3/\post (λ_ _=>False) (kF (zt X cl) m' H3 D) (loop f sq n' (i + 1) ρ' st'),λ_ _ z=>z,λv H2 hy=>?_⟩
               obtain ⟨g2,r2,dv⟩:=yi.2 v H2 hy
               have hc:=aw hc
               subst hf
               dsimp only at hc
               split at hc
               · rename_i ρ2 hset
                 refine ⟨m',st',ρ',x,ρ2,r2,en'.mono g2,dv,hset,λσ2 en2=>⟨m',st',ρ2,r2,en2,ao hc (λ_ _ z=>z.elim) λfl st3 _ hfl=>?_⟩⟩
                 cases fl with
                 | nx ρ3=>exact λm3 H3 σ3 g3 r3 en3=>⟨n,Nat.lt_succ_self n,m3,st3,ρ3,r3,en3,g'.trans (g2.trans g3),ao hfl (λ_ _ z=>z) λa s _=>kF.sh (g2.trans g3) a s⟩
                 | rt d=>exact λm3 H3 v3 g3 r3 d3=>hfl m3 H3 v3 (g2.trans g3) r3 d3
               · exact hc.elim
         · cases h4
     | While c body orelse pos=>
       cases orelse with
       | cons a r=>exact bj (show (none:Option Sv.S)=some _ from h)
       | nil=>
         simp only [trS,stS.eq_def,Option.bind_eq_some_iff,Option.some.injEq] at h
         obtain ⟨c',h1,b',h3,rfl⟩:=h
         have BN:=B.nox
         have ZN:=ip n BN
         have SN:=rH m n BN
         refine PS.wk (PS.nox (Ar PassesOwn.never (ZN.e _ _ h1).2 (SN.ss _ _ h3))) ?_
         rintro D σ H ⟨m0,st,ρ,r,en,q⟩
         simp only [xS] at q
         have q:PoF (zt X cl) (λ_ _=>False) m0 H D _:=ao (oP q) (λ_ _ z=>z.elim) λ_ _ _ z=>z
         refine ⟨λj σ H=>∃ m' st' ρ',R (zt X cl) m' st' H/\bB (zt X cl) m' H σ ρ'/\PoF (zt X cl) (λ_ _=>False) m' H D (nE (λρ' st'=>xE Φ c' ρ' st') (λρ' st'=>xSs Φ m b' ρ' st') j ρ' st'),⟨m,m0,st,ρ,r,en,q⟩,?_⟩
         rintro j σ' H' ⟨m',st',ρ',r',en',hc⟩
         cases j with
         | zero=>exact hc.elim
         | succ j=>
           rw [nE] at hc
           refine xg r' en' hc (λx st hx=>by cases x <;> first | rfl | exact absurd rfl (hx _)) λb st1 m1 H1 g1 r1 en1 q1=>?_
           cases b with
           | false=>exact pq (q1 m1 H1 σ' (Go.refl _ _) r1 en1)
           | true=>
             refine pE ⟨λσ' H'=>∃ n',n' < j + 1/\∃ m' st' ρ',R (zt X cl) m' st' H'/\bB (zt X cl) m' H' σ' ρ'/\PoF (zt X cl) (λ_ _=>False) m' H' D (nE (λρ' st'=>xE Φ c' ρ' st') (λρ' st'=>xSs Φ m b' ρ' st') n' ρ' st'),λ_ _ z=>z,m1,st1,ρ',r1,en1,?_⟩
             refine ao (aw q1) (λ_ _ z=>z) λfl st3 _ hfl=>?_
             cases fl with
             | nx ρ3=>exact λm3 H3 σ3 g3 r3 en3=>⟨j,Nat.lt_succ_self j,m3,st3,ρ3,r3,en3,PoF.sh hfl g3⟩
             | rt d=>exact hfl
     | Expr v pos=>
       cases v with
       | Call f es ks cpos=>
         cases f with
         | Name x p=>
           simp only [trS,stS.eq_def,Option.bind_eq_some_iff,Option.some.injEq] at h
           obtain ⟨e',h1,rfl⟩:=h
           refine PS.wk (k7 (Z.e _ _ h1).1 rfl) ?_
           rintro D σ H ⟨m,st,ρ,r,en,q⟩
           simp only [xS] at q
           exact dN r en q λx st1 m1 H1 v g1 r1 en1 dv q1=>q1 m1 H1 σ (Go.refl _ _) r1 en1
         | Attribute o mm apos=>
           cases ks with
           | cons a r=>exact bj (show (none:Option Sv.S)=some _ from h)
           | nil=>
             simp only [trS,stS.eq_def] at h
             split at h
             · rename_i hline
               split at h
               · rename_i a b hr
                 obtain ⟨rfl,g,p,p2,ap,cp,rfl,rfl,hl2⟩:=A9 hr
                 simp only [Option.bind_eq_some_iff] at h
                 obtain ⟨o',h1,a',h2,b',h3,h⟩:=h
                 split at h
                 · rename_i hv
                   cases h
                   have h1':trE T n (.Name g p2)=some o':=by rw [<- h1]; cases n <;> rfl
                   have sb:starEach [b] X.env=[(false,eval b X.env)]:=bL h3 [] _
                   have sa:∀ x,starEach (a :: x) X.env=(false,eval a X.env) :: starEach x X.env:=λx=>bL h2 x _
                   have pp:=AI (apos:=ap) (cpos:=cp) PySem.F.plainAttrs_list PySem.F.slot_list_pop PySem.F.type_list_pop Ac (Z.e _ _ h1').1 (bU (Z.e _ _ h3).1 fD sb) (jy h1' _ _) (by rw [sb]; rfl) hl2 sb rfl
                   refine PS.wk (k7 (AI PySem.F.plainAttrs_list PySem.F.slot_list_insert PySem.F.type_list_insert yL (Z.e _ _ h1).1 (bU (Z.e _ _ h2).1 (bU pp fD rfl) (sa _)) (jy h1 _ _) (by rw [sa]; rfl) hline (sa _) rfl) rfl) ?_
                   rintro D σ H ⟨m,st,ρ,r,en,q⟩
                   cases o' with
                   | var i=>
                     simp only [xS,xEs] at q
                     have as:∀ {α β γ:Type} (x:Rs α) (f:α->Sto->Rs β) (g:β->Sto->Rs γ),(x.bind f).bind g=x.bind λy s=>(f y s).bind g:=λx f g=>by cases x <;> rfl
                     have xv:∀ st,xE Φ (.var i) ρ st=l7 ρ i st:=λst=>by rw [xE]
                     rw [xv,l7] at q
                     split at q
                     · rename_i d hρ
                       have lv:∀ {m:List Addr} {st:Sto} {H:Hp} {Q1:VK},R (zt X cl) m st H->bB (zt X cl) m H σ ρ->(∀ m1 H1 v,Go m H m1 H1->R (zt X cl) m1 st H1->aT (zt X cl) m1 H1 v d->Q1 v H1)->lE (zt X cl) Φ Ex (.var i) σ H Q1:=λ{m st H Q1} r en k=>⟨m,st,ρ,r,en,by rw [xv,l7,hρ]; exact k⟩
                       refine lv r en λm1 H1 v g1 r1 dv=>?_
                       have q1:=PoF.sh q g1
                       have en1:=en.mono g1
                       cases d with
                       | loc l=>
                         rw [Rs.aa] at q1
                         dsimp only at q1
                         split at q1
                         · obtain ⟨a0,rfl,hl⟩:=fP dv
                           obtain ⟨fz,ds,vs,_,ly,_⟩:=r1.loc hl
                           refine ⟨.inl ⟨rfl,_,ly.sq⟩,?_⟩
                           rw [as] at q1
                           refine dN r1 en1 q1 λxa st2 m2 H2 va g2 r2 en2 da q2=>?_
                           refine lv r2 en2 λm3 H3 v3 g3 r3 dv3=>?_
                           have en3:=en2.mono g3
                           obtain ⟨a3,rfl,hl3⟩:=fP dv3
                           obtain ⟨fz3,ds3,vs3,_,ly3,_⟩:=r3.loc hl3
                           refine ⟨.inl ⟨rfl,_,ly3.sq⟩,?_⟩
                           have q3:=PoF.sh q2 g3
                           rw [as,as] at q3
                           refine dN r3 en3 q3 λxb st4 m4 H4 vb g4 r4 en4 db q4=>?_
                           obtain ⟨st',e1,q5⟩:=qS (o:=evM .rot (.loc l) [xa,xb] st4) (ρ:=ρ) q4
                           match xa,xb,e1,da,db with
                           | .int i0,.int j0,e1,da,db=>
                             simp only [evM.eq_def] at e1
                             split at e1
                             · rename_i xs hs
                               split at e1
                               · rename_i hc
                                 obtain ⟨x,hx,rfl⟩:=Option.map_eq_some_iff.mp e1
                                 obtain ⟨p',ws,hp',f1,f2,f3⟩:=qM r4 (dv3.mono g4) hs
                                 cases hp'
                                 have l3:=f3.length
                                 obtain ⟨y,hy,dy⟩:=f3.get hx
                                 cases da
                                 cases db
                                 have e0:a0=a3:=by
                                   have z1:=(dv.mono (g2.trans g3))
                                   obtain ⟨b1,hb1,hb2⟩:=fP z1
                                   cases hb1
                                   rw [hl3] at hb2
                                   cases hb2
                                   rfl
                                 subst e0
                                 have hm:=Ev.cO
                                 have l62:ae < 2 ^ 62:=by decide
                                 obtain ⟨g',r'⟩:=r4.put f1 hs ((f3.erase j0.toNat).insert i0.toNat dy)
                                 have le:(ws.eraseIdx j0.toNat).length=ws.length - 1:=by rw [List.length_eraseIdx,if_pos (by omega)]
                                 refine ⟨a0,ws,j0,j0.toNat,y,rfl,rfl,f2,by omega,by omega,?_,hy,?_⟩
                                 · exact seqIndex_of hc.2.2.2.1 (by omega)
                                 · refine ⟨a0,ws.eraseIdx j0.toNat,i0,y,rfl,rfl,aW,hc.2.1,by omega,by omega,?_⟩
                                   rw [CZ]
                                   exact q5 m4 _ σ g' r' (en4.mono g')
                               · cases e1
                             · cases e1
                         · exact q1.elim
                       | _=>exact q1.elim
                     · exact q.elim
                   | _=>cases hv
                 · cases h
               simp only [Option.bind_eq_some_iff,Option.some.injEq] at h
               obtain ⟨lm,h0,o',h1,es',h2,rfl⟩:=h
               have hbase:attributeBase o mm X.env (eval o X.env)=eval o X.env:=jy h1 _ _
               have rd0:es'=[]->∀ D σ H,lS (zt X cl) Φ Ex m (.mth lm o' es') D σ H->BC (Hy X.K "list" (rM (zt X cl) lm) (lE (zt X cl) Φ Ex o')) D σ H:=by
                 rintro he D σ H ⟨m,st,ρ,r,en,q⟩
                 subst he
                 simp only [xS] at q
                 refine dN r en q λx st1 m1 H1 v g1 r1 en1 dv q1=>?_
                 match x,q1 with
                 | .loc l,q1=>
                   dsimp only at q1
                   split at q1
                   · simp only [xEs,Rs.aa] at q1
                     obtain ⟨st',e1,q4⟩:=qS q1
                     obtain ⟨a,rfl,hl⟩:=fP dv
                     obtain ⟨fz,ds,vs,_,ly,_⟩:=r1.loc hl
                     exact ⟨.inl ⟨rfl,_,ly.sq⟩,m1,st1,.loc l,[],st',r1,dv,.nil,e1,λv' H' g' r'=>q4 m1 H' σ g' r' (en1.mono g')⟩
                   · exact q1.elim
               have rd1:∀ D σ H,lS (zt X cl) Φ Ex m (.mth lm o' es') D σ H->BC (tBM X.K "list" (rM (zt X cl) lm) (lE (zt X cl) Φ Ex o') (lEs (zt X cl) Φ Ex es')) D σ H:=by
                 rintro D σ H ⟨m,st,ρ,r,en,q⟩
                 simp only [xS] at q
                 refine dN r en q λx st1 m1 H1 v g1 r1 en1 dv q1=>?_
                 match x,q1 with
                 | .loc l,q1=>
                   dsimp only at q1
                   split at q1
                   · obtain ⟨a,rfl,hl⟩:=fP dv
                     obtain ⟨fz,ds,vs,_,ly,_⟩:=r1.loc hl
                     refine ⟨.inl ⟨rfl,_,ly.sq⟩,zU r1 en1 q1 λxs st2 m2 H2 vs g2 r2 en2 dvs q2=>?_⟩
                     obtain ⟨st',e1,q4⟩:=qS q2
                     exact ⟨m2,st2,.loc l,xs,st',r2,dv.mono g2,dvs,e1,λv' H' g' r'=>q4 m2 H' σ g' r' (en2.mono g')⟩
                   · exact q1.elim
               have few1:∀ {e:Expr} {es0:List Expr},es=e :: es0->es0.length<=1->((backTo cpos (starEach es X.env)).all (λx=>!x.1) && (backToKw cpos (keywordEach [] X.env)).all (λx=>x.1.isSome) && decide (es.length + ([]:List Keyword).length + (if ([]:List Keyword).isEmpty then 0 else 1) < 30))=true:=by
                 intro e es0 he hl
                 subst he
                 have t1:=jG h2 X.env
                 have t2:=jo h2 X.env cpos
                 rw [t1]
                 have:(backTo cpos ((false,eval e X.env) :: starEach es0 X.env)).all (λx=>!x.1)=true:=by
                   unfold backTo at t2 ⊢
                   rw [List.map_cons,List.all_cons]
                   rw [Bool.and_eq_true]
                   refine ⟨rfl,?_⟩
                   rw [List.all_eq_true]
                   rw [List.any_eq_false] at t2
                   intro x hx
                   have:=t2 x hx
                   simpa using this
                 rw [this]
                 have:decide ((e :: es0).length + ([]:List Keyword).length + (if ([]:List Keyword).isEmpty then 0 else 1) < 30)=true:=decide_eq_true (by simp only [List.length_cons,List.length_nil,List.isEmpty_nil,if_true]; omega)
                 rw [this]; rfl
               unfold trM at h0
               split at h0
               · rename_i hc
                 obtain ⟨rfl,hn⟩:=hc
                 cases h0
                 match es,hn with
                 | [e],_=>exact PS.wk (k7 (AI PySem.F.plainAttrs_list PySem.F.slot_list_append PySem.F.type_list_append (BL (cl:=cl)) (Z.e _ _ h1).1 (Z.a _ _ h2) hbase (few1 rfl (Nat.zero_le _)) hline (jG h2 _) (jo h2 _ _)) rfl) rd1
               split at h0
               · rename_i hc
                 obtain ⟨rfl,hn⟩:=hc
                 cases h0
                 match es,hn with
                 | [],_=>
                   have he:es'=[]:=by cases n <;> simp only [iu,Option.some.injEq,reduceCtorEq] at h2; exact h2.symm
                   exact PS.wk (k7 (zL PySem.F.plainAttrs_list PySem.F.slot_list_pop PySem.F.type_list_pop (HR (cl:=cl)) (Z.e _ _ h1).1 hbase hline) rfl) (rd0 he)
               split at h0
               · rename_i hc
                 obtain ⟨rfl,hn⟩:=hc
                 cases h0
                 match es,hn with
                 | [],_=>
                   have he:es'=[]:=by cases n <;> simp only [iu,Option.some.injEq,reduceCtorEq] at h2; exact h2.symm
                   exact PS.wk (k7 (zL PySem.F.plainAttrs_list PySem.F.slot_list_clear PySem.F.type_list_clear (Dk (cl:=cl)) (Z.e _ _ h1).1 hbase hline) rfl) (rd0 he)
               cases h0
             · cases h
         | _=>exact bj (show (none:Option Sv.S)=some _ from h)
       | _=>exact bj (show (none:Option Sv.S)=some _ from h)
     | Raise a b pos=>
       simp only [trS,stS.eq_def,Option.some.injEq] at h
       subst h
       refine PS.wk Ah ?_
       rintro D σ H ⟨m,st,ρ,r,en,q⟩
       simp only [xS] at q
       exact q.elim
     | _=>exact bj (show (none:Option Sv.S)=some _ from h)
end
end Sv
namespace Sv
open PySem PySem.Spec PyProof.Rows L2
open Ev (D ae)
theorem y3 {Z:Zt} {m:List Addr} {H:Hp} {N:List Str} {vs:List V} {ds:List U} (dn:aj Z m H vs ds) (hl:ds.length<=N.length) :
   bB Z m H (L2.start N vs) (ds.map some++List.replicate (N.length - ds.length) none):=by
 have lv:=dn.length
 refine ⟨by unfold L2.start; simp only [List.length_append,List.length_map,List.length_replicate]; omega,λi d e=>?_⟩
 by_cases q:i < ds.length
 · rw [List.getElem?_append_left (by rw [List.length_map]; exact q),List.getElem?_map] at e
   cases z:ds[i]? with
   | none=>rw [z] at e; cases e
   | some y=>
     rw [z] at e; cases e
     obtain ⟨v,h1,h2⟩:=dn.get z
     refine ⟨v,?_,h2⟩
     unfold L2.start
     rw [List.getElem?_append_left (by rw [List.length_map]; omega),List.getElem?_map,h1]
     rfl
 · rw [List.getElem?_append_right (by rw [List.length_map]; omega)] at e
   have:=List.mem_of_getElem? e
   rw [List.mem_replicate] at this
   cases this.2
theorem Jb {us:List Value} {q:Prop} (h:us.length=0) (k:us=[]->q):q:=k (List.length_eq_zero_iff.mp h)
theorem w9 {us:List Value} {n:Nat} {q:Prop} (h:us.length=n + 1) (k:∀ a r,us=a :: r->r.length=n->q):q:=by
 cases us with
 | nil=>cases h
 | cons a r=>exact k a r rfl (Nat.succ.inj h)
theorem fZ {p:List Value->Prop} (h:∀ a,p [a]) (us:List Value) (e:us.length=1):p us:=
 w9 e λa r e1 e2=>Jb e2 λe3=>by rw [e1,e3]; exact h a
theorem eK {p:List Value->Prop} (h:∀ a b,p [a,b]) (us:List Value) (e:us.length=2):p us:=
 w9 e λa r e1 e2=>by rw [e1]; exact fZ (p:=λr=>p (a :: r)) (λb=>h a b) r e2
theorem B4 {p:List Value->Prop} (h:∀ a b c,p [a,b,c]) (us:List Value) (e:us.length=3):p us:=
 w9 e λa r e1 e2=>by rw [e1]; exact eK (p:=λr=>p (a :: r)) (λb c=>h a b c) r e2
theorem ER {p:List Value->Prop} (h:∀ a b c d,p [a,b,c,d]) (us:List Value) (e:us.length=4):p us:=
 w9 e λa r e1 e2=>by rw [e1]; exact B4 (p:=λr=>p (a :: r)) (λb c d=>h a b c d) r e2
theorem HC:∀ outer H s E e s',(∀ C a H',¬ E C a H')->¬ CX0 outer H s E e s':=λ_ _ _ _ _ _ _ h=>h
theorem fnU {P:Program} {w:World} {K:PySem.W.Frag} {mg:Str->Option Value} {base:Heap} {x qual:Str} {st:Stmt} {f:Addr} {fd:FuncData} {N ps:List Str} {k n:Nat} {Fs:List Str} {cst:List (Str × Int)} {Φ:Fn} {cl:Nat->Addr} {ir:List S}
   (F:Fun K x qual st f fd) (S:jC N ps (a5 st)) (tr:tT ⟨a5 st,N,Fs,[],cst⟩ n (dB st)=some ir) (hb:∀ x ∈ aL,mg x=none) (hcst:∀ x i,cst.lookup x=some i->∃ t,mg x=some (.int i t))
   (hc:∀ i x,Fs[i]?=some x->Cal P w K mg base CX0 cl k x (Φ i)):i9 P w K mg base CX0 (k + 1) f fd ps (spU ⟨K,cl⟩ (mk Φ ir ps.length N.length)):=by
 have hpl:ps.length<=N.length:=by
   have:=congrArg List.length S.pre
   rw [List.length_take] at this
   omega
 refine F.ok S (λvs H Q E h=>?_) (λcdv A outer s H vs Q E hr h=>?_)
 · obtain ⟨m,st,ds,r,dn,e⟩:=h
   rw [dn.length]
   unfold mk at e
   split at e
   · assumption
   · exact e.elim
 · obtain ⟨m,st,ds,r,dn,e⟩:=h
   unfold mk at e
   split at e
   · rename_i hl
     have B:Bg (vn CX0 P w K mg base N qual (a5 _) f cdv A outer s H E).nox ⟨a5 _,N,Fs,[],cst⟩ Φ cl CX0 (λ_ _=>False) k:=
       ⟨rfl,rfl,S.nd,rfl,hr,hb,hc,λ_ _ _ _ _=>rfl,hcst,HC,Ha HC⟩
     refine ⟨_,(rH (fuel ds) n B).ss _ _ tr,?_⟩
     refine ⟨m,st,_,r,y3 dn (by omega),?_⟩
     rw [<- hl] at e
     generalize hr':xSs Φ (fuel ds) ir (ds.map some++List.replicate (N.length - ds.length) none) st=rs at e
     match rs,e with
     | .ok (.rt d') st',e=>exact λm' H' v g r dv=>e m' H' v g r dv
     | .ok (.nx ρ) st',e=>exact λm' H' σ' g r en=>e m' H' .non g r .non
   · exact e.elim
theorem Cal.mono {P:Program} {w:World} {K:PySem.W.Frag} {mg:Str->Option Value} {base:Heap} {CX:CXT} {cl:Nat->Addr} {j k:Nat} {x:Str} {F:List U->Sto->Rs U} (c:Cal P w K mg base CX cl j x F) (h:j<=k):Cal P w K mg base CX cl k x F:=by
 obtain ⟨f,fd,ps,G,F,r⟩:=c.ex
 exact ⟨⟨f,fd,ps,G,F.mono h,r⟩⟩
noncomputable def vJ (P:Program) (w:World) (K:PySem.W.Frag) (mg:Str->Option Value) (base:Heap) (CX:CXT) (cl:Nat->Addr) (k:Nat) (Fs:List Str) (fs:List (List U->Sto->Rs U)):Prop:=∀ i x,Fs[i]?=some x->Cal P w K mg base CX cl k x (tab fs i)
theorem vJ.nil {P:Program} {w:World} {K:PySem.W.Frag} {mg:Str->Option Value} {base:Heap} {CX:CXT} {cl:Nat->Addr} {k:Nat}:vJ P w K mg base CX cl k [] []:=λi x h=>by simp at h
theorem vJ.snoc {P:Program} {w:World} {K:PySem.W.Frag} {mg:Str->Option Value} {base:Heap} {CX:CXT} {cl:Nat->Addr} {k:Nat} {Fs:List Str} {fs:List (List U->Sto->Rs U)} {x:Str} {F:List U->Sto->Rs U} (c:vJ P w K mg base CX cl k Fs fs) (hl:Fs.length=fs.length) (n:Cal P w K mg base CX cl (k + 1) x F) :
   vJ P w K mg base CX cl (k + 1) (Fs++[x]) (fs++[F]):=λi y h=>by
 by_cases q:i < Fs.length
 · rw [List.getElem?_append_left q] at h
   have:=(c i y h).mono (Nat.le_succ k)
   have e:tab (fs++[F]) i=tab fs i:=by
     unfold tab
     rw [List.getD_eq_getElem?_getD,List.getD_eq_getElem?_getD,List.getElem?_append_left (by omega)]
   rw [e]; exact this
 · rw [List.getElem?_append_right (by omega)] at h
   have e0:i - Fs.length=0:=by
     have:=(List.getElem?_eq_some_iff.mp h).1
     simp at this
     omega
   rw [e0] at h
   cases h
   have e:tab (fs++[F]) i=F:=by
     unfold tab
     rw [List.getD_eq_getElem?_getD,List.getElem?_append_right (by omega),show i - fs.length=0 by omega]
     rfl
   rw [e]; exact n
theorem Hg {P:Program} {w:World} {K:PySem.W.Frag} {mg:Str->Option Value} {base:Heap} {CX:CXT} {cl:Nat->Addr} {k:Nat} {x:Str} {f:Addr} {fd:FuncData} {ps:List Str} {F:List U->Sto->Rs U} (h:i9 P w K mg base CX k f fd ps (spU ⟨K,cl⟩ F)) (hm:mg x=some (.ref f)) (hk:PySem.W.keepIn K (.ref f)=true) (hb:Binds K fd ps []) :
   Cal P w K mg base CX cl k x F
 := ⟨⟨f,fd,ps,F,h,hm,hk,λ_=>⟨[],[],[],hb,.nil,λ_ _=>.nil,λds st _=>by rw [List.append_nil]⟩⟩⟩
noncomputable def dfU (n:Nat) (i:Int) (F:List U->Sto->Rs U):List U->Sto->Rs U:=λds st=>if ds.length=n then F (ds++[.int i]) st else F ds st
theorem Fu {P:Program} {w:World} {K:PySem.W.Frag} {mg:Str->Option Value} {base:Heap} {CX:CXT} {cl:Nat->Addr} {k n:Nat} {x:Str} {f:Addr} {fd:FuncData} {ps:List Str} {i:Int} {t:Tok} {F:List U->Sto->Rs U} (h:i9 P w K mg base CX k f fd ps (spU ⟨K,cl⟩ F)) (hm:mg x=some (.ref f)) (hk:PySem.W.keepIn K (.ref f)=true) (hb:Binds K fd ps []) (hb1:Binds K fd ps [.int i t]) :
   Cal P w K mg base CX cl k x (dfU n i F):=⟨⟨f,fd,ps,F,h,hm,hk,λj=>by
     by_cases e:j=n
     · subst e
       exact ⟨[.int i],[.int i t],[.int i],hb1,.cons ⟨t,rfl⟩ .nil,λ_ _=>.cons .int .nil,λds st hl=>if_pos hl⟩
     · exact ⟨[],[],[],hb,.nil,λ_ _=>.nil,λds st hl=>by rw [List.append_nil]; exact if_neg (by rw [hl]; exact e)⟩⟩⟩
end Sv
namespace Sv
open PySem PySem.Spec L2
open Ev (D aA aK ae)
inductive T where
 | non | bl (b:Bool) | int (i:Int) | str (x:Str) | tup (xs:List T) | lst (xs:List T) | exo (c:Nat)
 deriving Inhabited
inductive Ou (α:Type) where
 | ok (a:α) | exc (c:Nat) | bad
noncomputable def Ou.bind {α β:Type}:Ou α->(α->Ou β)->Ou β
 | .ok a,f=>f a
 | .exc c,_=>.exc c
 | .bad,_=>.bad
noncomputable def Ou.noX {α:Type}:Ou α->Ou α
 | .exc _=>.bad
 | x=>x
theorem Ou.aa {α β:Type} (a:α) (f:α->Ou β):(Ou.ok a).bind f=f a:=rfl
theorem Ou.gi {α:Type} (a:α):(Ou.ok a).noX=.ok a:=rfl
theorem Ou.aO {α β:Type} {x:Ou α} {f:α->Ou β} {b:β}:x.bind f=.ok b ↔ ∃ a,x=.ok a/\f a=.ok b:=by
 cases x <;> simp [Ou.bind]
noncomputable abbrev ak:=List (Option T)
mutual
noncomputable def eqT:T->T->Bool
 | .non,.non=>true
 | .bl a,.bl b=>a == b
 | .bl a,.int j=>(if a then 1 else 0) == j
 | .int i,.bl b=>i == (if b then 1 else 0)
 | .int a,.int b=>a == b
 | .str a,.str b=>a == b
 | .tup xs,.tup ys=>pR xs ys
 | .lst xs,.lst ys=>pR xs ys
 | _,_=>false
noncomputable def pR:List T->List T->Bool
 | [],[]=>true
 | x :: xs,y :: ys=>eqT x y && pR xs ys
 | _,_=>false
end
mutual
noncomputable def clT:T->Bool
 | .str x=>Ev.cln (.str x)
 | .tup xs=>kJ xs
 | .lst xs=>kJ xs
 | .exo _=>false
 | .non | .bl _ | .int _=>true
noncomputable def kJ:List T->Bool
 | []=>true
 | x :: xs=>clT x && kJ xs
end
mutual
noncomputable def dpT:T->Nat
 | .tup xs=>pO xs + 1
 | .lst xs=>pO xs + 1
 | _=>0
noncomputable def pO:List T->Nat
 | []=>0
 | x :: xs=>max (dpT x) (pO xs)
end
noncomputable def eqK (x:T):Prop:=clT x=true/\dpT x<=64
noncomputable instance (x:T):Decidable (eqK x):=inferInstanceAs (Decidable (_/\_))
noncomputable def z2:Op2->T->T->Ou T
 | .add,.int i,.int j=>.ok (.int (i + j))
 | .add,.lst xs,.lst ys=>if xs.length + ys.length < ae then .ok (.lst (xs++ys)) else .bad
 | .sub,.int i,.int j=>.ok (.int (i - j))
 | .mul,.int i,.int j=>if aA i j then .ok (.int (i * j)) else .bad
 | .fdiv,.int i,.int j=>if aK j then .ok (.int (i.fdiv j)) else .bad
 | .mod,.int i,.int j=>if j ≠ 0 then .ok (.int (i.fmod j)) else .bad
 | .pow,.int i,.int j=>if 0<=j/\j<=1000000/\i.natAbs < 2 ^ 64 then .ok (.int (i ^ j.toNat)) else .bad
 | _,_,_=>.bad
noncomputable def nK:List T->Option (List Int)
 | []=>some []
 | .int i :: r=>(nK r).map (i :: ·)
 | _=>none
noncomputable def zC:Cm->T->T->Option Bool
 | .eq,x,y=>if eqK x/\eqK y then some (eqT x y) else none
 | .ne,x,y=>if eqK x/\eqK y then some (!eqT x y) else none
 | .lt,.int i,.int j=>some (decide (i < j))
 | .le,.int i,.int j=>some (decide (i<=j))
 | .gt,.int i,.int j=>some (decide (j < i))
 | .ge,.int i,.int j=>some (decide (j<=i))
 | _,_,_=>none
noncomputable def ofB:Option Bool->Ou T
 | some b=>.ok (.bl b)
 | none=>.bad
noncomputable def iD:Ty->T->Bool
 | .int,.int _=>true
 | .int,.bl _=>true
 | .bool,.bl _=>true
 | .tuple,.tup _=>true
 | .list,.lst _=>true
 | .str,.str _=>true
 | _,_=>false
noncomputable def mX:List T->Option Bool
 | []=>some true
 | .bl b :: r=>(mX r).map (b && ·)
 | _=>none
noncomputable def Bz (xs:List T) (lo hi:Option Int):List T:=(xs.drop (HT.sIx xs.length 0 lo)).take (HT.sIx xs.length xs.length hi - HT.sIx xs.length 0 lo)
noncomputable def n8:E->T->Option (Option Int)
 | .cN,_=>some none
 | _,.int i=>some (some i)
 | _,_=>none
noncomputable def zSl:T->Option Int->Option Int->Ou T
 | .lst xs,lo,hi=>.ok (.lst (Bz xs lo hi))
 | _,_,_=>.bad
noncomputable def Em:T->Bool
 | .non=>true
 | _=>false
noncomputable def zB:Bi->List T->Ou T
 | .len,[.lst xs]=>.ok (.int xs.length)
 | .len,[.tup xs]=>.ok (.int xs.length)
 | .abs,[.int i]=>.ok (.int (if i < 0 then -i else i))
 | .max,[.int i,.int j]=>.ok (.int (if j > i then j else i))
 | .min,[.int i,.int j]=>.ok (.int (if j < i then j else i))
 | .int,[.int i]=>.ok (.int i)
 | .int,[.bl b]=>.ok (.int (if b then 1 else 0))
 | .list,[.lst xs]=>.ok (.lst xs)
 | .list,[.tup xs]=>.ok (.lst xs)
 | .all,[.lst xs]=>ofB (mX xs)
 | _,_=>.bad
noncomputable def zI:T->T->Ou T
 | .lst xs,.int i=>match atI xs i with | some d=>.ok d | none=>.bad
 | .tup xs,.int i=>match atI xs i with | some d=>.ok d | none=>.bad
 | _,_=>.bad
noncomputable def aC (τ:ak) (i:Nat):Ou T:=match τ[i]? with | some (some d)=>.ok d | _=>.bad
noncomputable def nZ:List Nat->List T->ak->Option ak
 | [],[],ρ=>some ρ
 | i :: is,x :: xs,ρ=>nZ is xs (ρ.set i (some x))
 | _,_,_=>none
noncomputable def aJ:Tg->T->ak->Option ak
 | .nm i,d,ρ=>some (ρ.set i (some d))
 | .tp is,.tup xs,ρ=>nZ is xs ρ
 | _,_,_=>none
noncomputable def rangeT (lo:Int) (n:Nat):List T:=(List.range n).map λk=>T.int (lo + (k:Nat))
noncomputable def je (k:Nat):List T->List T
 | []=>[]
 | x :: xs=>.tup [.int (k:Nat),x] :: je (k + 1) xs
noncomputable def j6:List T->List T->List T
 | x :: xs,y :: ys=>.tup [x,y] :: j6 xs ys
 | _,_=>[]
noncomputable def zpT:T->T->Ou (List T)
 | .lst xs,.lst ys=>.ok (j6 xs ys)
 | _,_=>.bad
noncomputable def iR (τ:ak) (caps:List (Option Nat)):ak:=caps.map λo=>o.bind λi=>(τ[i]?).join
noncomputable def cq (f:T->Ou (Option T)):List T->Ou (List T)
 | []=>.ok []
 | x :: xs=>(f x).bind λo=>(cq f xs).bind λys=>.ok (match o with | some y=>y :: ys | none=>ys)
noncomputable abbrev FnT:=Nat->List T->Ou T
mutual
noncomputable def yE (Ψ:FnT):E->ak->Ou T
 | .var i,τ=>aC τ i
 | .cN,_=>.ok .non
 | .cB b,_=>.ok (.bl b)
 | .cI i,_=>.ok (.int i)
 | .cS x,_=>.ok (.str x)
 | .op o a b,τ=>(yE Ψ a τ).bind λx=>(yE Ψ b τ).bind λy=>z2 o x y
 | .neg a,τ=>(yE Ψ a τ).bind λx=>match x with | .int i=>.ok (.int (-i)) | _=>.bad
 | .not a,τ=>(yE Ψ a τ).bind λx=>match x with | .bl b=>.ok (.bl (!b)) | _=>.bad
 | .cmp o a b,τ=>(yE Ψ a τ).bind λx=>(yE Ψ b τ).bind λy=>ofB (zC o x y)
 | .chain o o' a b c,τ=>(yE Ψ a τ).bind λx=>(yE Ψ b τ).bind λy=>match zC o x y with
   | some true=>(yE Ψ c τ).bind λu=>ofB (zC o' y u)
   | some false=>.ok (.bl false)
   | none=>.bad
 | .and a b,τ=>(yE Ψ a τ).bind λx=>match x with | .bl true=>yE Ψ b τ | .bl false=>.ok (.bl false) | _=>.bad
 | .or a b,τ=>(yE Ψ a τ).bind λx=>match x with | .bl true=>.ok (.bl true) | .bl false=>yE Ψ b τ | _=>.bad
 | .ite c a b,τ=>(yE Ψ c τ).bind λx=>match x with | .bl true=>yE Ψ a τ | .bl false=>yE Ψ b τ | _=>.bad
 | .tup es,τ=>(yEs Ψ es τ).bind λxs=>if xs.length < ae then .ok (.tup xs) else .bad
 | .lst es,τ=>(yEs Ψ es τ).bind λxs=>if xs.length < ae then .ok (.lst xs) else .bad
 | .ix a i,τ=>(yE Ψ a τ).bind λx=>(yE Ψ i τ).bind λy=>zI x y
 | .sl a l h,τ=>(yE Ψ a τ).bind λx=>(yE Ψ l τ).bind λy=>match n8 l y with
   | none=>.bad
   | some lo=>(yE Ψ h τ).bind λz=>match n8 h z with | none=>.bad | some hi=>zSl x lo hi
 | .call f es,τ=>(yEs Ψ es τ).bind λxs=>Ψ f xs
 | .bi b es,τ=>(yEs Ψ es τ).bind λxs=>zB b xs
 | .isi a t,τ=>(yE Ψ a τ).bind λx=>match x with | .exo _=>.bad | x=>.ok (.bl (iD t x))
 | .isN n a,τ=>(yE Ψ a τ).bind λx=>.ok (.bl (n ^^ Em x))
 | .comp caps t it ifs elt,τ=>(yIt Ψ it τ).bind λxs=>if xs.length < ae then
     ((cq (λx=>match aJ t x (iR τ caps++[none]) with
         | none=>.bad
         | some τ1=>(yIf Ψ ifs τ1).bind λb=>if b then (yE Ψ elt τ1).bind λy=>.ok (some y) else .ok none) xs).bind λys=>.ok (.lst ys)).noX
   else .bad
noncomputable def yEs (Ψ:FnT):List E->ak->Ou (List T)
 | [],_=>.ok []
 | e :: es,τ=>(yE Ψ e τ).bind λx=>(yEs Ψ es τ).bind λxs=>.ok (x :: xs)
noncomputable def yIf (Ψ:FnT):List E->ak->Ou Bool
 | [],_=>.ok true
 | c :: cs,τ=>(yE Ψ c τ).bind λx=>match x with | .bl true=>yIf Ψ cs τ | .bl false=>.ok false | _=>.bad
noncomputable def yIt (Ψ:FnT):It->ak->Ou (List T)
 | .seq e,τ=>(yE Ψ e τ).bind λx=>match x with | .lst xs=>.ok xs | .tup xs=>.ok xs | _=>.bad
 | .rng e,τ=>(yE Ψ e τ).bind λx=>match x with | .int j=>if -(2 ^ 62)<=j/\j < 2 ^ 62 then .ok (rangeT 0 j.toNat) else .bad | _=>.bad
 | .rng2 a b,τ=>(yE Ψ a τ).bind λx=>(yE Ψ b τ).bind λy=>match x,y with
   | .int i,.int j=>if (-(2 ^ 62)<=i/\i < 2 ^ 62)/\-(2 ^ 62)<=j/\j < 2 ^ 62 then .ok (rangeT i (j - i).toNat) else .bad
   | _,_=>.bad
 | .enu e,τ=>(yE Ψ e τ).bind λx=>match x with | .lst xs=>.ok (je 0 xs) | _=>.bad
 | .zip a b,τ=>(yE Ψ a τ).bind λx=>(yE Ψ b τ).bind λy=>zpT x y
end
mutual
inductive Rep (st:Sto):U->T->Prop where
 | non:Rep st .non .non
 | bl {b:Bool}:Rep st (.bl b) (.bl b)
 | int {i:Int}:Rep st (.int i) (.int i)
 | str {x:Str}:Rep st (.str x) (.str x)
 | tup {us:List U} {ds:List T} (r:aD st us ds):Rep st (.tup us) (.tup ds)
 | loc {l:Nat} {fz:Bool} {us:List U} {ds:List T} (e:st[l]?=some (fz,us)) (r:aD st us ds):Rep st (.loc l) (.lst ds)
 | exo {c:Nat}:Rep st (.exo c) (.exo c)
 | kl {us:List U} {ds:List T} (r:aD st us ds):Rep st (.kl us) (.lst ds)
inductive aD (st:Sto):List U->List T->Prop where
 | nil:aD st [] []
 | cons {u:U} {d:T} {us:List U} {ds:List T} (h:Rep st u d) (r:aD st us ds):aD st (u :: us) (d :: ds)
end
mutual
noncomputable def locs:U->List Nat
 | .loc l=>[l]
 | .tup us=>i4 us
 | .kl us=>i4 us
 | _=>[]
noncomputable def i4:List U->List Nat
 | []=>[]
 | u :: us=>locs u++i4 us
end
structure Hd where
 h:Nat->Prop
 g:Nat->Prop
 sub:∀ l,g l->h l
noncomputable def Av (h:Hd) (n:Nat) (u:U):Prop:=∀ l ∈ locs u,l < n/\¬ h.h l
structure Wf (h:Hd) (st:Sto):Prop where
 av:∀ (k:Nat) fz us,¬ h.g k->st[k]?=some (fz,us)->∀ u ∈ us,Av h st.length u
 lt:∀ l,h.h l->l < st.length
theorem Av.mono {h:Hd} {n n':Nat} {u:U} (a:Av h n u) (e:n<=n'):Av h n' u:=λl hl=>⟨Nat.lt_of_lt_of_le (a l hl).1 e,(a l hl).2⟩
theorem Av.imp {h h':Hd} {n:Nat} {u:U} (a:Av h n u) (e:∀ l,l < n->h'.h l->h.h l):Av h' n u:=λl hl=>⟨(a l hl).1,λz=>(a l hl).2 (e l (a l hl).1 z)⟩
theorem Av.int {h:Hd} {n:Nat} {i:Int}:Av h n (.int i):=λl hl=>by simp [locs] at hl
theorem Av.bl {h:Hd} {n:Nat} {b:Bool}:Av h n (.bl b):=λl hl=>by simp [locs] at hl
theorem Av.non {h:Hd} {n:Nat}:Av h n .non:=λl hl=>by simp [locs] at hl
theorem Av.str {h:Hd} {n:Nat} {x:Str}:Av h n (.str x):=λl hl=>by simp [locs] at hl
theorem Av.exo {h:Hd} {n:Nat} {c:Nat}:Av h n (.exo c):=λl hl=>by simp [locs] at hl
theorem Av.loc {h:Hd} {n l:Nat} (h1:l < n) (h2:¬ h.h l):Av h n (.loc l):=λk hk=>by simp [locs] at hk; subst hk; exact ⟨h1,h2⟩
theorem eA {us:List U} {l:Nat}:l ∈ i4 us ↔ ∃ u ∈ us,l ∈ locs u:=by
 induction us with
 | nil=>simp [i4]
 | cons u us ih=>simp [i4,ih]
theorem Av.kl {h:Hd} {n:Nat} {us:List U}:Av h n (.kl us) ↔ ∀ u ∈ us,Av h n u:=by
 constructor
 · intro a u hu l hl
   exact a l (by simp only [locs]; exact eA.mpr ⟨u,hu,hl⟩)
 · intro a l hl
   simp only [locs] at hl
   obtain ⟨u,hu,hl⟩:=eA.mp hl
   exact a u hu l hl
theorem Av.tup {h:Hd} {n:Nat} {us:List U}:Av h n (.tup us) ↔ ∀ u ∈ us,Av h n u:=by
 constructor
 · intro a u hu l hl
   exact a l (by simp only [locs]; exact eA.mpr ⟨u,hu,hl⟩)
 · intro a l hl
   simp only [locs] at hl
   obtain ⟨u,hu,hl⟩:=eA.mp hl
   exact a u hu l hl
section
variable {st st':Sto}
mutual
theorem Rep.pre (e:∀ (k:Nat) c,st[k]?=some c->st'[k]?=some c):∀ {u:U} {d:T},Rep st u d->Rep st' u d
 | _,_,.non=>.non
 | _,_,.bl=>.bl
 | _,_,.int=>.int
 | _,_,.str=>.str
 | _,_,.exo=>.exo
 | _,_,.tup r=>.tup (aD.pre e r)
 | _,_,.loc h r=>.loc (e _ _ h) (aD.pre e r)
 | _,_,.kl r=>.kl (aD.pre e r)
theorem aD.pre (e:∀ (k:Nat) c,st[k]?=some c->st'[k]?=some c):∀ {us:List U} {ds:List T},aD st us ds->aD st' us ds
 | _,_,.nil=>.nil
 | _,_,.cons h r=>.cons (Rep.pre e h) (aD.pre e r)
end
mutual
theorem Rep.keep {h:Hd} (w:Wf h st) (e:∀ (k:Nat) c,¬ h.h k->st[k]?=some c->st'[k]?=some c):∀ {u:U} {d:T},Rep st u d->(∀ l ∈ locs u,¬ h.h l)->Rep st' u d
 | _,_,.non,_=>.non
 | _,_,.bl,_=>.bl
 | _,_,.int,_=>.int
 | _,_,.str,_=>.str
 | _,_,.exo,_=>.exo
 | _,_,.tup r,a=>.tup (aD.keep w e r λu hu l hl=>a l (by simp only [locs]; exact eA.mpr ⟨u,hu,hl⟩))
 | _,_,.kl r,a=>.kl (aD.keep w e r λu hu l hl=>a l (by simp only [locs]; exact eA.mpr ⟨u,hu,hl⟩))
 | _,_,.loc (l:=l) q r,a=>.loc (e _ _ (a l (by simp [locs])) q) (aD.keep w e r λu hu k hk=>(w.av _ _ _ (λz=>a l (by simp [locs]) (h.sub l z)) q u hu k hk).2)
theorem aD.keep {h:Hd} (w:Wf h st) (e:∀ (k:Nat) c,¬ h.h k->st[k]?=some c->st'[k]?=some c):∀ {us:List U} {ds:List T},aD st us ds->(∀ u ∈ us,∀ l ∈ locs u,¬ h.h l)->aD st' us ds
 | _,_,.nil,_=>.nil
 | _,_,.cons h r,a=>.cons (Rep.keep w e h (a _ (List.mem_cons_self ..))) (aD.keep w e r λu hu=>a u (List.mem_cons_of_mem _ hu))
end
end
theorem eU {st st':Sto} (e:st <+: st'):∀ (k:Nat) c,st[k]?=some c->st'[k]?=some c:=λk c h=>by
 obtain ⟨r,rfl⟩:=e
 rw [List.getElem?_append_left (List.getElem?_eq_some_iff.mp h).1]; exact h
theorem Rep.ext {st st':Sto} {u:U} {d:T} (r:Rep st u d) (e:st <+: st'):Rep st' u d:=r.pre (eU e)
theorem aD.ext {st st':Sto} {u:List U} {d:List T} (r:aD st u d) (e:st <+: st'):aD st' u d:=r.pre (eU e)
theorem aD.length {st:Sto}:∀ {us:List U} {ds:List T},aD st us ds->us.length=ds.length
 | _,_,.nil=>rfl
 | _,_,.cons _ r=>congrArg (· + 1) r.length
theorem aD.get {st:Sto}:∀ {us:List U} {ds:List T} {i:Nat} {d:T},aD st us ds->ds[i]?=some d->∃ u,us[i]?=some u/\Rep st u d
 | _,_,_,_,.nil,e=>by simp at e
 | _,_,0,_,.cons h _,e=>by simp at e; subst e; exact ⟨_,rfl,h⟩
 | _,_,i + 1,d,.cons _ r,e=>by
   obtain ⟨v,h1,h2⟩:=aD.get (i:=i) (d:=d) r (by simpa using e)
   exact ⟨v,by simpa using h1,h2⟩
theorem aD.append {st:Sto}:∀ {xs ys:List U} {ds es:List T},aD st xs ds->aD st ys es->aD st (xs++ys) (ds++es)
 | _,_,_,_,.nil,s=>s
 | _,_,_,_,.cons h r,s=>.cons h (aD.append r s)
theorem aD.take {st:Sto}:∀ {xs:List U} {ds:List T} (n:Nat),aD st xs ds->aD st (xs.take n) (ds.take n)
 | _,_,0,_=>.nil
 | _,_,_ + 1,.nil=>.nil
 | _,_,n + 1,.cons h r=>.cons h (aD.take n r)
theorem aD.drop {st:Sto}:∀ {xs:List U} {ds:List T} (n:Nat),aD st xs ds->aD st (xs.drop n) (ds.drop n)
 | _,_,0,r=>r
 | _,_,_ + 1,.nil=>.nil
 | _,_,n + 1,.cons _ r=>aD.drop n r
theorem aD.set {st:Sto}:∀ {xs:List U} {ds:List T} (n:Nat) {v:U} {d:T},aD st xs ds->Rep st v d->aD st (xs.set n v) (ds.set n d)
 | _,_,_,_,_,.nil,_=>.nil
 | _,_,0,_,_,.cons _ r,h=>.cons h r
 | _,_,n + 1,_,_,.cons h r,h'=>.cons h (aD.set n r h')
theorem aD.erase {st:Sto}:∀ {xs:List U} {ds:List T} (n:Nat),aD st xs ds->aD st (xs.eraseIdx n) (ds.eraseIdx n)
 | _,_,_,.nil=>.nil
 | _,_,0,.cons _ r=>r
 | _,_,n + 1,.cons h r=>.cons h (aD.erase n r)
theorem aD.dropLast {st:Sto}:∀ {xs:List U} {ds:List T},aD st xs ds->aD st xs.dropLast ds.dropLast
 | _,_,.nil=>.nil
 | _,_,.cons _ .nil=>.nil
 | _,_,.cons h (.cons h' r)=>.cons h (aD.dropLast (.cons h' r))
theorem aD.insert {st:Sto}:∀ {xs:List U} {ds:List T} (n:Nat) {v:U} {d:T},aD st xs ds->Rep st v d->aD st (xs.insertIdx n v) (ds.insertIdx n d)
 | _,_,0,_,_,r,h=>.cons h r
 | _,_,_ + 1,_,_,.nil,_=>.nil
 | _,_,n + 1,_,_,.cons h r,h'=>.cons h (aD.insert n r h')
theorem Rep.int_inv {st:Sto} {u:U} {i:Int} (r:Rep st u (.int i)):u=.int i:=by cases r; rfl
theorem Rep.iB {st:Sto} {u:U} {b:Bool} (r:Rep st u (.bl b)):u=.bl b:=by cases r; rfl
theorem Rep.CW {st:Sto} {u:U} {ds:List T} (r:Rep st u (.tup ds)):∃ us,u=.tup us/\aD st us ds:=by cases r; exact ⟨_,rfl,by assumption⟩
theorem Rep.lst_inv {st:Sto} {u:U} {ds:List T} (r:Rep st u (.lst ds)):(∃ l fz us,u=.loc l/\st[l]?=some (fz,us)/\aD st us ds)\/∃ us,u=.kl us/\aD st us ds:=by
 cases r with
 | loc e r=>exact .inl ⟨_,_,_,rfl,e,r⟩
 | kl r=>exact .inr ⟨_,rfl,r⟩
mutual
noncomputable def toD:T->D
 | .non=>.non
 | .bl b=>.bl b
 | .int i=>.int i
 | .str x=>.str x
 | .tup xs=>.tup (kj xs)
 | .lst xs=>.lst (kj xs)
 | .exo _=>.non
noncomputable def kj:List T->List D
 | []=>[]
 | x :: xs=>toD x :: kj xs
end
mutual
theorem kG {st:Sto}:∀ {u:U} {d:T} (n:Nat),Rep st u d->clT d=true->dpT d<=n->rsv st n u=some (toD d)
 | _,_,n,.non,_,_=>by cases n <;> rfl
 | _,_,n,.bl,_,_=>by cases n <;> rfl
 | _,_,n,.int,_,_=>by cases n <;> rfl
 | _,_,n,.str,_,_=>by cases n <;> rfl
 | _,_,n,.exo,h,_=>by simp [clT] at h
 | _,_,0,.tup _,_,h=>by simp [dpT] at h
 | _,_,n + 1,.tup r,h1,h2=>by
   rw [rsv,km n r (by simpa [clT] using h1) (by simpa [dpT] using h2)]; rfl
 | _,_,0,.kl _,_,h=>by simp [dpT] at h
 | _,_,n + 1,.kl r,h1,h2=>by
   rw [rsv,km n r (by simpa [clT] using h1) (by simpa [dpT] using h2)]; rfl
 | _,_,0,.loc _ _,_,h=>by simp [dpT] at h
 | _,_,n + 1,.loc e r,h1,h2=>by
   rw [rsv,e]
   dsimp only
   rw [km n r (by simpa [clT] using h1) (by simpa [dpT] using h2)]; rfl
theorem km {st:Sto}:∀ {us:List U} {ds:List T} (n:Nat),aD st us ds->kJ ds=true->pO ds<=n->uV (rsv st n) us=some (kj ds)
 | _,_,_,.nil,_,_=>rfl
 | _,_,n,.cons h r,h1,h2=>by
   rw [kJ,Bool.and_eq_true] at h1
   rw [pO] at h2
   rw [uV,kG n h h1.1 (by omega),km n r h1.2 (by omega)]; rfl
end
mutual
theorem wM:∀ d:T,clT d=true->Ev.cln (toD d)=true
 | .non,_=>rfl
 | .bl _,_=>rfl
 | .int _,_=>rfl
 | .str x,h=>by simpa [clT,toD] using h
 | .tup xs,h=>by simp only [toD,Ev.cln]; exact oi xs (by simpa [clT] using h)
 | .lst xs,h=>by simp only [toD,Ev.cln]; exact oi xs (by simpa [clT] using h)
 | .exo _,h=>by simp [clT] at h
theorem oi:∀ d:List T,kJ d=true->Ev.sX (kj d)=true
 | [],_=>rfl
 | x :: xs,h=>by
   rw [kJ,Bool.and_eq_true] at h
   simp only [kj,Ev.sX,wM x h.1,oi xs h.2,Bool.and_self]
end
mutual
theorem xf:∀ d:T,Ev.dep (toD d)=dpT d
 | .non=>rfl
 | .bl _=>rfl
 | .int _=>rfl
 | .str x=>rfl
 | .tup xs=>by simp only [toD,Ev.dep,dpT,oq xs]
 | .lst xs=>by simp only [toD,Ev.dep,dpT,oq xs]
 | .exo _=>rfl
theorem oq:∀ d:List T,Ev.u5 (kj d)=pO d
 | []=>rfl
 | x :: xs=>by simp only [kj,Ev.u5,pO,xf x,oq xs]
end
mutual
theorem qW:∀ a b:T,clT a=true->clT b=true->Ev.eqD (toD a) (toD b)=eqT a b
 | .tup xs,b,h1,h2=>by
   cases b with
   | tup ys=>simp only [toD,Ev.eqD,eqT]; exact oj xs ys (by simpa [clT] using h1) (by simpa [clT] using h2)
   | exo c=>simp [clT] at h2
   | _=>simp [toD,Ev.eqD,eqT]
 | .lst xs,b,h1,h2=>by
   cases b with
   | lst ys=>simp only [toD,Ev.eqD,eqT]; exact oj xs ys (by simpa [clT] using h1) (by simpa [clT] using h2)
   | exo c=>simp [clT] at h2
   | _=>simp [toD,Ev.eqD,eqT]
 | .exo _,b,h1,_=>by simp [clT] at h1
 | .non,b,_,h2=>by cases b <;> first | (simp [clT] at h2; done) | simp [toD,Ev.eqD,eqT]
 | .bl _,b,_,h2=>by cases b <;> first | (simp [clT] at h2; done) | simp [toD,Ev.eqD,eqT]
 | .int _,b,_,h2=>by cases b <;> first | (simp [clT] at h2; done) | simp [toD,Ev.eqD,eqT]
 | .str _,b,_,h2=>by cases b <;> first | (simp [clT] at h2; done) | simp [toD,Ev.eqD,eqT]
theorem oj:∀ a b:List T,kJ a=true->kJ b=true->Ev.ll (kj a) (kj b)=pR a b
 | [],[],_,_=>by simp [kj,Ev.ll,pR]
 | [],_ :: _,_,_=>by simp [kj,Ev.ll,pR]
 | _ :: _,[],_,_=>by simp [kj,Ev.ll,pR]
 | x :: xs,y :: ys,h1,h2=>by
   rw [kJ,Bool.and_eq_true] at h1 h2
   simp only [kj,Ev.ll,pR,qW x y h1.1 h2.1,oj xs ys h1.2 h2.2]
end
theorem ni {d:T} (h:eqK d):Ev.vv (toD d):=⟨wM d h.1,by rw [xf]; exact h.2⟩
theorem rF {st:Sto} {x y:U} {a b:T} (h1:Rep st x a) (h2:Rep st y b) {o:Cm} {r:Bool} (e:zC o a b=some r):evC o x y st=some r:=by
 cases o
 case eq=>
   simp only [zC.eq_def] at e
   split at e
   · rename_i c
     cases e
     simp only [evC.eq_def,kG 64 h1 c.1.1 c.1.2,kG 64 h2 c.2.1 c.2.2]
     rw [if_pos ⟨ni c.1,ni c.2⟩,qW a b c.1.1 c.2.1]
   · cases e
 case ne=>
   simp only [zC.eq_def] at e
   split at e
   · rename_i c
     cases e
     simp only [evC.eq_def,kG 64 h1 c.1.1 c.1.2,kG 64 h2 c.2.1 c.2.2]
     rw [if_pos ⟨ni c.1,ni c.2⟩,qW a b c.1.1 c.2.1]
   · cases e
 all_goals
   cases a with
   | int i=>
     cases b with
     | int j=>
       have:=h1.int_inv; subst this
       have:=h2.int_inv; subst this
       exact e
     | _=>cases e
   | _=>cases e
structure Md where
 sc:Bool:=false
 lv:Nat:=0
 mv:Nat:=0
mutual
noncomputable def flat:T->Bool
 | .lst _=>false
 | .tup xs=>jR xs
 | _=>true
noncomputable def jR:List T->Bool
 | []=>true
 | x :: xs=>flat x && jR xs
end
noncomputable def xr:T->Bool
 | .lst ys=>jR ys
 | d=>flat d
noncomputable def eN (lv:Nat):T->Bool
 | .lst xs=>if lv=1 then jR xs else if lv=2 then xs.all xr else false
 | d=>flat d
noncomputable def cpV:E->Option Nat
 | .comp [none] (.nm 0) (.seq (.var v)) [] (.bi .list [.var 0])=>some v
 | _=>none
mutual
noncomputable def gts (μ:Nat->Md) (i lv:Nat):Nat->E->Bool
 | k,.var j=>decide (k < lv) && i == j
 | _,.cN | _,.cB _ | _,.cI _ | _,.cS _=>false
 | _,.op _ a b=>gts μ i lv 1 a || gts μ i lv 1 b
 | _,.neg a=>gts μ i lv 2 a
 | _,.not a=>gts μ i lv 2 a
 | _,.cmp _ a b=>gts μ i lv 2 a || gts μ i lv 2 b
 | _,.chain _ _ a b c=>gts μ i lv 2 a || gts μ i lv 2 b || gts μ i lv 2 c
 | k,.and a b=>gts μ i lv 2 a || gts μ i lv k b
 | k,.or a b=>gts μ i lv 2 a || gts μ i lv k b
 | k,.ite c a b=>gts μ i lv 2 c || gts μ i lv k a || gts μ i lv k b
 | _,.tup es=>bX μ i lv 0 es
 | _,.lst es=>bX μ i lv 0 es
 | k,.ix a b=>gts μ i lv (k + 1) a || gts μ i lv 2 b
 | _,.sl a b c=>gts μ i lv 1 a || gts μ i lv 2 b || gts μ i lv 2 c
 | _,.call f es=>bX μ i lv (if (μ f).sc then 2 else 0) es
 | _,.bi o es=>bX μ i lv (match o with | .len=>2 | _=>1) es
 | _,.isi a _=>gts μ i lv 2 a
 | _,.isN _ a=>gts μ i lv 2 a
 | _,.comp caps t it ifs elt=>caps.contains (some i) || eW μ i lv 1 it
noncomputable def bX (μ:Nat->Md) (i lv:Nat):Nat->List E->Bool
 | _,[]=>false
 | k,e :: es=>gts μ i lv k e || bX μ i lv k es
noncomputable def eW (μ:Nat->Md) (i lv:Nat):Nat->It->Bool
 | k,.seq e=>gts μ i lv k e
 | _,.rng e=>gts μ i lv 2 e
 | _,.rng2 a b=>gts μ i lv 2 a || gts μ i lv 2 b
 | k,.enu e=>gts μ i lv k e
 | k,.zip a b=>gts μ i lv k a || gts μ i lv k b
end
noncomputable abbrev Own:=List (Nat × Nat)
noncomputable def gtc (μ:Nat->Md) (e:E) (x:T):Nat->Nat->Bool:=match cpV e with
 | none=>λi lv=>gts μ i lv 0 e
 | some _=>if eN 2 x then λ_ _=>false else λi lv=>gts μ i lv 0 e
noncomputable def dn (g:Nat->Nat->Bool):Own->Own
 | []=>[]
 | (i,lv) :: r=>if g i lv then (if lv=2/\g i 1=false then (i,1) :: dn g r else dn g r) else (i,lv) :: dn g r
noncomputable def bz (own:Own) (i:Nat):Nat:=(own.lookup i).getD 0
noncomputable def cU (μ:Nat->Md):E->Nat
 | .lst _=>1
 | .comp _ _ _ _ e=>if cU μ e=0 then 1 else 2
 | .sl _ _ _=>1
 | .op .add _ _=>1
 | .bi .list _=>1
 | .call f _=>(μ f).lv
 | _=>0
noncomputable def isL:T->Bool
 | .lst _=>true
 | _=>false
noncomputable def lvT:T->Nat
 | .lst xs=>if xs.all isL then 2 else 1
 | _=>0
noncomputable def tgN:Tg->List Nat
 | .nm i=>[i]
 | .tp is=>is
noncomputable def frg (t:Tg):Nat->Nat->Bool:=λk _=>(tgN t).contains k
inductive FlT where
 | nx (τ:ak) (own:Own) | rt (d:T)
noncomputable def zM:Lm->List T->List T->Option (List T)
 | .append,xs,[x]=>if xs.length < ae then some (xs++[x]) else none
 | .rot,xs,[.int i,.int j]=>if xs.length < ae/\0<=i/\i.toNat < xs.length/\0<=j/\j.toNat < xs.length then (xs[j.toNat]?).map λx=>(xs.eraseIdx j.toNat).insertIdx i.toNat x else none
 | .pop,xs,[]=>if xs.length=0 then none else some xs.dropLast
 | .clear,_,[]=>some []
 | _,_,_=>none
noncomputable def cx (f:T->ak->Own->Ou FlT):List T->ak->Own->Ou FlT
 | [],τ,own=>.ok (.nx τ own)
 | x :: xs,τ,own=>(f x τ own).bind λr=>match r with
   | .nx τ' own'=>cx f xs τ' own'
   | .rt d=>.ok (.rt d)
noncomputable def gu (c:ak->Ou T) (g:Nat->Nat->Bool) (f:ak->Own->Ou FlT):Nat->ak->Own->Ou FlT
 | 0,_,_=>.bad
 | n + 1,τ,own=>(c τ).bind λx=>match x with
   | .bl true=>(f τ (dn g own)).bind λr=>match r with
     | .nx τ' own'=>gu c g f n τ' own'
     | .rt d=>.ok (.rt d)
   | .bl false=>.ok (.nx τ (dn g own))
   | _=>.bad
noncomputable def aS {α β:Type}:Option α->(α->Ou β)->Ou β
 | some a,f=>f a
 | none,_=>.bad
noncomputable def ef:Ou T->Option (List T)
 | .ok (.lst xs)=>some xs
 | _=>none
noncomputable def iV:T->Option (List T)
 | .lst xs=>some xs
 | _=>none
noncomputable def intOf:T->Option Int
 | .int i=>some i
 | _=>none
noncomputable def lj (o:Option ak) (own:Own):Ou FlT:=match o with
 | some τ'=>.ok (.nx τ' own)
 | none=>.bad
structure Fx where
 μ:Nat->Md
 need:List Nat
 lv:Nat
noncomputable def cA (X:Fx) (own:Own) (t:Tg) (e:E) (x:T) (τ:ak):Own:=match t with
 | .nm i=>if X.need.contains i && (τ[i]?).isSome then (if min (cU X.μ e) (lvT x)=0 then dn (frg t) own else (i,min (cU X.μ e) (lvT x)) :: dn (frg t) own) else dn (frg t) own
 | .tp _=>dn (frg t) own
noncomputable def FW (τ:ak) (own:Own) (v:Nat) (xs:List T) (y z:T):Ou FlT:=aS (intOf y) λk=>aS (L2.ixN xs.length k) λj=>
 if 0 < bz own v then .ok (.nx (τ.set v (some (.lst (xs.set j z)))) (dn (λi lv=>i == v && lv == 2) own)) else .bad
noncomputable def sO (τ:ak) (own:Own) (v:Nat) (xs ys:List T) (q:Nat) (y z:T):Ou FlT:=aS (intOf y) λk=>aS (L2.ixN ys.length k) λj=>.ok (.nx (τ.set v (some (.lst (xs.set q (.lst (ys.set j z)))))) own)
noncomputable def sr (m:Lm) (τ:ak) (own:Own) (v:Nat) (xs ds:List T):Ou FlT:=aS (zM m xs ds) λys=>.ok (.nx (τ.set v (some (.lst ys))) (dn (λi lv=>i == v && lv == 2) own))
noncomputable def xn (m:Lm) (τ:ak) (own:Own) (v:Nat) (xs ys ds:List T) (q:Nat):Ou FlT:=aS (zM m ys ds) λzs=>.ok (.nx (τ.set v (some (.lst (xs.set q (.lst zs))))) own)
mutual
noncomputable def yS (Ψ ΨM:FnT) (X:Fx) (n:Nat):S->ak->Own->Ou FlT
 | .set t e,τ,own=>match e with
   | .call f (.var v :: es)=>if 0 < (X.μ f).mv then
       (if (X.μ f).mv<=bz (dn (λi lv=>bX X.μ i lv 0 es) own) v then
         (aC τ v).bind λx=>(yEs Ψ es τ).bind λxs=>(ΨM f (x :: xs)).bind λd=>lj (aJ t d (τ.set v none)) (cA X (dn (λi _=>i == v) (dn (λi lv=>bX X.μ i lv 0 es) own)) t (.call f (.var v :: es)) d (τ.set v none))
       else .bad)
     else (yE Ψ (.call f (.var v :: es)) τ).bind λx=>lj (aJ t x τ) (cA X (dn (λi lv=>gts X.μ i lv 0 (.call f (.var v :: es))) own) t (.call f (.var v :: es)) x τ)
   | e=>(yE Ψ e τ).bind λx=>lj (aJ t x τ) (cA X (dn (gtc X.μ e x) own) t e x τ)
 | .put (.var v) i e,τ,own=>(yE Ψ e τ).bind λz=>aS (ef (aC τ v)) λxs=>(yE Ψ i τ).bind λy=>FW τ (dn (λk lv=>gts X.μ k lv 0 e || gts X.μ k lv 2 i) own) v xs y z
 | .put (.ix (.var v) a) i e,τ,own=>if bz (dn (λk lv=>gts X.μ k lv 0 e || gts X.μ k lv 2 a || gts X.μ k lv 2 i) own) v=2 then
     (yE Ψ e τ).bind λz=>aS (ef (aC τ v)) λxs=>(yE Ψ a τ).bind λp=>aS (intOf p) λp=>aS (L2.ixN xs.length p) λq=>aS (xs[q]?.bind iV) λys=>(yE Ψ i τ).bind λy=>
       sO τ (dn (λk lv=>gts X.μ k lv 0 e || gts X.μ k lv 2 a || gts X.μ k lv 2 i) own) v xs ys q y z
   else .bad
 | .put _ _ _,_,_=>.bad
 | .mth m (.var v) es,τ,own=>aS (ef (aC τ v)) λxs=>if 0 < bz (dn (λk lv=>bX X.μ k lv 0 es) own) v then (yEs Ψ es τ).bind λds=>sr m τ (dn (λk lv=>bX X.μ k lv 0 es) own) v xs ds else .bad
 | .mth m (.ix (.var v) a) es,τ,own=>aS (ef (aC τ v)) λxs=>if bz (dn (λk lv=>gts X.μ k lv 2 a || bX X.μ k lv 0 es) own) v=2 then
     (yE Ψ a τ).bind λp=>aS (intOf p) λp=>aS (L2.ixN xs.length p) λq=>aS (xs[q]?.bind iV) λys=>(yEs Ψ es τ).bind λds=>xn m τ (dn (λk lv=>gts X.μ k lv 2 a || bX X.μ k lv 0 es) own) v xs ys ds q
   else .bad
 | .mth _ _ _,_,_=>.bad
 | .ret e,τ,own=>(yE Ψ e τ).bind λx=>if X.lv=0\/isL x=false then .ok (.rt x) else match e with
   | .var i=>if X.lv<=bz own i then .ok (.rt x) else .bad
   | e=>if X.lv<=min (cU X.μ e) (lvT x) then .ok (.rt x) else .bad
 | .ite c a b,τ,own=>(yE Ψ c τ).bind λx=>match x with
   | .bl true=>ySs Ψ ΨM X n a τ (dn (λk lv=>gts X.μ k lv 2 c) own)
   | .bl false=>ySs Ψ ΨM X n b τ (dn (λk lv=>gts X.μ k lv 2 c) own)
   | _=>.bad
 | .for t it body,τ,own=>((yIt Ψ it τ).bind λxs=>cx (λx τ' own'=>match aJ t x τ' with
     | some τ2=>ySs Ψ ΨM X n body τ2 (dn (frg t) own')
     | none=>.bad) xs τ (dn (λk lv=>eW X.μ k lv 0 it) own)).noX
 | .while c body,τ,own=>(gu (λτ'=>yE Ψ c τ') (λk lv=>gts X.μ k lv 2 c) (λτ' own'=>ySs Ψ ΨM X n body τ' own') n τ own).noX
 | .expr e,τ,own=>match e with
   | .call f (.var v :: es)=>if 0 < (X.μ f).mv then
       (if (X.μ f).mv<=bz (dn (λi lv=>bX X.μ i lv 0 es) own) v then
         (aC τ v).bind λx=>(yEs Ψ es τ).bind λxs=>(ΨM f (x :: xs)).bind λ_=>.ok (.nx (τ.set v none) (dn (λi _=>i == v) (dn (λi lv=>bX X.μ i lv 0 es) own)))
       else .bad)
     else (yE Ψ (.call f (.var v :: es)) τ).bind λ_=>.ok (.nx τ (dn (λi lv=>gts X.μ i lv 0 (.call f (.var v :: es))) own))
   | e=>(yE Ψ e τ).bind λ_=>.ok (.nx τ (dn (λk lv=>gts X.μ k lv 0 e) own))
 | .nev,_,_=>.bad
noncomputable def ySs (Ψ ΨM:FnT) (X:Fx) (n:Nat):List S->ak->Own->Ou FlT
 | [],τ,own=>.ok (.nx τ own)
 | s :: ss,τ,own=>(yS Ψ ΨM X n s τ own).bind λr=>match r with
   | .nx τ' own'=>ySs Ψ ΨM X n ss τ' own'
   | r=>.ok r
end
structure Gr (h:Hd) (st:Sto) (h':Hd) (st':Sto):Prop where
 pre:st <+: st'
 hm:∀ l,h.h l->h'.h l
 gm:∀ l,h.g l->h'.g l
 hn:∀ l,l < st.length->h'.h l->h.h l
 gn:∀ l,l < st.length->h'.g l->h.g l
 wf:Wf h' st'
theorem Gr.refl {h:Hd} {st:Sto} (w:Wf h st):Gr h st h st:=⟨List.prefix_refl _,λ_ z=>z,λ_ z=>z,λ_ _ z=>z,λ_ _ z=>z,w⟩
theorem Gr.same {h:Hd} {st st':Sto} (p:st <+: st') (w:Wf h st'):Gr h st h st':=⟨p,λ_ z=>z,λ_ z=>z,λ_ _ z=>z,λ_ _ z=>z,w⟩
theorem Gr.trans {h h1 h2:Hd} {st st1 st2:Sto} (a:Gr h st h1 st1) (b:Gr h1 st1 h2 st2):Gr h st h2 st2:=
 ⟨a.pre.trans b.pre,λl z=>b.hm l (a.hm l z),λl z=>b.gm l (a.gm l z),λl hl z=>a.hn l hl (b.hn l (Nat.lt_of_lt_of_le hl a.pre.length_le) z),λl hl z=>a.gn l hl (b.gn l (Nat.lt_of_lt_of_le hl a.pre.length_le) z),b.wf⟩
theorem Gr.av {h h':Hd} {st st':Sto} {u:U} (g:Gr h st h' st') (a:Av h st.length u):Av h' st'.length u:=λl hl=>⟨Nat.lt_of_lt_of_le (a l hl).1 g.pre.length_le,λz=>(a l hl).2 (g.hn l (a l hl).1 z)⟩
noncomputable def Gd {α β:Type} (h:Hd) (st:Sto) (P:Hd->Sto->α->β->Prop) (x:Rs α):Ou β->Prop
 | .bad=>True
 | .ok d=>∃ u st' h',x=.ok u st'/\Gr h st h' st'/\P h' st' u d
 | .exc c=>∃ st' h',x=.exc c st'/\Gr h st h' st'
theorem Gd.imp {α β:Type} {h:Hd} {st:Sto} {P Q:Hd->Sto->α->β->Prop} {x:Rs α} {r:Ou β} (g:Gd h st P x r) (f:∀ h' st' u d,P h' st' u d->Q h' st' u d):Gd h st Q x r:=by
 cases r with
 | bad=>trivial
 | ok d=>obtain ⟨u,st',h',e,p,q⟩:=g; exact ⟨u,st',h',e,p,f _ _ _ _ q⟩
 | exc c=>exact g
theorem Gd.bind {α β γ δ:Type} {h:Hd} {st:Sto} {P:Hd->Sto->α->β->Prop} {Q:Hd->Sto->γ->δ->Prop} {x:Rs α} {r:Ou β} {f:α->Sto->Rs γ} {k:β->Ou δ} (g:Gd h st P x r)
   (n:∀ u d st' h',Gr h st h' st'->P h' st' u d->Gd h' st' Q (f u st') (k d)):Gd h st Q (x.bind f) (r.bind k):=by
 cases r with
 | bad=>trivial
 | exc c=>obtain ⟨st',h',e,p⟩:=g; subst e; exact ⟨st',h',rfl,p⟩
 | ok d=>
   obtain ⟨u,st',h',e,p,q⟩:=g
   subst e
   have:=n u d st' h' p q
   show Gd h st Q (f u st') (k d)
   generalize k d=y at this
   cases y with
   | bad=>trivial
   | exc c=>obtain ⟨st2,h2,e,p2⟩:=this; exact ⟨st2,h2,e,p.trans p2⟩
   | ok d'=>obtain ⟨u',st2,h2,e,p2,q2⟩:=this; exact ⟨u',st2,h2,e,p.trans p2,q2⟩
theorem Gd.ok {α β:Type} {h:Hd} {st:Sto} {P:Hd->Sto->α->β->Prop} {u:α} {d:β} (w:Wf h st) (p:P h st u d):Gd h st P (.ok u st) (.ok d):=⟨u,st,h,rfl,.refl w,p⟩
theorem Gd.noX {α β:Type} {h:Hd} {st:Sto} {P:Hd->Sto->α->β->Prop} {x:Rs α} {r:Ou β} (g:Gd h st P x r):Gd h st P x.noX r.noX:=by
 cases r with
 | bad=>trivial
 | exc c=>trivial
 | ok d=>obtain ⟨u,st',h',e,p,q⟩:=g; subst e; exact ⟨u,st',h',rfl,p,q⟩
theorem Gd.inv {α β:Type} {h:Hd} {st:Sto} {P:Hd->Sto->α->β->Prop} {x:Rs α} {r:Ou β} {d:β} (g:Gd h st P x r) (e:r=.ok d):∃ u st' h',x=.ok u st'/\Gr h st h' st'/\P h' st' u d:=by
 subst e; exact g
noncomputable def Dp (h:Hd) (st:Sto) (l:Nat):Prop:=∃ fz us,st[l]?=some (fz,us)/\∀ u ∈ us,∃ c,u=.loc c/\c < st.length/\¬ h.g c
noncomputable def Kd (h:Hd) (k:Nat) (st:Sto) (u:U):Prop:=Av h st.length u\/(1<=k/\∃ l,u=.loc l/\l < st.length/\¬ h.g l)\/(2<=k/\∃ l,u=.loc l/\Dp h st l)
theorem Dp.lt {h:Hd} {st:Sto} {l:Nat} (d:Dp h st l):l < st.length:=by obtain ⟨_,_,e,_⟩:=d; exact (List.getElem?_eq_some_iff.mp e).1
theorem Kd.mono {h:Hd} {k k':Nat} {st:Sto} {u:U} (a:Kd h k st u) (e:k<=k'):Kd h k' st u:=a.imp id (Or.imp (λ⟨x,y⟩=>⟨Nat.le_trans x e,y⟩) λ⟨x,y⟩=>⟨Nat.le_trans x e,y⟩)
theorem Dp.gr {h h':Hd} {st st':Sto} {l:Nat} (d:Dp h st l) (g:Gr h st h' st'):Dp h' st' l:=by
 obtain ⟨fz,us,e,q⟩:=d
 exact ⟨fz,us,eU g.pre _ _ e,λu hu=>let ⟨c,e1,e2,e3⟩:=q u hu; ⟨c,e1,Nat.lt_of_lt_of_le e2 g.pre.length_le,λz=>e3 (g.gn c e2 z)⟩⟩
theorem Kd.gr {h h':Hd} {k:Nat} {st st':Sto} {u:U} (a:Kd h k st u) (g:Gr h st h' st'):Kd h' k st' u:=by
 rcases a with a | ⟨x,l,e,hl,ng⟩ | ⟨x,l,e,d⟩
 · exact .inl (g.av a)
 · exact .inr (.inl ⟨x,l,e,Nat.lt_of_lt_of_le hl g.pre.length_le,λz=>ng (g.gn l hl z)⟩)
 · exact .inr (.inr ⟨x,l,e,d.gr g⟩)
theorem Kd.zero {h:Hd} {st:Sto} {u:U} (a:Kd h 0 st u):Av h st.length u:=by
 rcases a with a | ⟨x,_⟩ | ⟨x,_⟩
 · exact a
 · omega
 · omega
noncomputable def PX (k:Nat) (h:Hd) (st:Sto) (u:U) (d:T):Prop:=Rep st u d/\Kd h k st u
noncomputable def PXs (k:Nat) (h:Hd) (st:Sto) (us:List U) (ds:List T):Prop:=aD st us ds/\∀ u ∈ us,Kd h k st u
theorem PX.of {k:Nat} {h:Hd} {st:Sto} {u:U} {d:T} (r:Rep st u d) (a:Av h st.length u):PX k h st u d:=⟨r,.inl a⟩
theorem PX.gr {k:Nat} {h h':Hd} {st st':Sto} {u:U} {d:T} (p:PX k h st u d) (g:Gr h st h' st'):PX k h' st' u d:=⟨p.1.ext g.pre,p.2.gr g⟩
theorem PXs.gr {k:Nat} {h h':Hd} {st st':Sto} {u:List U} {d:List T} (p:PXs k h st u d) (g:Gr h st h' st'):PXs k h' st' u d:=⟨p.1.ext g.pre,λu hu=>(p.2 u hu).gr g⟩
theorem PX.mono {k k':Nat} {h:Hd} {st:Sto} {u:U} {d:T} (p:PX k h st u d) (e:k<=k'):PX k' h st u d:=⟨p.1,p.2.mono e⟩
theorem PX.weak {k:Nat} {h:Hd} {st:Sto} {u:U} {d:T} (p:PX 0 h st u d):PX k h st u d:=p.mono (Nat.zero_le _)
theorem PX.av {h:Hd} {st:Sto} {u:U} {d:T} (p:PX 0 h st u d):Av h st.length u:=p.2.zero
structure WE (h:Hd) (st:Sto) (ρ:Env) (τ:ak) (own:Own):Prop where
 len:ρ.length=τ.length
 val:∀ (i:Nat) d,τ[i]?=some (some d)->∃ u,ρ[i]?=some (some u)/\Rep st u d/\(Av h st.length u\/∃ lv,(i,lv) ∈ own/\Kd h lv st u)
theorem WE.gr {h h':Hd} {st st':Sto} {ρ:Env} {τ:ak} {own:Own} (w:WE h st ρ τ own) (g:Gr h st h' st'):WE h' st' ρ τ own:=
 ⟨w.len,λi d q=>let ⟨u,h1,h2,h3⟩:=w.val i d q; ⟨u,h1,h2.ext g.pre,h3.imp g.av λ⟨lv,a,b⟩=>⟨lv,a,b.gr g⟩⟩⟩
theorem fE {st:Sto} {c:Bool × List U}:st <+: st++[c]:=List.prefix_append _ _
theorem Wf.new {h:Hd} {st:Sto} {us:List U} (w:Wf h st) (a:∀ u ∈ us,Av h st.length u):Wf h (st++[(false,us)]):=by
 refine ⟨λk fz vs hk e u hu=>?_,λl hl=>by rw [List.length_append]; exact Nat.lt_add_right _ (w.lt l hl)⟩
 rw [List.length_append]
 rcases Nat.lt_or_ge k st.length with q | q
 · rw [List.getElem?_append_left q] at e
   exact (w.av k fz vs hk e u hu).mono (Nat.le_add_right _ _)
 · rw [List.getElem?_append_right q] at e
   have:=List.mem_of_getElem? e
   rw [List.mem_singleton] at this
   cases this
   exact (a u hu).mono (Nat.le_add_right _ _)
theorem qX {h:Hd} {st:Sto} {us:List U} {ds:List T} (w:Wf h st) (r:aD st us ds):Rep (st++[(false,us)]) (.loc st.length) (.lst ds)/\Av h (st++[(false,us)]).length (.loc st.length):=by
 refine ⟨.loc (fz:=false) (us:=us) ?_ (r.ext fE),.loc (by rw [List.length_append]; exact Nat.lt_succ_self _) λz=>Nat.lt_irrefl _ (w.lt _ z)⟩
 rw [List.getElem?_append_right (Nat.le_refl _),Nat.sub_self]; rfl
theorem lR {k:Nat} {h:Hd} {st:Sto} {us:List U} {ds:List T} (w:Wf h st) (p:PXs 0 h st us ds):Gd h st (PX k) (new st us) (.ok (.lst ds)):=by
 obtain ⟨r1,r2⟩:=qX w p.1
 exact ⟨_,_,h,rfl,.same fE (w.new λu hu=>(p.2 u hu).zero),.of r1 r2⟩
theorem fV {k:Nat} {h:Hd} {st:Sto} {u:U} {ds:List T} (w:Wf h st) (p:PX k h st u (.lst ds)):∃ us,((∃ l fz,u=.loc l/\st[l]?=some (fz,us))\/u=.kl us)/\PXs (k - 1) h st us ds:=by
 rcases p.1.lst_inv with ⟨l,fz,us,rfl,e,r⟩ | ⟨us,rfl,r⟩
 · refine ⟨us,.inl ⟨l,fz,rfl,e⟩,r,λu hu=>?_⟩
   rcases p.2 with a | ⟨x,l',z,hl,ng⟩ | ⟨x,l',z,fz',us',e',q⟩
   · exact .inl (w.av _ _ _ (λq=>(a l (by simp [locs])).2 (h.sub l q)) e u hu)
   · cases z; exact .inl (w.av _ _ _ ng e u hu)
   · cases z
     rw [e] at e'; cases e'
     obtain ⟨c,e1,e2,e3⟩:=q u hu
     exact .inr (.inl ⟨by omega,c,e1,e2,e3⟩)
 · refine ⟨us,.inr rfl,r,λu hu=>.inl ?_⟩
   rcases p.2 with a | ⟨_,l,z,_⟩ | ⟨_,l,z,_⟩
   · exact Av.kl.mp a u hu
   · cases z
   · cases z
theorem iI {k:Nat} {h:Hd} {st:Sto} {u:U} {ds:List T} (w:Wf h st) (p:PX k h st u (.lst ds)):∃ us,pM st u=some us/\seq? st u=some us/\PXs (k - 1) h st us ds:=by
 obtain ⟨us,⟨l,fz,rfl,e⟩ | rfl,q⟩:=fV w p
 · exact ⟨us,by simp [pM,e],by simp [seq?,e],q⟩
 · exact ⟨us,rfl,rfl,q⟩
theorem PXs.mono {k k':Nat} {h:Hd} {st:Sto} {u:List U} {d:List T} (p:PXs k h st u d) (e:k<=k'):PXs k' h st u d:=⟨p.1,λu hu=>(p.2 u hu).mono e⟩
theorem jF {k k':Nat} {h:Hd} {st:Sto} {u:U} {ds:List T} (p:PX k h st u (.tup ds)):∃ us,u=.tup us/\PXs k' h st us ds:=by
 obtain ⟨us,rfl,r⟩:=p.1.CW
 refine ⟨us,rfl,r,λu hu=>.inl ?_⟩
 rcases p.2 with a | ⟨_,l,z,_⟩ | ⟨_,l,z,_⟩
 · exact Av.tup.mp a u hu
 · cases z
 · cases z
theorem Be {k:Nat} {h:Hd} {st:Sto} {us:List U} {ds:List T} (p:PXs k h st us ds) {i:Int} {d:T} (e:atI ds i=some d):∃ u,atI us i=some u/\PX k h st u d:=by
 unfold atI at e ⊢
 rw [p.1.length]
 obtain ⟨j,h1,h2⟩:=Option.bind_eq_some_iff.mp e
 obtain ⟨u,h3,h4⟩:=p.1.get h2
 exact ⟨u,by rw [h1]; exact h3,h4,(p.2 u (List.mem_of_getElem? h3))⟩
theorem PXs.append {k:Nat} {h:Hd} {st:Sto} {us vs:List U} {ds es:List T} (p:PXs k h st us ds) (q:PXs k h st vs es):PXs k h st (us++vs) (ds++es):=
 ⟨p.1.append q.1,λu hu=>(List.mem_append.mp hu).elim (p.2 u) (q.2 u)⟩
theorem PXs.sub {k:Nat} {h:Hd} {st:Sto} {us vs:List U} {ds es:List T} (p:PXs k h st us ds) (r:aD st vs es) (s:∀ u ∈ vs,u ∈ us):PXs k h st vs es:=⟨r,λu hu=>p.2 u (s u hu)⟩
theorem PXs.cut {k:Nat} {h:Hd} {st:Sto} {us:List U} {ds:List T} (p:PXs k h st us ds) (lo hi:Option Int):PXs k h st (A6 us lo hi) (Bz ds lo hi):=by
 unfold A6 Bz
 rw [p.1.length]
 exact p.sub (.take _ (.drop _ p.1)) λu hu=>List.mem_of_mem_drop (List.mem_of_mem_take hu)
theorem PXs.nil {k:Nat} {h:Hd} {st:Sto}:PXs k h st [] []:=⟨.nil,λ_ z=>nomatch z⟩
theorem PXs.cons {k:Nat} {h:Hd} {st:Sto} {u:U} {d:T} {us:List U} {ds:List T} (p:PX k h st u d) (q:PXs k h st us ds):PXs k h st (u :: us) (d :: ds):=
 ⟨.cons p.1 q.1,λv hv=>by
   rcases List.mem_cons.mp hv with rfl | hv
   · exact p.2
   · exact q.2 v hv⟩
theorem JN {k:Nat} {h:Hd} {st:Sto} {us:List U} {ds:List T} (w:Wf h st) (p:PXs 0 h st us ds):Gd h st (PX k) (.ok (.tup us) st) (.ok (.tup ds)):=
 .ok w (.of (.tup p.1) (Av.tup.mpr λu hu=>(p.2 u hu).zero))
theorem wW {st:Sto} {x y:U} {us vs:List U} (c1:(∃ l fz,x=.loc l/\st[l]?=some (fz,us))\/x=.kl us) (c2:(∃ l fz,y=.loc l/\st[l]?=some (fz,vs))\/y=.kl vs) :
   ev2 .add x y st=if us.length + vs.length < ae then new st (us++vs) else .bad:=by
 rcases c1 with ⟨l,fz,rfl,f1⟩ | rfl <;> rcases c2 with ⟨k,fz2,rfl,f2⟩ | rfl <;> simp only [ev2.eq_def, *]
theorem CP {h:Hd} {st:Sto} {x y:U} {a d:T} (w:Wf h st) (p:PX 1 h st x a) (q:PX 1 h st y d) (o:Op2):Gd h st (PX 0) (ev2 o x y st) (z2 o a d):=by
 cases a with
 | int i=>
   have:=p.1.int_inv; subst this
   cases d with
   | int j=>
     have:=q.1.int_inv; subst this
     cases o <;> simp only [ev2.eq_def,z2.eq_def] <;> (try split) <;> first | exact .ok w (.of .int .int) | trivial
   | _=>cases o <;> trivial
 | lst xs=>
   cases d with
   | lst ys=>
     obtain ⟨us,c1,r1⟩:=fV w p
     obtain ⟨vs,c2,r2⟩:=fV w q
     cases o <;> try trivial
     have e1:=r1.1.length
     have e2:=r2.1.length
     rw [wW c1 c2]
     simp only [z2.eq_def]
     rw [<- e1,<- e2]
     split
     · exact lR w (r1.append r2)
     · trivial
   | _=>cases o <;> trivial
 | _=>cases o <;> trivial
theorem D8 {k:Nat} {h:Hd} {st:Sto} {x y:U} {a d:T} (w:Wf h st) (p:PX (k + 1) h st x a) (q:PX 2 h st y d):Gd h st (PX k) (evI x y st) (zI a d):=by
 cases d with
 | int i=>
   have:=q.1.int_inv; subst this
   cases a with
   | lst xs=>
     obtain ⟨us,_,e2,p'⟩:=iI w p
     simp only [zI.eq_def,evI.eq_def,e2]
     cases e:atI xs i with
     | some d'=>
       obtain ⟨u,e3,r⟩:=Be p' e
       rw [e3]; exact .ok w (r.mono (Nat.le_of_eq (Nat.add_sub_cancel k 1)))
     | none=>trivial
   | tup xs=>
     obtain ⟨us,rfl,p'⟩:=jF (k':=0) p
     simp only [zI.eq_def,evI.eq_def,seq?]
     cases e:atI xs i with
     | some d'=>
       obtain ⟨u,e3,r⟩:=Be p' e
       rw [e3]; exact .ok w r.weak
     | none=>trivial
   | _=>trivial
 | _=>cases a <;> trivial
theorem wH {st:Sto}:∀ {us:List U} {ds:List T} {b:Bool},aD st us ds->mX ds=some b->allB us=some b
 | _,_,_,.nil,e=>e
 | _,_,b,.cons h r,e=>by
   cases h <;> first | (simp [mX] at e; done) | skip
   simp only [mX,Option.map_eq_some_iff] at e
   obtain ⟨c,e1,e2⟩:=e
   simp only [allB,wH r e1,Option.map_some,e2]
theorem ints_rep {st:Sto}:∀ {us:List U} {ds:List T} {b:List Int},aD st us ds->nK ds=some b->nS us=some b
 | _,_,_,.nil,e=>e
 | _,_,b,.cons h r,e=>by
   cases h <;> first | (simp [nK] at e; done) | skip
   simp only [nK,Option.map_eq_some_iff] at e
   obtain ⟨c,e1,e2⟩:=e
   simp only [nS,ints_rep r e1,Option.map_some,e2]
noncomputable def biK:Bi->Nat
 | .len=>2
 | _=>1
theorem Er {h:Hd} {st:Sto} {us:List U} {ds:List T} (w:Wf h st) (o:Bi) (p:PXs (biK o) h st us ds):Gd h st (PX 0) (evB o us st) (zB o ds):=by
 match ds,p with
 | [],_=>cases o <;> trivial
 | [a],⟨.cons r .nil,hp⟩=>
   rename_i x
   have px:PX (biK o) h st x a:=⟨r,hp x (List.mem_singleton_self x)⟩
   cases a with
   | int i=>
     have:=r.int_inv; subst this
     cases o <;> first | trivial | exact .ok w (.of .int .int)
   | bl c=>
     have:=r.iB; subst this
     cases o <;> first | trivial | exact .ok w (.of .int .int)
   | lst xs=>
     obtain ⟨vs,e1,e2,p'⟩:=iI w px
     cases o <;> try trivial
     · simp only [evB.eq_def,zB.eq_def,e2,p'.1.length]; exact .ok w (.of .int .int)
     · simp only [evB.eq_def,zB.eq_def,e2]; exact lR w p'
     · simp only [evB.eq_def,zB.eq_def,e1]
       cases z:mX xs with
       | none=>trivial
       | some c=>rw [wH p'.1 z]; exact .ok w (.of .bl .bl)
   | tup xs=>
     obtain ⟨vs,rfl,p'⟩:=jF (k':=0) px
     cases o <;> try trivial
     · simp only [evB.eq_def,zB.eq_def,seq?,p'.1.length]; exact .ok w (.of .int .int)
     · simp only [evB.eq_def,zB.eq_def,seq?]; exact lR w p'
   | _=>cases o <;> trivial
 | [a,d],⟨.cons r (.cons r2 .nil),hp⟩=>
   cases a with
   | int i=>
     have:=r.int_inv; subst this
     cases d with
     | int j=>
       have:=r2.int_inv; subst this
       cases o <;> first | trivial | exact .ok w (.of .int .int)
     | _=>cases o <;> trivial
   | _=>cases o <;> trivial
 | a :: b :: c :: r,_=>
   have:zB o (a :: b :: c :: r)=.bad:=by cases o <;> cases a <;> first | rfl | (cases b <;> rfl)
   rw [this]; trivial
theorem Cz {st:Sto} {u:U} {d:T} (r:Rep st u d) (t:Ty):yr t u=iD t d:=by cases r <;> cases t <;> rfl
theorem Dx {st:Sto} {u:U} {d:T} (r:Rep st u d):yN u=Em d:=by cases r <;> rfl
theorem nq {st:Sto} {u:U} {d:T} (r:Rep st u d) (e:E) {o:Option Int} (h:n8 e d=some o):vA e u=some o:=by
 cases r <;> cases e <;> first | exact h | (cases h; done)
noncomputable def SqR (h:Hd) (st:Sto):Sq->List T->Prop
 | .vals us,xs=>PXs 0 h st us xs
 | .lst l,xs=>¬ h.g l/\∃ fz us,st[l]?=some (fz,us)/\aD st us xs
 | .enu l,ys=>¬ h.g l/\∃ fz us xs,st[l]?=some (fz,us)/\aD st us xs/\ys=je 0 xs
 | .zip p q,zs=>∃ xs ys,SqR h st p xs/\SqR h st q ys/\zs=j6 xs ys
noncomputable def SqN (h:Hd):Sq->Prop
 | .lst l=>¬ h.h l
 | .enu l=>¬ h.h l
 | .vals _=>True
 | .zip p q=>SqN h p/\SqN h q
noncomputable def Cu:Option T->Option T->Option T
 | some x,some y=>some (.tup [x,y])
 | _,_=>none
theorem sZ:∀ (xs ys:List T) (i:Nat),(j6 xs ys)[i]?=Cu xs[i]? ys[i]?
 | [],ys,i=>by simp [j6,Cu]
 | x :: xs,[],i=>by
   simp only [j6,List.getElem?_nil]
   cases (x :: xs)[i]? <;> rfl
 | x :: xs,y :: ys,0=>by simp [j6,Cu]
 | x :: xs,y :: ys,i + 1=>by simp only [j6,List.getElem?_cons_succ,sZ xs ys i]
theorem mB:∀ (xs ys:List T),(j6 xs ys).length=min xs.length ys.length
 | [],ys=>by simp [j6]
 | x :: xs,[]=>by simp [j6]
 | x :: xs,y :: ys=>by simp only [j6,List.length_cons,mB xs ys]; omega
theorem t4:∀ (xs:List T) (k i:Nat),(je k xs)[i]?=(xs[i]?).map λx=>.tup [.int ((k + i:Nat):Int),x]
 | [],_,_=>by simp [je]
 | x :: xs,k,0=>by simp [je]
 | x :: xs,k,i + 1=>by
   simp only [je,List.getElem?_cons_succ]
   rw [t4 xs (k + 1) i,show k + 1 + i=k + (i + 1) by omega]
theorem mr:∀ (xs:List T) (k:Nat),(je k xs).length=xs.length
 | [],_=>rfl
 | x :: xs,k=>by simp [je,mr xs]
theorem aD.get' {st:Sto} {us:List U} {ds:List T} (r:aD st us ds) (i:Nat):(∃ u d,us[i]?=some u/\ds[i]?=some d/\Rep st u d)\/(us[i]?=none/\ds[i]?=none):=by
 cases e:ds[i]? with
 | some d=>obtain ⟨u,h1,h2⟩:=r.get e; exact .inl ⟨u,d,h1,rfl,h2⟩
 | none=>exact .inr ⟨by rw [List.getElem?_eq_none_iff,r.length]; exact List.getElem?_eq_none_iff.mp e,rfl⟩
theorem SqR.at {h:Hd} {st:Sto} {q:Sq} {xs:List T} (s:SqR h st q xs) (w:Wf h st) (i:Nat):(xs[i]?=none/\q.at st i=some none)\/∃ x u,xs[i]?=some x/\q.at st i=some (some u)/\PX 0 h st u x:=by
 induction q generalizing xs with
 | vals us=>
   rcases s.1.get' i with ⟨u,d,h1,h2,h3⟩ | ⟨h1,h2⟩
   · exact .inr ⟨d,u,h2,by simp only [Sq.at,h1],h3,s.2 u (List.mem_of_getElem? h1)⟩
   · exact .inl ⟨h2,by simp only [Sq.at,h1]⟩
 | lst l=>
   obtain ⟨ng,fz,us,e,r⟩:=s
   rcases r.get' i with ⟨u,d,h1,h2,h3⟩ | ⟨h1,h2⟩
   · exact .inr ⟨d,u,h2,by simp only [Sq.at,e,Option.map_some,h1],.of h3 (w.av _ _ _ ng e u (List.mem_of_getElem? h1))⟩
   · exact .inl ⟨h2,by simp only [Sq.at,e,Option.map_some,h1]⟩
 | enu l=>
   obtain ⟨ng,fz,us,ys,e,r,rfl⟩:=s
   rw [t4,Nat.zero_add]
   rcases r.get' i with ⟨u,d,h1,h2,h3⟩ | ⟨h1,h2⟩
   · refine .inr ⟨_,.tup [.int (i:Nat),u],by rw [h2]; rfl,by simp only [Sq.at,e,Option.map_some,h1],.of (.tup (.cons .int (.cons h3 .nil))) ?_⟩
     refine Av.tup.mpr λv hv=>?_
     simp only [List.mem_cons,List.not_mem_nil,or_false] at hv
     rcases hv with rfl | rfl
     · exact .int
     · exact w.av _ _ _ ng e _ (List.mem_of_getElem? h1)
   · exact .inl ⟨by rw [h2]; rfl,by simp only [Sq.at,e,Option.map_some,h1,Option.map_none]⟩
 | zip p q ihp ihq=>
   obtain ⟨as,bs,s1,s2,rfl⟩:=s
   rw [sZ]
   rcases ihp s1 with ⟨a1,a2⟩ | ⟨x,u,a1,a2,a3⟩
   · rcases ihq s2 with ⟨b1,b2⟩ | ⟨y,v,b1,b2,b3⟩
     · exact .inl ⟨by rw [a1]; rfl,by simp only [Sq.at,a2,b2,Option.bind_some,Option.map_some]; rfl⟩
     · exact .inl ⟨by rw [a1]; rfl,by simp only [Sq.at,a2,b2,Option.bind_some,Option.map_some]; rfl⟩
   · rcases ihq s2 with ⟨b1,b2⟩ | ⟨y,v,b1,b2,b3⟩
     · exact .inl ⟨by rw [a1,b1]; rfl,by simp only [Sq.at,a2,b2,Option.bind_some,Option.map_some]; rfl⟩
     · refine .inr ⟨.tup [x,y],.tup [u,v],by rw [a1,b1]; rfl,by simp only [Sq.at,a2,b2,Option.bind_some,Option.map_some]; rfl,.of (.tup (.cons a3.1 (.cons b3.1 .nil))) ?_⟩
       refine Av.tup.mpr λw hw=>?_
       simp only [List.mem_cons,List.not_mem_nil,or_false] at hw
       rcases hw with rfl | rfl
       · exact a3.2.zero
       · exact b3.2.zero
theorem SqR.len {h:Hd} {st:Sto} {q:Sq} {xs:List T} (s:SqR h st q xs):q.len st=xs.length:=by
 induction q generalizing xs with
 | vals us=>exact s.1.length
 | lst l=>
   obtain ⟨ng,fz,us,e,r⟩:=s
   simp only [Sq.len,e,Option.map_some,Option.getD_some,r.length]
 | enu l=>
   obtain ⟨ng,fz,us,ys,e,r,rfl⟩:=s
   simp only [Sq.len,e,Option.map_some,Option.getD_some,r.length,mr]
 | zip p q ihp ihq=>
   obtain ⟨as,bs,s1,s2,rfl⟩:=s
   simp only [Sq.len,ihp s1,ihq s2,mB]
theorem SqR.gr {h h':Hd} {st st':Sto} {q:Sq} {xs:List T} (s:SqR h st q xs) (g:Gr h st h' st'):SqR h' st' q xs:=by
 induction q generalizing xs with
 | vals us=>exact PXs.gr s g
 | lst l=>
   obtain ⟨ng,fz,us,e1,r⟩:=s
   exact ⟨λz=>ng (g.gn l (List.getElem?_eq_some_iff.mp e1).1 z),fz,us,eU g.pre _ _ e1,r.ext g.pre⟩
 | enu l=>
   obtain ⟨ng,fz,us,ys,e1,r,rfl⟩:=s
   exact ⟨λz=>ng (g.gn l (List.getElem?_eq_some_iff.mp e1).1 z),fz,us,ys,eU g.pre _ _ e1,r.ext g.pre,rfl⟩
 | zip p q ihp ihq=>
   obtain ⟨as,bs,s1,s2,rfl⟩:=s
   exact ⟨as,bs,ihp s1,ihq s2,rfl⟩
noncomputable def PO (h:Hd) (st:Sto):Option U->Option T->Prop
 | some u,some d=>PX 0 h st u d
 | none,none=>True
 | _,_=>False
theorem PO.gr {h h':Hd} {st st':Sto} {o:Option U} {p:Option T} (s:PO h st o p) (g:Gr h st h' st'):PO h' st' o p:=by
 cases o <;> cases p <;> first | exact s | exact PX.gr s g
theorem qx {R:Hd->Sto->Option U->Option T->Prop} {Q:Hd->Sto->List U->List T->Prop} {f:U->Sto->Rs (Option U)} {g:T->Ou (Option T)} {q:Sq} {xs:List T} {st0:Sto} {h0:Hd}
   (hf:∀ u x st' h',Gr h0 st0 h' st'->PX 0 h' st' u x->Gd h' st' R (f u st') (g x))
   (hn:∀ h st,Q h st [] []) (hc:∀ h st h' st' h2 st2 o o' ys ys',Gr h st h' st'->Gr h' st' h2 st2->R h' st' o o'->Q h2 st2 ys ys'->(st'=st'->True)->Q h2 st2 (match o with | some y=>y :: ys | none=>ys) (match o' with | some y=>y :: ys' | none=>ys')) :
   ∀ (n i:Nat) (st:Sto) (h:Hd),Gr h0 st0 h st->SqR h st q xs->i<=xs.length->i + n=xs.length + 1->Gd h st Q (kD f q n i st) (cq g (xs.drop i))
 | 0,i,st,h,_,_,hi,e=>by omega
 | n + 1,i,st,h,p,s,hi,e=>by
   rw [kD]
   rcases s.at p.wf i with ⟨e1,e2⟩ | ⟨x,u,e1,e2,px⟩
   · rw [e2]
     dsimp only
     rw [List.drop_eq_nil_of_le (List.getElem?_eq_none_iff.mp e1),cq]
     exact .ok p.wf (hn _ _)
   · rw [e2]
     dsimp only
     have hl:=(List.getElem?_eq_some_iff.mp e1).1
     have e3:xs.drop i=x :: xs.drop (i + 1):=by
       rw [List.drop_eq_getElem_cons hl]
       rw [(List.getElem?_eq_some_iff.mp e1).2]
     rw [e3,cq]
     refine (hf u x st h p px).bind λo o' st1 h1 g1 ho=>?_
     refine (qx hf hn hc n (i + 1) st1 h1 (p.trans g1) (s.gr g1) hl (by omega)).bind λys ys' st2 h2 g2 hy=>?_
     exact .ok g2.wf (hc _ _ _ _ _ _ _ _ _ _ g1 g2 ho hy λ_=>trivial)
theorem qm {f:U->Sto->Rs (Option U)} {g:T->Ou (Option T)} {q:Sq} {xs:List T} {st0:Sto} {h0:Hd}
   (hf:∀ u x st' h',Gr h0 st0 h' st'->PX 0 h' st' u x->Gd h' st' PO (f u st') (g x)) (w:Wf h0 st0) (s:SqR h0 st0 q xs):Gd h0 st0 (PXs 0) (kD f q (xs.length + 1) 0 st0) (cq g xs):=by
 have:=qx (R:=PO) (Q:=PXs 0) hf (λ_ _=>.nil) (λh st h' st' h2 st2 o o' ys ys' g1 g2 ho hy _=>by
   have ho2:=ho.gr g2
   cases o <;> cases o' <;> first | exact ho2.elim | exact hy | exact .cons ho2 hy) (xs.length + 1) 0 st0 h0 (.refl w) s (Nat.zero_le _) (Nat.zero_add _)
 rwa [List.drop_zero] at this
structure Ent (h:Hd) (st:Sto) (l:Nat) (cs:List Nat) (lv:Nat):Prop where
 hl:h.h l
 one:lv=1->¬ h.g l/\cs=[]/\∃ us,st[l]?=some (false,us)
 two:lv ≠ 1->lv=2/\h.g l/\st[l]?=some (false,cs.map .loc)/\∀ c ∈ cs,h.h c/\¬ h.g c/\∃ ws,st[c]?=some (false,ws)
 nd:(l :: cs).Nodup
noncomputable def FrR (lv:Nat) (st:Sto) (h':Hd) (st':Sto) (u:U) (d:T):Prop:=
 if lv=0\/isL d=false then PX 0 h' st' u d else Rep st' u d/\∃ l cs,u=.loc l/\Ent h' st' l cs lv/\∀ k ∈ l :: cs,st.length<=k
noncomputable def Pure (md:Md) (F:List U->Sto->Rs U) (G:List T->Ou T):Prop:=
 (md.sc=true->∀ ds d,G ds=.ok d->eN md.lv d=true)/\∀ h st us ds,Wf h st->PXs 0 h st us ds->Gd h st (FrR md.lv st) (F us st) (G ds)
noncomputable def Hd.less (h:Hd) (X:Nat->Prop):Hd:=⟨λk=>h.h k/\¬ X k,λk=>h.g k/\¬ X k,λk z=>⟨h.sub k z.1,z.2⟩⟩
theorem Av.less {h:Hd} {X:Nat->Prop} {n:Nat} {u:U} (a:Av h n u):Av (h.less X) n u:=a.imp λ_ _ z=>z.1
theorem Ent.lt {h:Hd} {st:Sto} {l:Nat} {cs:List Nat} {lv:Nat} (e:Ent h st l cs lv):∀ k ∈ l :: cs,k < st.length:=by
 intro k hk
 by_cases z:lv=1
 · obtain ⟨_,rfl,us,e1⟩:=e.one z
   rw [List.mem_singleton] at hk
   subst hk
   exact (List.getElem?_eq_some_iff.mp e1).1
 · obtain ⟨_,_,e1,e2⟩:=e.two z
   rcases List.mem_cons.mp hk with rfl | hk
   · exact (List.getElem?_eq_some_iff.mp e1).1
   · obtain ⟨_,_,ws,e3⟩:=e2 k hk
     exact (List.getElem?_eq_some_iff.mp e3).1
theorem Ent.hid {h:Hd} {st:Sto} {l:Nat} {cs:List Nat} {lv:Nat} (e:Ent h st l cs lv):∀ k ∈ l :: cs,h.h k:=by
 intro k hk
 rcases List.mem_cons.mp hk with rfl | hk
 · exact e.hl
 · by_cases z:lv=1
   · obtain ⟨_,rfl,_⟩:=e.one z; cases hk
   · obtain ⟨_,_,e1,e2⟩:=e.two z
     exact (e2 k hk).1
theorem Wf.less {h:Hd} {st:Sto} {l:Nat} {cs:List Nat} {lv:Nat} (w:Wf h st) (e:Ent h st l cs lv):Wf (h.less λk=>k ∈ l :: cs) st/\Av (h.less λk=>k ∈ l :: cs) st.length (.loc l):=by
 refine ⟨⟨λk fz us hk q u hu=>?_,λk z=>w.lt k z.1⟩,.loc (e.lt l (List.mem_cons_self ..)) λz=>z.2 (List.mem_cons_self ..)⟩
 by_cases hg:h.g k
 · have hx:k ∈ l :: cs:=Classical.byContradiction λz=>hk ⟨hg,z⟩
   by_cases z:lv=1
   · obtain ⟨ng,rfl,_⟩:=e.one z
     rw [List.mem_singleton] at hx
     subst hx
     exact absurd hg ng
   · obtain ⟨_,gl,e1,e2⟩:=e.two z
     rcases List.mem_cons.mp hx with rfl | hx
     · rw [e1] at q; cases q
       obtain ⟨c,hc,rfl⟩:=List.mem_map.mp hu
       exact .loc (e.lt c (List.mem_cons_of_mem _ hc)) λz=>z.2 (List.mem_cons_of_mem _ hc)
     · exact absurd hg (e2 k hx).2.1
 · exact (w.av k fz us hg q u hu).less
theorem FrR.out {lv:Nat} {h h':Hd} {st st':Sto} {u:U} {d:T} (w:Wf h st) (g:Gr h st h' st') (f:FrR lv st h' st' u d):∃ h'',Gr h st h'' st'/\PX 0 h'' st' u d:=by
 unfold FrR at f
 split at f
 · exact ⟨h',g,f⟩
 · obtain ⟨r,l,cs,rfl,e,n⟩:=f
   obtain ⟨w1,a1⟩:=g.wf.less e
   exact ⟨h'.less λk=>k ∈ l :: cs,⟨g.pre,λk z=>⟨g.hm k z,λq=>absurd (w.lt k z) (Nat.not_lt.mpr (n k q))⟩,λk z=>⟨g.gm k z,λq=>absurd (w.lt k (h.sub k z)) (Nat.not_lt.mpr (n k q))⟩,λk hk z=>g.hn k hk z.1,λk hk z=>g.gn k hk z.1,w1⟩,r,.inl a1⟩
theorem Pure.plain {md:Md} {F:List U->Sto->Rs U} {G:List T->Ou T} (p:Pure md F G) {h:Hd} {st:Sto} {us:List U} {ds:List T} (w:Wf h st) (q:PXs 0 h st us ds):Gd h st (PX 0) (F us st) (G ds):=by
 have:=p.2 h st us ds w q
 cases e:G ds with
 | bad=>trivial
 | exc c=>rw [e] at this; exact this
 | ok d=>
   rw [e] at this
   obtain ⟨u,st',h',e1,g,f⟩:=this
   obtain ⟨h2,g2,px⟩:=f.out w g
   exact ⟨u,st',h2,e1,g2,px⟩
mutual
theorem qd {st:Sto}:∀ {u:U} {d:T},Rep st u d->flat d=true->locs u=[]
 | _,_,.non,_=>rfl
 | _,_,.bl,_=>rfl
 | _,_,.int,_=>rfl
 | _,_,.str,_=>rfl
 | _,_,.exo,_=>rfl
 | _,_,.tup r,h=>by simp only [locs]; exact gY r (by simpa [flat] using h)
 | _,_,.loc _ _,h=>by simp [flat] at h
 | _,_,.kl _,h=>by simp [flat] at h
theorem gY {st:Sto}:∀ {us:List U} {ds:List T},aD st us ds->jR ds=true->i4 us=[]
 | _,_,.nil,_=>rfl
 | _,_,.cons h r,e=>by
   rw [jR,Bool.and_eq_true] at e
   simp only [i4,qd h e.1,gY r e.2,List.append_nil]
end
theorem Pure.wY {md:Md} {F:List U->Sto->Rs U} {G:List T->Ou T} (p:Pure md F G) (hs:md.sc=true) {h:Hd} {st:Sto} {us:List U} {ds:List T} (w:Wf h st) (q:PXs 2 h st us ds):Gd h st (FrR md.lv st) (F us st) (G ds):=by
 let X:Nat->Prop:=λk=>∃ u ∈ us,k ∈ locs u\/∃ l fz vs,u=.loc l/\st[l]?=some (fz,vs)/\U.loc k ∈ vs
 have avl:∀ u ∈ us,Av (h.less X) st.length u:=λu hu=>by
   rcases q.2 u hu with a | ⟨_,l,rfl,hl,_⟩ | ⟨_,l,rfl,d⟩
   · exact a.less
   · exact .loc hl λz=>z.2 ⟨_,hu,.inl (by simp [locs])⟩
   · exact .loc d.lt λz=>z.2 ⟨_,hu,.inl (by simp [locs])⟩
 have w1:Wf (h.less X) st:=by
   refine ⟨λk fz vs hk e v hv=>?_,λk z=>w.lt k z.1⟩
   by_cases hg:h.g k
   · have hx:X k:=Classical.byContradiction λz=>hk ⟨hg,z⟩
     obtain ⟨u,hu,hx⟩:=hx
     rcases q.2 u hu with a | ⟨_,l,rfl,hl,ng⟩ | ⟨_,l,rfl,d⟩
     · rcases hx with hx | ⟨l,fz',vs',rfl,e',hm⟩
       · exact absurd (h.sub k hg) (a k hx).2
       · exact absurd (h.sub k hg) (w.av l fz' vs' (λz=>(a l (by simp [locs])).2 (h.sub l z)) e' _ hm k (by simp [locs])).2
     · rcases hx with hx | ⟨l',fz',vs',z,e',hm⟩
       · have:k=l:=by simpa [locs] using hx
         subst this; exact absurd hg ng
       · cases z
         exact absurd (h.sub k hg) (w.av l fz' vs' ng e' _ hm k (by simp [locs])).2
     · obtain ⟨fz2,us2,e2,c2⟩:=d
       rcases hx with hx | ⟨l',fz',vs',z,e',hm⟩
       · have:k=l:=by simpa [locs] using hx
         subst this
         rw [e] at e2; cases e2
         obtain ⟨c,rfl,hc,_⟩:=c2 v hv
         exact .loc hc λz=>z.2 ⟨_,hu,.inr ⟨k,fz,vs,rfl,e,hv⟩⟩
       · cases z
         rw [e'] at e2; cases e2
         obtain ⟨c,z,_,ng⟩:=c2 _ hm
         cases z
         exact absurd hg ng
   · exact (w.av k fz vs hg e v hv).less
 have g:=p.2 (h.less X) st us ds w1 ⟨q.1,λu hu=>.inl (avl u hu)⟩
 have grow:∀ {h1:Hd} {st':Sto} (S:Nat->Prop),Gr (h.less X) st h1 st'->(∀ k fz vs,S k->st'[k]?=some (fz,vs)->i4 vs=[])->∃ h2,Gr h st h2 st'/\(∀ k,st.length<=k->k < st'.length->h2.h k)/\∀ k,st.length<=k->k < st'.length->(h2.g k ↔ ¬ S k):=λ{h1 st'} S g hS=>by
   refine ⟨⟨λk=>h.h k\/(st.length<=k/\k < st'.length),λk=>h.g k\/(st.length<=k/\k < st'.length/\¬ S k),λk z=>z.imp (h.sub k) λq=>⟨q.1,q.2.1⟩⟩,⟨g.pre,λk z=>.inl z,λk z=>.inl z,λk hk z=>z.elim id λq=>absurd hk (Nat.not_lt.mpr q.1),λk hk z=>z.elim id λq=>absurd hk (Nat.not_lt.mpr q.1),⟨λk fz vs hk e v hv=>?_,λk z=>z.elim (λz=>Nat.lt_of_lt_of_le (w.lt k z) g.pre.length_le) λq=>q.2⟩⟩,λk h1 h2=>.inr ⟨h1,h2⟩,λk h1 h2=>⟨λz=>z.elim (λz=>absurd (w.lt k (h.sub k z)) (Nat.not_lt.mpr h1)) λz=>z.2.2,λz=>.inr ⟨h1,h2,z⟩⟩⟩
   by_cases kl:k < st.length
   · have ng:¬ h.g k:=λz=>hk (.inl z)
     obtain ⟨r,rfl⟩:=g.pre
     rw [List.getElem?_append_left kl] at e
     exact λl hl=>⟨Nat.lt_of_lt_of_le (w.av k fz vs ng e v hv l hl).1 (by rw [List.length_append]; exact Nat.le_add_right _ _),λz=>z.elim (w.av k fz vs ng e v hv l hl).2 λq=>absurd (w.av k fz vs ng e v hv l hl).1 (Nat.not_lt.mpr q.1)⟩
   · have hk2:S k:=Classical.byContradiction λz=>hk (.inr ⟨Nat.not_lt.mp kl,(List.getElem?_eq_some_iff.mp e).1,z⟩)
     have hv0:=hS k fz vs hk2 e
     exact λl hl=>by
       have:l ∈ i4 vs:=eA.mpr ⟨v,hv,hl⟩
       rw [hv0] at this; cases this
 cases e:G ds with
 | bad=>trivial
 | exc c=>
   rw [e] at g
   obtain ⟨st',h1,e1,g1⟩:=g
   obtain ⟨h2,g2,_⟩:=grow (λ_=>False) g1 (λ_ _ _ z=>z.elim)
   exact ⟨st',h2,e1,g2⟩
 | ok d=>
   rw [e] at g
   have fl:=p.1 hs ds d e
   obtain ⟨u,st',h1,e1,g1,f⟩:=g
   unfold FrR at f
   split at f
   · rename_i hc
     obtain ⟨h2,g2,_⟩:=grow (λ_=>False) g1 (λ_ _ _ z=>z.elim)
     have fd:flat d=true:=by
       cases d with
       | lst xs=>
         rcases hc with hc | hc
         · rw [hc] at fl; simp [eN] at fl
         · simp [isL] at hc
       | _=>exact fl
     refine ⟨u,st',h2,e1,g2,?_⟩
     unfold FrR
     rw [if_pos hc]
     refine ⟨f.1,.inl λl hl=>?_⟩
     rw [qd f.1 fd] at hl
     cases hl
   · rename_i hc
     obtain ⟨r,l,cs,rfl,en,nl⟩:=f
     cases r with
     | loc e2 r2=>
       rename_i fz' us' ds'
       simp only [eN] at fl
       by_cases z1:md.lv=1
       · rw [if_pos z1] at fl
         obtain ⟨h2,g2,a2,b2⟩:=grow (λk=>k=l) g1 (λk fz vs z q=>by
           subst z; rw [e2] at q; cases q; exact gY r2 fl)
         have lt:=en.lt l (List.mem_cons_self ..)
         have ge:=nl l (List.mem_cons_self ..)
         obtain ⟨_,c0,us0,e0⟩:=en.one z1
         refine ⟨.loc l,st',h2,e1,g2,?_⟩
         unfold FrR
         rw [if_neg hc]
         exact ⟨.loc e2 r2,l,cs,rfl,⟨a2 l ge lt,λ_=>⟨λz=>(b2 l ge lt).mp z rfl,c0,us0,e0⟩,λz=>absurd z1 z,en.nd⟩,nl⟩
       · obtain ⟨z2,_,e3,e4⟩:=en.two z1
         rw [if_neg z1,if_pos z2] at fl
         rw [e2] at e3; cases e3
         have key:∀ c ∈ cs,∀ fz vs,st'[c]?=some (fz,vs)->i4 vs=[]:=λc hc' fz vs q=>by
           obtain ⟨i,hi,hi'⟩:=List.getElem_of_mem hc'
           have hl:i < ds'.length:=by rw [<- r2.length,List.length_map]; exact hi
           obtain ⟨u,hu,ru⟩:=r2.get (List.getElem?_eq_getElem hl)
           rw [List.getElem?_map,List.getElem?_eq_getElem hi,Option.map_some] at hu
           cases hu
           have fx:=List.all_eq_true.mp fl _ (List.getElem_mem hl)
           rw [hi'] at ru
           generalize ds'[i]=x at ru fx
           cases ru with
           | loc e5 r5=>
             rw [e5] at q; cases q
             exact gY r5 (by simpa only [xr] using fx)
         obtain ⟨h2,g2,a2,b2⟩:=grow (λk=>k ∈ cs) g1 (λk fz vs z q=>key k z fz vs q)
         have lt:=en.lt
         refine ⟨.loc l,st',h2,e1,g2,?_⟩
         unfold FrR
         rw [if_neg hc]
         refine ⟨.loc e2 r2,l,cs,rfl,⟨a2 l (nl l (List.mem_cons_self ..)) (lt l (List.mem_cons_self ..)),λz=>absurd z z1,λ_=>⟨z2,(b2 l (nl l (List.mem_cons_self ..)) (lt l (List.mem_cons_self ..))).mpr (List.nodup_cons.mp en.nd).1,e2,λc hc'=>?_⟩,en.nd⟩,nl⟩
         have h1c:=nl c (List.mem_cons_of_mem _ hc')
         have h2c:=lt c (List.mem_cons_of_mem _ hc')
         exact ⟨a2 c h1c h2c,λz=>(b2 c h1c h2c).mp z hc',(e4 c hc').2.2⟩
theorem Pure.Jg {md:Md} {F:List U->Sto->Rs U} {G:List T->Ou T} (p:Pure md F G) (hs:md.sc=true) {h:Hd} {st:Sto} {us:List U} {ds:List T} (w:Wf h st) (q:PXs 2 h st us ds):Gd h st (PX 0) (F us st) (G ds):=by
 have:=p.wY hs w q
 cases e:G ds with
 | bad=>trivial
 | exc c=>rw [e] at this; exact this
 | ok d=>
   rw [e] at this
   obtain ⟨u,st',h',e1,g,f⟩:=this
   obtain ⟨h2,g2,px⟩:=f.out w g
   exact ⟨u,st',h2,e1,g2,px⟩
theorem WE.set {h:Hd} {st:Sto} {ρ:Env} {τ:ak} {own:Own} (w:WE h st ρ τ own) {u:U} {d:T} (p:PX 0 h st u d) (i:Nat):WE h st (ρ.set i (some u)) (τ.set i (some d)) own:=by
 refine ⟨by rw [List.length_set,List.length_set]; exact w.len,λj e q=>?_⟩
 by_cases z:i=j
 · subst z
   by_cases hl:i < τ.length
   · rw [List.getElem?_set_self hl] at q
     cases q
     exact ⟨u,List.getElem?_set_self (by rw [w.len]; exact hl),p.1,.inl p.av⟩
   · rw [List.getElem?_eq_none (by rw [List.length_set]; omega)] at q; cases q
 · rw [List.getElem?_set_ne z] at q
   rw [List.getElem?_set_ne z]
   exact w.val j e q
theorem uP {h:Hd} {st:Sto} {own:Own}:∀ {is:List Nat} {us:List U} {ds:List T} {ρ:Env} {τ τ':ak},WE h st ρ τ own->PXs 0 h st us ds->nZ is ds τ=some τ'->∃ ρ',ka is us ρ=some ρ'/\WE h st ρ' τ' own
 | [],_,_,ρ,τ,τ',w,⟨.nil,_⟩,e=>by cases e; exact ⟨ρ,rfl,w⟩
 | [],_,_,ρ,τ,τ',w,⟨.cons _ _,_⟩,e=>by cases e
 | i :: is,_,_,ρ,τ,τ',w,⟨.nil,_⟩,e=>by cases e
 | i :: is,_,_,ρ,τ,τ',w,⟨.cons (u:=u) (d:=d) r rs,a⟩,e=>by
   rw [nZ] at e
   rw [ka]
   exact uP (w.set ⟨r,a u (List.mem_cons_self ..)⟩ i) ⟨rs,λv hv=>a v (List.mem_cons_of_mem _ hv)⟩ e
theorem sP {h:Hd} {st:Sto} {own:Own} {t:Tg} {u:U} {d:T} {ρ:Env} {τ τ':ak} (w:WE h st ρ τ own) (p:PX 0 h st u d) (e:aJ t d τ=some τ'):∃ ρ',fM t u ρ=some ρ'/\WE h st ρ' τ' own:=by
 cases t with
 | nm i=>cases e; exact ⟨_,rfl,w.set p i⟩
 | tp is=>
   cases d with
   | tup ds=>
     obtain ⟨us,rfl,p'⟩:=jF (k':=0) p
     exact uP w p' e
   | _=>cases e
theorem WE.cap {h:Hd} {st:Sto} {ρ:Env} {τ:ak} {own:Own} (w:WE h st ρ τ own) {caps:List (Option Nat)} (hc:∀ i lv,(i,lv) ∈ own->some i ∉ caps):WE h st (jL ρ caps++[none]) (iR τ caps++[none]) []:=by
 refine ⟨by simp [jL,iR],λi d e=>?_⟩
 by_cases hi:i < caps.length
 · rw [List.getElem?_append_left (by simp [iR]; exact hi)] at e
   unfold iR at e
   rw [List.getElem?_map] at e
   have hg:caps[i]?=some caps[i]:=List.getElem?_eq_getElem hi
   rw [hg] at e
   simp only [Option.map_some,Option.some.injEq] at e
   obtain ⟨j,e1,e2⟩:=Option.bind_eq_some_iff.mp e
   have e3:τ[j]?=some (some d):=by
     cases z:τ[j]? with
     | none=>rw [z] at e2; cases e2
     | some o=>rw [z] at e2; exact congrArg some e2
   obtain ⟨u,h1,h2,h3⟩:=w.val j d e3
   refine ⟨u,?_,h2,?_⟩
   · rw [List.getElem?_append_left (by simp [jL]; exact hi)]
     unfold jL
     rw [List.getElem?_map,hg,e1]
     simp [h1]
   · rcases h3 with h3 | ⟨lv,h3,_⟩
     · exact .inl h3
     · exact absurd (by rw [<- e1]; exact List.getElem_mem hi) (hc j lv h3)
 · rw [List.getElem?_append_right (by simp [iR]; omega)] at e
   have:=List.mem_of_getElem? e
   simp at this
theorem GO {k:Nat} {h:Hd} {st:Sto} {l:Nat} {d:T} (hk:k<=1) (p:PX k h st (.loc l) d):¬ h.g l:=by
 rcases p.2 with a | ⟨_,k,z,_,ng⟩ | ⟨z,_⟩
 · exact λq=>(a l (by simp [locs])).2 (h.sub l q)
 · cases z; exact ng
 · omega
theorem a9 {a b:Bool} (h:(a || b)=false):a=false/\b=false:=by cases a <;> cases b <;> simp_all
theorem pV {k:Nat} {h:Hd} {st:Sto} (lo:Int) (n:Nat):PXs k h st (j7 lo n) (rangeT lo n):=by
 unfold j7 rangeT
 induction List.range n with
 | nil=>exact .nil
 | cons k ks ih=>exact .cons (.of .int .int) ih
theorem xK {k:Nat} {h:Hd} {st:Sto} {u:U} {xs:List T} (hk:k<=1) (w:Wf h st) (hx:PX k h st u (.lst xs)):∃ p,src st u=some p/\(k=0->SqN h p)/\SqR h st p xs:=by
 obtain ⟨us,⟨l,fz,rfl,e1⟩ | rfl,r⟩:=fV w hx
 · refine ⟨.lst l,?_,λhb=>?_,GO hk hx,fz,us,e1,r.1⟩
   · simp only [src]
     rw [if_pos (List.getElem?_eq_some_iff.mp e1).1]
   · subst hb
     exact (hx.av l (by simp [locs])).2
 · exact ⟨.vals us,rfl,λ_=>trivial,r.mono (by omega)⟩
theorem yc {h:Hd} {st:Sto}:∀ (k:Nat) {us:List U} {ds:List T},PXs 0 h st us ds->PXs 0 h st (tW k us) (je k ds)
 | _,_,_,⟨.nil,_⟩=>.nil
 | k,_,_,⟨.cons (u:=u) (us:=us) r rs,a⟩=>by
   have ih:=yc (k + 1) (us:=us) ⟨rs,λv hv=>a v (List.mem_cons_of_mem _ hv)⟩
   refine .cons (.of (.tup (.cons .int (.cons r .nil))) (Av.tup.mpr λw hw=>?_)) ih
   simp only [List.mem_cons,List.not_mem_nil,or_false] at hw
   rcases hw with rfl | rfl
   · exact .int
   · exact (a _ (List.mem_cons_self ..)).zero
theorem A7 {k:Nat} {h:Hd} {st:Sto} {o:Option Bool} {p:Option Bool} (w:Wf h st) (e:∀ r,p=some r->o=some r):Gd h st (PX k) (ofO o st) (ofB p):=by
 cases p with
 | none=>trivial
 | some r=>rw [e r rfl]; exact .ok w (.of .bl .bl)
section
variable {Φ:Fn} {Ψ:FnT} {μ:Nat->Md} (HP:∀ f,Pure (μ f) (Φ f) (Ψ f))
theorem tZ {h:Hd} {st:Sto} {ρ:Env} {τ:ak} {t:Tg} {ifs:List E} {elt:E} (w:WE h st ρ τ [])
   (hi:∀ {h st ρ τ},WE h st ρ τ []->Wf h st->Gd h st (λ_ _ a b=>a=b) (xIf Φ ifs ρ st) (yIf Ψ ifs τ)) (he:∀ {h st ρ τ},WE h st ρ τ []->Wf h st->Gd h st (PX 0) (xE Φ elt ρ st) (yE Ψ elt τ)) :
   ∀ u x st' h',Gr h st h' st'->PX 0 h' st' u x->Gd h' st' PO
     (match fM t u ρ with
         | none=>.bad
         | some ρ1=>(xIf Φ ifs ρ1 st').bind λb st2=>if b then (xE Φ elt ρ1 st2).bind λy st3=>.ok (some y) st3 else .ok none st2)
     (match aJ t x τ with
         | none=>.bad
         | some τ1=>(yIf Ψ ifs τ1).bind λb=>if b then (yE Ψ elt τ1).bind λy=>.ok (some y) else .ok none):=by
 intro u x st' h' g px
 cases z:aJ t x τ with
 | none=>trivial
 | some τ1=>
   obtain ⟨ρ1,e1,w1⟩:=sP (w.gr g) px z
   rw [e1]
   dsimp only
   refine (hi w1 g.wf).bind λb b' st2 h2 g2 hb=>?_
   have hb:b=b':=hb
   subst hb
   cases b with
   | true=>
     simp only [if_true]
     exact (he (w1.gr g2) g2.wf).bind λy y' st3 h3 g3 hy=>.ok g3.wf hy
   | false=>exact .ok g2.wf trivial
include HP
mutual
theorem gE:∀ (e:E) (k:Nat) {h:Hd} {ρ:Env} {τ:ak} {own:Own} {st:Sto},WE h st ρ τ own->Wf h st->(∀ i lv,(i,lv) ∈ own->gts μ i lv k e=false)->Gd h st (PX k) (xE Φ e ρ st) (yE Ψ e τ)
 | .var i,k,h,ρ,τ,own,st,w,wf,hg=>by
   simp only [xE,yE,aC,l7]
   cases z:τ[i]? with
   | none=>trivial
   | some o=>
     cases o with
     | none=>trivial
     | some d=>
       obtain ⟨u,e1,e2,e3⟩:=w.val i d z
       rw [e1]
       refine .ok wf ⟨e2,?_⟩
       rcases e3 with e3 | ⟨lv,h1,h2⟩
       · exact .inl e3
       · have:=hg i lv h1
         simp only [gts,BEq.rfl,Bool.and_true,decide_eq_false_iff_not] at this
         exact h2.mono (by omega)
 | .cN,_,_,_,_,_,_,_,wf,_=>.ok wf (.of .non .non)
 | .cB _,_,_,_,_,_,_,_,wf,_=>.ok wf (.of .bl .bl)
 | .cI _,_,_,_,_,_,_,_,wf,_=>.ok wf (.of .int .int)
 | .cS _,_,_,_,_,_,_,_,wf,_=>.ok wf (.of .str .str)
 | .op o a c,k,h,ρ,τ,own,st,w,wf,hg=>by
   simp only [xE,yE]
   refine (gE a 1 w wf λi lv hi=>(a9 (by simpa only [gts] using hg i lv hi)).1).bind λx x' st1 h1 g1 hx=>?_
   refine (gE c 1 (w.gr g1) g1.wf λi lv hi=>(a9 (by simpa only [gts] using hg i lv hi)).2).bind λy y' st2 h2 g2 hy=>?_
   exact (CP g2.wf (hx.gr g2) hy o).imp λ_ _ _ _ z=>z.weak
 | .neg a,k,h,ρ,τ,own,st,w,wf,hg=>by
   simp only [xE,yE]
   refine (gE a 2 w wf λi lv hi=>(by simpa only [gts] using hg i lv hi)).bind λx x' st1 h1 g1 hx=>?_
   cases x' with
   | int i=>have:=hx.1.int_inv; subst this; exact .ok g1.wf (.of .int .int)
   | _=>trivial
 | .not a,k,h,ρ,τ,own,st,w,wf,hg=>by
   simp only [xE,yE]
   refine (gE a 2 w wf λi lv hi=>(by simpa only [gts] using hg i lv hi)).bind λx x' st1 h1 g1 hx=>?_
   cases x' with
   | bl i=>have:=hx.1.iB; subst this; exact .ok g1.wf (.of .bl .bl)
   | _=>trivial
 | .cmp o a c,k,h,ρ,τ,own,st,w,wf,hg=>by
   simp only [xE,yE]
   refine (gE a 2 w wf λi lv hi=>(a9 (by simpa only [gts] using hg i lv hi)).1).bind λx x' st1 h1 g1 hx=>?_
   refine (gE c 2 (w.gr g1) g1.wf λi lv hi=>(a9 (by simpa only [gts] using hg i lv hi)).2).bind λy y' st2 h2 g2 hy=>?_
   exact A7 g2.wf λr e=>rF (hx.1.ext g2.pre) hy.1 e
 | .chain o o' a c d,k,h,ρ,τ,own,st,w,wf,hg=>by
   simp only [xE,yE]
   refine (gE a 2 w wf λi lv hi=>(a9 (a9 (by simpa only [gts] using hg i lv hi)).1).1).bind λx x' st1 h1 g1 hx=>?_
   refine (gE c 2 (w.gr g1) g1.wf λi lv hi=>(a9 (a9 (by simpa only [gts] using hg i lv hi)).1).2).bind λy y' st2 h2 g2 hy=>?_
   cases z:zC o x' y' with
   | none=>trivial
   | some r=>
     rw [rF (hx.1.ext g2.pre) hy.1 z]
     cases r with
     | false=>exact .ok g2.wf (.of .bl .bl)
     | true=>
       dsimp only
       refine (gE d 2 ((w.gr g1).gr g2) g2.wf λi lv hi=>(a9 (by simpa only [gts] using hg i lv hi)).2).bind λv v' st3 h3 g3 hv=>?_
       exact A7 g3.wf λr e=>rF (hy.1.ext g3.pre) hv.1 e
 | .and a c,k,h,ρ,τ,own,st,w,wf,hg=>by
   simp only [xE,yE]
   refine (gE a 2 w wf λi lv hi=>(a9 (by simpa only [gts] using hg i lv hi)).1).bind λx x' st1 h1 g1 hx=>?_
   cases x' with
   | bl r=>
     have:=hx.1.iB; subst this
     cases r with
     | false=>exact .ok g1.wf (.of .bl .bl)
     | true=>exact gE c k (w.gr g1) g1.wf λi lv hi=>(a9 (by simpa only [gts] using hg i lv hi)).2
   | _=>trivial
 | .or a c,k,h,ρ,τ,own,st,w,wf,hg=>by
   simp only [xE,yE]
   refine (gE a 2 w wf λi lv hi=>(a9 (by simpa only [gts] using hg i lv hi)).1).bind λx x' st1 h1 g1 hx=>?_
   cases x' with
   | bl r=>
     have:=hx.1.iB; subst this
     cases r with
     | true=>exact .ok g1.wf (.of .bl .bl)
     | false=>exact gE c k (w.gr g1) g1.wf λi lv hi=>(a9 (by simpa only [gts] using hg i lv hi)).2
   | _=>trivial
 | .ite c a d,k,h,ρ,τ,own,st,w,wf,hg=>by
   simp only [xE,yE]
   refine (gE c 2 w wf λi lv hi=>(a9 (a9 (by simpa only [gts] using hg i lv hi)).1).1).bind λx x' st1 h1 g1 hx=>?_
   cases x' with
   | bl r=>
     have:=hx.1.iB; subst this
     cases r with
     | true=>exact gE a k (w.gr g1) g1.wf λi lv hi=>(a9 (a9 (by simpa only [gts] using hg i lv hi)).1).2
     | false=>exact gE d k (w.gr g1) g1.wf λi lv hi=>(a9 (by simpa only [gts] using hg i lv hi)).2
   | _=>trivial
 | .tup es,k,h,ρ,τ,own,st,w,wf,hg=>by
   simp only [xE,yE]
   refine (gEs es 0 w wf λi lv hi=>(by simpa only [gts] using hg i lv hi)).bind λx x' st1 h1 g1 hx=>?_
   rw [hx.1.length]
   split
   · exact JN g1.wf hx
   · trivial
 | .lst es,k,h,ρ,τ,own,st,w,wf,hg=>by
   simp only [xE,yE]
   refine (gEs es 0 w wf λi lv hi=>(by simpa only [gts] using hg i lv hi)).bind λx x' st1 h1 g1 hx=>?_
   rw [hx.1.length]
   split
   · exact lR g1.wf hx
   · trivial
 | .ix a c,k,h,ρ,τ,own,st,w,wf,hg=>by
   simp only [xE,yE]
   refine (gE a (k + 1) w wf λi lv hi=>(a9 (by simpa only [gts] using hg i lv hi)).1).bind λx x' st1 h1 g1 hx=>?_
   refine (gE c 2 (w.gr g1) g1.wf λi lv hi=>(a9 (by simpa only [gts] using hg i lv hi)).2).bind λy y' st2 h2 g2 hy=>?_
   exact D8 g2.wf (hx.gr g2) hy
 | .sl a c d,k,h,ρ,τ,own,st,w,wf,hg=>by
   simp only [xE,yE]
   refine (gE a 1 w wf λi lv hi=>(a9 (a9 (by simpa only [gts] using hg i lv hi)).1).1).bind λx x' st1 h1 g1 hx=>?_
   refine (gE c 2 (w.gr g1) g1.wf λi lv hi=>(a9 (a9 (by simpa only [gts] using hg i lv hi)).1).2).bind λy y' st2 h2 g2 hy=>?_
   cases z:n8 c y' with
   | none=>trivial
   | some lo=>
     rw [nq hy.1 c z]
     dsimp only
     refine (gE d 2 ((w.gr g1).gr g2) g2.wf λi lv hi=>(a9 (by simpa only [gts] using hg i lv hi)).2).bind λv v' st3 h3 g3 hv=>?_
     cases z2:n8 d v' with
     | none=>trivial
     | some hi=>
       rw [nq hv.1 d z2]
       dsimp only
       cases x' with
       | lst xs=>
         obtain ⟨us,e1,_,p'⟩:=iI g3.wf ((hx.gr g2).gr g3)
         simp only [CO.eq_def,e1,zSl.eq_def]
         exact lR g3.wf (p'.cut lo hi)
       | _=>trivial
 | .call f es,k,h,ρ,τ,own,st,w,wf,hg=>by
   simp only [xE,yE]
   cases hs:(μ f).sc with
   | true=>
     refine (gEs es 2 w wf λi lv hi=>(by simpa only [gts,hs,if_true] using hg i lv hi)).bind λx x' st1 h1 g1 hx=>?_
     exact ((HP f).Jg hs g1.wf hx).imp λ_ _ _ _ z=>z.weak
   | false=>
     refine (gEs es 0 w wf λi lv hi=>(by simpa only [gts,hs,Bool.false_eq_true,if_false] using hg i lv hi)).bind λx x' st1 h1 g1 hx=>?_
     exact ((HP f).plain g1.wf hx).imp λ_ _ _ _ z=>z.weak
 | .bi o es,k,h,ρ,τ,own,st,w,wf,hg=>by
   simp only [xE,yE]
   refine (gEs es (biK o) w wf λi lv hi=>?_).bind λx x' st1 h1 g1 hx=>?_
   · have:=hg i lv hi
     cases o <;> simpa only [gts,biK] using this
   · exact (Er g1.wf o hx).imp λ_ _ _ _ z=>z.weak
 | .isi a t,k,h,ρ,τ,own,st,w,wf,hg=>by
   simp only [xE,yE]
   refine (gE a 2 w wf λi lv hi=>(by simpa only [gts] using hg i lv hi)).bind λx x' st1 h1 g1 hx=>?_
   have e:=Cz hx.1 t
   obtain ⟨r,_⟩:=hx
   cases r <;> first | trivial | (dsimp only; rw [e]; exact .ok g1.wf (.of .bl .bl))
 | .isN n a,k,h,ρ,τ,own,st,w,wf,hg=>by
   simp only [xE,yE]
   refine (gE a 2 w wf λi lv hi=>(by simpa only [gts] using hg i lv hi)).bind λx x' st1 h1 g1 hx=>?_
   rw [Dx hx.1]
   exact .ok g1.wf (.of .bl .bl)
 | .comp caps t it ifs elt,k,h,ρ,τ,own,st,w,wf,hg=>by
   simp only [xE,yE]
   have hc:∀ i lv,(i,lv) ∈ own->some i ∉ caps:=λi lv hi z=>by
     have:=(a9 (by simpa only [gts] using hg i lv hi)).1
     rw [List.contains_iff_mem.mpr z] at this
     cases this
   refine (gIt it 1 (Nat.le_refl 1) w wf λi lv hi=>(a9 (by simpa only [gts] using hg i lv hi)).2).bind λq xs st1 h1 g1 hq=>?_
   rw [hq.2.len]
   split
   · refine Gd.noX ?_
     refine Gd.bind (P:=PXs 0) ?_ λus ds st2 h2 g2 hu=>lR g2.wf hu
     exact qm (tZ ((w.gr g1).cap hc) (λw' wf'=>gIf ifs w' wf' λ_ _ z=>nomatch z) λw' wf'=>gE elt 0 w' wf' λ_ _ z=>nomatch z) g1.wf hq.2
   · trivial
theorem gEs:∀ (es:List E) (k:Nat) {h:Hd} {ρ:Env} {τ:ak} {own:Own} {st:Sto},WE h st ρ τ own->Wf h st->(∀ i lv,(i,lv) ∈ own->bX μ i lv k es=false)->Gd h st (PXs k) (xEs Φ es ρ st) (yEs Ψ es τ)
 | [],k,_,_,_,_,_,_,wf,_=>.ok wf .nil
 | e :: es,k,h,ρ,τ,own,st,w,wf,hg=>by
   simp only [xEs,yEs]
   refine (gE e k w wf λi lv hi=>(a9 (by simpa only [bX] using hg i lv hi)).1).bind λx x' st1 h1 g1 hx=>?_
   refine (gEs es k (w.gr g1) g1.wf λi lv hi=>(a9 (by simpa only [bX] using hg i lv hi)).2).bind λy y' st2 h2 g2 hy=>?_
   exact .ok g2.wf (.cons (hx.gr g2) hy)
theorem gIf:∀ (es:List E) {h:Hd} {ρ:Env} {τ:ak} {own:Own} {st:Sto},WE h st ρ τ own->Wf h st->(∀ i lv,(i,lv) ∈ own->bX μ i lv 2 es=false)->Gd h st (λ_ _ a b=>a=b) (xIf Φ es ρ st) (yIf Ψ es τ)
 | [],_,_,_,_,_,_,wf,_=>.ok wf rfl
 | e :: es,h,ρ,τ,own,st,w,wf,hg=>by
   simp only [xIf,yIf]
   refine (gE e 2 w wf λi lv hi=>(a9 (by simpa only [bX] using hg i lv hi)).1).bind λx x' st1 h1 g1 hx=>?_
   cases x' with
   | bl r=>
     have:=hx.1.iB; subst this
     cases r with
     | false=>exact .ok g1.wf rfl
     | true=>exact gIf es (w.gr g1) g1.wf λi lv hi=>(a9 (by simpa only [bX] using hg i lv hi)).2
   | _=>trivial
theorem gIt:∀ (it:It) (k:Nat) {h:Hd} {ρ:Env} {τ:ak} {own:Own} {st:Sto},k<=1->WE h st ρ τ own->Wf h st->(∀ i lv,(i,lv) ∈ own->eW μ i lv k it=false) ->
   Gd h st (λh' st' q xs=>(k=0->SqN h' q)/\SqR h' st' q xs) (xIt Φ it ρ st) (yIt Ψ it τ)
 | .seq e,k,h,ρ,τ,own,st,hk,w,wf,hg=>by
   simp only [xIt,yIt]
   refine (gE e k w wf λi lv hi=>(by simpa only [eW] using hg i lv hi)).bind λx x' st1 h1 g1 hx=>?_
   cases x' with
   | lst xs=>
     obtain ⟨us,⟨l,fz,rfl,e1⟩ | rfl,r⟩:=fV g1.wf hx
     · dsimp only
       rw [if_pos (List.getElem?_eq_some_iff.mp e1).1]
       refine .ok g1.wf ⟨λhb=>?_,GO hk hx,fz,us,e1,r.1⟩
       subst hb
       exact (hx.av l (by simp [locs])).2
     · exact .ok g1.wf ⟨λ_=>trivial,r.mono (by omega)⟩
   | tup xs=>
     obtain ⟨us,rfl,p'⟩:=jF (k':=0) hx
     exact .ok g1.wf ⟨λ_=>trivial,p'⟩
   | _=>trivial
 | .rng e,k,h,ρ,τ,own,st,hk,w,wf,hg=>by
   simp only [xIt,yIt]
   refine (gE e 2 w wf λi lv hi=>(by simpa only [eW] using hg i lv hi)).bind λx x' st1 h1 g1 hx=>?_
   cases x' with
   | int j=>
     have:=hx.1.int_inv; subst this
     dsimp only
     split
     · exact .ok g1.wf ⟨λ_=>trivial,pV _ _⟩
     · trivial
   | _=>trivial
 | .rng2 a c,k,h,ρ,τ,own,st,hk,w,wf,hg=>by
   simp only [xIt,yIt]
   refine (gE a 2 w wf λi lv hi=>(a9 (by simpa only [eW] using hg i lv hi)).1).bind λx x' st1 h1 g1 hx=>?_
   refine (gE c 2 (w.gr g1) g1.wf λi lv hi=>(a9 (by simpa only [eW] using hg i lv hi)).2).bind λy y' st2 h2 g2 hy=>?_
   cases x' with
   | int i=>
     have:=hx.1.int_inv; subst this
     cases y' with
     | int j=>
       have:=hy.1.int_inv; subst this
       dsimp only
       split
       · exact .ok g2.wf ⟨λ_=>trivial,pV _ _⟩
       · trivial
     | _=>trivial
   | _=>trivial
 | .enu e,k,h,ρ,τ,own,st,hk,w,wf,hg=>by
   simp only [xIt,yIt]
   refine (gE e k w wf λi lv hi=>(by simpa only [eW] using hg i lv hi)).bind λx x' st1 h1 g1 hx=>?_
   cases x' with
   | lst xs=>
     obtain ⟨us,⟨l,fz,rfl,e1⟩ | rfl,r⟩:=fV g1.wf hx
     · dsimp only
       rw [if_pos (List.getElem?_eq_some_iff.mp e1).1]
       refine .ok g1.wf ⟨λhb=>?_,GO hk hx,fz,us,xs,e1,r.1,rfl⟩
       subst hb
       exact (hx.av l (by simp [locs])).2
     · exact .ok g1.wf ⟨λ_=>trivial,yc 0 (r.mono (by omega))⟩
   | _=>trivial
 | .zip a c,k,h,ρ,τ,own,st,hk,w,wf,hg=>by
   simp only [xIt,yIt]
   refine (gE a k w wf λi lv hi=>(a9 (by simpa only [eW] using hg i lv hi)).1).bind λx x' st1 h1 g1 hx=>?_
   refine (gE c k (w.gr g1) g1.wf λi lv hi=>(a9 (by simpa only [eW] using hg i lv hi)).2).bind λy y' st2 h2 g2 hy=>?_
   have hx2:=PX.gr hx g2
   cases x' with
   | lst xs=>
     cases y' with
     | lst ys=>
       obtain ⟨p,e1,n1,q1⟩:=xK hk g2.wf hx2
       obtain ⟨q,e2,n2,q2⟩:=xK hk g2.wf hy
       rw [e1,e2]
       exact .ok g2.wf ⟨λhb=>⟨n1 hb,n2 hb⟩,xs,ys,q1,q2,rfl⟩
     | _=>trivial
   | _=>cases y' <;> trivial
end
end
noncomputable def FrN (lv:Nat) (st:Sto) (h':Hd) (st':Sto) (u:U) (d:T):Prop:=Rep st' u d/\∃ l cs,u=.loc l/\Ent h' st' l cs lv/\∀ k ∈ l :: cs,st.length<=k
noncomputable def Hd.more (h:Hd) (X Y:Nat->Prop) (s:∀ k,Y k->X k):Hd:=⟨λk=>h.h k\/X k,λk=>h.g k\/Y k,λk z=>z.imp (h.sub k) (s k)⟩
theorem xG {st:Sto} {c:Bool × List U}:(st++[c])[st.length]?=some c:=by rw [List.getElem?_append_right (Nat.le_refl _),Nat.sub_self]; rfl
theorem Bt {h:Hd} {st:Sto} {us:List U} {ds:List T} (w:Wf h st) (p:PXs 0 h st us ds):∃ h',Gr h st h' (st++[(false,us)])/\FrN 1 st h' (st++[(false,us)]) (.loc st.length) (.lst ds):=by
 refine ⟨h.more (λk=>k=st.length) (λ_=>False) (λ_ z=>z.elim),⟨fE,λ_ z=>.inl z,λ_ z=>.inl z,λk hk z=>z.elim id λq=>by omega,λk hk z=>z.elim id λq=>q.elim,⟨λk fz vs hk e u hu=>?_,λk z=>?_⟩⟩,(qX w p.1).1,st.length,[],rfl,⟨.inr rfl,λ_=>⟨λz=>z.elim (λz=>Nat.lt_irrefl _ (w.lt _ (h.sub _ z))) λz=>z,rfl,us,xG⟩,λz=>absurd rfl z,by simp⟩,λk hk=>by rw [List.mem_singleton] at hk; omega⟩
 · have lift:∀ {v:U},Av h st.length v->Av (h.more (λk=>k=st.length) (λ_=>False) (λ_ z=>z.elim)) (st++[(false,us)]).length v:=λ{v} a l hl=>by
     obtain ⟨a1,a2⟩:=a l hl
     refine ⟨by rw [List.length_append]; exact Nat.lt_add_right _ a1,λz=>?_⟩
     rcases z with z | z
     · exact a2 z
     · omega
   rcases Nat.lt_or_ge k st.length with q | q
   · rw [List.getElem?_append_left q] at e
     exact lift (w.av k fz vs (λz=>hk (.inl z)) e u hu)
   · rw [List.getElem?_append_right q] at e
     have:=List.mem_of_getElem? e
     rw [List.mem_singleton] at this
     cases this
     exact lift ((p.2 u hu).zero)
 · rw [List.length_append]
   rcases z with z | z
   · exact Nat.lt_add_right _ (w.lt k z)
   · subst z; exact Nat.lt_succ_self _
theorem yy {h:Hd} {st0 st:Sto} {cs:List Nat} {ds:List T} (w:Wf h st) (r:aD st (cs.map .loc) ds) (nd:cs.Nodup) (hl:st0.length<=st.length) (hc:∀ c ∈ cs,st0.length<=c/\h.h c/\¬ h.g c/\∃ ws,st[c]?=some (false,ws)) :
   ∃ h',Gr h st h' (st++[(false,cs.map .loc)])/\FrN 2 st0 h' (st++[(false,cs.map .loc)]) (.loc st.length) (.lst ds):=by
 have cl:∀ c ∈ cs,c < st.length:=λc h=>let ⟨_,_,_,ws,e⟩:=hc c h; (List.getElem?_eq_some_iff.mp e).1
 refine ⟨h.more (λk=>k=st.length) (λk=>k=st.length) (λ_ z=>z),⟨fE,λ_ z=>.inl z,λ_ z=>.inl z,λk hk z=>z.elim id λq=>by omega,λk hk z=>z.elim id λq=>by omega,⟨λk fz vs hk e u hu=>?_,λk z=>?_⟩⟩,(qX w r).1,st.length,cs,rfl,⟨.inr rfl,λz=>by omega,λ_=>⟨rfl,.inr rfl,xG,λc hcm=>?_⟩,List.nodup_cons.mpr ⟨λz=>Nat.lt_irrefl _ (cl _ z),nd⟩⟩,λk hk=>?_⟩
 · have kl:k < st.length:=by
     have:=(List.getElem?_eq_some_iff.mp e).1
     rw [List.length_append] at this
     have ne:k ≠ st.length:=λz=>hk (.inr z)
     simp at this
     omega
   rw [List.getElem?_append_left kl] at e
   intro l hl
   obtain ⟨a1,a2⟩:=w.av k fz vs (λz=>hk (.inl z)) e u hu l hl
   refine ⟨by rw [List.length_append]; exact Nat.lt_add_right _ a1,λz=>?_⟩
   rcases z with z | z
   · exact a2 z
   · omega
 · rw [List.length_append]
   rcases z with z | z
   · exact Nat.lt_add_right _ (w.lt k z)
   · subst z; exact Nat.lt_succ_self _
 · obtain ⟨_,h1,h2,ws,e⟩:=hc c hcm
   exact ⟨.inl h1,λz=>z.elim h2 λz=>absurd (cl c hcm) (by omega),ws,eU fE _ _ e⟩
 · rcases List.mem_cons.mp hk with rfl | hk
   · exact hl
   · exact (hc k hk).1
theorem Gr.IV {h h':Hd} {st st':Sto} (g:Gr h st h' st') {c:Nat} (a:h.h c/\¬ h.g c/\∃ ws,st[c]?=some (false,ws)):h'.h c/\¬ h'.g c/\∃ ws,st'[c]?=some (false,ws):=by
 obtain ⟨a1,a2,ws,a3⟩:=a
 exact ⟨g.hm c a1,λz=>a2 (g.gn c (List.getElem?_eq_some_iff.mp a3).1 z),ws,eU g.pre _ _ a3⟩
noncomputable def RN (st:Sto) (h2:Hd) (st2:Sto):Option U->Option T->Prop
 | some u,some d=>Rep st2 u d/\∃ c,u=.loc c/\st.length<=c/\h2.h c/\¬ h2.g c/\∃ ws,st2[c]?=some (false,ws)
 | none,none=>True
 | _,_=>False
theorem oN {f:U->Sto->Rs (Option U)} {g:T->Ou (Option T)} {q:Sq} {xs:List T} {st0:Sto} {h0:Hd}
   (hf:∀ u x st' h' o',Gr h0 st0 h' st'->PX 0 h' st' u x->g x=.ok o'->(∀ d,o'=some d->isL d=true)->∃ o st2 h2,f u st'=.ok o st2/\Gr h' st' h2 st2/\RN st' h2 st2 o o') :
   ∀ (n i:Nat) (st:Sto) (h:Hd) (ds:List T),Gr h0 st0 h st->SqR h st q xs->i<=xs.length->i + n=xs.length + 1->cq g (xs.drop i)=.ok ds->ds.all isL=true ->
     ∃ (cs:List Nat) (st':Sto) (h':Hd),kD f q n i st=.ok (cs.map .loc) st'/\Gr h st h' st'/\aD st' (cs.map .loc) ds/\cs.Nodup/\∀ c ∈ cs,st.length<=c/\h'.h c/\¬ h'.g c/\∃ ws,st'[c]?=some (false,ws)
 | 0,i,st,h,ds,_,_,hi,e,_,_=>by omega
 | n + 1,i,st,h,ds,p,s,hi,e,hy,ha=>by
   rw [kD]
   rcases s.at p.wf i with ⟨e1,e2⟩ | ⟨x,u,e1,e2,px⟩
   · rw [List.drop_eq_nil_of_le (List.getElem?_eq_none_iff.mp e1),cq] at hy
     cases hy
     exact ⟨[],st,h,by rw [e2]; rfl,.refl p.wf,.nil,List.nodup_nil,(by intro c hc; cases hc)⟩
   · have hl:=(List.getElem?_eq_some_iff.mp e1).1
     have e3:xs.drop i=x :: xs.drop (i + 1):=by
       rw [List.drop_eq_getElem_cons hl]
       rw [(List.getElem?_eq_some_iff.mp e1).2]
     rw [e3,cq,Ou.aO] at hy
     obtain ⟨o',hg,hy⟩:=hy
     rw [Ou.aO] at hy
     obtain ⟨ys,hy,hz⟩:=hy
     have hal:(∀ d,o'=some d->isL d=true)/\ys.all isL=true:=by
       cases o' with
       | none=>cases hz; exact ⟨(λ_ z=>by cases z),ha⟩
       | some d=>
         cases hz
         rw [List.all_cons,Bool.and_eq_true] at ha
         exact ⟨(λd' z=>by cases z; exact ha.1),ha.2⟩
     obtain ⟨o,st1,h1,f1,g1,rn⟩:=hf u x st h o' p px hg hal.1
     obtain ⟨cs,st2,h2,f2,g2,r2,n2,c2⟩:=oN hf n (i + 1) st1 h1 ys (p.trans g1) (s.gr g1) hl (by omega) hy hal.2
     rw [e2]
     dsimp only
     rw [f1,Rs.aa,f2,Rs.aa]
     cases o with
     | none=>
       cases o' with
       | none=>cases hz; exact ⟨cs,st2,h2,rfl,g1.trans g2,r2,n2,λc hc=>⟨Nat.le_trans g1.pre.length_le (c2 c hc).1,(c2 c hc).2⟩⟩
       | some d=>exact rn.elim
     | some v=>
       cases o' with
       | none=>exact rn.elim
       | some d=>
         cases hz
         obtain ⟨rv,c,rfl,hc,hh⟩:=rn
         have hcl:c < st1.length:=by obtain ⟨_,_,ws,e⟩:=hh; exact (List.getElem?_eq_some_iff.mp e).1
         refine ⟨c :: cs,st2,h2,rfl,g1.trans g2,.cons (rv.ext g2.pre) r2,List.nodup_cons.mpr ⟨λz=>absurd (c2 c z).1 (by omega),n2⟩,λk hk=>?_⟩
         rcases List.mem_cons.mp hk with rfl | hk
         · exact ⟨hc,g2.IV hh⟩
         · exact ⟨Nat.le_trans g1.pre.length_le (c2 k hk).1,(c2 k hk).2⟩
theorem Ent.down {h:Hd} {st:Sto} {l:Nat} {cs:List Nat} (w:Wf h st) (e:Ent h st l cs 2):∃ h',(∀ k,h'.h k->h.h k)/\(∀ k,h'.g k->h.g k)/\(∀ k,k ∉ l :: cs->(h.h k->h'.h k)/\(h.g k->h'.g k))/\(∀ c ∈ cs,¬ h'.h c)/\Wf h' st/\Ent h' st l [] 1:=by
 obtain ⟨_,gl,e1,e2⟩:=e.two (by decide)
 have nl:l ∉ cs:=(List.nodup_cons.mp e.nd).1
 refine ⟨⟨λk=>h.h k/\k ∉ cs,λk=>h.g k/\k ∉ l :: cs,λk z=>⟨h.sub k z.1,λq=>z.2 (List.mem_cons_of_mem _ q)⟩⟩,λk z=>z.1,λk z=>z.1,λk hk=>⟨λz=>⟨z,λq=>hk (List.mem_cons_of_mem _ q)⟩,λz=>⟨z,hk⟩⟩,λc hc z=>z.2 hc,⟨λk fz us hk q u hu=>?_,λk z=>w.lt k z.1⟩,⟨⟨e.hl,nl⟩,λ_=>⟨λz=>z.2 (List.mem_cons_self ..),rfl,_,e1⟩,λz=>absurd rfl z,by simp⟩⟩
 by_cases hg:h.g k
 · have hx:k ∈ l :: cs:=Classical.byContradiction λz=>hk ⟨hg,z⟩
   rcases List.mem_cons.mp hx with rfl | hx
   · rw [e1] at q; cases q
     obtain ⟨c,hc,rfl⟩:=List.mem_map.mp hu
     exact .loc (e.lt c (List.mem_cons_of_mem _ hc)) λz=>z.2 hc
   · exact absurd hg (e2 k hx).2.1
 · exact (w.av k fz us hg q u hu).imp λ_ _ z=>z.1
theorem FrN.down {h:Hd} {st st':Sto} {h':Hd} {u:U} {d:T} (w:Wf h st) (g:Gr h st h' st') (f:FrN 2 st h' st' u d):∃ h'',Gr h st h'' st'/\FrN 1 st h'' st' u d:=by
 obtain ⟨r,l,cs,rfl,e,n⟩:=f
 obtain ⟨h2,a1,a2,a3,_,w2,e2⟩:=Ent.down g.wf e
 have out:∀ k,h.h k->k ∉ l :: cs:=λk z q=>absurd (w.lt k z) (Nat.not_lt.mpr (n k q))
 exact ⟨h2,⟨g.pre,λk z=>(a3 k (out k z)).1 (g.hm k z),λk z=>(a3 k (out k (h.sub k z))).2 (g.gm k z),λk hk z=>g.hn k hk (a1 k z),λk hk z=>g.gn k hk (a2 k z),w2⟩,r,l,[],rfl,e2,λk hk=>n k (by rw [List.mem_singleton] at hk; subst hk; exact List.mem_cons_self ..)⟩
theorem FrR.n {lv:Nat} {st:Sto} {h':Hd} {st':Sto} {u:U} {d:T} (f:FrR lv st h' st' u d) (h1:lv ≠ 0) (h2:isL d=true):FrN lv st h' st' u d:=by
 unfold FrR at f
 rw [if_neg (by rw [h2]; simp [h1])] at f
 exact f
theorem FrN.r {lv:Nat} {st:Sto} {h':Hd} {st':Sto} {u:U} {d:T} (f:FrN lv st h' st' u d) (h1:lv ≠ 0) (h2:isL d=true):FrR lv st h' st' u d:=by
 unfold FrR
 rw [if_neg (by rw [h2]; simp [h1])]
 exact f
theorem Gr.frn {lv:Nat} {h h1 h2:Hd} {st st1 st2:Sto} {u:U} {d:T} (g:Gr h st h1 st1) (f:FrN lv st1 h2 st2 u d):FrN lv st h2 st2 u d:=by
 obtain ⟨r,l,cs,e1,e,n⟩:=f
 exact ⟨r,l,cs,e1,e,λk hk=>Nat.le_trans g.pre.length_le (n k hk)⟩
section
variable {Φ:Fn} {Ψ:FnT} {μ:Nat->Md} (HP:∀ f,Pure (μ f) (Φ f) (Ψ f))
include HP
theorem gN1:∀ (e:E) {h:Hd} {ρ:Env} {τ:ak} {own:Own} {st:Sto},WE h st ρ τ own->Wf h st->(∀ i lv,(i,lv) ∈ own->gts μ i lv 0 e=false)->1<=cU μ e->∀ ds,yE Ψ e τ=.ok (.lst ds) ->
   ∃ u st' h',xE Φ e ρ st=.ok u st'/\Gr h st h' st'/\FrN 1 st h' st' u (.lst ds):=by
 intro e h ρ τ own st w wf hg hf ds hy
 have fin:∀ {st1:Sto} {h1:Hd} {us:List U},Gr h st h1 st1->PXs 0 h1 st1 us ds->xE Φ e ρ st=new st1 us->∃ u st' h',xE Φ e ρ st=.ok u st'/\Gr h st h' st'/\FrN 1 st h' st' u (.lst ds):=λ{st1 h1 us} g p e=>by
   obtain ⟨h2,g2,f2⟩:=Bt g.wf p
   exact ⟨_,_,h2,e,g.trans g2,g.frn f2⟩
 cases e with
 | lst es=>
   simp only [yE,Ou.aO] at hy
   obtain ⟨xs,h1,h2⟩:=hy
   split at h2
   · rename_i hl
     cases h2
     obtain ⟨us,st1,hh,e1,g1,r1⟩:=(gEs HP es 0 w wf λi lv hi=>(by simpa only [gts] using hg i lv hi)).inv h1
     refine fin g1 r1 ?_
     simp only [xE,e1,Rs.aa]
     rw [r1.1.length,if_pos hl]
   · cases h2
 | comp caps t it ifs elt=>
   simp only [yE,Ou.aO] at hy
   obtain ⟨xs,h1,h2⟩:=hy
   split at h2
   · rename_i hl
     have hc:∀ i lv,(i,lv) ∈ own->some i ∉ caps:=λi lv hi z=>by
       have:=(a9 (by simpa only [gts] using hg i lv hi)).1
       rw [List.contains_iff_mem.mpr z] at this
       cases this
     obtain ⟨q,st1,hh1,e1,g1,hq⟩:=(gIt HP it 1 (Nat.le_refl 1) w wf λi lv hi=>(a9 (by simpa only [gts] using hg i lv hi)).2).inv h1
     have g:=qm (tZ (t:=t) ((w.gr g1).cap hc) (λw' wf'=>gIf HP ifs w' wf' λ_ _ z=>nomatch z) λw' wf'=>gE HP elt 0 w' wf' λ_ _ z=>nomatch z) g1.wf hq.2
     generalize hz:cq _ xs=z at h2 g
     cases z with
     | bad=>cases h2
     | exc c=>cases h2
     | ok ys=>
       simp only [Ou.aa,Ou.gi,Ou.ok.injEq,T.lst.injEq] at h2
       subst h2
       obtain ⟨us,st2,hh2,e2,g2,r2⟩:=g
       refine fin (g1.trans g2) r2 ?_
       simp only [xE,e1,Rs.aa]
       rw [hq.2.len,if_pos hl]
       exact congrArg (λz:Rs (List U)=>(z.bind λys st2=>new st2 ys).noX) e2
   · cases h2
 | sl a c d=>
   simp only [yE,Ou.aO] at hy
   obtain ⟨x',h1,y',h2,h3⟩:=hy
   obtain ⟨x,st1,hh1,e1,g1,hx⟩:=(gE HP a 1 w wf λi lv hi=>(a9 (a9 (by simpa only [gts] using hg i lv hi)).1).1).inv h1
   obtain ⟨y,st2,hh2,e2,g2,hy⟩:=(gE HP c 2 (w.gr g1) g1.wf λi lv hi=>(a9 (a9 (by simpa only [gts] using hg i lv hi)).1).2).inv h2
   split at h3
   · cases h3
   · rename_i lo hlo
     simp only [Ou.aO] at h3
     obtain ⟨v',h3,h4⟩:=h3
     obtain ⟨v,st3,hh3,e3,g3,hv⟩:=(gE HP d 2 ((w.gr g1).gr g2) g2.wf λi lv hi=>(a9 (by simpa only [gts] using hg i lv hi)).2).inv h3
     split at h4
     · cases h4
     · rename_i hi hhi
       cases x' with
       | lst xs=>
         obtain ⟨us,e4,_,p'⟩:=iI g3.wf ((hx.gr g2).gr g3)
         simp only [zSl.eq_def,Ou.ok.injEq,T.lst.injEq] at h4
         subst h4
         refine fin ((g1.trans g2).trans g3) (p'.cut lo hi) ?_
         simp only [xE,e1,e2,e3,Rs.aa,nq hy.1 c hlo,nq hv.1 d hhi,CO.eq_def,e4]
       | _=>cases h4
 | op o a c=>
   cases o <;> first | (simp [cU] at hf; done) | skip
   simp only [yE,Ou.aO] at hy
   obtain ⟨x',h1,y',h2,h3⟩:=hy
   obtain ⟨x,st1,hh1,e1,g1,hx⟩:=(gE HP a 1 w wf λi lv hi=>(a9 (by simpa only [gts] using hg i lv hi)).1).inv h1
   obtain ⟨y,st2,hh2,e2,g2,hy⟩:=(gE HP c 1 (w.gr g1) g1.wf λi lv hi=>(a9 (by simpa only [gts] using hg i lv hi)).2).inv h2
   cases x' with
   | lst xs=>
     cases y' with
     | lst ys=>
       obtain ⟨us,c1,r1⟩:=fV g2.wf (hx.gr g2)
       obtain ⟨vs,c2,r2⟩:=fV g2.wf hy
       simp only [z2.eq_def] at h3
       split at h3
       · rename_i hl
         cases h3
         refine fin (g1.trans g2) (r1.append r2) ?_
         simp only [xE,e1,e2,Rs.aa,wW c1 c2]
         rw [r1.1.length,r2.1.length,if_pos hl]
       · cases h3
     | _=>simp [z2.eq_def] at h3
   | int i=>
     cases y' <;> simp [z2.eq_def] at h3
   | _=>simp [z2.eq_def] at h3
 | bi o es=>
   cases o <;> first | (simp [cU] at hf; done) | skip
   simp only [yE,Ou.aO] at hy
   obtain ⟨xs',h1,h2⟩:=hy
   obtain ⟨xs,st1,hh1,e1,g1,hx⟩:=(gEs HP es 1 w wf λi lv hi=>(by simpa only [gts] using hg i lv hi)).inv h1
   match xs',hx,h2 with
   | [a],⟨.cons (u:=x) r .nil,hp⟩,h2=>
     have px:PX 1 hh1 st1 x a:=⟨r,hp x (List.mem_singleton_self x)⟩
     cases a with
     | lst ys=>
       obtain ⟨vs,e3,e4,p'⟩:=iI g1.wf px
       simp only [zB.eq_def,Ou.ok.injEq,T.lst.injEq] at h2
       subst h2
       refine fin g1 p' ?_
       simp only [xE,e1,Rs.aa]
       simp only [evB.eq_def,e4]
     | tup ys=>
       obtain ⟨vs,rfl,p'⟩:=jF (k':=0) px
       simp only [zB.eq_def,Ou.ok.injEq,T.lst.injEq] at h2
       subst h2
       refine fin g1 p' ?_
       simp only [xE,e1,Rs.aa]
       simp only [evB.eq_def,seq?]
     | _=>cases h2
   | [],_,h2=>cases h2
   | a :: b :: r,_,h2=>cases a <;> cases h2
 | call f es=>
   simp only [yE,Ou.aO] at hy
   obtain ⟨xs',h1,h2⟩:=hy
   obtain ⟨xs,st1,hh1,e1,g1,u,st2,hh2,e2,g2,f2⟩:∃ xs st1 hh1,xEs Φ es ρ st=.ok xs st1/\Gr h st hh1 st1/\∃ u st2 hh2,Φ f xs st1=.ok u st2/\Gr hh1 st1 hh2 st2/\FrR (μ f).lv st1 hh2 st2 u (.lst ds):=by
     cases hs:(μ f).sc with
     | false=>
       obtain ⟨xs,st1,hh1,e1,g1,hx⟩:=(gEs HP es 0 w wf λi lv hi=>(by simpa only [gts,hs,Bool.false_eq_true,if_false] using hg i lv hi)).inv h1
       obtain ⟨u,st2,hh2,e2,g2,f2⟩:=((HP f).2 hh1 st1 xs xs' g1.wf hx).inv h2
       exact ⟨xs,st1,hh1,e1,g1,u,st2,hh2,e2,g2,f2⟩
     | true=>
       obtain ⟨xs,st1,hh1,e1,g1,hx⟩:=(gEs HP es 2 w wf λi lv hi=>(by simpa only [gts,hs,if_true] using hg i lv hi)).inv h1
       obtain ⟨u,st2,hh2,e2,g2,f2⟩:=((HP f).wY hs g1.wf hx).inv h2
       exact ⟨xs,st1,hh1,e1,g1,u,st2,hh2,e2,g2,f2⟩
   have hf:1<=(μ f).lv:=hf
   have fn:=f2.n (by omega) rfl
   have hE:xE Φ (.call f es) ρ st=.ok u st2:=by simp only [xE,e1,Rs.aa,e2]
   have sv:(μ f).lv=1\/(μ f).lv=2:=by
     obtain ⟨_,l,cs,_,e,_⟩:=fn
     by_cases z:(μ f).lv=1
     · exact .inl z
     · exact .inr (e.two z).1
   rcases sv with z | z
   · rw [z] at fn
     exact ⟨u,st2,hh2,hE,g1.trans g2,g1.frn fn⟩
   · rw [z] at fn
     obtain ⟨h3,g3,f3⟩:=fn.down g1.wf g2
     exact ⟨u,st2,h3,hE,g1.trans g3,g1.frn f3⟩
 | _=>simp [cU] at hf
theorem gN2 (e:E) {h:Hd} {ρ:Env} {τ:ak} {own:Own} {st:Sto} (w:WE h st ρ τ own) (wf:Wf h st) (hg:∀ i lv,(i,lv) ∈ own->gts μ i lv 0 e=false) (hf:2<=cU μ e) (ds:List T) (hy:yE Ψ e τ=.ok (.lst ds)) (ha:ds.all isL=true) :
   ∃ u st' h',xE Φ e ρ st=.ok u st'/\Gr h st h' st'/\FrN 2 st h' st' u (.lst ds):=by
 cases e with
 | comp caps t it ifs elt=>
   have hfe:1<=cU μ elt:=by
     simp only [cU] at hf
     split at hf
     · omega
     · omega
   simp only [yE,Ou.aO] at hy
   obtain ⟨xs,h1,h2⟩:=hy
   split at h2
   · rename_i hl
     have hc:∀ i lv,(i,lv) ∈ own->some i ∉ caps:=λi lv hi z=>by
       have:=(a9 (by simpa only [gts] using hg i lv hi)).1
       rw [List.contains_iff_mem.mpr z] at this
       cases this
     obtain ⟨q,st1,hh1,e1,g1,hq⟩:=(gIt HP it 1 (Nat.le_refl 1) w wf λi lv hi=>(a9 (by simpa only [gts] using hg i lv hi)).2).inv h1
     generalize hgf:(λx=>match aJ t x (iR τ caps++[none]) with
         | none=>(Ou.bad:Ou (Option T))
         | some τ1=>(yIf Ψ ifs τ1).bind λb=>if b then (yE Ψ elt τ1).bind λy=>.ok (some y) else .ok none)=gf at h2
     cases hz:cq gf xs with
     | bad=>rw [hz] at h2; cases h2
     | exc c=>rw [hz] at h2; cases h2
     | ok ys=>
       rw [hz] at h2
       simp only [Ou.aa,Ou.gi,Ou.ok.injEq,T.lst.injEq] at h2
       subst h2
       have wc:=(w.gr g1).cap hc
       obtain ⟨cs,st2,h2,e2,g2,r2,n2,c2⟩:=oN (f:=λx st=>match fM t x (jL ρ caps++[none]) with
         | none=>.bad
         | some ρ1=>(xIf Φ ifs ρ1 st).bind λb st2=>if b then (xE Φ elt ρ1 st2).bind λy st3=>.ok (some y) st3 else .ok none st2) (g:=gf) (λu x st' h' o' g px hgx hil=>by
           subst hgf
           dsimp only at hgx
           cases z:aJ t x (iR τ caps++[none]) with
           | none=>rw [z] at hgx; cases hgx
           | some τ1=>
             rw [z] at hgx
             simp only [Ou.aO] at hgx
             obtain ⟨b,hb,hgx⟩:=hgx
             obtain ⟨ρ1,f1,w1⟩:=sP (wc.gr g) px z
             obtain ⟨b',st3,h3,f3,g3,hbb⟩:=(gIf HP ifs w1 g.wf λ_ _ z=>nomatch z).inv hb
             have hbb:b'=b:=hbb
             subst hbb
             cases b' with
             | false=>
               simp only [Bool.false_eq_true,if_false] at hgx
               cases hgx
               exact ⟨none,st3,h3,by simp only [f1,f3,Rs.aa]; rfl,g3,trivial⟩
             | true=>
               simp only [if_true,Ou.aO] at hgx
               obtain ⟨y,hy',hgx⟩:=hgx
               cases hgx
               have hyl:=hil y rfl
               cases y with
               | lst zs=>
                 obtain ⟨v,st4,h4,f4,g4,fn⟩:=gN1 HP elt (w1.gr g3) g3.wf (λ_ _ z=>nomatch z) hfe zs hy'
                 refine ⟨some v,st4,h4,by simp only [f1,f3,f4,Rs.aa,if_true],g3.trans g4,fn.1,?_⟩
                 obtain ⟨_,l,cs,rfl,en,nl⟩:=fn
                 obtain ⟨a1,_,a3⟩:=en.one rfl
                 exact ⟨l,rfl,Nat.le_trans g3.pre.length_le (nl l (List.mem_cons_self ..)),en.hl,a1,a3⟩
               | _=>cases hyl) (xs.length + 1) 0 st1 hh1 ys (.refl g1.wf) hq.2 (Nat.zero_le _) (Nat.zero_add _) (by rw [List.drop_zero]; exact hz) ha
       obtain ⟨h3,g3,f3⟩:=yy (st0:=st1) g2.wf r2 n2 g2.pre.length_le c2
       refine ⟨_,_,h3,?_,(g1.trans g2).trans g3,g1.frn f3⟩
       simp only [xE,e1,Rs.aa]
       rw [hq.2.len,if_pos hl]
       exact congrArg (λz:Rs (List U)=>(z.bind λys st2=>new st2 ys).noX) e2
   · cases h2
 | call f es=>
   simp only [yE,Ou.aO] at hy
   obtain ⟨xs',h1,h2⟩:=hy
   obtain ⟨xs,st1,hh1,e1,g1,u,st2,hh2,e2,g2,f2⟩:∃ xs st1 hh1,xEs Φ es ρ st=.ok xs st1/\Gr h st hh1 st1/\∃ u st2 hh2,Φ f xs st1=.ok u st2/\Gr hh1 st1 hh2 st2/\FrR (μ f).lv st1 hh2 st2 u (.lst ds):=by
     cases hs:(μ f).sc with
     | false=>
       obtain ⟨xs,st1,hh1,e1,g1,hx⟩:=(gEs HP es 0 w wf λi lv hi=>(by simpa only [gts,hs,Bool.false_eq_true,if_false] using hg i lv hi)).inv h1
       obtain ⟨u,st2,hh2,e2,g2,f2⟩:=((HP f).2 hh1 st1 xs xs' g1.wf hx).inv h2
       exact ⟨xs,st1,hh1,e1,g1,u,st2,hh2,e2,g2,f2⟩
     | true=>
       obtain ⟨xs,st1,hh1,e1,g1,hx⟩:=(gEs HP es 2 w wf λi lv hi=>(by simpa only [gts,hs,if_true] using hg i lv hi)).inv h1
       obtain ⟨u,st2,hh2,e2,g2,f2⟩:=((HP f).wY hs g1.wf hx).inv h2
       exact ⟨xs,st1,hh1,e1,g1,u,st2,hh2,e2,g2,f2⟩
   have hf:2<=(μ f).lv:=hf
   have fn:=f2.n (by omega) rfl
   have hE:xE Φ (.call f es) ρ st=.ok u st2:=by simp only [xE,e1,Rs.aa,e2]
   have lv2:(μ f).lv=2:=by
     obtain ⟨_,l,cs,_,e,_⟩:=fn
     exact (e.two (by omega)).1
   rw [lv2] at fn
   exact ⟨u,st2,hh2,hE,g1.trans g2,g1.frn fn⟩
 | op o a c=>cases o <;> simp [cU] at hf
 | bi o es=>cases o <;> simp [cU] at hf
 | _=>simp [cU] at hf
noncomputable def cpE (v:Nat):E:=.comp [none] (.nm 0) (.seq (.var v)) [] (.bi .list [.var 0])
omit HP in
theorem DL {e:E} {v:Nat} (h:cpV e=some v):e=cpE v:=by
 unfold cpV at h
 split at h
 · cases h; rfl
 · cases h
omit HP in
theorem BE {g:T->Ou (Option T)} (hg:∀ x y,g x=.ok (some y)->isL y=true):∀ {xs ys:List T},cq g xs=.ok ys->ys.all isL=true
 | [],_,h=>by cases h; rfl
 | x :: xs,_,h=>by
   rw [cq,Ou.aO] at h
   obtain ⟨o,h1,h⟩:=h
   rw [Ou.aO] at h
   obtain ⟨ys,h2,h⟩:=h
   have:=BE hg h2
   cases o with
   | none=>cases h; exact this
   | some y=>cases h; rw [List.all_cons,hg _ _ h1,this]; rfl
omit HP in
theorem B0 {τ:ak} {x:T} (h:yE Ψ (cpE 0) τ=.ok x):∃ ds,x=.lst ds/\ds.all isL=true:=by
 simp only [cpE,yE,Ou.aO] at h
 obtain ⟨xs,_,h⟩:=h
 split at h
 · generalize hgf:(λx=>match aJ (.nm 0) x (iR τ [none]++[none]) with
         | none=>(Ou.bad:Ou (Option T))
         | some τ1=>(yIf Ψ [] τ1).bind λb=>if b then ((yEs Ψ [.var 0] τ1).bind λxs=>zB .list xs).bind λy=>.ok (some y) else .ok none)=gf at h
   cases hz:cq gf xs with
   | bad=>rw [hz] at h; cases h
   | exc c=>rw [hz] at h; cases h
   | ok ys=>
     rw [hz] at h
     cases h
     refine ⟨ys,rfl,BE (λx y e=>?_) hz⟩
     subst hgf
     cases x <;> simp [aJ,iR,yIf,yEs,yE,aC,zB,Ou.bind] at e <;> (subst e; rfl)
 · cases h
theorem CM:Pure ⟨true,2,0⟩ (λus st=>xE Φ (cpE 0) (us.map some) st) (λds=>(yE Ψ (cpE 0) (ds.map some)).bind λx=>if eN 2 x then .ok x else .bad):=by
 refine ⟨λ_ ds d h=>?_,λh st us ds wf p=>?_⟩
 · obtain ⟨x,_,h2⟩:=Ou.aO.mp h
   split at h2
   · cases h2; assumption
   · cases h2
 · have we:WE h st (us.map some) (ds.map some) []:=⟨by rw [List.length_map,List.length_map]; exact p.1.length,λi d e=>by
     rw [List.getElem?_map,Option.map_eq_some_iff] at e
     obtain ⟨d',e,z⟩:=e
     cases z
     obtain ⟨u,e1,r⟩:=p.1.get e
     exact ⟨u,by rw [List.getElem?_map,e1]; rfl,r,.inl (p.2 u (List.mem_of_getElem? e1)).zero⟩⟩
   show Gd h st (FrR 2 st) (xE Φ (cpE 0) (us.map some) st) ((yE Ψ (cpE 0) (ds.map some)).bind λx=>if eN 2 x then .ok x else .bad)
   cases hy:yE Ψ (cpE 0) (ds.map some) with
   | bad=>trivial
   | exc c=>
     have:=gE HP (cpE 0) 0 we wf λ_ _ z=>nomatch z
     rw [hy] at this
     exact this
   | ok x=>
     rw [Ou.aa]
     split
     · obtain ⟨xs,rfl,ha⟩:=B0 hy
       obtain ⟨u,st',h',e1,g,f⟩:=gN2 HP (cpE 0) we wf (λ_ _ z=>nomatch z) (Nat.le_refl 2) xs hy ha
       exact ⟨u,st',h',e1,g,f.r (by decide) rfl⟩
     · trivial
theorem zy {h:Hd} {st:Sto} {ρ:Env} {τ:ak} {own:Own} {v:Nat} (w:WE h st ρ τ own) (wf:Wf h st) {x:T} (hy:yE Ψ (cpE v) τ=.ok x) (hf:eN 2 x=true):∃ u st' h',xE Φ (cpE v) ρ st=.ok u st'/\Gr h st h' st'/\FrN 2 st h' st' u x:=by
 cases z:τ[v]? with
 | none=>simp [cpE,yE,yIt,aC,z,Ou.bind] at hy
 | some o=>
   cases o with
   | none=>simp [cpE,yE,yIt,aC,z,Ou.bind] at hy
   | some d=>
     obtain ⟨u,hu,r,hk⟩:=w.val v d z
     have ey:yE Ψ (cpE 0) [some d]=.ok x:=by
       rw [<- hy]
       simp only [cpE,yE,yIt,aC,z]
       rfl
     have ex:xE Φ (cpE v) ρ st=xE Φ (cpE 0) [some u] st:=by
       simp only [cpE,xE,xIt,l7,hu]
       rfl
     have px:PX 2 h st u d:=⟨r,by
       rcases hk with a | ⟨lv,_,a | ⟨_,a⟩ | ⟨_,a⟩⟩
       · exact .inl a
       · exact .inl a
       · exact .inr (.inl ⟨by decide,a⟩)
       · exact .inr (.inr ⟨by decide,a⟩)⟩
     obtain ⟨u',st',h',e1,g,f⟩:=((CM HP).wY rfl wf (PXs.cons px .nil)).inv (show ((yE Ψ (cpE 0) [some d]).bind λx=>if eN 2 x then .ok x else .bad)=.ok x by rw [ey,Ou.aa,if_pos hf])
     obtain ⟨xs,rfl,_⟩:=B0 ey
     exact ⟨u',st',h',ex.trans e1,g,f.n (by decide) rfl⟩
end
structure En where
 i:Nat
 l:Nat
 lv:Nat
 cs:List Nat
noncomputable def En.ft (e:En):List Nat:=e.l :: e.cs
noncomputable def foot (F:List En):List Nat:=F.flatMap En.ft
noncomputable def aP (F:List En):Own:=F.map λe=>(e.i,e.lv)
structure WS (P:Nat->Prop) (h0:Hd) (n0:Nat) (H:Hd) (st:Sto) (ρ:Env) (τ:ak) (F:List En):Prop where
 len:ρ.length=τ.length
 val:∀ (i:Nat) d,τ[i]?=some (some d)->∃ u,ρ[i]?=some (some u)/\Rep st u d/\((∀ e ∈ F,e.i ≠ i)->Av H st.length u)
 wf:Wf H st
 ent:∀ e ∈ F,ρ[e.i]?=some (some (.loc e.l))/\Ent H st e.l e.cs e.lv/\∀ k ∈ e.ft,¬ P k
 nd:(foot F).Nodup
 nv:(F.map (·.i)).Nodup
 bh:∀ k,h0.h k->H.h k/\P k
 bg:∀ k,h0.g k->H.g k
 oh:∀ k,H.h k->h0.h k\/k ∈ foot F\/n0<=k
 og:∀ k,H.g k->h0.g k\/k ∈ foot F\/n0<=k
 pl:∀ k,P k->k < n0
 nl:n0<=st.length
structure Stp (P:Nat->Prop) (H:Hd) (st:Sto) (H':Hd) (st':Sto):Prop where
 len:st.length<=st'.length
 lo:∀ k,P k->st'[k]?=st[k]?
 keep:∀ (k:Nat) c,¬ H.h k->st[k]?=some c->st'[k]?=some c
 hid:∀ k,k < st.length->H'.h k->H.h k
 gid:∀ k,k < st.length->H'.g k->H.g k
theorem Stp.refl {P:Nat->Prop} {H:Hd} {st:Sto}:Stp P H st H st:=⟨Nat.le_refl _,λ_ _=>rfl,λ_ _ _ h=>h,λ_ _ h=>h,λ_ _ h=>h⟩
theorem Stp.trans {P:Nat->Prop} {H H1 H2:Hd} {st st1 st2:Sto} (x:Stp P H st H1 st1) (y:Stp P H1 st1 H2 st2):Stp P H st H2 st2:=
 ⟨Nat.le_trans x.len y.len,λk hk=>(y.lo k hk).trans (x.lo k hk),λk c hn e=>y.keep k c (λz=>hn (x.hid k (List.getElem?_eq_some_iff.mp e).1 z)) (x.keep k c hn e),
   λk hk z=>x.hid k hk (y.hid k (Nat.lt_of_lt_of_le hk x.len) z),λk hk z=>x.gid k hk (y.gid k (Nat.lt_of_lt_of_le hk x.len) z)⟩
structure Fin (P:Nat->Prop) (h0:Hd) (n0:Nat) (st:Sto) (H':Hd) (st':Sto):Prop where
 len:st.length<=st'.length
 lo:∀ k,P k->st'[k]?=st[k]?
 wf:Wf H' st'
 hm:∀ k,h0.h k->H'.h k
 gm:∀ k,h0.g k->H'.g k
 hn:∀ k,k < n0->H'.h k->h0.h k
 gn:∀ k,k < n0->H'.g k->h0.g k
theorem bo {F:List En} {k:Nat}:k ∈ foot F ↔ ∃ e ∈ F,k ∈ e.ft:=by unfold foot; exact List.mem_flatMap
theorem fu (e:En) (F:List En):foot (e :: F)=e.ft++foot F:=rfl
theorem fY (F G:List En):foot (F++G)=foot F++foot G:=by unfold foot; exact List.flatMap_append
theorem mem_mid {α:Type} {F1 F2:List α} {e x:α} (h:x ∈ F1++F2):x ∈ F1++e :: F2:=by
 rcases List.mem_append.mp h with h | h
 · exact List.mem_append_left _ h
 · exact List.mem_append_right _ (List.mem_cons_of_mem _ h)
theorem bQ {α:Type} {F1 F2:List α} {e x:α} (h:x ∈ F1++e :: F2):x=e\/x ∈ F1++F2:=by
 rcases List.mem_append.mp h with h | h
 · exact .inr (List.mem_append_left _ h)
 · rcases List.mem_cons.mp h with h | h
   · exact .inl h
   · exact .inr (List.mem_append_right _ h)
theorem gN {F1 F2:List En} {e e':En} (nd:(foot (F1++e :: F2)).Nodup) (h:e' ∈ F1++F2) {k:Nat} (h1:k ∈ e.ft) (h2:k ∈ e'.ft):False:=by
 rw [fY,fu] at nd
 obtain ⟨_,n2,n3⟩:=List.nodup_append.mp nd
 obtain ⟨_,_,n6⟩:=List.nodup_append.mp n2
 rcases List.mem_append.mp h with h | h
 · exact n3 k (bo.mpr ⟨e',h,h2⟩) k (List.mem_append_left _ h1) rfl
 · exact n6 k h1 k (bo.mpr ⟨e',h,h2⟩) rfl
theorem CG {F1 F2:List En} {e:En} (nd:(foot (F1++e :: F2)).Nodup):(foot (F1++F2)).Nodup:=by
 rw [fY,fu] at nd
 rw [fY]
 obtain ⟨n1,n2,n3⟩:=List.nodup_append.mp nd
 obtain ⟨_,n5,_⟩:=List.nodup_append.mp n2
 exact List.nodup_append.mpr ⟨n1,n5,λa ha b hb=>n3 a ha b (List.mem_append_right _ hb)⟩
theorem rf {F1 F2:List En} {e:En} (nv:((F1++e :: F2).map (·.i)).Nodup):((F1++F2).map (·.i)).Nodup/\∀ e' ∈ F1++F2,e'.i ≠ e.i:=by
 rw [List.map_append,List.map_cons] at nv
 obtain ⟨n1,n2,n3⟩:=List.nodup_append.mp nv
 obtain ⟨n4,n5⟩:=List.nodup_cons.mp n2
 refine ⟨?_,λe' he z=>?_⟩
 · rw [List.map_append]
   exact List.nodup_append.mpr ⟨n1,n5,λa ha b hb=>n3 a ha b (List.mem_cons_of_mem _ hb)⟩
 · rcases List.mem_append.mp he with h | h
   · exact n3 _ (List.mem_map_of_mem h) _ (List.mem_cons_self ..) z
   · exact n4 (z ▸ List.mem_map_of_mem (f:=(·.i)) h)
theorem Ent.gr {h h':Hd} {st st':Sto} {l:Nat} {cs:List Nat} {lv:Nat} (e:Ent h st l cs lv) (g:Gr h st h' st'):Ent h' st' l cs lv:=by
 refine ⟨g.hm l e.hl,λz=>?_,λz=>?_,e.nd⟩
 · obtain ⟨a,b,us,c⟩:=e.one z
   exact ⟨λq=>a (g.gn l (List.getElem?_eq_some_iff.mp c).1 q),b,us,eU g.pre _ _ c⟩
 · obtain ⟨a,b,c,d⟩:=e.two z
   exact ⟨a,g.gm l b,eU g.pre _ _ c,λk hk=>g.IV (d k hk)⟩
theorem Ent.hd {h h':Hd} {st st':Sto} {l:Nat} {cs:List Nat} {lv:Nat} (e:Ent h st l cs lv) (eh:∀ k ∈ l :: cs,(h.h k->h'.h k)/\(h.g k->h'.g k)/\(h'.g k->h.g k)/\st'[k]?=st[k]?):Ent h' st' l cs lv:=by
 have e0:=eh l (List.mem_cons_self ..)
 refine ⟨e0.1 e.hl,λz=>?_,λz=>?_,e.nd⟩
 · obtain ⟨a,b,us,c⟩:=e.one z
   exact ⟨λq=>a (e0.2.2.1 q),b,us,e0.2.2.2.trans c⟩
 · obtain ⟨a,b,c,d⟩:=e.two z
   refine ⟨a,e0.2.1 b,e0.2.2.2.trans c,λk hk=>?_⟩
   obtain ⟨d1,d2,ws,d3⟩:=d k hk
   have ek:=eh k (List.mem_cons_of_mem _ hk)
   exact ⟨ek.1 d1,λq=>d2 (ek.2.2.1 q),ws,ek.2.2.2.trans d3⟩
section
variable {P:Nat->Prop} {h0 H:Hd} {n0:Nat} {st:Sto} {ρ:Env} {τ:ak} {F F1 F2:List En}
theorem WS.we (w:WS P h0 n0 H st ρ τ F):WE H st ρ τ (aP F):=by
 refine ⟨w.len,λi d e=>?_⟩
 obtain ⟨u,e1,r,a⟩:=w.val i d e
 refine ⟨u,e1,r,?_⟩
 by_cases hx:∃ en ∈ F,en.i=i
 · obtain ⟨en,hen,rfl⟩:=hx
   obtain ⟨e2,e3,_⟩:=w.ent en hen
   rw [e1] at e2
   have:u=.loc en.l:=by simpa using e2
   subst this
   refine .inr ⟨en.lv,List.mem_map.mpr ⟨en,hen,rfl⟩,?_⟩
   by_cases z:en.lv=1
   · obtain ⟨a1,_,us,a3⟩:=e3.one z
     exact .inr (.inl ⟨by omega,en.l,rfl,(List.getElem?_eq_some_iff.mp a3).1,a1⟩)
   · obtain ⟨a1,_,a3,a4⟩:=e3.two z
     refine .inr (.inr ⟨by omega,en.l,rfl,false,_,a3,λv hv=>?_⟩)
     obtain ⟨c,hc,rfl⟩:=List.mem_map.mp hv
     exact ⟨c,rfl,e3.lt c (List.mem_cons_of_mem _ hc),(a4 c hc).2.1⟩
 · exact .inl (a λe he z=>hx ⟨e,he,z⟩)
theorem WS.gr (w:WS P h0 n0 H st ρ τ F) {H':Hd} {st':Sto} (g:Gr H st H' st'):WS P h0 n0 H' st' ρ τ F/\Stp P H st H' st':=by
 have out:∀ k,H'.h k->H.h k\/n0<=k:=λk z=>by
   rcases Nat.lt_or_ge k st.length with q | q
   · exact .inl (g.hn k q z)
   · exact .inr (Nat.le_trans w.nl q)
 have outg:∀ k,H'.g k->H.g k\/n0<=k:=λk z=>by
   rcases Nat.lt_or_ge k st.length with q | q
   · exact .inl (g.gn k q z)
   · exact .inr (Nat.le_trans w.nl q)
 refine ⟨⟨w.len,λi d e=>let ⟨u,e1,r,a⟩:=w.val i d e; ⟨u,e1,r.ext g.pre,λz=>g.av (a z)⟩,g.wf,λe he=>let ⟨a,b,c⟩:=w.ent e he; ⟨a,b.gr g,c⟩,w.nd,w.nv,λk z=>⟨g.hm k (w.bh k z).1,(w.bh k z).2⟩,λk z=>g.gm k (w.bg k z),
   λk z=>(out k z).elim (w.oh k) λq=>.inr (.inr q),λk z=>(outg k z).elim (w.og k) λq=>.inr (.inr q),w.pl,Nat.le_trans w.nl g.pre.length_le⟩,
   ⟨g.pre.length_le,λk hk=>?_,λk c _ e=>eU g.pre k c e,g.hn,g.gn⟩⟩
 obtain ⟨r,rfl⟩:=g.pre
 exact List.getElem?_append_left (Nat.lt_of_lt_of_le (w.pl k hk) w.nl)
theorem WS.drop {e:En} (w:WS P h0 n0 H st ρ τ (F1++e :: F2)):∃ H',WS P h0 n0 H' st ρ τ (F1++F2)/\Stp P H st H' st:=by
 have he:e ∈ F1++e :: F2:=List.mem_append_right _ (List.mem_cons_self ..)
 obtain ⟨a1,a2,a3⟩:=w.ent e he
 obtain ⟨w1,av1⟩:=w.wf.less a2
 obtain ⟨nv1,nv2⟩:=rf w.nv
 have mE:∀ k,P k->k ∉ e.l :: e.cs:=λk hk z=>a3 k z hk
 refine ⟨H.less λk=>k ∈ e.l :: e.cs,⟨w.len,λi d q=>?_,w1,λe' he'=>?_,CG w.nd,nv1,λk z=>⟨⟨(w.bh k z).1,mE k (w.bh k z).2⟩,(w.bh k z).2⟩,λk z=>⟨w.bg k z,mE k (w.bh k (h0.sub k z)).2⟩,λk z=>?_,λk z=>?_,w.pl,w.nl⟩,⟨Nat.le_refl _,λ_ _=>rfl,λ_ _ _ h=>h,λk _ z=>z.1,λk _ z=>z.1⟩⟩
 · obtain ⟨u,e1,r,a⟩:=w.val i d q
   refine ⟨u,e1,r,λhn=>?_⟩
   by_cases z:e.i=i
   · subst z
     rw [a1] at e1
     have:u=.loc e.l:=by simpa using e1.symm
     subst this
     exact av1
   · refine (a λe' he'=>?_).less
     rcases bQ he' with rfl | he'
     · exact z
     · exact hn e' he'
 · obtain ⟨b1,b2,b3⟩:=w.ent e' (mem_mid he')
   have ap:∀ k ∈ e'.l :: e'.cs,k ∉ e.l :: e.cs:=λk hk z=>gN w.nd he' z hk
   exact ⟨b1,b2.hd λk hk=>⟨λz=>⟨z,ap k hk⟩,λz=>⟨z,ap k hk⟩,λz=>z.1,rfl⟩,b3⟩
 · rcases w.oh k z.1 with q | q | q
   · exact .inl q
   · obtain ⟨e',he',hk⟩:=bo.mp q
     rcases bQ he' with rfl | he'
     · exact absurd hk z.2
     · exact .inr (.inl (bo.mpr ⟨e',he',hk⟩))
   · exact .inr (.inr q)
 · rcases w.og k z.1 with q | q | q
   · exact .inl q
   · obtain ⟨e',he',hk⟩:=bo.mp q
     rcases bQ he' with rfl | he'
     · exact absurd hk z.2
     · exact .inr (.inl (bo.mpr ⟨e',he',hk⟩))
   · exact .inr (.inr q)
theorem WS.down {i l:Nat} {cs:List Nat} (w:WS P h0 n0 H st ρ τ (F1++⟨i,l,2,cs⟩ :: F2)):∃ H',WS P h0 n0 H' st ρ τ (F1++⟨i,l,1,[]⟩ :: F2)/\Stp P H st H' st:=by
 have he:(⟨i,l,2,cs⟩:En) ∈ F1++⟨i,l,2,cs⟩ :: F2:=List.mem_append_right _ (List.mem_cons_self ..)
 obtain ⟨a1,a2,a3⟩:=w.ent _ he
 obtain ⟨H',b1,b2,b3,b4,b5,b6⟩:=Ent.down w.wf a2
 obtain ⟨nv1,nv2⟩:=rf w.nv
 have mE:∀ k,P k->k ∉ l :: cs:=λk hk z=>a3 k z hk
 have cases':∀ {e'},e' ∈ F1++(⟨i,l,1,[]⟩:En) :: F2->e'=⟨i,l,1,[]⟩\/e' ∈ F1++F2:=λh=>bQ h
 have nd':(foot (F1++⟨i,l,1,[]⟩ :: F2)).Nodup:=by
   have nd:=w.nd
   rw [fY,fu] at nd ⊢
   obtain ⟨n1,n2,n3⟩:=List.nodup_append.mp nd
   obtain ⟨n4,n5,n6⟩:=List.nodup_append.mp n2
   refine List.nodup_append.mpr ⟨n1,List.nodup_append.mpr ⟨by simp [En.ft],n5,λa ha b hb=>n6 a ?_ b hb⟩,λa ha b hb=>n3 a ha b ?_⟩
   · have:a=l:=by simpa [En.ft] using ha
     subst this; exact List.mem_cons_self ..
   · rcases List.mem_append.mp hb with hb | hb
     · have:b=l:=by simpa [En.ft] using hb
       subst this; exact List.mem_append_left _ (List.mem_cons_self ..)
     · exact List.mem_append_right _ hb
 have nvv:((F1++(⟨i,l,1,[]⟩:En) :: F2).map (·.i)).Nodup:=by
   have:=w.nv
   rw [List.map_append,List.map_cons] at this ⊢
   exact this
 refine ⟨H',⟨w.len,λj d q=>?_,b5,λe' he'=>?_,nd',nvv,λk z=>⟨(b3 k (mE k (w.bh k z).2)).1 (w.bh k z).1,(w.bh k z).2⟩,λk z=>(b3 k (mE k (w.bh k (h0.sub k z)).2)).2 (w.bg k z),λk z=>?_,λk z=>?_,w.pl,w.nl⟩,⟨Nat.le_refl _,λ_ _=>rfl,λ_ _ _ h=>h,λk _ z=>b1 k z,λk _ z=>b2 k z⟩⟩
 · obtain ⟨u,e1,r,a⟩:=w.val j d q
   refine ⟨u,e1,r,λhn=>(a λe' he'=>?_).imp λk _ z=>b1 k z⟩
   rcases bQ he' with rfl | he'
   · exact hn ⟨i,l,1,[]⟩ (List.mem_append_right _ (List.mem_cons_self ..))
   · exact hn e' (mem_mid he')
 · rcases cases' he' with rfl | he'
   · exact ⟨a1,b6,λk hk=>a3 k (by rw [En.ft,List.mem_singleton] at hk; subst hk; exact List.mem_cons_self ..)⟩
   · obtain ⟨c1,c2,c3⟩:=w.ent e' (mem_mid he')
     have ap:∀ k ∈ e'.l :: e'.cs,k ∉ l :: cs:=λk hk z=>gN w.nd he' z hk
     exact ⟨c1,c2.hd λk hk=>⟨(b3 k (ap k hk)).1,(b3 k (ap k hk)).2,b2 k,rfl⟩,c3⟩
 · rcases w.oh k (b1 k z) with q | q | q
   · exact .inl q
   · obtain ⟨e',he',hk⟩:=bo.mp q
     rcases bQ he' with rfl | he'
     · rcases List.mem_cons.mp hk with rfl | hk
       · exact .inr (.inl (bo.mpr ⟨⟨i,k,1,[]⟩,List.mem_append_right _ (List.mem_cons_self ..),List.mem_cons_self ..⟩))
       · exact absurd z (b4 k hk)
     · exact .inr (.inl (bo.mpr ⟨e',mem_mid he',hk⟩))
   · exact .inr (.inr q)
 · rcases w.og k (b2 k z) with q | q | q
   · exact .inl q
   · obtain ⟨e',he',hk⟩:=bo.mp q
     rcases bQ he' with rfl | he'
     · rcases List.mem_cons.mp hk with rfl | hk
       · exact .inr (.inl (bo.mpr ⟨⟨i,k,1,[]⟩,List.mem_append_right _ (List.mem_cons_self ..),List.mem_cons_self ..⟩))
       · exact absurd (H'.sub k z) (b4 k hk)
     · exact .inr (.inl (bo.mpr ⟨e',mem_mid he',hk⟩))
   · exact .inr (.inr q)
theorem WS.dns (g:Nat->Nat->Bool):∀ (F2 F1:List En) {H:Hd},WS P h0 n0 H st ρ τ (F1++F2)->∃ H' F',aP F'=dn g (aP F2)/\WS P h0 n0 H' st ρ τ (F1++F')/\Stp P H st H' st
 | [],F1,H,w=>⟨H,[],rfl,w,.refl⟩
 | e :: F2,F1,H,w=>by
   have step:∀ {e'},WS P h0 n0 H st ρ τ (F1++e' :: F2)->∀ {H0},Stp P H0 st H st->∃ H' F',aP F'=(e'.i,e'.lv) :: dn g (aP F2)/\WS P h0 n0 H' st ρ τ (F1++F')/\Stp P H0 st H' st:=λ{e'} w {H0} s0=>by
     rw [show F1++e' :: F2=(F1++[e'])++F2 by simp] at w
     obtain ⟨H',F',e1,w1,s1⟩:=WS.dns g F2 (F1++[e']) w
     exact ⟨H',e' :: F',by rw [<- e1]; rfl,by rw [show F1++e' :: F'=(F1++[e'])++F' by simp]; exact w1,s0.trans s1⟩
   show ∃ H' F',aP F'=Sv.dn g ((e.i,e.lv) :: aP F2)/\_
   rw [Sv.dn]
   split
   · split
     · rename_i hz
       obtain ⟨i,l,lv,cs⟩:=e
       obtain ⟨hz,_⟩:=hz
       dsimp only at hz
       subst hz
       obtain ⟨H1,w1,s1⟩:=WS.down w
       have:∀ {e'},WS P h0 n0 H1 st ρ τ (F1++e' :: F2)->∃ H' F',aP F'=(e'.i,e'.lv) :: Sv.dn g (aP F2)/\WS P h0 n0 H' st ρ τ (F1++F')/\Stp P H st H' st:=λ{e'} w=>by
         rw [show F1++e' :: F2=(F1++[e'])++F2 by simp] at w
         obtain ⟨H',F',e1,w1,s2⟩:=WS.dns g F2 (F1++[e']) w
         exact ⟨H',e' :: F',by rw [<- e1]; rfl,by rw [show F1++e' :: F'=(F1++[e'])++F' by simp]; exact w1,s1.trans s2⟩
       exact this w1
     · obtain ⟨H1,w1,s1⟩:=WS.drop w
       obtain ⟨H',F',e1,w2,s2⟩:=WS.dns g F2 F1 w1
       exact ⟨H',F',e1,w2,s1.trans s2⟩
   · exact step w .refl
theorem WS.dn0 (w:WS P h0 n0 H st ρ τ F) (g:Nat->Nat->Bool):∃ H' F',aP F'=Sv.dn g (aP F)/\WS P h0 n0 H' st ρ τ F'/\Stp P H st H' st:=WS.dns g F [] w
theorem Aj:∀ (own:Own),Sv.dn (λ_ _=>true) own=[]
 | []=>rfl
 | (i,lv) :: r=>by rw [Sv.dn]; simp only [if_true,Bool.true_eq_false,and_false,if_false]; exact Aj r
theorem AJ {F:List En} (h:aP F=[]):F=[]:=by cases F; rfl; cases h
theorem WS.fin (w:WS P h0 n0 H st ρ τ F):∃ H',WS P h0 n0 H' st ρ τ []/\Stp P H st H' st:=by
 obtain ⟨H',F',e,w1,s1⟩:=w.dn0 λ_ _=>true
 rw [Aj] at e
 have:=AJ e
 subst this
 exact ⟨H',w1,s1⟩
theorem WS.out (w:WS P h0 n0 H st ρ τ []):Fin P h0 n0 st H st:=
 ⟨Nat.le_refl _,λ_ _=>rfl,w.wf,λk z=>(w.bh k z).1,w.bg,λk hk z=>(w.oh k z).elim id λq=>q.elim (λq=>nomatch q) λq=>absurd hk (Nat.not_lt.mpr q),λk hk z=>(w.og k z).elim id λq=>q.elim (λq=>nomatch q) λq=>absurd hk (Nat.not_lt.mpr q)⟩
theorem zp {g:Nat->Nat->Bool}:∀ {own:Own} {i lv:Nat},(i,lv) ∈ Sv.dn g own->g i lv=false
 | [],_,_,h=>by cases h
 | (j,k) :: r,i,lv,h=>by
   rw [Sv.dn] at h
   split at h
   · split at h
     · rename_i hz
       rcases List.mem_cons.mp h with h | h
       · cases h; exact hz.2
       · exact zp h
     · exact zp h
   · rename_i hz
     rcases List.mem_cons.mp h with h | h
     · cases h; exact Bool.eq_false_iff.mpr hz
     · exact zp h
end
theorem get_set {α:Type} {xs:List (Option α)} {i j:Nat} {x y:α} (h:(xs.set i (some x))[j]?=some (some y)):(i=j/\y=x)\/(i ≠ j/\xs[j]?=some (some y)):=by
 by_cases z:i=j
 · subst z
   by_cases hl:i < xs.length
   · rw [List.getElem?_set_self hl] at h
     cases h
     exact .inl ⟨rfl,rfl⟩
   · rw [List.getElem?_eq_none (by rw [List.length_set]; omega)] at h; cases h
 · rw [List.getElem?_set_ne z] at h
   exact .inr ⟨z,h⟩
theorem get_none {α:Type} {xs:List (Option α)} {i j:Nat} {y:α} (h:(xs.set i none)[j]?=some (some y)):i ≠ j/\xs[j]?=some (some y):=by
 by_cases z:i=j
 · subst z
   by_cases hl:i < xs.length
   · rw [List.getElem?_set_self hl] at h; cases h
   · rw [List.getElem?_eq_none (by rw [List.length_set]; omega)] at h; cases h
 · rw [List.getElem?_set_ne z] at h
   exact ⟨z,h⟩
theorem nin {X:List Nat} {m k:Nat} (hm:m ∈ X) (hk:k ∉ X):m ≠ k:=λz=>by subst z; exact hk hm
theorem nip {P:Nat->Prop} {m k:Nat} (hm:¬ P m) (hk:P k):m ≠ k:=λz=>by subst z; exact hm hk
theorem aD.mk {st:Sto}:∀ {us:List U} {ds:List T},us.length=ds.length->(∀ (j:Nat) u d,us[j]?=some u->ds[j]?=some d->Rep st u d)->aD st us ds
 | [],[],_,_=>.nil
 | u :: us,d :: ds,hl,h=>.cons (h 0 u d rfl rfl) (aD.mk (by simpa using hl) λj u' d' e1 e2=>h (j + 1) u' d' (by simpa using e1) (by simpa using e2))
 | [],_ :: _,hl,_=>by simp at hl
 | _ :: _,[],hl,_=>by simp at hl
section
variable {P:Nat->Prop} {h0 H:Hd} {n0:Nat} {st:Sto} {ρ:Env} {τ:ak} {F F1 F2:List En}
theorem WS.set (w:WS P h0 n0 H st ρ τ F) {i:Nat} {u:U} {d:T} (hi:∀ e ∈ F,e.i ≠ i) (p:PX 0 H st u d):WS P h0 n0 H st (ρ.set i (some u)) (τ.set i (some d)) F:=by
 refine ⟨by rw [List.length_set,List.length_set]; exact w.len,λj e q=>?_,w.wf,λe he=>?_,w.nd,w.nv,w.bh,w.bg,w.oh,w.og,w.pl,w.nl⟩
 · rcases get_set q with ⟨rfl,rfl⟩ | ⟨z,q⟩
   · refine ⟨u,List.getElem?_set_self ?_,p.1,λ_=>p.av⟩
     rw [w.len]
     have:=(List.getElem?_eq_some_iff.mp q).1
     rwa [List.length_set] at this
   · obtain ⟨v,e1,r⟩:=w.val j e q
     exact ⟨v,by rw [List.getElem?_set_ne z]; exact e1,r⟩
 · obtain ⟨a,b⟩:=w.ent e he
   exact ⟨by rw [List.getElem?_set_ne (Ne.symm (hi e he))]; exact a,b⟩
theorem WS.ka:∀ {is:List Nat} {us:List U} {ds:List T} {ρ:Env} {τ τ':ak},WS P h0 n0 H st ρ τ F->(∀ i ∈ is,∀ e ∈ F,e.i ≠ i)->PXs 0 H st us ds->nZ is ds τ=some τ'->∃ ρ',ka is us ρ=some ρ'/\WS P h0 n0 H st ρ' τ' F
 | [],_,_,ρ,τ,τ',w,_,⟨.nil,_⟩,e=>by cases e; exact ⟨ρ,rfl,w⟩
 | [],_,_,ρ,τ,τ',w,_,⟨.cons _ _,_⟩,e=>by cases e
 | i :: is,_,_,ρ,τ,τ',w,_,⟨.nil,_⟩,e=>by cases e
 | i :: is,_,_,ρ,τ,τ',w,hi,⟨.cons (u:=u) (d:=d) (us:=us) r rs,a⟩,e=>by
   rw [nZ] at e
   rw [Sv.ka]
   exact WS.ka (w.set (hi i (List.mem_cons_self ..)) ⟨r,a u (List.mem_cons_self ..)⟩) (λj hj=>hi j (List.mem_cons_of_mem _ hj)) ⟨rs,λv hv=>a v (List.mem_cons_of_mem _ hv)⟩ e
theorem WS.fM {t:Tg} {u:U} {d:T} {τ':ak} (w:WS P h0 n0 H st ρ τ F) (hi:∀ i ∈ tgN t,∀ e ∈ F,e.i ≠ i) (p:PX 0 H st u d) (e:aJ t d τ=some τ'):∃ ρ',fM t u ρ=some ρ'/\WS P h0 n0 H st ρ' τ' F:=by
 cases t with
 | nm i=>
   cases e
   exact ⟨_,rfl,w.set (hi i (List.mem_singleton_self i)) p⟩
 | tp is=>
   cases d with
   | tup ds=>
     obtain ⟨us,rfl,p'⟩:=jF (k':=0) p
     exact w.ka hi p' e
   | _=>cases e
theorem q9 {t:Tg} {own:Own} (h:aP F=Sv.dn (frg t) own):∀ i ∈ tgN t,∀ e ∈ F,e.i ≠ i:=λi hi e he z=>by
 have:(e.i,e.lv) ∈ aP F:=List.mem_map.mpr ⟨e,he,rfl⟩
 rw [h] at this
 have:=zp this
 unfold frg at this
 rw [z,List.contains_iff_mem.mpr hi] at this
 cases this
theorem WS.take (w:WS P h0 n0 H st ρ τ F) {i lv:Nat} {u:U} {d:T} {H':Hd} {st':Sto} (hi:∀ e ∈ F,e.i ≠ i) (hl:i < τ.length) (g:Gr H st H' st') (f:FrN lv st H' st' u d) :
   ∃ l cs,u=.loc l/\WS P h0 n0 H' st' (ρ.set i (some u)) (τ.set i (some d)) (⟨i,l,lv,cs⟩ :: F)/\Stp P H st H' st':=by
 obtain ⟨w1,s1⟩:=w.gr g
 obtain ⟨r,l,cs,rfl,en,nl⟩:=f
 have hρ:i < ρ.length:=by rw [w.len]; exact hl
 refine ⟨l,cs,rfl,⟨by rw [List.length_set,List.length_set]; exact w.len,λj e q=>?_,w1.wf,λe he=>?_,?_,?_,w1.bh,w1.bg,λk z=>(w1.oh k z).imp id (Or.imp (λq=>?_) id),λk z=>(w1.og k z).imp id (Or.imp (λq=>?_) id),w1.pl,w1.nl⟩,s1⟩
 · rcases get_set q with ⟨rfl,rfl⟩ | ⟨z,q⟩
   · exact ⟨_,List.getElem?_set_self hρ,r,λh=>absurd rfl (h ⟨i,l,lv,cs⟩ (List.mem_cons_self ..))⟩
   · obtain ⟨v,e1,r1,a1⟩:=w1.val j e q
     exact ⟨v,by rw [List.getElem?_set_ne z]; exact e1,r1,λh=>a1 λe he=>h e (List.mem_cons_of_mem _ he)⟩
 · rcases List.mem_cons.mp he with rfl | he
   · exact ⟨List.getElem?_set_self hρ,en,λk hk z=>absurd (Nat.lt_of_lt_of_le (w.pl k z) w.nl) (Nat.not_lt.mpr (nl k hk))⟩
   · obtain ⟨a,b⟩:=w1.ent e he
     exact ⟨by rw [List.getElem?_set_ne (Ne.symm (hi e he))]; exact a,b⟩
 · rw [fu]
   refine List.nodup_append.mpr ⟨en.nd,w.nd,λa ha b hb z=>?_⟩
   subst z
   obtain ⟨e,he,hk⟩:=bo.mp hb
   exact absurd ((w.ent e he).2.1.lt a hk) (Nat.not_lt.mpr (nl a ha))
 · rw [List.map_cons]
   refine List.nodup_cons.mpr ⟨λz=>?_,w.nv⟩
   obtain ⟨e,he,z⟩:=List.mem_map.mp z
   exact hi e he z
 · rw [fu]; exact List.mem_append_right _ q
 · rw [fu]; exact List.mem_append_right _ q
noncomputable def yg (H:Hd) (F:List En) (e:En):Hd:=⟨λk=>k ∈ e.ft\/(H.g k/\∀ e' ∈ F,e'.l ≠ k),λk=>(k ∈ e.ft/\H.g k)\/(H.g k/\∀ e' ∈ F,e'.l ≠ k),λk z=>z.imp (·.1) id⟩
theorem WS.yg {e:En} (w:WS P h0 n0 H st ρ τ (F1++e :: F2)):Wf (yg H (F1++F2) e) st:=by
 have he:e ∈ F1++e :: F2:=List.mem_append_right _ (List.mem_cons_self ..)
 obtain ⟨a1,a2,a3⟩:=w.ent e he
 refine ⟨λk fz us hk q u hu=>?_,λk z=>z.elim (λz=>a2.lt k z) λz=>w.wf.lt k (H.sub k z.1)⟩
 by_cases hg:H.g k
 · have:∃ e' ∈ F1++F2,e'.l=k:=Classical.byContradiction λz=>hk (.inr ⟨hg,λe' he' z'=>z ⟨e',he',z'⟩⟩)
   obtain ⟨e',he',rfl⟩:=this
   obtain ⟨b1,b2,b3⟩:=w.ent e' (mem_mid he')
   have hz:e'.lv ≠ 1:=λz=>(b2.one z).1 hg
   obtain ⟨_,_,c3,c4⟩:=b2.two hz
   rw [q] at c3
   cases c3
   obtain ⟨c,hc,rfl⟩:=List.mem_map.mp hu
   refine .loc (b2.lt c (List.mem_cons_of_mem _ hc)) λz=>?_
   rcases z with z | z
   · exact gN w.nd he' z (List.mem_cons_of_mem _ hc)
   · exact (c4 c hc).2.1 z.1
 · refine (w.wf.av k fz us hg q u hu).imp λl _ z=>?_
   rcases z with z | z
   · exact a2.hid l z
   · exact H.sub l z.1
theorem WS.kn {e:En} (w:WS P h0 n0 H st ρ τ (F1++e :: F2)) {st':Sto} (kp:∀ (k:Nat) c,k ∉ e.ft->st[k]?=some c->st'[k]?=some c) {i:Nat} {d:T} (hi:i ≠ e.i) (hd:τ[i]?=some (some d)) :
   ∃ u,ρ[i]?=some (some u)/\Rep st' u d/\((∀ e' ∈ F1++e :: F2,e'.i ≠ i)->Av H st.length u):=by
 obtain ⟨a1,a2,a3⟩:=w.ent e (List.mem_append_right _ (List.mem_cons_self ..))
 obtain ⟨u,e1,r,a⟩:=w.val i d hd
 refine ⟨u,e1,r.keep w.yg (λk c hk q=>kp k c (λz=>hk (.inl z)) q) λk hk z=>?_,a⟩
 by_cases hx:∃ e' ∈ F1++F2,e'.i=i
 · obtain ⟨e',he',rfl⟩:=hx
   obtain ⟨b1,b2,b3⟩:=w.ent e' (mem_mid he')
   rw [e1] at b1
   have:u=.loc e'.l:=by simpa using b1
   subst this
   have:k=e'.l:=by simpa [locs] using hk
   subst this
   rcases z with z | z
   · exact gN w.nd he' z (List.mem_cons_self ..)
   · exact z.2 e' he' rfl
 · have av:=a λe' he' q=>by
     rcases bQ he' with rfl | he'
     · exact hi q.symm
     · exact hx ⟨e',he',q⟩
   rcases z with z | z
   · exact (av k hk).2 (a2.hid k z)
   · exact (av k hk).2 (H.sub k z.1)
theorem WS.Bd {e:En} (w:WS P h0 n0 H st ρ τ (F1++e :: F2)) {st':Sto} (kp:∀ (k:Nat) c,k ∉ e.ft->st[k]?=some c->st'[k]?=some c) {us:List U} {ds:List T} (p:PXs 0 H st us ds):aD st' us ds:=by
 obtain ⟨a1,a2,a3⟩:=w.ent e (List.mem_append_right _ (List.mem_cons_self ..))
 refine p.1.keep w.yg (λk c hk q=>kp k c (λz=>hk (.inl z)) q) λu hu k hk z=>?_
 have av:=(p.2 u hu).zero
 rcases z with z | z
 · exact (av k hk).2 (a2.hid k z)
 · exact (av k hk).2 (H.sub k z.1)
theorem WS.write {e:En} (w:WS P h0 n0 H st ρ τ (F1++e :: F2)) {m:Nat} {vs:List U} {d:T} (hm:m ∈ e.ft) (hv:∀ v ∈ vs,Av H st.length v) (hr:Rep (st.set m (false,vs)) (.loc e.l) d) (hE:Ent H (st.set m (false,vs)) e.l e.cs e.lv) :
   WS P h0 n0 H (st.set m (false,vs)) ρ (τ.set e.i (some d)) (F1++e :: F2)/\Stp P H st H (st.set m (false,vs)):=by
 have he:e ∈ F1++e :: F2:=List.mem_append_right _ (List.mem_cons_self ..)
 obtain ⟨a1,a2,a3⟩:=w.ent e he
 have hml:=a2.lt m hm
 have kp:∀ (k:Nat) c,k ∉ e.ft->st[k]?=some c->(st.set m (false,vs))[k]?=some c:=λk c hk q=>by
   rw [List.getElem?_set_ne (nin hm hk)]; exact q
 refine ⟨⟨by rw [List.length_set]; exact w.len,λi d' q=>?_,⟨λk fz us hk q u hu=>?_,λk z=>by rw [List.length_set]; exact w.wf.lt k z⟩,λe' he'=>?_,w.nd,w.nv,w.bh,w.bg,w.oh,w.og,w.pl,by rw [List.length_set]; exact w.nl⟩,⟨by rw [List.length_set]; exact Nat.le_refl _,λk hk=>List.getElem?_set_ne (nip (a3 m hm) hk),λk c hn q=>?_,λ_ _ z=>z,λ_ _ z=>z⟩⟩
 · rcases get_set q with ⟨rfl,rfl⟩ | ⟨z,q⟩
   · exact ⟨_,a1,hr,λh=>absurd rfl (h e he)⟩
   · obtain ⟨u,e1,r,a⟩:=w.kn kp (Ne.symm z) q
     exact ⟨u,e1,r,λh=>by rw [List.length_set]; exact a h⟩
 · rw [List.length_set]
   by_cases z:k=m
   · subst z
     rw [List.getElem?_set_self hml] at q
     cases q
     exact hv u hu
   · rw [List.getElem?_set_ne (Ne.symm z)] at q
     exact w.wf.av k fz us hk q u hu
 · rcases bQ he' with rfl | he'
   · exact ⟨a1,hE,a3⟩
   · obtain ⟨b1,b2,b3⟩:=w.ent e' (mem_mid he')
     exact ⟨b1,b2.hd λk hk=>⟨λz=>z,λz=>z,λz=>z,List.getElem?_set_ne (λz=>gN w.nd he' hm (by rw [z]; exact hk))⟩,b3⟩
 · exact kp k c (λz=>hn (a2.hid k z)) q
theorem WS.Iz {i l:Nat} (w:WS P h0 n0 H st ρ τ (F1++⟨i,l,1,[]⟩ :: F2)) {vs:List U} {ds:List T} (p:PXs 0 H st vs ds) :
   WS P h0 n0 H (st.set l (false,vs)) ρ (τ.set i (some (.lst ds))) (F1++⟨i,l,1,[]⟩ :: F2)/\Stp P H st H (st.set l (false,vs)):=by
 obtain ⟨a1,a2,a3⟩:=w.ent _ (List.mem_append_right _ (List.mem_cons_self ..))
 have hl:l < st.length:=a2.lt l (List.mem_cons_self ..)
 have kp:∀ (k:Nat) c,k ∉ (⟨i,l,1,[]⟩:En).ft->st[k]?=some c->(st.set l (false,vs))[k]?=some c:=λk c hk q=>by
   rw [List.getElem?_set_ne (nin (List.mem_cons_self ..) hk)]; exact q
 refine WS.write (e:=⟨i,l,1,[]⟩) w (List.mem_cons_self ..) (λv hv=>(p.2 v hv).zero) (.loc (List.getElem?_set_self hl) (w.Bd kp p)) ⟨a2.hl,λz=>⟨(a2.one z).1,rfl,vs,List.getElem?_set_self hl⟩,λz=>absurd rfl z,a2.nd⟩
theorem WS.IB {i l q c:Nat} {cs:List Nat} (w:WS P h0 n0 H st ρ τ (F1++⟨i,l,2,cs⟩ :: F2)) {vs:List U} {xs ds:List T} (hx:τ[i]?=some (some (.lst xs))) (hc:cs[q]?=some c) (p:PXs 0 H st vs ds) :
   WS P h0 n0 H (st.set c (false,vs)) ρ (τ.set i (some (.lst (xs.set q (.lst ds))))) (F1++⟨i,l,2,cs⟩ :: F2)/\Stp P H st H (st.set c (false,vs)):=by
 obtain ⟨a1,a2,a3⟩:=w.ent _ (List.mem_append_right _ (List.mem_cons_self ..))
 obtain ⟨_,gl,e1,e2⟩:=a2.two (show (2:Nat) ≠ 1 by decide)
 have hcm:c ∈ cs:=List.mem_of_getElem? hc
 have hl:c < st.length:=a2.lt c (List.mem_cons_of_mem _ hcm)
 have ncl:c ≠ l:=λz=>(List.nodup_cons.mp a2.nd).1 (z ▸ hcm)
 have ndc:=(List.nodup_cons.mp a2.nd).2
 have kp:∀ (k:Nat) c',k ∉ (⟨i,l,2,cs⟩:En).ft->st[k]?=some c'->(st.set c (false,vs))[k]?=some c':=λk c' hk q=>by
   rw [List.getElem?_set_ne (nin (List.mem_cons_of_mem _ hcm) hk)]; exact q
 have cl:(st.set c (false,vs))[l]?=some (false,cs.map .loc):=by rw [List.getElem?_set_ne ncl]; exact e1
 obtain ⟨u,f1,f2,_⟩:=w.val i _ hx
 rw [a1] at f1
 have:u=.loc l:=by simpa using f1.symm
 subst this
 have r0:aD st (cs.map .loc) xs:=by
   cases f2 with
   | loc e r=>rw [e1] at e; cases e; exact r
 have key:aD (st.set c (false,vs)) (cs.map .loc) (xs.set q (.lst ds)):=by
   refine aD.mk (by rw [List.length_set]; exact r0.length) λj u d g1 g2=>?_
   rw [List.getElem?_map] at g1
   obtain ⟨c',g3,rfl⟩:=Option.map_eq_some_iff.mp g1
   by_cases hj:j=q
   · subst hj
     rw [hc] at g3; cases g3
     have hjl:j < xs.length:=by
       have:=(List.getElem?_eq_some_iff.mp g2).1
       rwa [List.length_set] at this
     rw [List.getElem?_set_self hjl] at g2
     cases g2
     exact .loc (List.getElem?_set_self hl) (w.Bd kp p)
   · rw [List.getElem?_set_ne (Ne.symm hj)] at g2
     obtain ⟨u,g4,g5⟩:=r0.get g2
     rw [List.getElem?_map,g3] at g4
     cases g4
     have ncc:c ≠ c':=λz=>hj (by
       subst z
       obtain ⟨h1,h2⟩:=List.getElem?_eq_some_iff.mp g3
       obtain ⟨h3,h4⟩:=List.getElem?_eq_some_iff.mp hc
       exact (List.getElem_inj ndc).mp (h2.trans h4.symm))
     obtain ⟨b1,b2,ws,b3⟩:=e2 c' (List.mem_of_getElem? g3)
     cases g5 with
     | loc e r=>
       rw [b3] at e; cases e
       exact .loc (by rw [List.getElem?_set_ne ncc]; exact b3) (w.Bd kp ⟨r,λu hu=>.inl (w.wf.av _ _ _ b2 b3 u hu)⟩)
 refine WS.write (e:=⟨i,l,2,cs⟩) w (List.mem_cons_of_mem _ hcm) (λv hv=>(p.2 v hv).zero) (.loc cl key) ⟨a2.hl,(λz=>by cases z),λ_=>⟨rfl,gl,cl,λk hk=>?_⟩,a2.nd⟩
 obtain ⟨b1,b2,ws,b3⟩:=e2 k hk
 refine ⟨b1,b2,?_⟩
 by_cases z:k=c
 · subst z; exact ⟨vs,List.getElem?_set_self hl⟩
 · exact ⟨ws,by rw [List.getElem?_set_ne (Ne.symm z)]; exact b3⟩
theorem ie:∀ {F:List En} {i:Nat},0 < bz (aP F) i->∃ F1 e F2,F=F1++e :: F2/\e.i=i/\e.lv=bz (aP F) i
 | [],i,h=>by simp [bz,aP] at h
 | e :: F,i,h=>by
   by_cases z:i=e.i
   · subst z
     exact ⟨[],e,F,rfl,rfl,by simp [bz,aP,List.lookup_cons]⟩
   · have e1:bz (aP (e :: F)) i=bz (aP F) i:=by
       have:(i == e.i)=false:=beq_eq_false_iff_ne.mpr z
       simp [bz,aP,List.lookup_cons,this]
     rw [e1] at h ⊢
     obtain ⟨F1,e',F2,rfl,h2,h3⟩:=ie h
     exact ⟨e :: F1,e',F2,rfl,h2,h3⟩
end
structure GrM (X:Nat->Prop) (h:Hd) (st:Sto) (h':Hd) (st':Sto):Prop where
 len:st.length<=st'.length
 keep:∀ k,k < st.length->¬ X k->st'[k]?=st[k]?
 hm:∀ k,h.h k->¬ X k->h'.h k
 gm:∀ k,h.g k->¬ X k->h'.g k
 hn:∀ k,k < st.length->h'.h k->h.h k/\¬ X k
 gn:∀ k,k < st.length->h'.g k->h.g k/\¬ X k
 wf:Wf h' st'
noncomputable def GdM {α β:Type} (X:Nat->Prop) (h:Hd) (st:Sto) (P:Hd->Sto->α->β->Prop) (x:Rs α):Ou β->Prop
 | .bad=>True
 | .ok d=>∃ u st' h',x=.ok u st'/\GrM X h st h' st'/\P h' st' u d
 | .exc c=>∃ st' h',x=.exc c st'/\GrM X h st h' st'
noncomputable def mD (md:Md) (F:List U->Sto->Rs U) (G:List T->Ou T):Prop:=
 0 < md.mv->md.lv=0/\∀ h st l cs us x ds,Wf h st->Ent h st l cs md.mv->Rep st (.loc l) x->PXs 0 h st us ds->GdM (λk=>k ∈ l :: cs) h st (PX 0) (F (.loc l :: us) st) (G (x :: ds))
section
variable {P:Nat->Prop} {h0 H:Hd} {n0:Nat} {st:Sto} {ρ:Env} {τ:ak} {F F1 F2:List En}
theorem WS.moved {e:En} (w:WS P h0 n0 H st ρ τ (F1++e :: F2)) {H':Hd} {st':Sto} (g:GrM (λk=>k ∈ e.ft) H st H' st'):WS P h0 n0 H' st' ρ (τ.set e.i none) (F1++F2)/\Stp P H st H' st':=by
 have he:e ∈ F1++e :: F2:=List.mem_append_right _ (List.mem_cons_self ..)
 obtain ⟨a1,a2,a3⟩:=w.ent e he
 obtain ⟨nv1,nv2⟩:=rf w.nv
 have kp:∀ (k:Nat) c,k ∉ e.ft->st[k]?=some c->st'[k]?=some c:=λk c hk q=>(g.keep k (List.getElem?_eq_some_iff.mp q).1 hk).trans q
 have pk:∀ k,P k->k ∉ e.ft:=λk hk z=>a3 k z hk
 have ft:∀ k,k ∈ foot (F1++e :: F2)->k ∉ e.ft->k ∈ foot (F1++F2):=λk hk hn=>by
   obtain ⟨e',he',hk'⟩:=bo.mp hk
   rcases bQ he' with rfl | he''
   · exact absurd hk' hn
   · exact bo.mpr ⟨e',he'',hk'⟩
 refine ⟨⟨by rw [List.length_set]; exact w.len,λi d q=>?_,g.wf,λe' he'=>?_,CG w.nd,nv1,λk z=>⟨g.hm k (w.bh k z).1 (pk k (w.bh k z).2),(w.bh k z).2⟩,λk z=>g.gm k (w.bg k z) (pk k (w.bh k (h0.sub k z)).2),λk z=>?_,λk z=>?_,w.pl,Nat.le_trans w.nl g.len⟩,
   ⟨g.len,λk hk=>g.keep k (Nat.lt_of_lt_of_le (w.pl k hk) w.nl) (pk k hk),λk c hn q=>kp k c (λz=>hn (a2.hid k z)) q,λk hk z=>(g.hn k hk z).1,λk hk z=>(g.gn k hk z).1⟩⟩
 · obtain ⟨ne,q⟩:=get_none q
   obtain ⟨u,e1,r,a⟩:=w.kn kp (Ne.symm ne) q
   refine ⟨u,e1,r,λhn l hl=>?_⟩
   have av:=a λe' he'=>by
     rcases bQ he' with rfl | he'
     · exact ne
     · exact hn e' he'
   exact ⟨Nat.lt_of_lt_of_le (av l hl).1 g.len,λz=>(av l hl).2 (g.hn l (av l hl).1 z).1⟩
 · obtain ⟨b1,b2,b3⟩:=w.ent e' (mem_mid he')
   have ap:∀ k ∈ e'.l :: e'.cs,k ∉ e.ft:=λk hk z=>gN w.nd he' z hk
   exact ⟨b1,b2.hd λk hk=>⟨λz=>g.hm k z (ap k hk),λz=>g.gm k z (ap k hk),λz=>(g.gn k (b2.lt k hk) z).1,g.keep k (b2.lt k hk) (ap k hk)⟩,b3⟩
 · rcases Nat.lt_or_ge k st.length with q | q
   · obtain ⟨z1,z2⟩:=g.hn k q z
     exact (w.oh k z1).imp id (Or.imp (λz=>ft k z z2) id)
   · exact .inr (.inr (Nat.le_trans w.nl q))
 · rcases Nat.lt_or_ge k st.length with q | q
   · obtain ⟨z1,z2⟩:=g.gn k q z
     exact (w.og k z1).imp id (Or.imp (λz=>ft k z z2) id)
   · exact .inr (.inr (Nat.le_trans w.nl q))
end
theorem vL (g:Nat->Nat->Bool):∀ (a b:Own),dn g (a++b)=dn g a++dn g b
 | [],b=>rfl
 | (i,lv) :: r,b=>by
   rw [List.cons_append,dn,dn,vL g r b]
   split
   · split <;> rfl
   · rfl
theorem qp {g:Nat->Nat->Bool}:∀ {own:Own},(∀ i lv,(i,lv) ∈ own->g i lv=false)->dn g own=own
 | [],_=>rfl
 | (i,lv) :: r,h=>by
   rw [dn,h i lv (List.mem_cons_self ..),qp λj k hj=>h j k (List.mem_cons_of_mem _ hj)]; rfl
theorem kz (F G:List En):aP (F++G)=aP F++aP G:=List.map_append
theorem uC {F1 F2:List En} {e:En} (nv:((F1++e :: F2).map (·.i)).Nodup):(∀ i lv,(i,lv) ∈ aP F1->i ≠ e.i)/\∀ i lv,(i,lv) ∈ aP F2->i ≠ e.i:=by
 have h:=(rf nv).2
 refine ⟨λi lv hi=>?_,λi lv hi=>?_⟩ <;> (obtain ⟨e',he',z⟩:=List.mem_map.mp hi; cases z)
 · exact h e' (List.mem_append_left _ he')
 · exact h e' (List.mem_append_right _ he')
theorem CC {F1 F2:List En} {e:En} (nv:((F1++e :: F2).map (·.i)).Nodup):dn (λi _=>i == e.i) (aP (F1++e :: F2))=aP (F1++F2):=by
 obtain ⟨h1,h2⟩:=uC nv
 rw [kz,kz,vL,qp λi lv hi=>beq_eq_false_iff_ne.mpr (h1 i lv hi)]
 show _++dn _ ((e.i,e.lv) :: aP F2)=_
 rw [dn,if_pos (by simp),if_neg (by simp),qp λi lv hi=>beq_eq_false_iff_ne.mpr (h2 i lv hi)]
theorem uB {F1 F2:List En} {e:En} (nv:((F1++e :: F2).map (·.i)).Nodup) (hl:e.lv=1\/e.lv=2):dn (λi lv=>i == e.i && lv == 2) (aP (F1++e :: F2))=aP (F1++⟨e.i,e.l,1,[]⟩ :: F2):=by
 obtain ⟨h1,h2⟩:=uC nv
 rw [kz,kz,vL,qp λi lv hi=>by rw [beq_eq_false_iff_ne.mpr (h1 i lv hi)]; rfl]
 show _++dn _ ((e.i,e.lv) :: aP F2)=_++((e.i,1) :: aP F2)
 have h3:dn (λi lv=>i == e.i && lv == 2) (aP F2)=aP F2:=qp λi lv hi=>by rw [beq_eq_false_iff_ne.mpr (h2 i lv hi)]; rfl
 rcases hl with z | z
 · rw [dn,z,if_neg (by simp),h3]
 · rw [dn,z,if_pos (by simp),if_pos ⟨rfl,by simp⟩,h3]
theorem sf {t:Tg}:∀ {own:Own} {p:Nat × Nat},p ∈ dn (frg t) own->p ∈ own
 | [],_,h=>by cases h
 | (i,lv) :: r,p,h=>by
   rw [dn] at h
   split at h
   · rename_i hz
     rw [if_neg (λz=>by have:=z.2; unfold frg at this hz; rw [hz] at this; cases this)] at h
     exact List.mem_cons_of_mem _ (sf h)
   · rcases List.mem_cons.mp h with h | h
     · exact h ▸ List.mem_cons_self ..
     · exact List.mem_cons_of_mem _ (sf h)
section
variable {P:Nat->Prop} {h0 H:Hd} {n0:Nat} {st:Sto} {ρ:Env} {τ:ak} {F F1 F2:List En}
theorem WS.sv (w:WS P h0 n0 H st ρ τ F) {e:En} (he:e ∈ F):e.lv=1\/e.lv=2:=by
 by_cases z:e.lv=1
 · exact .inl z
 · exact .inr ((w.ent e he).2.1.two z).1
theorem WS.to1 {e:En} (w:WS P h0 n0 H st ρ τ (F1++e :: F2)):∃ H',WS P h0 n0 H' st ρ τ (F1++⟨e.i,e.l,1,[]⟩ :: F2)/\Stp P H st H' st:=by
 have he:e ∈ F1++e :: F2:=List.mem_append_right _ (List.mem_cons_self ..)
 rcases w.sv he with z | z
 · obtain ⟨i,l,lv,cs⟩:=e
   dsimp only at z
   subst z
   obtain ⟨_,rfl,_⟩:=(w.ent _ he).2.1.one rfl
   exact ⟨H,w,.refl⟩
 · obtain ⟨i,l,lv,cs⟩:=e
   dsimp only at z
   subst z
   exact WS.down w
theorem WS.own (w:WS P h0 n0 H st ρ τ (F1++⟨v,l,lv,cs⟩ :: F2)) {xs:List T} (hx:τ[v]?=some (some (.lst xs))):ρ[v]?=some (some (.loc l))/\Rep st (.loc l) (.lst xs)/\Ent H st l cs lv:=by
 obtain ⟨a1,a2,_⟩:=w.ent _ (List.mem_append_right _ (List.mem_cons_self ..))
 obtain ⟨u,e1,r,_⟩:=w.val v _ hx
 rw [a1] at e1
 have:u=.loc l:=by simpa using e1.symm
 subst this
 exact ⟨a1,r,a2⟩
end
theorem kq {st:Sto} {l:Nat} {us:List U} {ds:List T} (r:Rep st (.loc l) (.lst ds)) (e:st[l]?=some (false,us)):aD st us ds:=by
 cases r with
 | loc e' r=>rw [e] at e'; cases e'; exact r
theorem xi {α:Type}:∀ {xs:List α} {n:Nat} {a x:α},x ∈ xs.insertIdx n a->x=a\/x ∈ xs
 | xs,0,a,x,h=>by rw [List.insertIdx_zero] at h; exact List.mem_cons.mp h
 | [],n + 1,a,x,h=>by simp at h
 | y :: ys,n + 1,a,x,h=>by
   rw [List.insertIdx_succ_cons] at h
   rcases List.mem_cons.mp h with h | h
   · exact .inr (h ▸ List.mem_cons_self ..)
   · exact (xi h).imp id (List.mem_cons_of_mem _)
theorem Ck {h:Hd} {st:Sto} {l:Nat} {us vs:List U} {xs ds:List T} {m:Lm} {ys:List T} (e:st[l]?=some (false,us)) (p:PXs 0 h st us xs) (q:PXs 0 h st vs ds) (hz:zM m xs ds=some ys) :
   ∃ ws,evM m (.loc l) vs st=some (st.set l (false,ws))/\PXs 0 h st ws ys:=by
 have hlen:=p.1.length
 have hd:=q.1.length
 cases m with
 | append=>
   match ds,vs,q,hz with
   | [x],[v],q,hz=>
     simp only [zM.eq_def] at hz
     split at hz
     · rename_i hl
       cases hz
       exact ⟨us++[v],by simp only [evM.eq_def,e,hlen,if_pos hl],p.append q⟩
     · cases hz
   | [],_,_,hz=>simp [zM.eq_def] at hz
   | _ :: _ :: _,_,_,hz=>simp [zM.eq_def] at hz
 | rot=>
   match ds,q,hz with
   | [],_,hz=>simp [zM.eq_def] at hz
   | [a],_,hz=>cases a <;> simp [zM.eq_def] at hz
   | a :: b :: _ :: _,_,hz=>cases a <;> first | (simp [zM.eq_def] at hz; done) | (cases b <;> simp [zM.eq_def] at hz)
   | [a,b],⟨.cons (u:=w1) r1 (.cons (u:=w2) r2 .nil),hq⟩,hz=>
     cases a with
     | int i=>
       cases b with
       | int j=>
         have:=r1.int_inv; subst this
         have:=r2.int_inv; subst this
         simp only [zM.eq_def] at hz
         split at hz
         · rename_i hl
           obtain ⟨x,e1,rfl⟩:=Option.map_eq_some_iff.mp hz
           obtain ⟨u,e2,ru⟩:=p.1.get e1
           refine ⟨(us.eraseIdx j.toNat).insertIdx i.toNat u,by simp only [evM.eq_def,e,hlen,if_pos hl,e2,Option.map_some],(p.1.erase _).insert _ ru,λv hv=>?_⟩
           rcases xi hv with rfl | hv
           · exact p.2 _ (List.mem_of_getElem? e2)
           · exact p.2 v (List.mem_of_mem_eraseIdx hv)
         · cases hz
       | _=>simp [zM.eq_def] at hz
     | _=>simp [zM.eq_def] at hz
 | pop=>
   match ds,vs,q,hz with
   | [],[],q,hz=>
     simp only [zM.eq_def] at hz
     split at hz
     · cases hz
     · rename_i hl
       cases hz
       have hne:us ≠ []:=λz=>hl (by rw [<- hlen,z]; rfl)
       refine ⟨us.dropLast,by simp only [evM.eq_def,e,if_neg hne],p.1.dropLast,λu hu=>p.2 u (List.dropLast_subset us hu)⟩
   | _ :: _,_,_,hz=>simp [zM.eq_def] at hz
 | clear=>
   match ds,vs,q,hz with
   | [],[],q,hz=>
     simp only [zM.eq_def,Option.some.injEq] at hz
     subst hz
     exact ⟨[],by simp only [evM.eq_def,e],.nil⟩
   | _ :: _,_,_,hz=>simp [zM.eq_def] at hz
noncomputable def RF (P:Nat->Prop) (h0:Hd) (S0:Sto) (lv:Nat) (H:Hd) (st:Sto):FlT->Fl->Sto->Prop
 | .nx τ' own',.nx ρ',st'=>∃ H' F',aP F'=own'/\WS P h0 S0.length H' st' ρ' τ' F'/\Stp P H st H' st'
 | .rt d,.rt u,st'=>∃ H',Fin P h0 S0.length st H' st'/\FrR lv S0 H' st' u d
 | _,_,_=>False
noncomputable def GS (P:Nat->Prop) (h0:Hd) (S0:Sto) (lv:Nat) (H:Hd) (st:Sto) (x:Rs Fl):Ou FlT->Prop
 | .bad=>True
 | .exc c=>∃ st' H',x=.exc c st'/\Fin P h0 S0.length st H' st'
 | .ok f=>∃ f' st',x=.ok f' st'/\RF P h0 S0 lv H st f f' st'
section
variable {P:Nat->Prop} {h0 H H1:Hd} {S0:Sto} {lv:Nat} {st st1:Sto}
theorem Fin.back {n0:Nat} {H2:Hd} {st2:Sto} (s:Stp P H st H1 st1) (o:Fin P h0 n0 st1 H2 st2):Fin P h0 n0 st H2 st2:=⟨Nat.le_trans s.len o.len,λk hk=>(o.lo k hk).trans (s.lo k hk),o.wf,o.hm,o.gm,o.hn,o.gn⟩
theorem RF.back {f:FlT} {f':Fl} {st2:Sto} (s:Stp P H st H1 st1) (o:RF P h0 S0 lv H1 st1 f f' st2):RF P h0 S0 lv H st f f' st2:=by
 cases f <;> cases f' <;> first
   | (obtain ⟨H',F',a,b,c⟩:=o; exact ⟨H',F',a,b,s.trans c⟩)
   | (obtain ⟨H',a,b⟩:=o; exact ⟨H',a.back s,b⟩)
   | exact o.elim
theorem GS.back {x:Rs Fl} {r:Ou FlT} (s:Stp P H st H1 st1) (g:GS P h0 S0 lv H1 st1 x r):GS P h0 S0 lv H st x r:=by
 cases r with
 | bad=>trivial
 | exc c=>obtain ⟨st',H',e,o⟩:=g; exact ⟨st',H',e,o.back s⟩
 | ok f=>obtain ⟨f',st',e,o⟩:=g; exact ⟨f',st',e,o.back s⟩
theorem cK {α β:Type} {Q:Hd->Sto->α->β->Prop} {x:Rs α} {r:Ou β} {f:α->Sto->Rs Fl} {k:β->Ou FlT} {ρ:Env} {τ:ak} {F:List En} (w:WS P h0 S0.length H st ρ τ F) (g:Gd H st Q x r)
   (n:∀ u d st' H',Gr H st H' st'->WS P h0 S0.length H' st' ρ τ F->Q H' st' u d->GS P h0 S0 lv H' st' (f u st') (k d)):GS P h0 S0 lv H st (x.bind f) (r.bind k):=by
 cases r with
 | bad=>trivial
 | exc c=>
   obtain ⟨st',H',e,p⟩:=g
   subst e
   obtain ⟨w1,s1⟩:=w.gr p
   obtain ⟨H2,w2,s2⟩:=w1.fin
   exact ⟨st',H2,rfl,(w2.out.back s2).back s1⟩
 | ok d=>
   obtain ⟨u,st',H',e,p,q⟩:=g
   subst e
   obtain ⟨w1,s1⟩:=w.gr p
   exact (n u d st' H' p w1 q).back s1
theorem vP {x:Rs Fl} {r:Ou FlT} {f:Fl->Sto->Rs Fl} {k:FlT->Ou FlT} (g:GS P h0 S0 lv H st x r) (n:∀ fl fl' st',RF P h0 S0 lv H st fl fl' st'->GS P h0 S0 lv H st (f fl' st') (k fl)):GS P h0 S0 lv H st (x.bind f) (r.bind k):=by
 cases r with
 | bad=>trivial
 | exc c=>obtain ⟨st',H',e,o⟩:=g; subst e; exact ⟨st',H',rfl,o⟩
 | ok fl=>
   obtain ⟨fl',st',e,o⟩:=g
   subst e
   exact n fl fl' st' o
theorem GS.noX {x:Rs Fl} {r:Ou FlT} (g:GS P h0 S0 lv H st x r):GS P h0 S0 lv H st x.noX r.noX:=by
 cases r with
 | bad=>trivial
 | exc c=>trivial
 | ok d=>obtain ⟨u,st',e,q⟩:=g; subst e; exact ⟨u,st',rfl,q⟩
theorem br {α:Type} {x:Rs Fl} {o:Option α} {k:α->Ou FlT} (n:∀ a,o=some a->GS P h0 S0 lv H st x (k a)):GS P h0 S0 lv H st x (aS o k):=by
 cases o with
 | none=>trivial
 | some a=>exact n a rfl
theorem DS {q:Sq} {xs:List T} (wf:Wf H st) (s:Stp P H st H1 st1) (hn:SqN H q) (hq:SqR H st q xs):SqN H1 q/\SqR H1 st1 q xs:=by
 induction q generalizing xs with
 | vals us=>
   refine ⟨trivial,hq.1.keep wf s.keep λu hu l hl=>((hq.2 u hu).zero l hl).2,λu hu=>.inl λl hl=>?_⟩
   have:=(hq.2 u hu).zero l hl
   exact ⟨Nat.lt_of_lt_of_le this.1 s.len,λz=>this.2 (s.hid l this.1 z)⟩
 | lst l=>
   obtain ⟨ng,fz,us,e,r⟩:=hq
   have hl:=(List.getElem?_eq_some_iff.mp e).1
   exact ⟨λz=>hn (s.hid l hl z),λz=>ng (s.gid l hl z),fz,us,s.keep l _ hn e,r.keep wf s.keep λu hu l hl=>(wf.av _ _ _ ng e u hu l hl).2⟩
 | enu l=>
   obtain ⟨ng,fz,us,ys,e,r,rfl⟩:=hq
   have hl:=(List.getElem?_eq_some_iff.mp e).1
   exact ⟨λz=>hn (s.hid l hl z),λz=>ng (s.gid l hl z),fz,us,ys,s.keep l _ hn e,r.keep wf s.keep λu hu l hl=>(wf.av _ _ _ ng e u hu l hl).2,rfl⟩
 | zip p q ihp ihq=>
   obtain ⟨as,bs,s1,s2,rfl⟩:=hq
   obtain ⟨a1,a2⟩:=ihp hn.1 s1
   obtain ⟨b1,b2⟩:=ihq hn.2 s2
   exact ⟨⟨a1,b1⟩,as,bs,a2,b2,rfl⟩
end
theorem uu {P:Nat->Prop} {h0:Hd} {S0:Sto} {lv:Nat} {f:U->Env->Sto->Rs Fl} {g:T->ak->Own->Ou FlT} {q:Sq} {xs:List T}
   (hf:∀ x u st H ρ τ F,WS P h0 S0.length H st ρ τ F->PX 0 H st u x->GS P h0 S0 lv H st (f u ρ st) (g x τ (aP F))) :
   ∀ (n i:Nat) (st:Sto) (H:Hd) (ρ:Env) (τ:ak) (F:List En),WS P h0 S0.length H st ρ τ F->SqN H q->SqR H st q xs->i<=xs.length->i + n=xs.length + 1->GS P h0 S0 lv H st (loop f q n i ρ st) (cx g (xs.drop i) τ (aP F))
 | 0,i,st,H,ρ,τ,F,_,_,_,hi,e=>by omega
 | n + 1,i,st,H,ρ,τ,F,w,hn,hq,hi,e=>by
   rw [loop]
   rcases hq.at w.wf i with ⟨e1,e2⟩ | ⟨x,u,e1,e2,px⟩
   · rw [e2]
     dsimp only
     rw [List.drop_eq_nil_of_le (List.getElem?_eq_none_iff.mp e1),cx]
     exact ⟨_,_,rfl,H,F,rfl,w,.refl⟩
   · rw [e2]
     dsimp only
     have hl:=(List.getElem?_eq_some_iff.mp e1).1
     have e3:xs.drop i=x :: xs.drop (i + 1):=by
       rw [List.drop_eq_getElem_cons hl]
       rw [(List.getElem?_eq_some_iff.mp e1).2]
     rw [e3,cx]
     refine vP (hf x u st H ρ τ F w px) λfl fl' st' o=>?_
     cases fl <;> cases fl' <;> first | exact o.elim | skip
     · obtain ⟨H1,F1,rfl,w1,s1⟩:=o
       obtain ⟨hn1,hq1⟩:=DS w.wf s1 hn hq
       exact (uu hf n (i + 1) st' _ _ _ _ w1 hn1 hq1 hl (by omega)).back s1
     · exact ⟨_,_,rfl,o⟩
theorem qi {P:Nat->Prop} {h0:Hd} {S0:Sto} {lv:Nat} {c:Env->Sto->Rs U} {c':ak->Ou T} {f:Env->Sto->Rs Fl} {g:ak->Own->Ou FlT} {k:Nat->Nat->Bool}
   (hc:∀ st H ρ τ F,WS P h0 S0.length H st ρ τ F->(∀ i lv,(i,lv) ∈ aP F->k i lv=false)->Gd H st (PX 2) (c ρ st) (c' τ))
   (hf:∀ st H ρ τ F,WS P h0 S0.length H st ρ τ F->GS P h0 S0 lv H st (f ρ st) (g τ (aP F))) :
   ∀ (n:Nat) (st:Sto) (H:Hd) (ρ:Env) (τ:ak) (F:List En),WS P h0 S0.length H st ρ τ F->GS P h0 S0 lv H st (nE c f n ρ st) (gu c' k g n τ (aP F))
 | 0,_,_,_,_,_,_=>trivial
 | n + 1,st,H,ρ,τ,F,w=>by
   rw [nE,gu]
   obtain ⟨H0,F0,e0,w0,s0⟩:=w.dn0 k
   rw [<- e0]
   refine (cK w0 (hc st H0 ρ τ F0 w0 λi lv hi=>zp (by rw [<- e0]; exact hi)) λu d st1 H1 g1 w1 hu=>?_).back s0
   cases d with
   | bl r=>
     have:=hu.1.iB; subst this
     cases r with
     | false=>exact ⟨_,_,rfl,H1,F0,rfl,w1,.refl⟩
     | true=>
       dsimp only
       refine vP (hf st1 H1 ρ τ _ w1) λfl fl' st' o=>?_
       cases fl <;> cases fl' <;> first | exact o.elim | skip
       · obtain ⟨H2,F2,rfl,w2,s2⟩:=o
         exact (qi hc hf n st' _ _ _ _ w2).back s2
       · exact ⟨_,_,rfl,o⟩
   | _=>trivial
theorem Eb {x:T} (h:1<=lvT x):∃ ds,x=.lst ds:=by
 cases x with
 | lst ds=>exact ⟨ds,rfl⟩
 | _=>simp [lvT] at h
theorem xu {ds:List T} (h:2<=lvT (.lst ds)):ds.all isL=true:=by
 simp only [lvT] at h
 split at h
 · assumption
 · omega
theorem zE (x:T):lvT x<=2:=by
 cases x with
 | lst ds=>simp only [lvT]; split <;> decide
 | _=>simp [lvT]
theorem jm {τ:ak} {v:Nat} {x:T} (h:aC τ v=.ok x):τ[v]?=some (some x):=by
 unfold aC at h
 split at h
 · rename_i d e; cases h; exact e
 · cases h
theorem ic {r:Ou T} {xs:List T} (h:ef r=some xs):r=.ok (.lst xs):=by
 cases r with
 | ok x=>cases x <;> first | (cases h; rfl) | (cases h; done)
 | _=>cases h
theorem mF {r:T} {xs:List T} (h:iV r=some xs):r=.lst xs:=by cases r <;> first | (cases h; rfl) | (cases h; done)
theorem iq {r:T} {i:Int} (h:intOf r=some i):r=.int i:=by cases r <;> first | (cases h; rfl) | (cases h; done)
section
variable {Ψ ΨM:FnT} {X:Fx} {n:Nat} {τ:ak} {own:Own}
theorem bf:yS Ψ ΨM X n (.set t (.call f (.var v :: es))) τ own=if 0 < (X.μ f).mv then
       (if (X.μ f).mv<=bz (dn (λi lv=>bX X.μ i lv 0 es) own) v then
         (aC τ v).bind λx=>(yEs Ψ es τ).bind λxs=>(ΨM f (x :: xs)).bind λd=>lj (aJ t d (τ.set v none)) (cA X (dn (λi _=>i == v) (dn (λi lv=>bX X.μ i lv 0 es) own)) t (.call f (.var v :: es)) d (τ.set v none))
       else .bad)
     else (yE Ψ (.call f (.var v :: es)) τ).bind λx=>lj (aJ t x τ) (cA X (dn (λi lv=>gts X.μ i lv 0 (.call f (.var v :: es))) own) t (.call f (.var v :: es)) x τ):=rfl
theorem eC:yS Ψ ΨM X n (.put (.var v) i e) τ own=(yE Ψ e τ).bind λz=>aS (ef (aC τ v)) λxs=>(yE Ψ i τ).bind λy=>FW τ (dn (λk lv=>gts X.μ k lv 0 e || gts X.μ k lv 2 i) own) v xs y z:=rfl
theorem de:yS Ψ ΨM X n (.put (.ix (.var v) a) i e) τ own=if bz (dn (λk lv=>gts X.μ k lv 0 e || gts X.μ k lv 2 a || gts X.μ k lv 2 i) own) v=2 then
     (yE Ψ e τ).bind λz=>aS (ef (aC τ v)) λxs=>(yE Ψ a τ).bind λp=>aS (intOf p) λp=>aS (L2.ixN xs.length p) λq=>aS (xs[q]?.bind iV) λys=>(yE Ψ i τ).bind λy=>
       sO τ (dn (λk lv=>gts X.μ k lv 0 e || gts X.μ k lv 2 a || gts X.μ k lv 2 i) own) v xs ys q y z
   else .bad:=rfl
theorem eE:yS Ψ ΨM X n (.mth m (.var v) es) τ own=aS (ef (aC τ v)) λxs=>if 0 < bz (dn (λk lv=>bX X.μ k lv 0 es) own) v then (yEs Ψ es τ).bind λds=>sr m τ (dn (λk lv=>bX X.μ k lv 0 es) own) v xs ds else .bad:=rfl
theorem c9:yS Ψ ΨM X n (.mth m (.ix (.var v) a) es) τ own=aS (ef (aC τ v)) λxs=>if bz (dn (λk lv=>gts X.μ k lv 2 a || bX X.μ k lv 0 es) own) v=2 then
     (yE Ψ a τ).bind λp=>aS (intOf p) λp=>aS (L2.ixN xs.length p) λq=>aS (xs[q]?.bind iV) λys=>(yEs Ψ es τ).bind λds=>xn m τ (dn (λk lv=>gts X.μ k lv 2 a || bX X.μ k lv 0 es) own) v xs ys ds q
   else .bad:=rfl
theorem d8:yS Ψ ΨM X n (.ret e) τ own=(yE Ψ e τ).bind λx=>if X.lv=0\/isL x=false then .ok (.rt x) else match e with
   | .var i=>if X.lv<=bz own i then .ok (.rt x) else .bad
   | e=>if X.lv<=min (cU X.μ e) (lvT x) then .ok (.rt x) else .bad:=rfl
theorem dP:yS Ψ ΨM X n (.ite c a b) τ own=(yE Ψ c τ).bind λx=>match x with
   | .bl true=>ySs Ψ ΨM X n a τ (dn (λk lv=>gts X.μ k lv 2 c) own)
   | .bl false=>ySs Ψ ΨM X n b τ (dn (λk lv=>gts X.μ k lv 2 c) own)
   | _=>.bad:=rfl
theorem eD:yS Ψ ΨM X n (.for t it body) τ own=((yIt Ψ it τ).bind λxs=>cx (λx τ' own'=>match aJ t x τ' with
     | some τ2=>ySs Ψ ΨM X n body τ2 (dn (frg t) own')
     | none=>.bad) xs τ (dn (λk lv=>eW X.μ k lv 0 it) own)).noX:=rfl
theorem cc:yS Ψ ΨM X n (.while c body) τ own=(gu (λτ'=>yE Ψ c τ') (λk lv=>gts X.μ k lv 2 c) (λτ' own'=>ySs Ψ ΨM X n body τ' own') n τ own).noX:=rfl
theorem aU:yS Ψ ΨM X n (.expr (.call f (.var v :: es))) τ own=if 0 < (X.μ f).mv then
       (if (X.μ f).mv<=bz (dn (λi lv=>bX X.μ i lv 0 es) own) v then
         (aC τ v).bind λx=>(yEs Ψ es τ).bind λxs=>(ΨM f (x :: xs)).bind λ_=>.ok (.nx (τ.set v none) (dn (λi _=>i == v) (dn (λi lv=>bX X.μ i lv 0 es) own)))
       else .bad)
     else (yE Ψ (.call f (.var v :: es)) τ).bind λ_=>.ok (.nx τ (dn (λi lv=>gts X.μ i lv 0 (.call f (.var v :: es))) own)):=rfl
theorem eI:yS Ψ ΨM X n (.nev) τ own=.bad:=rfl
end
section
variable {Φ:Fn} {Ψ ΨM:FnT} {X:Fx} (HP:∀ f,Pure (X.μ f) (Φ f) (Ψ f)) (HM:∀ f,mD (X.μ f) (Φ f) (ΨM f)) {P:Nat->Prop} {h0:Hd} {S0:Sto}
theorem dS {F:List En} {own:Own} {g:Nat->Nat->Bool} (h:aP F=dn g own):∀ i lv,(i,lv) ∈ aP F->g i lv=false:=λi lv hi=>zp (by rw [<- h]; exact hi)
noncomputable def Nog (Ψ:FnT) (X:Fx) (τ:ak) (own:Own) (e:E):Prop:=(∀ i lv,(i,lv) ∈ own->gts X.μ i lv 0 e=false)\/∃ v x,e=cpE v/\yE Ψ e τ=.ok x/\eN 2 x=true
include HP
theorem gE' (e:E) {h:Hd} {ρ:Env} {τ:ak} {own:Own} {st:Sto} (w:WE h st ρ τ own) (wf:Wf h st) (ng:Nog Ψ X τ own e):Gd h st (PX 0) (xE Φ e ρ st) (yE Ψ e τ):=by
 rcases ng with ng | ⟨v,x,rfl,hy,hf⟩
 · exact gE HP e 0 w wf ng
 · obtain ⟨u,st',h',e1,g,f⟩:=zy HP w wf hy hf
   obtain ⟨ds,rfl⟩:∃ ds,x=.lst ds:=by obtain ⟨r,l,_,rfl,_⟩:=f; cases r with | loc _ _=>exact ⟨_,rfl⟩
   obtain ⟨h2,g2,px⟩:=(f.r (by decide) rfl).out wf g
   rw [hy]
   exact ⟨u,st',h2,e1,g2,px⟩
theorem gN' (e:E) {h:Hd} {ρ:Env} {τ:ak} {own:Own} {st:Sto} {lv:Nat} (w:WE h st ρ τ own) (wf:Wf h st) (ng:Nog Ψ X τ own e) {ds:List T} (hy:yE Ψ e τ=.ok (.lst ds)) (hz:lv=1\/lv=2) (hf:lv<=cU X.μ e) (hl:lv<=lvT (.lst ds)) :
   ∃ u st' h',xE Φ e ρ st=.ok u st'/\Gr h st h' st'/\FrN lv st h' st' u (.lst ds):=by
 rcases ng with ng | ⟨v,x,rfl,hy',hx⟩
 · rcases hz with rfl | rfl
   · exact gN1 HP e w wf ng hf ds hy
   · exact gN2 HP e w wf ng hf ds hy (xu hl)
 · rw [hy] at hy'
   cases hy'
   obtain ⟨u,st',h',e1,g,f⟩:=zy HP w wf hy hx
   rcases hz with rfl | rfl
   · obtain ⟨h2,g2,f2⟩:=f.down wf g
     exact ⟨u,st',h2,e1,g2,f2⟩
   · exact ⟨u,st',h',e1,g,f⟩
theorem BM {H:Hd} {st:Sto} {ρ:Env} {τ:ak} {F:List En} (t:Tg) (e:E) (w:WS P h0 S0.length H st ρ τ F) (ng:Nog Ψ X τ (aP F) e) :
   GS P h0 S0 X.lv H st ((xE Φ e ρ st).bind λx st1=>match fM t x ρ with | some ρ'=>.ok (.nx ρ') st1 | none=>.bad) ((yE Ψ e τ).bind λx=>lj (aJ t x τ) (cA X (aP F) t e x τ)):=by
 obtain ⟨H1,F1,e1,w1,s1⟩:=w.dn0 (frg t)
 have ng1:Nog Ψ X τ (aP F1) e:=ng.imp (λng i lv hi=>ng i lv (sf (by rw [<- e1]; exact hi))) id
 have ord:GS P h0 S0 X.lv H st ((xE Φ e ρ st).bind λx st1=>match fM t x ρ with | some ρ'=>.ok (.nx ρ') st1 | none=>.bad) ((yE Ψ e τ).bind λx=>lj (aJ t x τ) (aP F1)):=by
   refine (cK w1 (gE' HP e w1.we w1.wf ng1) λu d st2 H2 g2 w2 hu=>?_).back s1
   cases z:aJ t d τ with
   | none=>trivial
   | some τ'=>
     obtain ⟨ρ',f1,w3⟩:=w2.fM (q9 e1) hu z
     rw [f1]
     exact ⟨_,_,rfl,H2,F1,rfl,w3,.refl⟩
 cases hy:yE Ψ e τ with
 | bad=>trivial
 | exc c=>rw [hy] at ord; exact ord
 | ok x=>
   rw [hy,Ou.aa] at ord
   rw [Ou.aa]
   cases t with
   | tp is=>simp only [cA]; rw [<- e1]; exact ord
   | nm i=>
     simp only [cA]
     split
     · rename_i hc
       rw [Bool.and_eq_true] at hc
       split
       · rw [<- e1]; exact ord
       · rename_i hz
         have l1:1<=lvT x:=by omega
         obtain ⟨ds,rfl⟩:=Eb l1
         have hl:i < τ.length:=by
           have:=hc.2
           rcases Nat.lt_or_ge i τ.length with q | q
           · exact q
           · rw [List.getElem?_eq_none q] at this; cases this
         have key:∃ u st' H',xE Φ e ρ st=.ok u st'/\Gr H1 st H' st'/\FrN (min (cU X.μ e) (lvT (.lst ds))) st H' st' u (.lst ds):=by
           have:=zE (.lst ds)
           exact gN' HP e w1.we w1.wf ng1 hy (by omega) (Nat.min_le_left ..) (Nat.min_le_right ..)
         obtain ⟨u,st',H',f1,g1,fn⟩:=key
         obtain ⟨l,cs,rfl,w2,s2⟩:=w1.take (q9 e1 i (List.mem_singleton_self i)) hl g1 fn
         rw [f1,Rs.aa]
         refine ⟨_,_,rfl,H',_,?_,w2,s1.trans s2⟩
         rw [<- e1]; rfl
     · rw [<- e1]; exact ord
theorem Hj {H:Hd} {st:Sto} {ρ:Env} {τ:ak} {F:List En} (hP:X.lv ≠ 0->∀ k,k < S0.length->P k) (e:E) (w:WS P h0 S0.length H st ρ τ F) (n:Nat):GS P h0 S0 X.lv H st (xS Φ n (.ret e) ρ st) (yS Ψ ΨM X n (.ret e) τ (aP F)):=by
 simp only [xS,bf,eC,de,eE,c9,d8,dP,eD,cc,aU,eI]
 obtain ⟨H1,w1,s1⟩:=w.fin
 cases hy:yE Ψ e τ with
 | bad=>trivial
 | exc c=>
   have:=(gE HP e 0 w1.we w1.wf λ_ _ z=>nomatch z)
   rw [hy] at this
   obtain ⟨st',H',e1,g⟩:=this
   obtain ⟨w2,s2⟩:=w1.gr g
   exact ⟨st',H',by rw [e1]; rfl,(w2.out.back s2).back s1⟩
 | ok x=>
   rw [Ou.aa]
   have new:∀ {lv:Nat},lv=X.lv->(∃ u st' H',xE Φ e ρ st=.ok u st'/\Gr H1 st H' st'/\FrN lv st H' st' u x)->lv ≠ 0->isL x=true->GS P h0 S0 X.lv H st ((xE Φ e ρ st).bind λx st1=>.ok (.rt x) st1) (.ok (.rt x)):=λ{lv} hlv ⟨u,st',H',e1,g,fn⟩ h1 h2=>by
     subst hlv
     obtain ⟨w2,s2⟩:=w1.gr g
     refine ⟨.rt u,st',by rw [e1]; rfl,H',(w2.out.back s2).back s1,FrN.r ?_ h1 h2⟩
     obtain ⟨r,l,cs,z,en,nl⟩:=fn
     exact ⟨r,l,cs,z,en,λk hk=>Nat.le_trans w1.nl (nl k hk)⟩
   split
   · rename_i hc
     obtain ⟨u,st',H',e1,g,p⟩:=(gE HP e 0 w1.we w1.wf λ_ _ z=>nomatch z).inv hy
     obtain ⟨w2,s2⟩:=w1.gr g
     refine ⟨.rt u,st',by rw [e1]; rfl,H',(w2.out.back s2).back s1,?_⟩
     unfold FrR
     rw [if_pos hc]
     exact p
   · rename_i hc
     rw [not_or] at hc
     have hl:isL x=true:=by
       cases h:isL x with
       | true=>rfl
       | false=>exact absurd h hc.2
     split
     · rename_i i
       split
       · rename_i hlv
         obtain ⟨xs,rfl⟩:∃ xs,x=.lst xs:=by cases x <;> first | exact ⟨_,rfl⟩ | cases hl
         have hx:τ[i]?=some (some (.lst xs)):=jm (by simpa only [yE] using hy)
         obtain ⟨Fa,en,Fb,rfl,rfl,hen⟩:=ie (F:=F) (i:=i) (by omega)
         rw [<- hen] at hlv
         have drop1:∀ (Fa Fb:List En) {H:Hd},WS P h0 S0.length H st ρ τ (Fa++en :: Fb)->∃ H',WS P h0 S0.length H' st ρ τ [en]/\Stp P H st H' st:=by
           intro Fa Fb
           induction Fa with
           | nil=>
             induction Fb with
             | nil=>exact λ{H} w=>⟨H,w,.refl⟩
             | cons b Fb ih=>
               intro H w
               rw [show ([]:List En)++en :: b :: Fb=[en]++b :: Fb by simp] at w
               obtain ⟨H',w',s'⟩:=w.drop
               obtain ⟨H2,w2,s2⟩:=ih w'
               exact ⟨H2,w2,s'.trans s2⟩
           | cons a Fa ih=>
             intro H w
             rw [show (a :: Fa)++en :: Fb=[]++a :: (Fa++en :: Fb) by simp] at w
             obtain ⟨H',w',s'⟩:=w.drop
             obtain ⟨H2,w2,s2⟩:=ih w'
             exact ⟨H2,w2,s'.trans s2⟩
         obtain ⟨H2,w2,s2⟩:=drop1 Fa Fb w
         have sv:=w2.sv (List.mem_singleton_self en)
         have key:∃ H3 cs,WS P h0 S0.length H3 st ρ τ [⟨en.i,en.l,X.lv,cs⟩]/\Stp P H2 st H3 st:=by
           rcases (by omega:X.lv=en.lv\/(X.lv=1/\en.lv=2)) with z | z
           · exact ⟨H2,en.cs,by rw [z]; exact w2,.refl⟩
           · obtain ⟨H3,w3,s3⟩:=WS.to1 (F1:=[]) (F2:=[]) w2
             exact ⟨H3,[],by rw [z.1]; exact w3,s3⟩
         obtain ⟨H3,cs,w3,s3⟩:=key
         obtain ⟨a1,a2,a3⟩:=w3.own (F1:=[]) (F2:=[]) hx
         obtain ⟨_,_,b3⟩:=w3.ent _ (List.mem_singleton_self _)
         have big:∀ k ∈ en.l :: cs,S0.length<=k:=λk hk=>Nat.not_lt.mp λz=>b3 k hk (hP hc.1 k z)
         refine ⟨.rt (.loc en.l),st,by simp only [xE,l7,a1,Rs.aa],H3,?_,FrN.r ⟨a2,en.l,cs,rfl,a3,big⟩ hc.1 rfl⟩
         refine Fin.back (s2.trans s3) ⟨Nat.le_refl _,λ_ _=>rfl,w3.wf,λk z=>(w3.bh k z).1,w3.bg,λk hk z=>(w3.oh k z).elim id λq=>q.elim (λq=>?_) λq=>absurd hk (Nat.not_lt.mpr q),λk hk z=>(w3.og k z).elim id λq=>q.elim (λq=>?_) λq=>absurd hk (Nat.not_lt.mpr q)⟩
         · obtain ⟨e',he',hk'⟩:=bo.mp q
           rw [List.mem_singleton] at he'
           subst he'
           exact absurd hk (Nat.not_lt.mpr (big k hk'))
         · obtain ⟨e',he',hk'⟩:=bo.mp q
           rw [List.mem_singleton] at he'
           subst he'
           exact absurd hk (Nat.not_lt.mpr (big k hk'))
       · trivial
     · split
       · rename_i hlv
         obtain ⟨xs,rfl⟩:∃ xs,x=.lst xs:=by cases x <;> first | exact ⟨_,rfl⟩ | cases hl
         have:=zE (.lst xs)
         rcases (by omega:X.lv=1\/X.lv=2) with z | z
         · exact new z.symm (gN1 HP e w1.we w1.wf (λ_ _ z=>nomatch z) (by omega) xs hy) (by decide) rfl
         · exact new z.symm (gN2 HP e w1.we w1.wf (λ_ _ z=>nomatch z) (by omega) xs hy (xu (by omega))) (by decide) rfl
       · trivial
theorem x9 {H:Hd} {st:Sto} {ρ:Env} {τ:ak} {F:List En} (HM:∀ f,mD (X.μ f) (Φ f) (ΨM f)) {f v:Nat} {es:List E} {k:U->Sto->Rs Fl} {kT:T->Ou FlT} (w:WS P h0 S0.length H st ρ τ F) (hm:0 < (X.μ f).mv)
   (n:∀ u d st' H' F',aP F'=dn (λi _=>i == v) (dn (λi lv=>bX X.μ i lv 0 es) (aP F))->WS P h0 S0.length H' st' ρ (τ.set v none) F'->PX 0 H' st' u d->GS P h0 S0 X.lv H' st' (k u st') (kT d)) :
   GS P h0 S0 X.lv H st ((xE Φ (.call f (.var v :: es)) ρ st).bind k) (if (X.μ f).mv<=bz (dn (λi lv=>bX X.μ i lv 0 es) (aP F)) v then (aC τ v).bind λx=>(yEs Ψ es τ).bind λxs=>(ΨM f (x :: xs)).bind kT else .bad):=by
 split
 · rename_i hlv
   obtain ⟨H1,F1,e1,w1,s1⟩:=w.dn0 λi lv=>bX X.μ i lv 0 es
   rw [<- e1] at hlv n
   obtain ⟨Fa,en,Fb,rfl,rfl,hen⟩:=ie (F:=F1) (i:=v) (by omega)
   rw [<- hen] at hlv
   cases hg:aC τ en.i with
   | bad=>trivial
   | exc c=>unfold aC at hg; split at hg <;> cases hg
   | ok x=>
     rw [Ou.aa]
     have hx:=jm hg
     obtain ⟨u0,f0,r0,_⟩:=w1.val _ _ hx
     obtain ⟨a1,a2,a3⟩:=w1.ent en (List.mem_append_right _ (List.mem_cons_self ..))
     rw [a1] at f0
     have:u0=.loc en.l:=by simpa using f0.symm
     subst this
     have sv:=w1.sv (e:=en) (List.mem_append_right _ (List.mem_cons_self ..))
     have hE:∀ z,xE Φ (.call f (.var en.i :: es)) ρ st=z->z=((xEs Φ es ρ st).bind λus st1=>Φ f (.loc en.l :: us) st1):=λz hz=>by
       rw [<- hz]
       simp only [xE,xEs,l7,a1,Rs.aa]
       cases xEs Φ es ρ st <;> rfl
     rw [hE _ rfl]
     have hA:=gEs HP es 0 w1.we w1.wf (dS e1)
     generalize xEs Φ es ρ st=xa at hA
     generalize yEs Ψ es τ=ya at hA
     cases ya with
     | bad=>trivial
     | exc c=>
       obtain ⟨st',H',e,g⟩:=hA
       subst e
       obtain ⟨w2,s2⟩:=w1.gr g
       obtain ⟨H3,w3,s3⟩:=w2.fin
       exact ⟨st',H3,rfl,((w3.out.back s3).back s2).back s1⟩
     | ok xs=>
       obtain ⟨us,st2,H2,e,g2,p2⟩:=hA
       subst e
       rw [Ou.aa,Rs.aa]
       obtain ⟨w2,s2⟩:=w1.gr g2
       have p2':=p2
       have key:∃ H3 cs,WS P h0 S0.length H3 st2 ρ τ (Fa++⟨en.i,en.l,(X.μ f).mv,cs⟩ :: Fb)/\Stp P H2 st2 H3 st2:=by
         rcases (by omega:(X.μ f).mv=en.lv\/((X.μ f).mv=1/\en.lv=2)) with z | z
         · exact ⟨H2,en.cs,by rw [z]; exact w2,.refl⟩
         · obtain ⟨H3,w3,s3⟩:=WS.to1 w2
           exact ⟨H3,[],by rw [z.1]; exact w3,s3⟩
       obtain ⟨H3,cs,w3,s3⟩:=key
       have p3:PXs 0 H3 st2 us xs:=⟨p2.1,λu hu=>.inl λl hl=>⟨((p2.2 u hu).zero l hl).1,λz=>((p2.2 u hu).zero l hl).2 (s3.hid l ((p2.2 u hu).zero l hl).1 z)⟩⟩
       obtain ⟨b1,b2,b3⟩:=w3.ent _ (List.mem_append_right _ (List.mem_cons_self ..))
       have gm:=(HM f hm).2 H3 st2 en.l cs us x xs w3.wf b2 (r0.ext g2.pre) p3
       have own:aP (Fa++Fb)=dn (λi _=>i == en.i) (aP (Fa++en :: Fb)):=(CC w1.nv).symm
       generalize ΨM f (x :: xs)=y at gm
       cases y with
       | bad=>trivial
       | exc c=>
         obtain ⟨st',H',e,g⟩:=gm
         rw [e]
         obtain ⟨w4,s4⟩:=w3.moved g
         obtain ⟨H5,w5,s5⟩:=w4.fin
         exact ⟨st',H5,rfl,((((w5.out.back s5).back s4).back s3).back s2).back s1⟩
       | ok d=>
         obtain ⟨u,st',H',e,g,p⟩:=gm
         rw [e,Rs.aa,Ou.aa]
         obtain ⟨w4,s4⟩:=w3.moved g
         exact ((((n u d st' H' _ own w4 p).back s4).back s3).back s2).back s1
 · trivial
end
section
variable {Φ:Fn} {Ψ ΨM:FnT} {X:Fx} (HP:∀ f,Pure (X.μ f) (Φ f) (Ψ f)) (HM:∀ f,mD (X.μ f) (Φ f) (ΨM f)) {P:Nat->Prop} {h0:Hd} {S0:Sto} (hP:X.lv ≠ 0->∀ k,k < S0.length->P k) (n:Nat)
include HP
theorem FX {H:Hd} {st:Sto} {ρ:Env} {τ:ak} {F:List En} (v:Nat) (i e:E) (w:WS P h0 S0.length H st ρ τ F):GS P h0 S0 X.lv H st (xS Φ n (.put (.var v) i e) ρ st) (yS Ψ ΨM X n (.put (.var v) i e) τ (aP F)):=by
 simp only [xS,bf,eC,de,eE,c9,d8,dP,eD,cc,aU,eI]
 obtain ⟨H0,F0,e0,w0,s0⟩:=w.dn0 λk lv=>gts X.μ k lv 0 e || gts X.μ k lv 2 i
 rw [<- e0]
 refine (cK w0 (gE HP e 0 w0.we w0.wf λk lv hk=>(a9 (dS e0 k lv hk)).1) λz z' st1 H1 g1 w1 hz=>?_).back s0
 refine br λxs hxs=>?_
 have hx:=jm (ic hxs)
 obtain ⟨u,f0,r0,_⟩:=w1.val _ _ hx
 simp only [xE,l7,f0,Rs.aa]
 refine cK w1 (gE HP i 2 w1.we w1.wf λk lv hk=>(a9 (dS e0 k lv hk)).2) λy y' st2 H2 g2 w2 hy=>?_
 unfold FW
 refine br λk hk=>br λj hj=>?_
 have:=iq hk; subst this
 have:=hy.1.int_inv; subst this
 split
 · rename_i hlv
   obtain ⟨Fa,en,Fb,rfl,rfl,hen⟩:=ie (F:=F0) (i:=v) hlv
   obtain ⟨H3,w3,s3⟩:=WS.to1 w2
   obtain ⟨a1,a2,a3⟩:=w3.own hx
   rw [f0] at a1
   have:u=.loc en.l:=by simpa using a1
   subst this
   obtain ⟨ng,_,us,cell⟩:=a3.one rfl
   have rs:=kq a2 cell
   have hz2:=hz.gr g2
   have hz3:PX 0 H3 st2 z z':=.of hz2.1 λl hl=>⟨(hz2.av l hl).1,λq=>(hz2.av l hl).2 (s3.hid l (hz2.av l hl).1 q)⟩
   obtain ⟨w4,s4⟩:=w3.Iz (vs:=us.set j z) (ds:=xs.set j z') ⟨rs.set j hz3.1,λu hu=>by
     rcases List.mem_or_eq_of_mem_set hu with hu | rfl
     · exact .inl (w3.wf.av _ _ _ ng cell u hu)
     · exact hz3.2⟩
   refine ⟨.nx ρ,st2.set en.l (false,us.set j z),?_,H3,_,(uB w2.nv (w2.sv (List.mem_append_right _ (List.mem_cons_self ..)))).symm,w4,s3.trans s4⟩
   simp only [evP.eq_def,cell,rs.length,hj,Option.map_some,ofS]
 · trivial
omit HP in
theorem t6 {H:Hd} {st:Sto} {ρ:Env} {τ:ak} {Fa Fb:List En} {v l:Nat} {cs:List Nat} {xs ys:List T} {p:Int} {q:Nat} (w:WS P h0 S0.length H st ρ τ (Fa++⟨v,l,2,cs⟩ :: Fb)) (hx:τ[v]?=some (some (.lst xs))) (hq:L2.ixN xs.length p=some q) (hy:xs[q]?=some (.lst ys)) :
   ∃ c us,evI (.loc l) (.int p) st=.ok (.loc c) st/\cs[q]?=some c/\st[c]?=some (false,us)/\PXs 0 H st us ys:=by
 obtain ⟨a1,a2,a3⟩:=w.own hx
 obtain ⟨_,gl,e1,e2⟩:=a3.two (by decide)
 have rs:=kq a2 e1
 obtain ⟨u,g1,g2⟩:=rs.get hy
 rw [List.getElem?_map] at g1
 obtain ⟨c,g3,rfl⟩:=Option.map_eq_some_iff.mp g1
 obtain ⟨b1,b2,ws,b3⟩:=e2 c (List.mem_of_getElem? g3)
 refine ⟨c,ws,?_,g3,b3,kq g2 b3,λu hu=>.inl (w.wf.av _ _ _ b2 b3 u hu)⟩
 have hl:=rs.length
 simp only [evI.eq_def,seq?,e1,Option.map_some,L2.atI]
 rw [hl,hq,Option.bind_some,List.getElem?_map,g3]
 rfl
omit HP in
theorem sT {α β γ:Type} (x:Rs α) (f:α->Sto->Rs β) (g:β->Sto->Rs γ):(x.bind f).bind g=x.bind λa s=>(f a s).bind g:=by cases x <;> rfl
theorem Dg {H:Hd} {st:Sto} {ρ:Env} {τ:ak} {F:List En} (v:Nat) (a i e:E) (w:WS P h0 S0.length H st ρ τ F):GS P h0 S0 X.lv H st (xS Φ n (.put (.ix (.var v) a) i e) ρ st) (yS Ψ ΨM X n (.put (.ix (.var v) a) i e) τ (aP F)):=by
 simp only [xS,bf,eC,de,eE,c9,d8,dP,eD,cc,aU,eI]
 obtain ⟨H0,F0,e0,w0,s0⟩:=w.dn0 λk lv=>gts X.μ k lv 0 e || gts X.μ k lv 2 a || gts X.μ k lv 2 i
 rw [<- e0]
 split
 · rename_i hlv
   obtain ⟨Fa,⟨v',l,lv,cs⟩,Fb,rfl,rfl,hen⟩:=ie (F:=F0) (i:=v) (by omega)
   rw [hlv] at hen
   dsimp only at hen
   subst hen
   refine (cK w0 (gE HP e 0 w0.we w0.wf λk lv hk=>(a9 (a9 (dS e0 k lv hk)).1).1) λz z' st1 H1 g1 w1 hz=>?_).back s0
   refine br λxs hxs=>?_
   have hx:=jm (ic hxs)
   obtain ⟨a1,a2,a3⟩:=w1.own hx
   have hE:∀ y,xE Φ (.ix (.var v') a) ρ st1=y->y=(xE Φ a ρ st1).bind λp st2=>evI (.loc l) p st2:=λy hy=>by
     rw [<- hy]; simp only [xE,l7,a1,Rs.aa]
   rw [hE _ rfl,sT]
   refine cK w1 (gE HP a 2 w1.we w1.wf λk lv hk=>(a9 (a9 (dS e0 k lv hk)).1).2) λp p' st2 H2 g2 w2 hp=>?_
   refine br λpi hpi=>br λq hq=>br λys hys=>?_
   have:=iq hpi; subst this
   have:=hp.1.int_inv; subst this
   obtain ⟨yt,hy1,hy2⟩:=Option.bind_eq_some_iff.mp hys
   have:=mF hy2; subst this
   obtain ⟨c,us,c1,c2,c3,c4⟩:=t6 w2 hx hq hy1
   rw [c1,Rs.aa]
   refine cK w2 (gE HP i 2 w2.we w2.wf λk lv hk=>(a9 (dS e0 k lv hk)).2) λy y' st3 H3 g3 w3 hy=>?_
   unfold sO
   refine br λk hk=>br λj hj=>?_
   have:=iq hk; subst this
   have:=hy.1.int_inv; subst this
   have hz3:=(hz.gr g2).gr g3
   have c3':=eU g3.pre _ _ c3
   have c4':=c4.gr g3
   obtain ⟨w4,s4⟩:=w3.IB (vs:=us.set j z) (ds:=ys.set j z') hx c2 ⟨c4'.1.set j hz3.1,λu hu=>by
     rcases List.mem_or_eq_of_mem_set hu with hu | rfl
     · exact c4'.2 u hu
     · exact hz3.2⟩
   refine ⟨.nx ρ,st3.set c (false,us.set j z),?_,H3,_,rfl,w4,s4⟩
   simp only [evP.eq_def,c3',c4'.1.length,hj,Option.map_some,ofS]
 · trivial
theorem Fy {H:Hd} {st:Sto} {ρ:Env} {τ:ak} {F:List En} (m:Lm) (v:Nat) (es:List E) (w:WS P h0 S0.length H st ρ τ F):GS P h0 S0 X.lv H st (xS Φ n (.mth m (.var v) es) ρ st) (yS Ψ ΨM X n (.mth m (.var v) es) τ (aP F)):=by
 simp only [xS,bf,eC,de,eE,c9,d8,dP,eD,cc,aU,eI]
 obtain ⟨H0,F0,e0,w0,s0⟩:=w.dn0 λk lv=>bX X.μ k lv 0 es
 rw [<- e0]
 refine br λxs hxs=>?_
 have hx:=jm (ic hxs)
 split
 · rename_i hlv
   obtain ⟨Fa,⟨v',l,lv,cs⟩,Fb,rfl,rfl,hen⟩:=ie (F:=F0) (i:=v) hlv
   obtain ⟨a1,a2,a3⟩:=w0.own hx
   simp only [xE,l7,a1,Rs.aa]
   rw [if_pos (a3.lt l (List.mem_cons_self ..))]
   refine (cK w0 (gEs HP es 0 w0.we w0.wf (dS e0)) λy ds st2 H2 g2 w2 hy=>?_).back s0
   unfold sr
   refine br λys hz=>?_
   obtain ⟨H3,w3,s3⟩:=WS.to1 w2
   obtain ⟨b1,b2,b3⟩:=w3.own hx
   obtain ⟨ng,_,us,cell⟩:=b3.one rfl
   have rs:=kq b2 cell
   have hy3:PXs 0 H3 st2 y ds:=⟨hy.1,λu hu=>.inl λl hl=>⟨((hy.2 u hu).zero l hl).1,λq=>((hy.2 u hu).zero l hl).2 (s3.hid l ((hy.2 u hu).zero l hl).1 q)⟩⟩
   obtain ⟨ws,e5,p5⟩:=Ck cell ⟨rs,λu hu=>.inl (w3.wf.av _ _ _ ng cell u hu)⟩ hy3 hz
   obtain ⟨w4,s4⟩:=w3.Iz p5
   refine ⟨.nx ρ,st2.set l (false,ws),by rw [e5]; rfl,H3,_,(uB w2.nv (w2.sv (List.mem_append_right _ (List.mem_cons_self ..)))).symm,w4,s3.trans s4⟩
 · trivial
theorem Dh {H:Hd} {st:Sto} {ρ:Env} {τ:ak} {F:List En} (m:Lm) (v:Nat) (a:E) (es:List E) (w:WS P h0 S0.length H st ρ τ F):GS P h0 S0 X.lv H st (xS Φ n (.mth m (.ix (.var v) a) es) ρ st) (yS Ψ ΨM X n (.mth m (.ix (.var v) a) es) τ (aP F)):=by
 simp only [xS,bf,eC,de,eE,c9,d8,dP,eD,cc,aU,eI]
 obtain ⟨H0,F0,e0,w0,s0⟩:=w.dn0 λk lv=>gts X.μ k lv 2 a || bX X.μ k lv 0 es
 rw [<- e0]
 refine br λxs hxs=>?_
 have hx:=jm (ic hxs)
 split
 · rename_i hlv
   obtain ⟨Fa,⟨v',l,lv,cs⟩,Fb,rfl,rfl,hen⟩:=ie (F:=F0) (i:=v) (by omega)
   rw [hlv] at hen
   dsimp only at hen
   subst hen
   obtain ⟨a1,a2,a3⟩:=w0.own hx
   have hE:∀ y,xE Φ (.ix (.var v') a) ρ st=y->y=(xE Φ a ρ st).bind λp st2=>evI (.loc l) p st2:=λy hy=>by
     rw [<- hy]; simp only [xE,l7,a1,Rs.aa]
   rw [hE _ rfl,sT]
   refine (cK w0 (gE HP a 2 w0.we w0.wf λk lv hk=>(a9 (dS e0 k lv hk)).1) λp p' st2 H2 g2 w2 hp=>?_).back s0
   refine br λpi hpi=>br λq hq=>br λys hys=>?_
   have:=iq hpi; subst this
   have:=hp.1.int_inv; subst this
   obtain ⟨yt,hy1,hy2⟩:=Option.bind_eq_some_iff.mp hys
   have:=mF hy2; subst this
   obtain ⟨c,us,c1,c2,c3,c4⟩:=t6 w2 hx hq hy1
   rw [c1,Rs.aa]
   dsimp only
   rw [if_pos (List.getElem?_eq_some_iff.mp c3).1]
   refine cK w2 (gEs HP es 0 w2.we w2.wf λk lv hk=>(a9 (dS e0 k lv hk)).2) λy ds st3 H3 g3 w3 hy=>?_
   unfold xn
   refine br λzs hz=>?_
   obtain ⟨ws,e5,p5⟩:=Ck (eU g3.pre _ _ c3) (c4.gr g3) hy hz
   obtain ⟨w4,s4⟩:=w3.IB hx c2 p5
   exact ⟨.nx ρ,st3.set c (false,ws),by rw [e5]; rfl,H3,_,rfl,w4,s4⟩
 · trivial
include HM hP
mutual
theorem gS:∀ (s:S) {H:Hd} {st:Sto} {ρ:Env} {τ:ak} {F:List En},WS P h0 S0.length H st ρ τ F->GS P h0 S0 X.lv H st (xS Φ n s ρ st) (yS Ψ ΨM X n s τ (aP F))
 | .set t e,H,st,ρ,τ,F,w=>by
   have gen:∀ (r:Ou FlT),r=((yE Ψ e τ).bind λx=>lj (aJ t x τ) (cA X (dn (gtc X.μ e x) (aP F)) t e x τ))->GS P h0 S0 X.lv H st (xS Φ n (.set t e) ρ st) r:=λr hr=>by
     subst hr
     simp only [xS]
     cases hy:yE Ψ e τ with
     | bad=>trivial
     | exc c=>
       obtain ⟨H0,F0,e0,w0,s0⟩:=w.dn0 λi lv=>gts X.μ i lv 0 e
       have:=(BM HP t e w0 (.inl (dS e0))).back s0
       rw [hy] at this
       exact this
     | ok x=>
       obtain ⟨H0,F0,e0,w0,s0⟩:=w.dn0 (gtc X.μ e x)
       have:=(BM HP t e w0 (by
         have z:=dS e0
         cases hv:cpV e with
         | none=>simp only [gtc,hv] at z; exact .inl z
         | some v=>
           by_cases hf:eN 2 x=true
           · exact .inr ⟨v,x,DL hv,hy,hf⟩
           · simp only [gtc,hv,if_neg hf] at z; exact .inl z)).back s0
       rw [hy,e0] at this
       exact this
   by_cases hc:∃ f v es,e=.call f (.var v :: es)
   · obtain ⟨f,v,es,rfl⟩:=hc
     by_cases hm:0 < (X.μ f).mv
     · simp only [xS,bf,eC,de,eE,c9,d8,dP,eD,cc,aU,eI]
       rw [if_pos hm]
       refine x9 HP HM w hm λu d st' H' F' e' w' p=>?_
       have lv0:cU X.μ (.call f (.var v :: es))=0:=(HM f hm).1
       have own0:∀ F x,cA X (aP F) t (.call f (.var v :: es)) x (τ.set v none)=dn (frg t) (aP F):=λF x=>by
         cases t with
         | tp is=>rfl
         | nm i=>simp only [cA,lv0,Nat.zero_min,if_true]; split <;> rfl
       rw [<- e',own0]
       obtain ⟨H1,F1,e1,w1,s1⟩:=w'.dn0 (frg t)
       rw [<- e1]
       have p1:PX 0 H1 st' u d:=.of p.1 λl hl=>⟨(p.av l hl).1,λq=>(p.av l hl).2 (s1.hid l (p.av l hl).1 q)⟩
       refine GS.back s1 ?_
       cases z:aJ t d (τ.set v none) with
       | none=>trivial
       | some τ'=>
         obtain ⟨ρ',f1,w3⟩:=w1.fM (q9 e1) p1 z
         rw [f1]
         exact ⟨_,_,rfl,H1,F1,rfl,w3,.refl⟩
     · refine gen _ ?_
       exact if_neg hm
   · refine gen _ ?_
     cases e with
     | call f es=>
       cases es with
       | nil=>rfl
       | cons a r=>
         cases a with
         | var v=>exact absurd ⟨f,v,r,rfl⟩ hc
         | _=>rfl
     | _=>rfl
 | .put a i e,H,st,ρ,τ,F,w=>by
   cases a with
   | var v=>exact FX HP n v i e w
   | ix b c=>
     cases b with
     | var v=>exact Dg HP n v c i e w
     | _=>trivial
   | _=>trivial
 | .mth m a es,H,st,ρ,τ,F,w=>by
   cases a with
   | var v=>exact Fy HP n m v es w
   | ix b c=>
     cases b with
     | var v=>exact Dh HP n m v c es w
     | _=>trivial
   | _=>trivial
 | .ret e,H,st,ρ,τ,F,w=>Hj HP hP e w n
 | .ite c a d,H,st,ρ,τ,F,w=>by
   simp only [xS,bf,eC,de,eE,c9,d8,dP,eD,cc,aU,eI]
   obtain ⟨H0,F0,e0,w0,s0⟩:=w.dn0 λk lv=>gts X.μ k lv 2 c
   rw [<- e0]
   refine (cK w0 (gE HP c 2 w0.we w0.wf (dS e0)) λx x' st1 H1 g1 w1 hx=>?_).back s0
   cases x' with
   | bl r=>
     have:=hx.1.iB; subst this
     cases r with
     | true=>exact gSs a w1
     | false=>exact gSs d w1
   | _=>trivial
 | .for t it body,H,st,ρ,τ,F,w=>by
   simp only [xS,bf,eC,de,eE,c9,d8,dP,eD,cc,aU,eI]
   obtain ⟨H0,F0,e0,w0,s0⟩:=w.dn0 λk lv=>eW X.μ k lv 0 it
   rw [<- e0]
   refine (GS.noX (cK w0 (gIt HP it 0 (Nat.zero_le _) w0.we w0.wf (dS e0)) λq xs st1 H1 g1 w1 hq=>?_)).back s0
   rw [hq.2.len]
   have:=uu (P:=P) (h0:=h0) (S0:=S0) (lv:=X.lv) (f:=λx ρ' st'=>match fM t x ρ' with | some ρ2=>xSs Φ n body ρ2 st' | none=>.bad) (g:=λx τ' own'=>match aJ t x τ' with | some τ2=>ySs Ψ ΨM X n body τ2 (dn (frg t) own') | none=>.bad) (q:=q) (xs:=xs) (λx u st H ρ τ F w px=>by
     cases z:aJ t x τ with
     | none=>trivial
     | some τ'=>
       obtain ⟨H2,F2,e2,w2,s2⟩:=w.dn0 (frg t)
       have p2:PX 0 H2 st u x:=.of px.1 λl hl=>⟨(px.av l hl).1,λq=>(px.av l hl).2 (s2.hid l (px.av l hl).1 q)⟩
       obtain ⟨ρ',e1,w3⟩:=w2.fM (q9 e2) p2 z
       rw [e1]
       dsimp only
       rw [<- e2]
       exact (gSs body w3).back s2) (xs.length + 1) 0 st1 H1 ρ τ F0 w1 (by cases q <;> first | exact hq.1 rfl | trivial) hq.2 (Nat.zero_le _) (Nat.zero_add _)
   exact this
 | .while c body,H,st,ρ,τ,F,w=>by
   simp only [xS,bf,eC,de,eE,c9,d8,dP,eD,cc,aU,eI]
   exact GS.noX (qi (λst H ρ τ F w hk=>gE HP c 2 w.we w.wf hk) (λst H ρ τ F w=>gSs body w) n st H ρ τ F w)
 | .expr e,H,st,ρ,τ,F,w=>by
   have gen:∀ (r:Ou FlT),r=((yE Ψ e τ).bind λ_=>.ok (.nx τ (dn (λi lv=>gts X.μ i lv 0 e) (aP F))))->GS P h0 S0 X.lv H st (xS Φ n (.expr e) ρ st) r:=λr hr=>by
     subst hr
     simp only [xS]
     obtain ⟨H0,F0,e0,w0,s0⟩:=w.dn0 λi lv=>gts X.μ i lv 0 e
     rw [<- e0]
     refine (cK w0 (gE HP e 0 w0.we w0.wf (dS e0)) λu d st1 H1 g1 w1 hu=>?_).back s0
     exact ⟨_,_,rfl,H1,F0,rfl,w1,.refl⟩
   by_cases hc:∃ f v es,e=.call f (.var v :: es)
   · obtain ⟨f,v,es,rfl⟩:=hc
     by_cases hm:0 < (X.μ f).mv
     · simp only [xS,bf,eC,de,eE,c9,d8,dP,eD,cc,aU,eI]
       rw [if_pos hm]
       refine x9 HP HM w hm λu d st' H' F' e' w' p=>?_
       rw [<- e']
       exact ⟨_,_,rfl,H',F',rfl,w',.refl⟩
     · refine gen _ ?_
       exact if_neg hm
   · refine gen _ ?_
     cases e with
     | call f es=>
       cases es with
       | nil=>rfl
       | cons a r=>
         cases a with
         | var v=>exact absurd ⟨f,v,r,rfl⟩ hc
         | _=>rfl
     | _=>rfl
 | .nev,H,st,ρ,τ,F,w=>trivial
theorem gSs:∀ (s:List S) {H:Hd} {st:Sto} {ρ:Env} {τ:ak} {F:List En},WS P h0 S0.length H st ρ τ F->GS P h0 S0 X.lv H st (xSs Φ n s ρ st) (ySs Ψ ΨM X n s τ (aP F))
 | [],H,st,ρ,τ,F,w=>⟨_,_,rfl,H,F,rfl,w,.refl⟩
 | s :: ss,H,st,ρ,τ,F,w=>by
   simp only [xSs,ySs]
   refine vP (gS s w) λfl fl' st' o=>?_
   cases fl <;> cases fl' <;> first | exact o.elim | skip
   · obtain ⟨H1,F1,rfl,w1,s1⟩:=o
     exact (gSs ss w1).back s1
   · exact ⟨_,_,rfl,o⟩
end
end
noncomputable def bp (md:Md):Ou FlT->Ou T
 | .ok (.rt d)=>if md.sc && !eN md.lv d then .bad else .ok d
 | .ok (.nx _ _)=>.ok .non
 | _=>.bad
noncomputable def DQ:T->Nat
 | .int i=>i.natAbs
 | _=>0
noncomputable def aN:List T->Nat
 | []=>1
 | d :: r=>DQ d + aN r
noncomputable def Ce (md:Md):Own:=if md.mv=0 then [] else [(0,md.mv)]
noncomputable def mkT (Ψ ΨM:FnT) (μ:Nat->Md) (md:Md) (need:List Nat) (ir:List S) (np nl:Nat) (ds:List T):Ou T:=
 if ds.length=np then bp md (ySs Ψ ΨM ⟨μ,need,md.lv⟩ (aN ds) ir (ds.map some++List.replicate (nl - np) none) (Ce md)) else .bad
noncomputable def aI (fs:List (List T->Ou T)) (i:Nat):List T->Ou T:=fs.getD i λ_=>.bad
noncomputable def bP (fs:List Md) (i:Nat):Md:=fs.getD i {}
theorem Dd {st:Sto} {u:U} {d:T} (r:Rep st u d):HA u=DQ d:=by cases r <;> rfl
theorem uM {st:Sto}:∀ {us:List U} {ds:List T},aD st us ds->fuel us=aN ds
 | _,_,.nil=>rfl
 | _,_,.cons h r=>by rw [fuel,aN,Dd h,uM r]
theorem pre_of {st st':Sto} (hl:st.length<=st'.length) (e:∀ k,k < st.length->st'[k]?=st[k]?):st <+: st':=by
 refine ⟨st'.drop st.length,?_⟩
 apply List.ext_getElem?
 intro k
 rcases Nat.lt_or_ge k st.length with h | h
 · rw [List.getElem?_append_left h,e k h]
 · rw [List.getElem?_append_right h,List.getElem?_drop]
   congr 1; omega
theorem Ep {us:List U} {ds:List T} {st:Sto} (r:aD st us ds) {n i:Nat} {d:T} (e:(ds.map some++List.replicate n none)[i]?=some (some d)):∃ u,(us.map some++List.replicate n none)[i]?=some (some u)/\us[i]?=some u/\ds[i]?=some d/\Rep st u d:=by
 by_cases q:i < ds.length
 · rw [List.getElem?_append_left (by rw [List.length_map]; exact q),List.getElem?_map] at e
   cases z:ds[i]? with
   | none=>rw [z] at e; cases e
   | some y=>
     rw [z] at e; cases e
     obtain ⟨v,h1,h2⟩:=r.get z
     refine ⟨v,?_,h1,rfl,h2⟩
     rw [List.getElem?_append_left (by rw [List.length_map,r.length]; exact q),List.getElem?_map,h1]; rfl
 · rw [List.getElem?_append_right (by rw [List.length_map]; omega)] at e
   have:=List.mem_of_getElem? e
   rw [List.mem_replicate] at this
   cases this.2
theorem zK {h:Hd} {st:Sto} {us:List U} {ds:List T} (wf:Wf h st) (p:PXs 0 h st us ds) (n:Nat) :
   WS (λk=>k < st.length) h st.length h st (us.map some++List.replicate n none) (ds.map some++List.replicate n none) []:=
 ⟨by simp [p.1.length],λi d e=>let ⟨u,e1,e2,_,r⟩:=Ep p.1 e; ⟨u,e1,r,λ_=>(p.2 u (List.mem_of_getElem? e2)).zero⟩,wf,(λ_ z=>nomatch z),List.nodup_nil,List.nodup_nil,λk z=>⟨z,wf.lt k z⟩,λ_ z=>z,λ_ z=>.inl z,λ_ z=>.inl z,λ_ z=>z,Nat.le_refl _⟩
section
variable {Φ:Fn} {Ψ ΨM:FnT} {μ:Nat->Md} (HP:∀ f,Pure (μ f) (Φ f) (Ψ f)) (HM:∀ f,mD (μ f) (Φ f) (ΨM f))
theorem yA {md:Md} {r:Ou FlT} {d:T} (hs:md.sc=true) (h:bp md r=.ok d):eN md.lv d=true:=by
 match r,h with
 | .ok (.rt x),h=>
   simp only [bp] at h
   split at h
   · cases h
   · rename_i hc
     cases h
     rw [hs,Bool.true_and,Bool.not_eq_true',Bool.not_eq_false] at hc
     exact hc
 | .ok (.nx _ _),h=>cases h; rfl
 | .exc _,h=>cases h
 | .bad,h=>cases h
include HP HM
theorem xM (md:Md) (hm:md.mv=0) (need:List Nat) (ir:List S) (np nl:Nat):Pure md (mk Φ ir np nl) (mkT Ψ ΨM μ md need ir np nl):=by
 refine ⟨λhs ds d h=>?_,λh st us ds wf p=>?_⟩
 · unfold mkT at h
   split at h
   · exact yA hs h
   · cases h
 · unfold mk mkT
   rw [p.1.length,uM p.1]
   split
   · have g:=gSs (X:=⟨μ,need,md.lv⟩) HP HM (S0:=st) (λ_ k hk=>hk) (aN ds) ir (zK wf p (nl - np))
     have e0:aP ([]:List En)=Ce md:=by unfold Ce; rw [if_pos hm]; rfl
     rw [e0] at g
     generalize ySs Ψ ΨM ⟨μ,need,md.lv⟩ (aN ds) ir (ds.map some++List.replicate (nl - np) none) (Ce md)=y at g ⊢
     have fin:∀ {H':Hd} {st':Sto},Fin (λk=>k < st.length) h st.length st H' st'->Gr h st H' st':=λ{H' st'} f=>⟨pre_of f.len f.lo,f.hm,f.gm,f.hn,f.gn,f.wf⟩
     cases y with
     | bad=>trivial
     | exc c=>trivial
     | ok f=>
       obtain ⟨f',st',e,o⟩:=g
       rw [e]
       cases f <;> cases f' <;> first | exact o.elim | trivial | skip
       · obtain ⟨H1,F1,_,w,s⟩:=o
         obtain ⟨H2,w2,s2⟩:=w.fin
         refine ⟨_,_,H2,rfl,fin ((w2.out.back s2).back s),?_⟩
         unfold FrR
         rw [if_pos (.inr rfl)]
         exact .of .non .non
       · obtain ⟨H1,f1,r1⟩:=o
         simp only [bp]
         split
         · trivial
         · exact ⟨_,_,H1,rfl,fin f1,r1⟩
   · trivial
end
theorem zT {md:Md} {F:List U->Sto->Rs U}:Pure md F λ_=>.bad:=⟨(λ_ _ _ h=>by cases h),λ_ _ _ _ _ _=>trivial⟩
theorem ky {md:Md} {F:List U->Sto->Rs U} {G:List T->Ou T} (h:md.mv=0):mD md F G:=λz=>absurd z (by omega)
inductive gK:List (List U->Sto->Rs U)->List Md->List (List T->Ou T)->List (List T->Ou T)->Prop where
 | nil:gK [] [] [] []
 | cons {f:List U->Sto->Rs U} {m:Md} {g g':List T->Ou T} {fs:List (List U->Sto->Rs U)} {ms:List Md} {gs gs':List (List T->Ou T)} (h:Pure m f g) (h':mD m f g') (r:gK fs ms gs gs'):gK (f :: fs) (m :: ms) (g :: gs) (g' :: gs')
theorem gK.at:∀ {fs:List (List U->Sto->Rs U)} {ms:List Md} {gs gs':List (List T->Ou T)},gK fs ms gs gs'->(∀ i,Pure (bP ms i) (tab fs i) (aI gs i))/\∀ i,mD (bP ms i) (tab fs i) (aI gs' i)
 | _,_,_,_,.nil=>⟨λi=>by unfold aI; simp only [List.getD_nil]; exact zT,λi=>ky (by simp [bP])⟩
 | _,_,_,_,.cons h h' r=>by
   obtain ⟨r1,r2⟩:=r.at
   refine ⟨λi=>?_,λi=>?_⟩
   · cases i with
     | zero=>exact h
     | succ i=>
       have:=r1 i
       unfold tab aI bP at this ⊢
       simpa using this
   · cases i with
     | zero=>exact h'
     | succ i=>
       have:=r2 i
       unfold tab aI bP at this ⊢
       simpa using this
theorem gK.snoc:∀ {fs:List (List U->Sto->Rs U)} {ms:List Md} {gs gs':List (List T->Ou T)} {f:List U->Sto->Rs U} {m:Md} {g g':List T->Ou T},gK fs ms gs gs'->Pure m f g->mD m f g'->gK (fs++[f]) (ms++[m]) (gs++[g]) (gs'++[g'])
 | _,_,_,_,_,_,_,_,.nil,h,h'=>.cons h h' .nil
 | _,_,_,_,_,_,_,_,.cons a b r,h,h'=>.cons a b (r.snoc h h')
theorem gK.def {fs:List (List U->Sto->Rs U)} {ms:List Md} {gs gs':List (List T->Ou T)} (p:gK fs ms gs gs') (md:Md) (hm:md.mv=0) (need:List Nat) (ir:List S) (np nl:Nat):gK (fs++[mk (tab fs) ir np nl]) (ms++[md]) (gs++[mkT (aI gs) (aI gs') (bP ms) md need ir np nl]) (gs'++[λ_=>.bad]):=
 p.snoc (xM p.at.1 p.at.2 md hm need ir np nl) (ky hm)
theorem bu {Ψ ΨM:FnT} {μ:Nat->Md} {md:Md} {need:List Nat} {ir:List S} {np nl:Nat} {ds:List T} (h:ds.length=np):mkT Ψ ΨM μ md need ir np nl ds=bp md (ySs Ψ ΨM ⟨μ,need,md.lv⟩ (aN ds) ir (ds.map some++List.replicate (nl - np) none) (Ce md)):=if_pos h
noncomputable def dfT (n:Nat) (i:Int) (G:List T->Ou T):List T->Ou T:=λds=>if ds.length=n then G (ds++[.int i]) else G ds
theorem Pure.df {md:Md} {F:List U->Sto->Rs U} {G:List T->Ou T} (p:Pure md F G) (n:Nat) (i:Int):Pure md (dfU n i F) (dfT n i G):=by
 refine ⟨λhs ds d h=>?_,λh st us ds wf hp=>?_⟩
 · unfold dfT at h
   split at h
   · exact p.1 hs _ _ h
   · exact p.1 hs _ _ h
 · unfold dfU dfT
   rw [hp.1.length]
   split
   · refine p.2 _ _ _ _ wf ⟨hp.1.append (.cons .int .nil),λu hu=>?_⟩
     rcases List.mem_append.mp hu with hu | hu
     · exact hp.2 u hu
     · cases List.mem_singleton.mp hu
       exact .inl .int
   · exact p.2 _ _ _ _ wf hp
theorem gK.df {fs:List (List U->Sto->Rs U)} {ms:List Md} {gs gs':List (List T->Ou T)} (p:gK fs ms gs gs') (n:Nat) (i:Int) (md:Md) (hm:md.mv=0) (need:List Nat) (ir:List S) (np nl:Nat):gK (fs++[dfU n i (mk (tab fs) ir np nl)]) (ms++[md]) (gs++[dfT n i (mkT (aI gs) (aI gs') (bP ms) md need ir np nl)]) (gs'++[λ_=>.bad]):=
 p.snoc ((xM p.at.1 p.at.2 md hm need ir np nl).df n i) (ky hm)
section
variable (Ψ ΨM:FnT) (X:Fx) (n:Nat) (τ:ak) (own:Own)
noncomputable def GJ (c:E):ak->Ou T:=λτ=>yE Ψ c τ
noncomputable def Hb (body:List S):ak->Own->Ou FlT:=λτ own=>ySs Ψ ΨM X n body τ own
noncomputable def bM (t:Tg) (body:List S):T->ak->Own->Ou FlT:=λx τ own=>match aJ t x τ with
 | some τ2=>ySs Ψ ΨM X n body τ2 (dn (frg t) own)
 | none=>.bad
noncomputable def iy (caps:List (Option Nat)) (t:Tg) (ifs:List E) (elt:E):T->Ou (Option T):=λx=>match aJ t x (iR τ caps++[none]) with
 | none=>.bad
 | some τ1=>(yIf Ψ ifs τ1).bind λb=>if b then (yE Ψ elt τ1).bind λy=>.ok (some y) else .ok none
theorem CQ (c:E):GJ Ψ c τ=yE Ψ c τ:=rfl
theorem Ez (body:List S):Hb Ψ ΨM X n body τ own=ySs Ψ ΨM X n body τ own:=rfl
theorem oU (t:Tg) (body:List S) (x:T):bM Ψ ΨM X n t body x τ own=match aJ t x τ with | some τ2=>ySs Ψ ΨM X n body τ2 (dn (frg t) own) | none=>.bad:=rfl
theorem fw (caps:List (Option Nat)) (t:Tg) (ifs:List E) (elt:E) (x:T):iy Ψ τ caps t ifs elt x=match aJ t x (iR τ caps++[none]) with
 | none=>.bad
 | some τ1=>(yIf Ψ ifs τ1).bind λb=>if b then (yE Ψ elt τ1).bind λy=>.ok (some y) else .ok none:=rfl
theorem jE (caps:List (Option Nat)) (t:Tg) (it:It) (ifs:List E) (elt:E):yE Ψ (.comp caps t it ifs elt) τ=(yIt Ψ it τ).bind λxs=>if xs.length < ae then ((cq (iy Ψ τ caps t ifs elt) xs).bind λys=>.ok (.lst ys)).noX else .bad:=by
 rw [yE]
 all_goals rfl
theorem az (i:Nat):yE Ψ (.var i) τ=aC τ i:=by rw [yE]
theorem EI:yE Ψ .cN τ=.ok .non:=by rw [yE]
theorem iP (b:Bool):yE Ψ (.cB b) τ=.ok (.bl b):=by rw [yE]
theorem b8 (i:Int):yE Ψ (.cI i) τ=.ok (.int i):=by rw [yE]
theorem gB (o:Op2) (a b:E):yE Ψ (.op o a b) τ=(yE Ψ a τ).bind λx=>(yE Ψ b τ).bind λy=>z2 o x y:=by rw [yE]
noncomputable def IU:T->Ou T
 | .int i=>.ok (.int (-i))
 | _=>.bad
noncomputable def Ia:T->Ou T
 | .bl i=>.ok (.bl (!i))
 | _=>.bad
theorem Ff (a:E):yE Ψ (.neg a) τ=(yE Ψ a τ).bind IU:=by
 rw [yE]
 all_goals first | rfl | (congr 1; funext x; cases x <;> rfl) | (congr 1; done)
theorem fA (a:E):yE Ψ (.not a) τ=(yE Ψ a τ).bind Ia:=by
 rw [yE]
 all_goals first | rfl | (congr 1; funext x; cases x <;> rfl) | (congr 1; done)
theorem cY (o:Cm) (a b:E):yE Ψ (.cmp o a b) τ=(yE Ψ a τ).bind λx=>(yE Ψ b τ).bind λy=>ofB (zC o x y):=by rw [yE]
noncomputable def chT (o:Option Bool) (r:Ou T):Ou T:=match o with
 | some true=>r
 | some false=>.ok (.bl false)
 | none=>.bad
theorem oR (o o':Cm) (a b c:E):yE Ψ (.chain o o' a b c) τ=(yE Ψ a τ).bind λx=>(yE Ψ b τ).bind λy=>chT (zC o x y) ((yE Ψ c τ).bind λu=>ofB (zC o' y u)):=by
 rw [yE]
 all_goals first | rfl | (congr 1; funext x; congr 1; funext y; cases zC o x y <;> first | rfl | (rename_i z; cases z <;> rfl)) | (congr 1; done)
noncomputable def FH (x:T) (r:Ou T):Ou T:=match x with
 | .bl true=>r
 | .bl false=>.ok (.bl false)
 | _=>.bad
noncomputable def orT (x:T) (r:Ou T):Ou T:=match x with
 | .bl true=>.ok (.bl true)
 | .bl false=>r
 | _=>.bad
noncomputable def sU {α:Type} (x:T) (r s:Ou α):Ou α:=match x with
 | .bl true=>r
 | .bl false=>s
 | _=>.bad
theorem gg (a b:E):yE Ψ (.and a b) τ=(yE Ψ a τ).bind λx=>FH x (yE Ψ b τ):=by
 rw [yE]
 all_goals first | rfl | (congr 1; funext x; cases x <;> first | rfl | (rename_i z; cases z <;> rfl)) | (congr 1; done)
theorem jg (a b:E):yE Ψ (.or a b) τ=(yE Ψ a τ).bind λx=>orT x (yE Ψ b τ):=by
 rw [yE]
 all_goals first | rfl | (congr 1; funext x; cases x <;> first | rfl | (rename_i z; cases z <;> rfl)) | (congr 1; done)
theorem GW (c a b:E):yE Ψ (.ite c a b) τ=(yE Ψ c τ).bind λx=>sU x (yE Ψ a τ) (yE Ψ b τ):=by
 rw [yE]
 all_goals first | rfl | (congr 1; funext x; cases x <;> first | rfl | (rename_i z; cases z <;> rfl)) | (congr 1; done)
noncomputable def oA (f:List T->T) (xs:List T):Ou T:=if xs.length < ae then .ok (f xs) else .bad
theorem B8 (es:List E):yE Ψ (.tup es) τ=(yEs Ψ es τ).bind (oA .tup):=by rw [yE]; rfl
theorem oO (es:List E):yE Ψ (.lst es) τ=(yEs Ψ es τ).bind (oA .lst):=by rw [yE]; rfl
theorem jS (a i:E):yE Ψ (.ix a i) τ=(yE Ψ a τ).bind λx=>(yE Ψ i τ).bind λy=>zI x y:=by rw [yE]
theorem bE (f:Nat) (es:List E):yE Ψ (.call f es) τ=(yEs Ψ es τ).bind (Ψ f):=by rw [yE]
theorem bS (b:Bi) (es:List E):yE Ψ (.bi b es) τ=(yEs Ψ es τ).bind (zB b):=by rw [yE]
noncomputable def uR (t:Ty):T->Ou T
 | .exo _=>.bad
 | x=>.ok (.bl (iD t x))
theorem fJ (a:E) (t:Ty):yE Ψ (.isi a t) τ=(yE Ψ a τ).bind (uR t):=by
 rw [yE]
 all_goals first | rfl | (congr 1; funext x; cases x <;> rfl) | (congr 1; done)
theorem Ge (b:Bool) (a:E):yE Ψ (.isN b a) τ=(yE Ψ a τ).bind λx=>.ok (.bl (b ^^ Em x)):=by rw [yE]
theorem HV (a l h:E):yE Ψ (.sl a l h) τ=(yE Ψ a τ).bind λx=>(yE Ψ l τ).bind λy=>aS (n8 l y) λlo=>(yE Ψ h τ).bind λz=>aS (n8 h z) λhi=>zSl x lo hi:=by
 rw [yE]
 all_goals first | rfl | (congr 1; funext x; congr 1; funext y; cases n8 l y <;> first | rfl | (dsimp only [aS]; congr 1; funext z; cases n8 h z <;> rfl)) | (congr 1; done)
theorem au:yEs Ψ [] τ=.ok []:=by rw [yEs]
theorem ag (e:E) (es:List E):yEs Ψ (e :: es) τ=(yE Ψ e τ).bind λx=>(yEs Ψ es τ).bind λxs=>.ok (x :: xs):=by rw [yEs]
theorem jD:yIf Ψ [] τ=.ok true:=by rw [yIf]
noncomputable def ID:T->Ou (List T)
 | .lst xs=>.ok xs
 | .tup xs=>.ok xs
 | _=>.bad
noncomputable def Fi:T->Ou (List T)
 | .int j=>if -(2 ^ 62)<=j/\j < 2 ^ 62 then .ok (rangeT 0 j.toNat) else .bad
 | _=>.bad
noncomputable def E8:T->T->Ou (List T)
 | .int i,.int j=>if (-(2 ^ 62)<=i/\i < 2 ^ 62)/\-(2 ^ 62)<=j/\j < 2 ^ 62 then .ok (rangeT i (j - i).toNat) else .bad
 | _,_=>.bad
noncomputable def enT:T->Ou (List T)
 | .lst xs=>.ok (je 0 xs)
 | _=>.bad
theorem dR (e:E):yIt Ψ (.seq e) τ=(yE Ψ e τ).bind ID:=by
 rw [yIt]
 all_goals first | rfl | (congr 1; funext x; cases x <;> rfl) | (congr 1; done)
theorem D6 (e:E):yIt Ψ (.rng e) τ=(yE Ψ e τ).bind Fi:=by
 rw [yIt]
 all_goals first | rfl | (congr 1; funext x; cases x <;> rfl) | (congr 1; done)
theorem Cs (a b:E):yIt Ψ (.rng2 a b) τ=(yE Ψ a τ).bind λx=>(yE Ψ b τ).bind λy=>E8 x y:=by
 rw [yIt]
 all_goals first | rfl | (congr 1; funext x; congr 1; funext y; cases x <;> cases y <;> rfl) | (congr 1; done)
theorem xh (e:E):yIt Ψ (.enu e) τ=(yE Ψ e τ).bind enT:=by
 rw [yIt]
 all_goals first | rfl | (congr 1; funext x; cases x <;> rfl) | (congr 1; done)
theorem DI (a b:E):yIt Ψ (.zip a b) τ=(yE Ψ a τ).bind λx=>(yE Ψ b τ).bind λy=>zpT x y:=by
 rw [yIt]
theorem HQ (xs ys:List T):zpT (.lst xs) (.lst ys)=.ok (j6 xs ys):=rfl
noncomputable def gU (μ:Nat->Md) (k:Nat) (e:E):Nat->Nat->Bool:=λi lv=>gts μ i lv k e
noncomputable def gUL (μ:Nat->Md) (k:Nat) (es:List E):Nat->Nat->Bool:=λi lv=>bX μ i lv k es
noncomputable def gUI (μ:Nat->Md) (k:Nat) (it:It):Nat->Nat->Bool:=λi lv=>eW μ i lv k it
noncomputable def gP2 (μ:Nat->Md) (e a i:E):Nat->Nat->Bool:=λk lv=>gts μ k lv 0 e || gts μ k lv 2 a || gts μ k lv 2 i
noncomputable def gM2 (μ:Nat->Md) (a:E) (es:List E):Nat->Nat->Bool:=λk lv=>gts μ k lv 2 a || bX μ k lv 0 es
theorem yj (μ:Nat->Md) (k:Nat) (e:E) (i lv:Nat):gU μ k e i lv=gts μ i lv k e:=rfl
theorem BU (μ:Nat->Md) (k:Nat) (e:List E) (i lv:Nat):gUL μ k e i lv=bX μ i lv k e:=rfl
theorem Al (μ:Nat->Md) (k:Nat) (e:It) (i lv:Nat):gUI μ k e i lv=eW μ i lv k e:=rfl
theorem nr {α:Type} {a:α}:a=a:=of_eq_true (eq_self a)
noncomputable def Bn:E->Bool
 | .var _=>true
 | _=>false
noncomputable def Bk:List E->Bool
 | []=>false
 | e :: _=>Bn e
noncomputable def kZ (X:Fx):E->Bool
 | .call f es=>Bk es && decide (0 < (X.μ f).mv)
 | .comp a b c d e=>(cpV (.comp a b c d e)).isSome
 | _=>false
theorem qg (f:Nat) (es:List E):kZ X (.call f es)=(Bk es && decide (0 < (X.μ f).mv)):=nr
theorem zv (e:E) (es:List E):Bk (e :: es)=Bn e:=nr
theorem tP (i:Nat):kZ X (.var i)=false:=nr
theorem AV (i:Nat):Bn (.var i)=true:=nr
theorem yn (μ:Nat->Md) (i:Nat):cU μ (.var i)=0:=rfl
theorem nB (o:Op2) (a b:E):kZ X (.op o a b)=false:=nr
theorem tL (es:List E):kZ X (.lst es)=false:=nr
theorem wR (o:Bi) (es:List E):kZ X (.bi o es)=false:=nr
theorem xU (μ:Nat->Md) (es:List E):cU μ (.lst es)=1:=by simp only [cU]
theorem uQ (μ:Nat->Md) (cs:List (Option Nat)) (t:Tg) (it:It) (fs:List E) (e:E):cU μ (.comp cs t it fs e)=if cU μ e=0 then 1 else 2:=by simp only [cU]
theorem As (μ:Nat->Md) (f:Nat) (es:List E):cU μ (.call f es)=(μ f).lv:=by simp only [cU]
theorem Cp (μ:Nat->Md) (a b:E):cU μ (.op .fdiv a b)=0:=rfl
theorem si (μ:Nat->Md) (a b:E):cU μ (.op .mod a b)=0:=rfl
theorem t9 (μ:Nat->Md) (es:List E):cU μ (.bi .abs es)=0:=rfl
theorem yb (xs:List T):lvT (.lst xs)=if xs.all isL then 2 else 1:=rfl
theorem ei (t:Tg) (e:E) (hm:kZ X e=false):yS Ψ ΨM X n (.set t e) τ own=(yE Ψ e τ).bind λx=>lj (aJ t x τ) (cA X (dn (gU X.μ 0 e) own) t e x τ):=by
 cases e with
 | call f es=>
   cases es with
   | nil=>rfl
   | cons a r=>
     cases a with
     | var v=>exact if_neg (by simpa [kZ,Bk,Bn] using hm)
     | _=>rfl
 | comp a b c d e=>
   have hc:cpV (.comp a b c d e)=none:=by
     cases z:cpV (.comp a b c d e) with
     | none=>rfl
     | some v=>rw [kZ,z] at hm; cases hm
   show ((yE Ψ (.comp a b c d e) τ).bind λx=>lj (aJ t x τ) (cA X (dn (gtc X.μ (.comp a b c d e) x) own) t (.comp a b c d e) x τ))=_
   simp only [gtc,hc]
   rfl
 | _=>rfl
theorem I0 {t:Tg} {v:Nat} {x:T} (he:yE Ψ (cpE v) τ=.ok x) (hf:eN 2 x=true):yS Ψ ΨM X n (.set t (cpE v)) τ own=lj (aJ t x τ) (cA X own t (cpE v) x τ):=by
 show ((yE Ψ (cpE v) τ).bind λx=>lj (aJ t x τ) (cA X (dn (gtc X.μ (cpE v) x) own) t (cpE v) x τ))=_
 rw [he,Ou.aa]
 have:gtc X.μ (cpE v) x=λ_ _=>false:=by
   show (if eN 2 x then λ_ _=>false else λi lv=>gts X.μ i lv 0 (cpE v))=_
   rw [if_pos hf]
 rw [this,qp λ_ _ _=>rfl]
theorem xQ (e:E) (hm:kZ X e=false):yS Ψ ΨM X n (.expr e) τ own=(yE Ψ e τ).bind λ_=>.ok (.nx τ (dn (gU X.μ 0 e) own)):=by
 cases e with
 | call f es=>
   cases es with
   | nil=>rfl
   | cons a r=>
     cases a with
     | var v=>exact if_neg (by simpa [kZ,Bk,Bn] using hm)
     | _=>rfl
 | _=>rfl
theorem Dr (v:Nat) (a i e:E):yS Ψ ΨM X n (.put (.ix (.var v) a) i e) τ own=if bz (dn (gP2 X.μ e a i) own) v=2 then
     (yE Ψ e τ).bind λz=>aS (ef (aC τ v)) λxs=>(yE Ψ a τ).bind λp=>aS (intOf p) λp=>aS (L2.ixN xs.length p) λq=>aS (xs[q]?.bind iV) λys=>(yE Ψ i τ).bind λy=>
       sO τ (dn (gP2 X.μ e a i) own) v xs ys q y z
   else .bad:=by rfl
theorem nL (m:Lm) (v:Nat) (es:List E):yS Ψ ΨM X n (.mth m (.var v) es) τ own=aS (ef (aC τ v)) λxs=>if 0 < bz (dn (gUL X.μ 0 es) own) v then (yEs Ψ es τ).bind λds=>sr m τ (dn (gUL X.μ 0 es) own) v xs ds else .bad:=by rfl
theorem Dm (m:Lm) (v:Nat) (a:E) (es:List E):yS Ψ ΨM X n (.mth m (.ix (.var v) a) es) τ own=aS (ef (aC τ v)) λxs=>if bz (dn (gM2 X.μ a es) own) v=2 then
     (yE Ψ a τ).bind λp=>aS (intOf p) λp=>aS (L2.ixN xs.length p) λq=>aS (xs[q]?.bind iV) λys=>(yEs Ψ es τ).bind λds=>xn m τ (dn (gM2 X.μ a es) own) v xs ys ds q
   else .bad:=by rfl
noncomputable def sY (X:Fx) (own:Own) (e:E) (x:T):Ou FlT:=if X.lv=0\/isL x=false then .ok (.rt x) else if X.lv<=(match e with | .var i=>bz own i | e=>min (cU X.μ e) (lvT x)) then .ok (.rt x) else .bad
theorem ba (e:E):yS Ψ ΨM X n (.ret e) τ own=(yE Ψ e τ).bind (sY X own e):=by
 rw [d8]
 congr 1
 funext x
 unfold sY
 split
 · rfl
 · cases e <;> rfl
theorem cZ (c:E) (a b:List S):yS Ψ ΨM X n (.ite c a b) τ own=(yE Ψ c τ).bind λx=>sU x (ySs Ψ ΨM X n a τ (dn (gU X.μ 2 c) own)) (ySs Ψ ΨM X n b τ (dn (gU X.μ 2 c) own)):=by
 rw [dP]
 all_goals first | rfl | (congr 1; funext x; cases x <;> first | rfl | (rename_i z; cases z <;> rfl)) | (congr 1; done)
theorem vm (t:Tg) (it:It) (body:List S):yS Ψ ΨM X n (.for t it body) τ own=((yIt Ψ it τ).bind λxs=>cx (bM Ψ ΨM X n t body) xs τ (dn (gUI X.μ 0 it) own)).noX:=by
 rfl
theorem tw (c:E) (body:List S):yS Ψ ΨM X n (.while c body) τ own=(gu (GJ Ψ c) (gU X.μ 2 c) (Hb Ψ ΨM X n body) n τ own).noX:=by
 rfl
theorem ax:ySs Ψ ΨM X n [] τ own=.ok (.nx τ own):=by rw [ySs]
noncomputable def Gp (r:FlT) (k:ak->Own->Ou FlT):Ou FlT:=match r with
 | .nx τ own=>k τ own
 | r=>.ok r
theorem aq (s:S) (ss:List S):ySs Ψ ΨM X n (s :: ss) τ own=(yS Ψ ΨM X n s τ own).bind λr=>Gp r (ySs Ψ ΨM X n ss):=by
 rw [ySs]
 all_goals first | rfl | (congr 1; funext r; cases r <;> rfl) | (congr 1; done)
end
theorem aZ (τ:ak) (own:Own) (k:ak->Own->Ou FlT):Gp (.nx τ own) k=k τ own:=rfl
theorem aM (d:T) (k:ak->Own->Ou FlT):Gp (.rt d) k=.ok (.rt d):=rfl
theorem bC (τ:ak) (own:Own):lj (some τ) own=.ok (.nx τ own):=rfl
theorem aF {α β:Type} (a:α) (f:α->Ou β):aS (some a) f=f a:=rfl
theorem uT (xs:List T):ef (.ok (.lst xs))=some xs:=rfl
theorem lC (r:Ou T):FH (.bl true) r=r:=rfl
theorem ph (r:Ou T):FH (.bl false) r=.ok (.bl false):=rfl
theorem zA (r:Ou T):orT (.bl true) r=.ok (.bl true):=rfl
theorem mH (r:Ou T):orT (.bl false) r=r:=rfl
theorem gy {α:Type} (r s:Ou α):sU (.bl true) r s=r:=rfl
theorem i5 {α:Type} (r s:Ou α):sU (.bl false) r s=s:=rfl
theorem Iu (r:Ou T):chT (some true) r=r:=rfl
theorem Ig (r:Ou T):chT (some false) r=.ok (.bl false):=rfl
theorem fH (b:Bool):Ia (.bl b)=.ok (.bl (!b)):=rfl
theorem Ga (b:Int):IU (.int b)=.ok (.int (-b)):=rfl
theorem aV (b:Bool):ofB (some b)=.ok (.bl b):=rfl
theorem so (t:Ty) (i:Int):uR t (.int i)=.ok (.bl (iD t (.int i))):=rfl
theorem wD (t:Ty) (i:Bool):uR t (.bl i)=.ok (.bl (iD t (.bl i))):=rfl
theorem rN (t:Ty):uR t .non=.ok (.bl (iD t .non)):=rfl
theorem qD (t:Ty) (x:Str):uR t (.str x)=.ok (.bl (iD t (.str x))):=rfl
theorem ia (t:Ty) (x:List T):uR t (.tup x)=.ok (.bl (iD t (.tup x))):=rfl
theorem nD (t:Ty) (x:List T):uR t (.lst x)=.ok (.bl (iD t (.lst x))):=rfl
theorem me (xs:List T):ID (.lst xs)=.ok xs:=rfl
theorem ES (xs:List T):enT (.lst xs)=.ok (je 0 xs):=rfl
theorem qK (lv mv:Nat) (d:T):bp ⟨false,lv,mv⟩ (.ok (.rt d))=.ok d:=rfl
theorem bI (md:Md) (b:Bool):bp md (.ok (.rt (.bl b)))=.ok (.bl b):=by cases md; rename_i s _ _; cases s <;> rfl
theorem gF (md:Md) (b:Int):bp md (.ok (.rt (.int b)))=.ok (.int b):=by cases md; rename_i s _ _; cases s <;> rfl
theorem bq (μ:Nat->Md) (need:List Nat) (own:Own) (e:E) (x:T):sY ⟨μ,need,0⟩ own e x=.ok (.rt x):=if_pos (.inl rfl)
theorem Df (μ:Nat->Md) (lv:Nat) (own:Own) (t:Tg) (e:E) (x:T) (τ:ak):cA ⟨μ,[],lv⟩ own t e x τ=dn (frg t) own:=by cases t <;> rfl
theorem aY (g:Nat->Nat->Bool):dn g []=[]:=rfl
theorem nC (g:Nat->Nat->Bool) (i lv:Nat) (r:Own):dn g ((i,lv) :: r)=if g i lv then (if lv=2/\g i 1=false then (i,1) :: dn g r else dn g r) else (i,lv) :: dn g r:=by rw [dn]
theorem wU (f:List T->T):oA f []=.ok (f []):=rfl
theorem yp (f:List T->T) (a b:T):oA f [a,b]=.ok (f [a,b]):=rfl
theorem Ee (f:List T->T) (a b c d:T):oA f [a,b,c,d]=.ok (f [a,b,c,d]):=rfl
theorem nh (i:Int):eqK (.int i):=⟨rfl,Nat.zero_le _⟩
theorem a6 (i j:Int):zC .eq (.int i) (.int j)=some (decide (i=j)):=by
 show (if eqK (.int i)/\eqK (.int j) then some (eqT (.int i) (.int j)) else none)=_
 rw [if_pos ⟨nh i,nh j⟩,eqT,Bool.beq_eq_decide_eq]
theorem bA (i j:Int):zC .ne (.int i) (.int j)=some (!decide (i=j)):=by
 show (if eqK (.int i)/\eqK (.int j) then some (!eqT (.int i) (.int j)) else none)=_
 rw [if_pos ⟨nh i,nh j⟩,eqT,Bool.beq_eq_decide_eq]
theorem gP (i j:Int):zC .lt (.int i) (.int j)=some (decide (i < j)):=rfl
theorem l9 (i j:Int):zC .le (.int i) (.int j)=some (decide (i<=j)):=rfl
theorem zr (i j:Int):zC .gt (.int i) (.int j)=some (decide (j < i)):=rfl
theorem fm (i j:Int):zC .ge (.int i) (.int j)=some (decide (j<=i)):=rfl
theorem qU (i j:Int):z2 .add (.int i) (.int j)=.ok (.int (i + j)):=rfl
theorem jb {i j:Int} (h:0 < j):z2 .mod (.int i) (.int j)=.ok (.int (i % j)):=by
 show (if j ≠ 0 then Ou.ok (T.int (i.fmod j)) else .bad)=_
 rw [if_pos (by omega),Int.fmod_eq_emod_of_nonneg i (by omega)]
theorem xH {α:Type} {xs:List α} {k:Nat} {d:α} (h:xs[k]?=some d):L2.atI xs (k:Int)=some d:=by
 have hl:=(List.getElem?_eq_some_iff.mp h).1
 unfold L2.atI L2.ixN
 rw [if_pos (by omega),if_pos (by omega)]
 simpa using h
theorem iZ {xs:List T} {k:Nat} {d:T} (h:xs[k]?=some d):zI (.lst xs) (.int (k:Nat))=.ok d:=by
 rw [zI,xH h]
theorem zP {xs:List T} {k:Nat} {d:T} (h:xs[k]?=some d):zI (.tup xs) (.int (k:Nat))=.ok d:=by
 rw [zI,xH h]
theorem EZ (x0:T) (xs:List T):zI (.lst (x0 :: xs)) (.int 0)=.ok x0:=iZ (k:=0) rfl
theorem qc (x0:T) (xs:List T):zI (.tup (x0 :: xs)) (.int 0)=.ok x0:=zP (k:=0) rfl
theorem Ir (x0 x1:T) (xs:List T):zI (.lst (x0 :: x1 :: xs)) (.int 1)=.ok x1:=iZ (k:=1) rfl
theorem t5 (x0 x1:T) (xs:List T):zI (.tup (x0 :: x1 :: xs)) (.int 1)=.ok x1:=zP (k:=1) rfl
theorem Jc (x0 x1 x2:T) (xs:List T):zI (.lst (x0 :: x1 :: x2 :: xs)) (.int 2)=.ok x2:=iZ (k:=2) rfl
theorem IM (x0 x1 x2 x3:T) (xs:List T):zI (.lst (x0 :: x1 :: x2 :: x3 :: xs)) (.int 3)=.ok x3:=iZ (k:=3) rfl
noncomputable def big:Nat:=10 ^ 2700
theorem nF {n:Nat} (h:n < big):n.log2 < 9000:=by
 rcases Nat.eq_zero_or_pos n with h0 | hp
 · subst h0; decide
 · refine (Nat.log2_lt (by omega)).mpr (Nat.lt_of_lt_of_le h ?_)
   unfold big
   exact Nat.le_of_ble_eq_true (by decide +kernel)
theorem jw {n:Nat} (h:n < 10 ^ 200):n < big:=Nat.lt_of_lt_of_le h (Nat.pow_le_pow_right (by decide) (by decide))
theorem tY {j:Int} (h0:j ≠ 0) (h:j.natAbs < big):aK j:=⟨h0,nF h⟩
theorem mulOk_of {i j:Int} (h:i.natAbs < big) (h':j.natAbs < big):aA i j:=.inr (.inr ⟨Nat.lt_of_lt_of_le (nF h) (by decide),Nat.lt_of_lt_of_le (nF h') (by decide)⟩)
theorem dH {i j:Int} (h:j.natAbs < 2 ^ 64):aA i j:=.inr (.inl (by
 rcases Nat.eq_zero_or_pos j.natAbs with h0 | hp
 · rw [h0]; decide
 · exact (Nat.log2_lt (by omega)).mpr h))
theorem cG {i j:Int} (h:i.natAbs < 2 ^ 64):aA i j:=.inl (by
 rcases Nat.eq_zero_or_pos i.natAbs with h0 | hp
 · rw [h0]; decide
 · exact (Nat.log2_lt (by omega)).mpr h)
theorem fR {i j:Int} (h:0 < j) (h':j.natAbs < big):z2 .fdiv (.int i) (.int j)=.ok (.int (i / j)):=by
 show (if aK j then Ou.ok (T.int (i.fdiv j)) else .bad)=_
 rw [if_pos (tY (by omega) h'),Int.fdiv_eq_ediv_of_nonneg i (by omega)]
theorem ou {i j:Int} (h:j ≠ 0) (h':j.natAbs < big):z2 .fdiv (.int i) (.int j)=.ok (.int (i.fdiv j)):=by
 show (if aK j then Ou.ok (T.int (i.fdiv j)) else .bad)=_
 rw [if_pos (tY h h')]
theorem dQ {i j:Int} (h:aA i j):z2 .mul (.int i) (.int j)=.ok (.int (i * j)):=by
 show (if aA i j then Ou.ok (T.int (i * j)) else .bad)=_
 rw [if_pos h]
theorem FO {i:Int} {n:Nat} (h:n<=1000000) (h':i.natAbs < 2 ^ 64):z2 .pow (.int i) (.int (n:Int))=.ok (.int (i ^ n)):=by
 show (if 0<=(n:Int)/\(n:Int)<=1000000/\i.natAbs < 2 ^ 64 then Ou.ok (T.int (i ^ (n:Int).toNat)) else .bad)=_
 rw [if_pos ⟨by omega,by omega,h'⟩]
 rfl
theorem k9 (i:Int):zB .abs [.int i]=.ok (.int (i.natAbs:Int)):=by
 show Ou.ok (T.int (if i < 0 then -i else i))=_
 congr 2
 split <;> omega
theorem eQ (xs:List T):zB .len [.lst xs]=.ok (.int (xs.length:Nat)):=rfl
theorem fG (xs:List T):zB .len [.tup xs]=.ok (.int (xs.length:Nat)):=rfl
theorem Gn (i j:Int):zB .max [.int i,.int j]=.ok (.int (max i j)):=by
 show Ou.ok (T.int (if j > i then j else i))=_
 congr 2; rw [Int.max_def]; split <;> split <;> omega
theorem Ao (i j:Int):zB .min [.int i,.int j]=.ok (.int (min i j)):=by
 show Ou.ok (T.int (if j < i then j else i))=_
 congr 2; rw [Int.min_def]; split <;> split <;> omega
theorem CK (b:Bool):zB .int [.bl b]=.ok (.int (if b then 1 else 0)):=rfl
theorem BS {α:Type} (xs:List α) (f:α->Bool):mX (xs.map λx=>.bl (f x))=some (xs.all f):=by
 induction xs with
 | nil=>rfl
 | cons x xs ih=>simp only [List.map_cons,mX,ih,Option.map_some,List.all_cons]
theorem vx {α:Type} (xs:List α) (f:α->Bool):zB .all [.lst (xs.map λx=>.bl (f x))]=.ok (.bl (xs.all f)):=by
 show ofB (mX _)=_
 rw [BS]; rfl
theorem bt {α:Type} (xs:List α) {g:α->T} {f:T->Ou (Option T)} {k:α->T} (h:∀ x ∈ xs,f (g x)=.ok (some (k x))):cq f (xs.map g)=.ok (xs.map k):=by
 induction xs with
 | nil=>rfl
 | cons x xs ih=>
   rw [List.map_cons,cq,h x (List.mem_cons_self ..),ih λy hy=>h y (List.mem_cons_of_mem _ hy)]
   rfl
theorem wJ (xs:List T) {f:T->Ou (Option T)} {k:T->T} (h:∀ x ∈ xs,f x=.ok (some (k x))):cq f xs=.ok (xs.map k):=by
 have:=bt (g:=id) xs h
 rwa [List.map_id] at this
theorem Bo (a b:Nat) (h:b ≠ 0):Nat.gcd b (a % b)=Nat.gcd a b:=by
 rw [Nat.gcd_comm a b,Nat.gcd_rec b a,Nat.gcd_comm]
noncomputable def xZ (r:FlT) (k:ak->Own->Ou FlT):Ou FlT:=match r with
 | .nx τ own=>k τ own
 | .rt d=>.ok (.rt d)
theorem dY (τ:ak) (own:Own) (k:ak->Own->Ou FlT):xZ (.nx τ own) k=k τ own:=rfl
theorem AH (d:T) (k:ak->Own->Ou FlT):xZ (.rt d) k=.ok (.rt d):=rfl
theorem eo (f:T->ak->Own->Ou FlT) (τ:ak) (own:Own):cx f [] τ own=.ok (.nx τ own):=by rw [cx]
theorem bY (f:T->ak->Own->Ou FlT) (x:T) (xs:List T) (τ:ak) (own:Own):cx f (x :: xs) τ own=(f x τ own).bind λr=>xZ r (cx f xs):=by
 rw [cx]
 all_goals first | rfl | (congr 1; funext r; cases r <;> rfl) | (congr 1; done)
theorem tE (c:ak->Ou T) (g:Nat->Nat->Bool) (f:ak->Own->Ou FlT) (n:Nat) (τ:ak) (own:Own) :
   gu c g f (n + 1) τ own=(c τ).bind λx=>sU x ((f τ (dn g own)).bind λr=>xZ r (gu c g f n)) (.ok (.nx τ (dn g own))):=by
 rw [gu]
 all_goals first | rfl | (congr 1; done) | (congr 1; funext x; cases x <;> first | rfl | (rename_i z; cases z <;> first | rfl | (show Ou.bind _ _=Ou.bind _ _; congr 1; funext r; cases r <;> rfl)))
theorem uN (Ψ ΨM:FnT) (X:Fx) (n:Nat) (c:E) (body:List S) (g:Nat->Nat->Bool) (mkE:T->T->Option T->ak)
   (hc:∀ (a b:Nat) r,yE Ψ c (mkE (.int a) (.int b) r)=.ok (.bl (decide (b ≠ 0))))
   (hb:∀ (a b:Nat) r,b ≠ 0->ySs Ψ ΨM X n body (mkE (.int a) (.int b) r) []=.ok (.nx (mkE (.int b) (.int ((a % b:Nat):Int)) (some (.int ((a % b:Nat):Int)))) [])) :
   ∀ (m a b:Nat) (r:Option T),b < m->∃ r',gu (GJ Ψ c) g (Hb Ψ ΨM X n body) m (mkE (.int a) (.int b) r) []=.ok (.nx (mkE (.int (Nat.gcd a b:Nat)) (.int 0) r') []):=by
 intro m
 induction m with
 | zero=>intro a b r h; omega
 | succ m ih=>
   intro a b r h
   rw [tE,CQ,hc,Ou.aa]
   by_cases hb0:b=0
   · subst hb0
     exact ⟨r,by rw [Nat.gcd_zero_right]; rfl⟩
   · obtain ⟨r',e⟩:=ih b (a % b) (some (.int ((a % b:Nat):Int))) (by have:=Nat.mod_lt a (show 0 < b by omega); omega)
     refine ⟨r',?_⟩
     rw [decide_eq_true hb0,gy,aY,Ez,hb a b r hb0,Ou.aa,dY,e,Bo a b hb0]
noncomputable def lu:List S:=[.set (.nm 0) (.bi .abs [(.var 0)]),.set (.nm 1) (.bi .abs [(.var 1)]),.while (.cmp .gt (.var 1) (.cI 0)) [.set (.nm 2) (.op .mod (.var 0) (.var 1)),.set (.nm 0) (.var 1),.set (.nm 1) (.var 2)],.ret (.var 0)]
noncomputable def oX:List S:=[.set (.nm 2) (.bi .abs [(.var 0)]),.set (.nm 3) (.bi .abs [(.var 1)]),.while (.cmp .ne (.var 3) (.cI 0)) [.set (.nm 4) (.op .mod (.var 2) (.var 3)),.set (.nm 2) (.var 3),.set (.nm 3) (.var 4)],.ret (.var 2)]
theorem xx (a b:Nat) (h:b ≠ 0):z2 .mod (.int (a:Int)) (.int (b:Int))=.ok (.int ((a % b:Nat):Int)):=by
 rw [jb (by omega)]; rfl
theorem nG (Ψ ΨM:FnT) (μ:Nat->Md) (sc:Bool) (a b:Int):mkT Ψ ΨM μ ⟨sc,0,0⟩ [] lu 2 3 [.int a,.int b]=.ok (.int (Int.gcd a b:Nat)):=by
 obtain ⟨r',e⟩:=uN Ψ ΨM ⟨μ,[],0⟩ (aN [.int a,.int b]) (.cmp .gt (.var 1) (.cI 0)) [.set (.nm 2) (.op .mod (.var 0) (.var 1)),.set (.nm 0) (.var 1),.set (.nm 1) (.var 2)] (gU μ 2 (.cmp .gt (.var 1) (.cI 0))) (λx y r=>[some x,some y,r])
   (λa b r=>by
     simp only [az,b8,cY,aV,Ou.aa,aC,zr,List.getElem?_cons_zero,List.getElem?_cons_succ]
     congr 2
     exact decide_eq_decide.mpr (by omega))
   (λa b r hb=>by simp only [az,gB,ei,ax,aq,tP,yn,nB,si,aZ,bC,aY,Ou.aa,aC,aJ.eq_def,cA,List.getElem?_cons_zero,List.getElem?_cons_succ,List.set_cons_zero,List.set_cons_succ,List.contains_nil,Option.isSome_some,Bool.and_true,Bool.false_eq_true,if_false,Nat.min_def,and_true,xx a b hb]) (aN [.int a,.int b]) a.natAbs b.natAbs none (by simp only [aN,DQ]; omega)
 show bp ⟨sc,0,0⟩ (ySs Ψ ΨM ⟨μ,[],0⟩ _ lu [some (.int a),some (.int b),none] [])=_
 simp only [lu,az,bS,au,ag,ei,tw,aq,wR,t9,aZ,bC,aY,Ou.aa,aC,aJ.eq_def,cA,k9,List.getElem?_cons_zero,List.getElem?_cons_succ,List.set_cons_zero,List.set_cons_succ,List.contains_nil,Option.isSome_some,Bool.and_true,Bool.false_eq_true,if_false,Nat.min_def,and_true]
 simp only [e,az,ba,aq,aZ,aM,gF,bq,Ou.aa,Ou.gi,aC,List.getElem?_cons_zero]
 rfl
theorem yR (Ψ ΨM:FnT) (μ:Nat->Md) (sc:Bool) (a b:Int):mkT Ψ ΨM μ ⟨sc,0,0⟩ [] oX 2 5 [.int a,.int b]=.ok (.int (Int.gcd a b:Nat)):=by
 obtain ⟨r',e⟩:=uN Ψ ΨM ⟨μ,[],0⟩ (aN [.int a,.int b]) (.cmp .ne (.var 3) (.cI 0)) [.set (.nm 4) (.op .mod (.var 2) (.var 3)),.set (.nm 2) (.var 3),.set (.nm 3) (.var 4)] (gU μ 2 (.cmp .ne (.var 3) (.cI 0))) (λx y r=>[some (.int a),some (.int b),some x,some y,r])
   (λa b r=>by
     simp only [az,b8,cY,aV,Ou.aa,aC,bA,List.getElem?_cons_zero,List.getElem?_cons_succ]
     congr 2
     rw [<- decide_not]
     exact decide_eq_decide.mpr (by omega))
   (λa b r hb=>by simp only [az,gB,ei,ax,aq,tP,yn,nB,si,aZ,bC,aY,Ou.aa,aC,aJ.eq_def,cA,List.getElem?_cons_zero,List.getElem?_cons_succ,List.set_cons_zero,List.set_cons_succ,List.contains_nil,Option.isSome_some,Bool.and_true,Bool.false_eq_true,if_false,Nat.min_def,and_true,xx a b hb]) (aN [.int a,.int b]) a.natAbs b.natAbs none (by simp only [aN,DQ]; omega)
 show bp ⟨sc,0,0⟩ (ySs Ψ ΨM ⟨μ,[],0⟩ _ oX [some (.int a),some (.int b),none,none,none] [])=_
 simp only [oX,az,bS,au,ag,ei,tw,aq,wR,t9,aZ,bC,aY,Ou.aa,aC,aJ.eq_def,cA,k9,List.getElem?_cons_zero,List.getElem?_cons_succ,List.set_cons_zero,List.set_cons_succ,List.contains_nil,Option.isSome_some,Bool.and_true,Bool.false_eq_true,if_false,Nat.min_def,and_true]
 simp only [e,az,ba,aq,aZ,aM,gF,bq,Ou.aa,Ou.gi,aC,List.getElem?_cons_zero,List.getElem?_cons_succ]
 rfl
noncomputable def qE:List S:=[.ite (.cmp .lt (.var 1) (.bi .len [(.var 0)])) [.ret (.ix (.var 0) (.var 1))] [],.ret (.cI 0)]
noncomputable def inT (ns:List Int):T:=.lst (ns.map .int)
theorem DR (Ψ ΨM:FnT) (μ:Nat->Md) (sc:Bool) (ns:List Int) (k:Nat):∃ c:Int,mkT Ψ ΨM μ ⟨sc,0,0⟩ [] qE 2 2 [inT ns,.int (k:Nat)]=.ok (.int c):=by
 show ∃ c:Int,bp ⟨sc,0,0⟩ (ySs Ψ ΨM ⟨μ,[],0⟩ _ qE [some (inT ns),some (.int (k:Nat))] [])=_
 unfold inT
 by_cases h:(k:Int) < ((ns.map T.int).length:Nat)
 · have hk':k < ns.length:=by rw [List.length_map] at h; omega
   have g:zI (.lst (ns.map .int)) (.int (k:Nat))=.ok (.int ns[k]):=iZ (by rw [List.getElem?_map,List.getElem?_eq_getElem hk']; rfl)
   exact ⟨ns[k],by simp only [qE,az,cY,jS,bS,au,ag,ba,cZ,ax,aq,aM,gy,aV,gF,bq,aY,Ou.aa,aC,gP,eQ,List.getElem?_cons_zero,List.getElem?_cons_succ,decide_true,h,decide_true,g]⟩
 · exact ⟨0,by simp only [qE,az,b8,cY,jS,bS,au,ag,ba,cZ,ax,aq,aZ,aM,i5,aV,gF,bq,aY,Ou.aa,aC,gP,eQ,List.getElem?_cons_zero,List.getElem?_cons_succ,decide_false,h,decide_false]⟩
noncomputable def qP:List S:=[.ite (.cmp .ge (.bi .abs [(.var 0)]) (.op .pow (.cI 10) (.cI 18))) [.ret (.op .fdiv (.var 0) (.var 1))] [],.ret (.op .add (.var 0) (.var 1))]
theorem zQ (i:Int) (n:Nat) (h':i.natAbs < 2 ^ 64:=by decide) (h:n<=1000000:=by decide):z2 .pow (.int i) (.int (n:Int))=.ok (.int (i ^ n)):=FO h h'
theorem p18:z2 .pow (.int 10) (.int 18)=.ok (.int (10 ^ 18)):=zQ 10 18
theorem p40:z2 .pow (.int 10) (.int 40)=.ok (.int (10 ^ 40)):=zQ 10 40
theorem CS (Ψ ΨM:FnT) (μ:Nat->Md) (sc:Bool) (c u:Int) (h0:0 < u) (h1:u.natAbs < 10 ^ 200):∃ r:Int,mkT Ψ ΨM μ ⟨sc,0,0⟩ [] qP 2 2 [.int c,.int u]=.ok (.int r):=by
 show ∃ c':Int,bp ⟨sc,0,0⟩ (ySs Ψ ΨM ⟨μ,[],0⟩ _ qP [some (.int c),some (.int u)] [])=_
 by_cases h:(10:Int) ^ 18<=(c.natAbs:Int)
 · exact ⟨c / u,by simp only [qP,az,b8,gB,cY,bS,au,ag,ba,cZ,ax,aq,aM,gy,aV,gF,bq,aY,Ou.aa,aC,fm,k9,List.getElem?_cons_zero,List.getElem?_cons_succ,decide_true,p18,h,decide_true,fR h0 (jw h1)]⟩
 · exact ⟨c + u,by simp only [qP,az,b8,gB,cY,bS,au,ag,ba,cZ,ax,aq,aZ,aM,i5,aV,gF,bq,aY,Ou.aa,aC,fm,qU,k9,List.getElem?_cons_zero,List.getElem?_cons_succ,decide_false,p18,h,decide_false]⟩
noncomputable def Dig:List Int->List Int->Prop
 | [],[]=>True
 | r :: rs,b :: bs=>(0<=r/\r < b)/\Dig rs bs
 | _,_=>False
theorem Dig.length:∀ {rs bs:List Int},Dig rs bs->rs.length=bs.length
 | [],[],_=>rfl
 | _ :: _,_ :: _,h=>congrArg (· + 1) h.2.length
theorem Ja (l:List T) (d:T):(l++[d]).length=l.length + 1:=by rw [List.length_append,List.length_singleton]
theorem BR {l:List T} {d:T} (h:l.length < ae):zM .append l [d]=some (l++[d]):=by
 show (if l.length < ae then some (l++[d]) else none)=_
 rw [if_pos h]
noncomputable def xN:List S:=[.mth .append (.var 2) [(.op .mod (.var 0) (.var 3))],.set (.nm 0) (.op .fdiv (.var 0) (.var 3))]
noncomputable def my:List S:=[.set (.nm 5) (.op .mod (.op .add (.op .add (.op .add (.op .mul (.var 0) (.cI 48271)) (.op .mul (.op .mul (.var 4) (.var 4)) (.cI 69621))) (.op .mul (.var 4) (.cI 16807))) (.cI 11)) (.cI 2147483647)),.mth .append (.var 2) [(.op .mod (.op .fdiv (.op .mod (.op .add (.op .add (.op .mul (.var 5) (.cI 40692)) (.var 0)) (.op .mul (.cI 31) (.var 4))) (.cI 2147483399)) (.cI 7)) (.var 3))]]
noncomputable def jr:List S:=[.set (.nm 2) (.lst []),.ite (.cmp .ge (.bi .abs [(.var 0)]) (.op .pow (.cI 10) (.cI 18))) [.for (.nm 3) (.seq (.var 1)) xN,.ret (.var 2)] [],.for (.tp [4,3]) (.enu (.var 1)) my,.ret (.var 2)]
theorem qv (Ψ ΨM:FnT) (μ:Nat->Md) (n:Nat):∀ (bs:List Int) (c:Int) (x r3 r4 r5:Option T) (row:List T),(∀ b ∈ bs,0 < b/\b.natAbs < big)->row.length + bs.length < ae ->
   ∃ (rs:List Int) (c':Int) (r3':Option T),Dig rs bs/\cx (bM Ψ ΨM ⟨μ,[2],0⟩ n (.nm 3) xN) (bs.map T.int) [some (.int c),x,some (.lst row),r3,r4,r5] [(2,1)]
     = .ok (.nx [some (.int c'),x,some (.lst (row++rs.map T.int)),r3',r4,r5] [(2,1)])
 | [],c,x,r3,r4,r5,row,_,_=>⟨[],c,r3,trivial,by simp only [List.map_nil,eo,List.append_nil]⟩
 | b :: bs,c,x,r3,r4,r5,row,hb,hl=>by
   obtain ⟨h0,h1⟩:=hb b (by simp)
   simp only [List.length_cons] at hl
   obtain ⟨rs,c',r3',dg,e⟩:=qv Ψ ΨM μ n bs (c / b) x (some (.int b)) r4 r5 (row++[.int (c % b)]) (λy hy=>hb y (by simp [hy])) (by rw [Ja]; omega)
   refine ⟨(c % b) :: rs,c',r3',⟨⟨Int.emod_nonneg _ (by omega),Int.emod_lt_of_pos _ h0⟩,dg⟩,?_⟩
   have hlt:row.length < ae:=by omega
   rw [List.map_cons,bY]
   have e1:bM Ψ ΨM ⟨μ,[2],0⟩ n (.nm 3) xN (.int b) [some (.int c),x,some (.lst row),r3,r4,r5] [(2,1)]=.ok (.nx [some (.int (c / b)),x,some (.lst (row++[.int (c % b)])),some (.int b),r4,r5] [(2,1)]):=by
     simp only [xN,az,gB,au,ag,ei,nL,ax,aq,nB,Cp,aZ,bC,aF,uT,aY,nC,Ou.aa,aC,aJ.eq_def,cA,frg,bz,yj,BU,gts,bX,tgN,sr,oU,List.getElem?_cons_zero,List.getElem?_cons_succ,List.set_cons_zero,List.set_cons_succ,List.contains_cons,List.contains_nil,List.lookup_cons,Option.getD_some,Option.isSome_some,Bool.and_true,Bool.and_false,Bool.or_false,Bool.false_eq_true,if_true,if_false,beq_self_eq_true,Nat.reduceBEq,Nat.reduceLT,Nat.min_def,Nat.lt_irrefl,decide_false,and_true,and_false,Nat.reduceEqDiff,jb h0,fR h0 h1,BR hlt]
   rw [e1,Ou.aa,dY,e]
   simp only [List.append_assoc,List.cons_append,List.nil_append,List.map_cons]
theorem p8 (Ψ ΨM:FnT) (μ:Nat->Md) (n:Nat):∀ (bs:List Int) (k:Nat) (c:Int) (x r3 r4 r5:Option T) (row:List T),(∀ b ∈ bs,0 < b/\b.natAbs < big)->row.length + bs.length < ae->k + bs.length < ae ->
   ∃ (rs:List Int) (r3' r4' r5':Option T),Dig rs bs/\cx (bM Ψ ΨM ⟨μ,[2],0⟩ n (.tp [4,3]) my) (je k (bs.map T.int)) [some (.int c),x,some (.lst row),r3,r4,r5] [(2,1)]
     = .ok (.nx [some (.int c),x,some (.lst (row++rs.map T.int)),r3',r4',r5'] [(2,1)])
 | [],k,c,x,r3,r4,r5,row,_,_,_=>⟨[],r3,r4,r5,trivial,by simp only [List.map_nil,je,eo,List.append_nil]⟩
 | b :: bs,k,c,x,r3,r4,r5,row,hb,hl,hk=>by
   obtain ⟨h0,h1⟩:=hb b (by simp)
   simp only [List.length_cons] at hl hk
   have hlt:row.length < ae:=by omega
   have lm:ae=1000000:=rfl
   have kk:(k:Int) < 1000000:=by omega
   have k2:(k:Int) * (k:Int) < 1000000 * 1000000:=by
     rcases Nat.eq_zero_or_pos k with z | z
     · subst z; decide
     · exact Int.mul_lt_mul kk (by omega) (by omega) (by decide)
   have k3:(0:Int)<=(k:Int) * (k:Int):=Int.mul_nonneg (by omega) (by omega)
   have m1:z2 .mul (.int c) (.int 48271)=.ok (.int (c * 48271)):=dQ (dH (by decide))
   have m2:z2 .mul (.int (k:Int)) (.int (k:Int))=.ok (.int ((k:Int) * (k:Int))):=dQ (dH (by omega))
   have m3:z2 .mul (.int ((k:Int) * (k:Int))) (.int 69621)=.ok (.int ((k:Int) * (k:Int) * 69621)):=dQ (dH (by decide))
   have m4:z2 .mul (.int (k:Int)) (.int 16807)=.ok (.int ((k:Int) * 16807)):=dQ (dH (by decide))
   have m5:∀ z:Int,z2 .mul (.int z) (.int 40692)=.ok (.int (z * 40692)):=λz=>dQ (dH (by decide))
   have m6:z2 .mul (.int 31) (.int (k:Int))=.ok (.int (31 * (k:Int))):=dQ (cG (by decide))
   have m7:∀ z:Int,z2 .mod (.int z) (.int 2147483647)=.ok (.int (z % 2147483647)):=λz=>jb (by decide)
   have m8:∀ z:Int,z2 .mod (.int z) (.int 2147483399)=.ok (.int (z % 2147483399)):=λz=>jb (by decide)
   have m9:∀ z:Int,z2 .fdiv (.int z) (.int 7)=.ok (.int (z / 7)):=λz=>fR (by decide) (jw (by decide))
   generalize hv:((((c * 48271 + (k:Int) * (k:Int) * 69621 + (k:Int) * 16807 + 11) % 2147483647 * 40692 + c + 31 * (k:Int)) % 2147483399 / 7) % b)=v
   obtain ⟨rs,r3',r4',r5',dg,e⟩:=p8 Ψ ΨM μ n bs (k + 1) c x (some (.int b)) (some (.int (k:Int))) (some (.int ((c * 48271 + (k:Int) * (k:Int) * 69621 + (k:Int) * 16807 + 11) % 2147483647))) (row++[.int v]) (λy hy=>hb y (by simp [hy])) (by rw [Ja]; omega) (by omega)
   refine ⟨v :: rs,r3',r4',r5',⟨⟨by rw [<- hv]; exact Int.emod_nonneg _ (by omega),by rw [<- hv]; exact Int.emod_lt_of_pos _ h0⟩,dg⟩,?_⟩
   rw [List.map_cons,je,bY]
   have e1:bM Ψ ΨM ⟨μ,[2],0⟩ n (.tp [4,3]) my (.tup [.int (k:Nat),.int b]) [some (.int c),x,some (.lst row),r3,r4,r5] [(2,1)]=.ok (.nx [some (.int c),x,some (.lst (row++[.int v])),some (.int b),some (.int (k:Int)),some (.int ((c * 48271 + (k:Int) * (k:Int) * 69621 + (k:Int) * 16807 + 11) % 2147483647))] [(2,1)]):=by
     simp only [my,az,b8,gB,au,ag,ei,nL,ax,aq,nB,si,aZ,bC,aF,uT,aY,nC,Ou.aa,aC,aJ.eq_def,nZ,cA,frg,bz,yj,BU,gts,bX,tgN,sr,qU,oU,List.getElem?_cons_zero,List.getElem?_cons_succ,List.set_cons_zero,List.set_cons_succ,List.contains_cons,List.contains_nil,List.lookup_cons,Option.getD_some,Option.isSome_some,Bool.and_true,Bool.and_false,Bool.or_false,Bool.false_eq_true,if_true,if_false,beq_self_eq_true,Nat.reduceBEq,Nat.reduceLT,Nat.min_def,Nat.lt_irrefl,decide_false,and_true,and_false,Nat.reduceEqDiff,m1,m2,m3,m4,m5,m6,m7,m8,m9,jb h0,BR hlt,hv]
   rw [e1,Ou.aa,dY,e]
   simp only [List.append_assoc,List.cons_append,List.nil_append,List.map_cons]
theorem vS (Ψ ΨM:FnT) (μ:Nat->Md) (c:Int) (bs:List Int) (hb:∀ b ∈ bs,0 < b/\b.natAbs < 10 ^ 200) (hl:bs.length < ae):∃ rs:List Int,Dig rs bs/\mkT Ψ ΨM μ ⟨false,0,0⟩ [2] jr 2 6 [.int c,inT bs]=.ok (inT rs):=by
 have hb':∀ b ∈ bs,0 < b/\b.natAbs < big:=λb h=>⟨(hb b h).1,jw (hb b h).2⟩
 show ∃ rs:List Int,Dig rs bs/\bp ⟨false,0,0⟩ (ySs Ψ ΨM ⟨μ,[2],0⟩ _ jr [some (.int c),some (.lst (bs.map .int)),none,none,none,none] [])=.ok (.lst (rs.map .int))
 by_cases h:(10:Int) ^ 18<=(c.natAbs:Int)
 · obtain ⟨rs,c',r3',dg,e⟩:=qv Ψ ΨM μ (aN [.int c,inT bs]) bs c (some (.lst (bs.map T.int))) none none none [] hb' (by simpa using hl)
   refine ⟨rs,dg,?_⟩
   simp only [jr,az,b8,gB,cY,oO,bS,au,ag,dR,ei,cZ,vm,ax,aq,tL,xU,yb,aZ,bC,gy,aV,me,aY,nC,wU,Ou.aa,aC,aJ.eq_def,cA,yj,Al,gts,bX,eW,fm,k9,List.getElem?_cons_zero,List.getElem?_cons_succ,List.set_cons_zero,List.set_cons_succ,List.contains_cons,List.contains_nil,List.all_nil,Option.isSome_some,Bool.and_true,Bool.and_false,Bool.or_false,Bool.false_eq_true,if_true,if_false,beq_self_eq_true,Nat.reduceBEq,Nat.reduceLT,Nat.min_def,Nat.lt_irrefl,decide_true,decide_false,and_true,and_false,reduceCtorEq,Nat.reduceEqDiff,Nat.reduceLeDiff,p18,h,decide_true]
   simp only [e,az,ba,aq,aZ,aM,qK,bq,Ou.aa,Ou.gi,aC,List.getElem?_cons_zero,List.getElem?_cons_succ,List.nil_append]
 · obtain ⟨rs,r3',r4',r5',dg,e⟩:=p8 Ψ ΨM μ (aN [.int c,inT bs]) bs 0 c (some (.lst (bs.map T.int))) none none none [] hb' (by simpa using hl) (by simpa using hl)
   refine ⟨rs,dg,?_⟩
   simp only [jr,az,b8,gB,cY,oO,bS,au,ag,dR,xh,ei,cZ,vm,ax,aq,tL,xU,yb,aZ,bC,i5,aV,me,ES,aY,nC,wU,Ou.aa,aC,aJ.eq_def,cA,yj,Al,gts,bX,eW,fm,k9,List.getElem?_cons_zero,List.getElem?_cons_succ,List.set_cons_zero,List.set_cons_succ,List.contains_cons,List.contains_nil,List.all_nil,Option.isSome_some,Bool.and_true,Bool.and_false,Bool.or_false,Bool.false_eq_true,if_true,if_false,beq_self_eq_true,Nat.reduceBEq,Nat.reduceLT,Nat.min_def,Nat.lt_irrefl,decide_true,decide_false,and_true,and_false,reduceCtorEq,Nat.reduceEqDiff,Nat.reduceLeDiff,p18,h,decide_false]
   simp only [e,az,ba,aq,aZ,aM,qK,bq,Ou.aa,Ou.gi,aC,List.getElem?_cons_zero,List.getElem?_cons_succ,List.nil_append]
structure Low (t b:Int):Prop where
 pos:1<=b
 cop:Int.gcd t b=1
noncomputable def rL (t b:Int):T:=.tup [.int t,.int b]
noncomputable def w6 (Ψ:FnT) (dv:Nat):Prop:=∀ a b:Int,Ψ dv [.int a,.int b]=.ok (.int (Int.gcd a b:Nat))
theorem zz (t b:Int) (hb:b ≠ 0):Int.gcd t b<=b.natAbs:=Nat.le_of_dvd (by omega) (Int.natAbs_dvd_natAbs.mpr (Int.gcd_dvd_right t b))
noncomputable def wy (dv:Nat):List S:=[.set (.nm 2) (.call dv [(.var 0),(.var 1)]),.ret (.tup [(.op .fdiv (.var 0) (.var 2)),(.op .fdiv (.var 1) (.var 2))])]
theorem DB (sc:Bool) (a b:Int):bp ⟨sc,0,0⟩ (.ok (.rt (.tup [.int a,.int b])))=.ok (rL a b):=by cases sc <;> rfl
theorem Ey {Ψ ΨM:FnT} {μ:Nat->Md} {sc:Bool} {dv:Nat} (hmv:(μ dv).mv=0) (hd:w6 Ψ dv) (t b:Int) (hb:0 < b) (hs:b.natAbs < big):mkT Ψ ΨM μ ⟨sc,0,0⟩ [] (wy dv) 2 3 [.int t,.int b]=.ok (rL (t / (Int.gcd t b:Int)) (b / (Int.gcd t b:Int))):=by
 have hg:0 < Int.gcd t b:=Int.gcd_pos_of_ne_zero_right _ (by omega)
 have hl:=zz t b (by omega)
 have d1:∀ i:Int,z2 .fdiv (.int i) (.int (Int.gcd t b:Int))=.ok (.int (i / (Int.gcd t b:Int))):=λi=>fR (by omega) (by rw [Int.natAbs_natCast]; omega)
 show bp ⟨sc,0,0⟩ (ySs Ψ ΨM ⟨μ,[],0⟩ _ (wy dv) [some (.int t),some (.int b),none] [])=_
 simp only [wy,az,gB,B8,bE,au,ag,ei,ba,aq,qg,zv,AV,As,aZ,aM,bC,bq,aY,yp,Ou.aa,aC,aJ.eq_def,cA,List.getElem?_cons_zero,List.getElem?_cons_succ,List.set_cons_zero,List.set_cons_succ,List.contains_nil,Option.isSome_some,Bool.and_true,Bool.and_false,Bool.false_eq_true,if_false,Nat.min_def,Nat.lt_irrefl,decide_false,and_true,and_false,hmv,hd t b,d1,DB]
theorem j1 (i:Int) (j:Int) (h:0 < j:=by decide):z2 .mod (.int i) (.int j)=.ok (.int (i % j)):=jb h
mutual
noncomputable def nx:T->Bool
 | .exo _=>false
 | .tup xs=>nxs xs
 | .lst xs=>nxs xs
 | _=>true
noncomputable def nxs:List T->Bool
 | []=>true
 | x :: xs=>nx x && nxs xs
end
theorem qz:∀ {xs:List T} {x:T},nxs xs=true->x ∈ xs->nx x=true
 | y :: ys,x,h,hx=>by
   rw [nxs,Bool.and_eq_true] at h
   rcases List.mem_cons.mp hx with rfl | hx
   · exact h.1
   · exact qz h.2 hx
theorem Ci:∀ {xs:List T},(∀ x ∈ xs,nx x=true)->nxs xs=true
 | [],_=>rfl
 | x :: xs,h=>by rw [nxs,h x (List.mem_cons_self ..),Ci λy hy=>h y (List.mem_cons_of_mem _ hy)]; rfl
theorem AF {xs:List T} (h:∀ x ∈ xs,nx x=true):nx (.lst xs)=true:=by rw [nx]; exact Ci h
theorem EU {xs:List T} (h:nx (.lst xs)=true):∀ x ∈ xs,nx x=true:=λx hx=>qz (by rwa [nx] at h) hx
theorem Cw {xs:List T} (h:nx (.tup xs)=true):∀ x ∈ xs,nx x=true:=λx hx=>qz (by rwa [nx] at h) hx
noncomputable def qT:T->Bool
 | .int _=>true
 | _=>false
theorem uL {d:T} (h:qT d=true):∃ i,d=.int i:=by
 cases d with
 | int i=>exact ⟨i,rfl⟩
 | _=>cases h
noncomputable def rY:List S:=[.ret (.and (.isi (.var 0) .int) (.not (.isi (.var 0) .bool)))]
noncomputable def HN (Ψ:FnT) (w:Nat):Prop:=∀ d,nx d=true->Ψ w [d]=.ok (.bl (qT d))
theorem pd {Ψ ΨM:FnT} {μ:Nat->Md} {sc:Bool} (d:T) (h:nx d=true):mkT Ψ ΨM μ ⟨sc,0,0⟩ [] rY 1 1 [d]=.ok (.bl (qT d)):=by
 show bp ⟨sc,0,0⟩ (ySs Ψ ΨM ⟨μ,[],0⟩ _ rY [some d] [])=_
 cases d <;> first | (simp [nx] at h; done) | (simp only [rY,az,fA,gg,fJ,ba,aq,aM,lC,ph,fH,so,wD,rN,qD,ia,nD,bI,bq,Ou.aa,aC,iD.eq_def,List.getElem?_cons_zero,Bool.not_true,Bool.not_false,qT])
noncomputable def oY:T->Bool
 | .tup [.int a,.int b]=>decide (1<=b) && decide (Int.gcd a b=1)
 | _=>false
theorem Bu {xs:List T} (h:xs.length ≠ 2):oY (.tup xs)=false:=by
 match xs,h with
 | [],_=>rfl
 | [a],_=>cases a <;> rfl
 | [a,b],h=>simp at h
 | a :: b :: c :: r,_=>cases a <;> first | rfl | (cases b <;> rfl)
theorem tI {a b:T} (h:(qT a && qT b)=false):oY (.tup [a,b])=false:=by
 cases a <;> cases b <;> first | rfl | (simp [qT] at h)
noncomputable def gc (wh cd:Nat):List S:=[.ite (.or (.not (.isi (.var 0) .tuple)) (.cmp .ne (.bi .len [(.var 0)]) (.cI 2))) [.ret (.cB false)] [],.ite (.or (.not (.call wh [(.ix (.var 0) (.cI 0))])) (.not (.call wh [(.ix (.var 0) (.cI 1))]))) [.ret (.cB false)] [],.ret (.and (.cmp .ge (.ix (.var 0) (.cI 1)) (.cI 1)) (.cmp .eq (.call cd [(.ix (.var 0) (.cI 0)),(.ix (.var 0) (.cI 1))]) (.cI 1)))]
noncomputable def Ho (Ψ:FnT) (f:Nat):Prop:=∀ d,nx d=true->Ψ f [d]=.ok (.bl (oY d))
theorem Jx {xs:List T} (h:xs.length=2):∃ a b,xs=[a,b]:=by
 match xs,h with
 | [a,b],_=>exact ⟨a,b,rfl⟩
theorem ne2 {xs:List T} (h:xs.length ≠ 2):¬ ((xs.length:Nat):Int)=2:=by omega
section
variable {Ψ ΨM:FnT} {μ:Nat->Md} {sc:Bool} {wh cd:Nat}
theorem B9 (hw:HN Ψ wh) (hc:w6 Ψ cd) (d:T) (h:nx d=true):mkT Ψ ΨM μ ⟨sc,0,0⟩ [] (gc wh cd) 1 1 [d]=.ok (.bl (oY d)):=by
 show bp ⟨sc,0,0⟩ (ySs Ψ ΨM ⟨μ,[],0⟩ _ (gc wh cd) [some d] [])=_
 cases d with
 | exo c=>simp [nx] at h
 | tup xs=>
   by_cases hl:xs.length=2
   · obtain ⟨a,b,rfl⟩:=Jx hl
     have ha:=Cw h a (by simp)
     have hb:=Cw h b (by simp)
     have l2:((([a,b]:List T).length:Nat):Int)=2:=rfl
     cases wa:qT a with
     | false=>simp only [gc,az,iP,b8,fA,cY,jg,jS,bE,bS,fJ,au,ag,ba,cZ,ax,aq,aZ,aM,zA,mH,gy,i5,fH,aV,ia,bI,bq,aY,Ou.aa,aC,bA,qc,t5,fG,iD,List.getElem?_cons_zero,Bool.not_true,Bool.not_false,decide_true,l2,hw a ha,hw b hb,wa,tI (a:=a) (b:=b) (by rw [wa]; rfl)]
     | true=>
       cases wb:qT b with
       | false=>simp only [gc,az,iP,b8,fA,cY,jg,jS,bE,bS,fJ,au,ag,ba,cZ,ax,aq,aZ,aM,mH,gy,i5,fH,aV,ia,bI,bq,aY,Ou.aa,aC,bA,qc,t5,fG,iD,List.getElem?_cons_zero,Bool.and_false,Bool.not_true,Bool.not_false,decide_true,and_false,l2,hw a ha,hw b hb,wa,wb,tI (a:=a) (b:=b) (by rw [wb,Bool.and_false])]
       | true=>
         obtain ⟨i,rfl⟩:=uL wa
         obtain ⟨j,rfl⟩:=uL wb
         by_cases hj:1<=j
         · simp only [gc,az,iP,b8,fA,cY,gg,jg,jS,bE,bS,fJ,au,ag,ba,cZ,ax,aq,aZ,aM,lC,mH,i5,fH,aV,ia,bI,bq,aY,Ou.aa,aC,a6,bA,fm,qc,t5,fG,iD.eq_def,List.getElem?_cons_zero,Bool.true_and,Bool.not_true,decide_true,true_and,l2,hw _ ha,hw _ hb,wa,wb,hj,hc i j,oY]
           congr 2
           exact decide_eq_decide.mpr (by omega)
         · simp only [gc,az,iP,b8,fA,cY,gg,jg,jS,bE,bS,fJ,au,ag,ba,cZ,ax,aq,aZ,aM,ph,mH,i5,fH,aV,ia,bI,bq,aY,Ou.aa,aC,a6,bA,fm,qc,t5,fG,iD.eq_def,List.getElem?_cons_zero,Bool.false_and,Bool.not_true,decide_true,decide_false,false_and,l2,hw _ ha,hw _ hb,wa,wb,hj,hc i j,oY]
   · simp only [gc,az,iP,b8,fA,cY,jg,bS,fJ,au,ag,ba,cZ,ax,aq,aM,mH,gy,fH,aV,ia,bI,bq,aY,Ou.aa,aC,bA,fG,iD.eq_def,List.getElem?_cons_zero,Bool.not_true,Bool.not_false,decide_false,ne2 hl,Bu hl]
 | _=>simp only [gc,az,iP,b8,fA,cY,jg,bS,fJ,au,ag,ba,cZ,ax,aq,aM,zA,gy,fH,aV,so,wD,rN,qD,nD,bI,bq,aY,Ou.aa,aC,bA,eQ,iD.eq_def,List.getElem?_cons_zero,Bool.not_false,oY]
end
noncomputable def lL:T->Bool
 | .lst xs=>decide (1<=xs.length) && decide (xs.length<=7)
 | _=>false
noncomputable def kQ (p:T->Bool):T->Bool
 | .lst xs=>xs.all p
 | _=>false
noncomputable def mU (d:T):Bool:=lL d && kQ oY d
noncomputable def pC:T->Nat
 | .lst xs=>xs.length
 | _=>0
noncomputable def hdT:T->T
 | .lst (x :: _)=>x
 | _=>.non
noncomputable def v5 (d:T):Bool:=lL d && kQ mU d && kQ (λr=>decide (pC r=pC (hdT d))) d
theorem oG {d:T} (h:lL d=true):∃ x xs,d=.lst (x :: xs)/\(x :: xs).length<=7:=by
 cases d with
 | lst ys=>
   simp only [lL,Bool.and_eq_true,decide_eq_true_eq] at h
   cases ys with
   | nil=>simp at h
   | cons x xs=>exact ⟨x,xs,rfl,h.2⟩
 | _=>cases h
theorem Cb {d:T} (h:mU d=true):∃ xs,d=.lst xs/\xs.length<=7:=by
 unfold mU at h
 rw [Bool.and_eq_true] at h
 obtain ⟨x,xs,rfl,hl⟩:=oG h.1
 exact ⟨_,rfl,hl⟩
theorem cH {n:Nat} (h:n<=7):n < ae:=Nat.lt_of_le_of_lt h (by decide)
noncomputable def kL:List S:=[.ret (.and (.isi (.var 0) .list) (.chain .le .le (.cI 1) (.bi .len [(.var 0)]) (.cI 7)))]
noncomputable def xV (sl fr:Nat):List S:=[.ret (.and (.call sl [(.var 0)]) (.bi .all [(.comp [none] (.nm 0) (.seq (.var 0)) [] (.call fr [(.var 0)]))]))]
noncomputable def i8 (sl rw:Nat):List S:=[.ite (.or (.not (.call sl [(.var 0)])) (.not (.bi .all [(.comp [none] (.nm 0) (.seq (.var 0)) [] (.call rw [(.var 0)]))]))) [.ret (.cB false)] [],.ret (.bi .all [(.comp [none,some 0] (.nm 0) (.seq (.var 0)) [] (.cmp .eq (.bi .len [(.var 0)]) (.bi .len [(.ix (.var 1) (.cI 0))])))])]
noncomputable def Fv (Ψ:FnT) (f:Nat):Prop:=∀ d,nx d=true->Ψ f [d]=.ok (.bl (lL d))
noncomputable def HL (Ψ:FnT) (f:Nat):Prop:=∀ d,nx d=true->Ψ f [d]=.ok (.bl (mU d))
section
variable {Ψ ΨM:FnT} {μ:Nat->Md} {sc:Bool} {sl fr rw':Nat}
theorem zq (d:T) (h:nx d=true):mkT Ψ ΨM μ ⟨sc,0,0⟩ [] kL 1 1 [d]=.ok (.bl (lL d)):=by
 show bp ⟨sc,0,0⟩ (ySs Ψ ΨM ⟨μ,[],0⟩ _ kL [some d] [])=_
 cases d with
 | exo c=>simp [nx] at h
 | lst xs=>
   by_cases h1:1<=xs.length
   · have h1':(1:Int)<=((xs.length:Nat):Int):=by omega
     simp only [kL,az,b8,oR,gg,bS,fJ,au,ag,ba,aq,aM,lC,Iu,aV,nD,bI,bq,Ou.aa,aC,l9,eQ,iD.eq_def,List.getElem?_cons_zero,Bool.true_and,decide_true,true_and,h1',lL,h1]
     congr 2
     exact decide_eq_decide.mpr (by omega)
   · have h1':¬ (1:Int)<=((xs.length:Nat):Int):=by omega
     simp only [kL,az,b8,oR,gg,bS,fJ,au,ag,ba,aq,aM,lC,Ig,aV,nD,bI,bq,Ou.aa,aC,l9,eQ,iD.eq_def,List.getElem?_cons_zero,Bool.false_and,decide_false,false_and,h1',lL,h1]
 | _=>simp only [kL,az,b8,oR,gg,bS,fJ,au,ag,ba,aq,aM,ph,aV,so,wD,rN,qD,ia,bI,bq,Ou.aa,aC,l9,fG,iD.eq_def,List.getElem?_cons_zero,lL]
theorem qu {f:Nat} {p:T->Bool} {τ:ak} {xs:List T} (hf:∀ x ∈ xs,Ψ f [x]=.ok (.bl (p x))):cq (iy Ψ τ [none] (.nm 0) [] (.call f [(.var 0)])) xs=.ok (xs.map λx=>.bl (p x)):=
 wJ xs λx hx=>by simp only [az,bE,au,ag,jD,Ou.aa,aC,aJ.eq_def,iR,fw,List.getElem?_cons_zero,List.set_cons_zero,List.map_cons,List.map_nil,List.nil_append,List.cons_append,Option.bind_none,if_true,hf x hx]
theorem Fg (hs:Fv Ψ sl) (hf:Ho Ψ fr) (d:T) (h:nx d=true):mkT Ψ ΨM μ ⟨sc,0,0⟩ [] (xV sl fr) 1 1 [d]=.ok (.bl (mU d)):=by
 show bp ⟨sc,0,0⟩ (ySs Ψ ΨM ⟨μ,[],0⟩ _ (xV sl fr) [some d] [])=_
 cases hd:lL d with
 | false=>simp only [xV,az,gg,bE,bS,jE,au,ag,dR,ba,aq,aM,ph,bI,bq,Ou.aa,aC,List.getElem?_cons_zero,Bool.false_and,false_and,hs d h,hd,mU]
 | true=>
   obtain ⟨x,xs,rfl,hl⟩:=oG hd
   have hc:=qu (Ψ:=Ψ) (f:=fr) (p:=oY) (τ:=[some (.lst (x :: xs))]) (xs:=x :: xs) λy hy=>hf y (EU h y hy)
   simp only [xV,az,gg,bE,bS,jE,au,ag,dR,ba,aq,lC,me,Ou.aa,aC,List.getElem?_cons_zero,Bool.true_and,true_and,hs _ h,hd,mU,if_pos (cH hl)]
   simp only [List.map_cons] at hc
   simp only [hc,Ou.aa,Ou.gi,List.all_cons,kQ]
   have:=vx (x :: xs) oY
   simp only [List.map_cons,List.all_cons] at this
   simp only [this,aM,bI,bq,Ou.aa]
theorem y6 (hs:Fv Ψ sl) (hr:HL Ψ rw') (d:T) (h:nx d=true):mkT Ψ ΨM μ ⟨sc,0,0⟩ [] (i8 sl rw') 1 1 [d]=.ok (.bl (v5 d)):=by
 show bp ⟨sc,0,0⟩ (ySs Ψ ΨM ⟨μ,[],0⟩ _ (i8 sl rw') [some d] [])=_
 cases hd:lL d with
 | false=>simp only [i8,az,iP,fA,jg,bE,bS,jE,au,ag,dR,ba,cZ,ax,aq,aM,zA,gy,fH,bI,bq,aY,Ou.aa,aC,List.getElem?_cons_zero,Bool.false_and,Bool.not_false,false_and,hs d h,hd,v5]
 | true=>
   obtain ⟨x,xs,rfl,hl⟩:=oG hd
   have hc:=qu (Ψ:=Ψ) (f:=rw') (p:=mU) (τ:=[some (.lst (x :: xs))]) (xs:=x :: xs) λy hy=>hr y (EU h y hy)
   have ha:=vx (x :: xs) mU
   generalize hX:x :: xs=X at *
   cases hA:X.all mU with
   | false=>
     rw [hA] at ha
     simp only [i8,az,iP,fA,jg,bE,bS,jE,au,ag,dR,ba,cZ,ax,aq,aM,mH,gy,fH,me,bI,bq,aY,Ou.aa,Ou.gi,aC,List.getElem?_cons_zero,Bool.false_and,Bool.and_false,Bool.not_true,Bool.not_false,and_false,false_and,hs _ h,hd,v5,if_pos (cH hl),hc,ha,kQ,hA]
   | true=>
     rw [hA] at ha
     have hx0:zI (.lst X) (.int 0)=.ok x:=by rw [<- hX]; exact EZ x xs
     have hrow:∀ y ∈ X,∃ ys,y=.lst ys:=λy hy=>let ⟨ys,e,_⟩:=Cb (List.all_eq_true.mp hA y hy); ⟨ys,e⟩
     obtain ⟨zs,hz⟩:=hrow x (by rw [<- hX]; exact List.mem_cons_self ..)
     have hh:hdT (.lst X)=x:=by rw [<- hX]; rfl
     have h2:cq (iy Ψ [some (.lst X)] [none,some 0] (.nm 0) [] (.cmp .eq (.bi .len [(.var 0)]) (.bi .len [(.ix (.var 1) (.cI 0))]))) X=.ok (X.map λr=>.bl (decide (pC r=pC x))):=
       wJ X λy hy=>by
         obtain ⟨ys,rfl⟩:=hrow y hy
         subst hz
         simp only [az,b8,cY,jS,bS,au,ag,jD,aV,Ou.aa,aC,aJ.eq_def,iR,a6,eQ,fw,List.getElem?_cons_zero,List.getElem?_cons_succ,List.set_cons_zero,List.map_cons,List.map_nil,List.nil_append,List.cons_append,Option.bind_some,Option.bind_none,Option.join_some,if_true,hx0,pC]
         congr 3
         exact decide_eq_decide.mpr (by omega)
     have h3:=vx X λr=>decide (pC r=pC x)
     simp only [i8,az,iP,fA,jg,bE,bS,jE,au,ag,dR,ba,cZ,ax,aq,aZ,aM,mH,i5,fH,me,bI,bq,aY,Ou.aa,Ou.gi,aC,List.getElem?_cons_zero,Bool.true_and,Bool.and_true,Bool.not_true,and_true,true_and,hs _ h,hd,v5,if_pos (cH hl),hc,ha,kQ,hA,h2,h3,hh]
end
noncomputable def Cv (Ψ:FnT) (nb:Nat):Prop:=∀ (c:Int) (bs:List Int),(∀ b ∈ bs,0 < b/\b.natAbs < 10 ^ 200)->bs.length < ae->∃ rs:List Int,Dig rs bs/\Ψ nb [.int c,inT bs]=.ok (inT rs)
noncomputable def fr2 (p:Int × Int):T:=rL p.1 p.2
noncomputable def Bl (nb nu:Nat):List S:=[.set (.nm 4) (.ix (.lst [(.cI 114),(.cI 5),(.cI 60),(.op .mul (.op .mul (.cI 2) (.op .pow (.cI 10) (.cI 40))) (.op .pow (.cI 10) (.cI 40)))]) (.var 3)),.set (.nm 5) (.call nb [(.var 0),(.comp [none,some 4] (.nm 0) (.rng (.op .mul (.var 1) (.var 2))) [] (.var 1))]),.ret (.comp [none,some 3,some 5,some 2] (.nm 0) (.rng (.var 1)) [] (.comp [none,some 0,some 1,some 2,some 3] (.nm 0) (.rng (.var 3)) [] (.call nu [(.var 2),(.ix (.var 3) (.op .add (.op .mul (.var 4) (.var 1)) (.var 0)))])))]
theorem Eo (n:Nat) (h:n < 1000000):Fi (.int (n:Nat))=.ok ((List.range n).map λk=>.int (k:Nat)):=by
 rw [Fi,if_pos (by omega),Int.toNat_natCast]
 unfold rangeT
 congr 2
 funext k
 rw [Int.zero_add]
theorem gp {Ψ:FnT} {e:E} {τ:ak} {n:Nat} (h:yE Ψ e τ=.ok (.int (n:Nat))) (hn:n < 1000000):yIt Ψ (.rng e) τ=.ok ((List.range n).map λk=>.int (k:Nat)):=by
 rw [D6,h,Ou.aa,Eo n hn]
noncomputable def eZ (k:Nat):Int:=if k=0 then 114 else if k=1 then 5 else if k=2 then 60 else 2 * 10 ^ 40 * 10 ^ 40
theorem BK (k:Nat):0 < eZ k/\(eZ k).natAbs < 10 ^ 200:=by
 unfold eZ
 split
 · decide
 split
 · decide
 split
 · decide
 · exact ⟨by decide,by decide +kernel⟩
theorem Eg (k:Nat) (h:k < 4):zI (.lst [.int 114,.int 5,.int 60,.int (2 * 10 ^ 40 * 10 ^ 40)]) (.int (k:Nat))=.ok (.int (eZ k)):=by
 match k,h with
 | 0,_=>exact EZ _ _
 | 1,_=>exact Ir _ _ _
 | 2,_=>exact Jc _ _ _ _
 | 3,_=>exact IM _ _ _ _ _
theorem bW {Ψ:FnT} {τ:ak} {caps:List (Option Nat)} {t:Tg} {it:It} {ifs:List E} {elt:E} {xs ys:List T} (h1:yIt Ψ it τ=.ok xs) (h2:xs.length < ae) (h3:cq (iy Ψ τ caps t ifs elt) xs=.ok ys):yE Ψ (.comp caps t it ifs elt) τ=.ok (.lst ys):=by
 rw [jE,h1,Ou.aa,if_pos h2,h3]; rfl
theorem CT {Ψ ΨM:FnT} {μ:Nat->Md} {nb nu:Nat} {R:Int->Int->Prop} (hmv:(μ nb).mv=0) (hn:Cv Ψ nb) (c:Int) (m w k:Nat) (hm:m<=7) (hw:w<=7) (hk:k < 4) (hu:∀ p:Int,∃ t b,Ψ nu [.int (k:Nat),.int p]=.ok (rL t b)/\R t b) :
   ∃ F:Nat->Nat->Int × Int,(∀ i j,R (F i j).1 (F i j).2)/\mkT Ψ ΨM μ ⟨false,2,0⟩ [] (Bl nb nu) 4 6 [.int c,.int (m:Nat),.int (w:Nat),.int (k:Nat)]=.ok (.lst ((List.range m).map λi=>.lst ((List.range w).map λj=>fr2 (F i j)))):=by
 show ∃ F:Nat->Nat->Int × Int,_/\bp ⟨false,2,0⟩ (ySs Ψ ΨM ⟨μ,[],2⟩ _ (Bl nb nu) [some (.int c),some (.int (m:Nat)),some (.int (w:Nat)),some (.int (k:Nat)),none,none] [])=_
 have mw:m * w<=49:=Nat.mul_le_mul hm hw
 obtain ⟨rs,dg,e⟩:=hn c (List.replicate (m * w) (eZ k)) (λb hb=>by rw [List.eq_of_mem_replicate hb]; exact BK k) (by rw [List.length_replicate]; exact Nat.lt_of_le_of_lt mw (by decide))
 have hl:rs.length=m * w:=by rw [dg.length,List.length_replicate]
 obtain ⟨f,hf⟩:=Classical.axiomOfChoice λp:Int=>show ∃ q:Int × Int,Ψ nu [.int (k:Nat),.int p]=.ok (rL q.1 q.2)/\R q.1 q.2 from let ⟨t,b,h1,h2⟩:=hu p; ⟨(t,b),h1,h2⟩
 have t40:z2 .mul (.int 2) (.int (10 ^ 40))=.ok (.int (2 * 10 ^ 40)):=dQ (cG (by decide))
 have t80:z2 .mul (.int (2 * 10 ^ 40)) (.int (10 ^ 40))=.ok (.int (2 * 10 ^ 40 * 10 ^ 40)):=dQ (mulOk_of (jw (by decide)) (jw (by decide)))
 have tmw:z2 .mul (.int (m:Nat)) (.int (w:Nat))=.ok (.int ((m * w:Nat):Int)):=by rw [dQ (cG (by omega)),Int.natCast_mul]
 have c1:cq (iy Ψ [some (.int c),some (.int (m:Nat)),some (.int (w:Nat)),some (.int (k:Nat)),some (.int (eZ k)),none] [none,some 4] (.nm 0) [] (.var 1)) ((List.range (m * w)).map λj=>.int (j:Nat))=.ok ((List.range (m * w)).map λ_=>.int (eZ k)):=
   bt _ λj _=>by simp only [az,jD,Ou.aa,aC,aJ.eq_def,iR,fw,List.getElem?_cons_zero,List.getElem?_cons_succ,List.set_cons_zero,List.map_cons,List.map_nil,List.nil_append,List.cons_append,Option.bind_some,Option.bind_none,Option.join_some,if_true]
 have r1:((List.range (m * w)).map λ_=>T.int (eZ k))=(List.replicate (m * w) (eZ k)).map .int:=by
   rw [List.map_replicate,List.map_const',List.length_range]
 have inner:∀ i,i < m->∀ (x:Option T),cq (iy Ψ [some (.int (i:Nat)),some (.int (k:Nat)),some (inT rs),some (.int (w:Nat)),x] [none,some 0,some 1,some 2,some 3] (.nm 0) [] (.call nu [(.var 2),(.ix (.var 3) (.op .add (.op .mul (.var 4) (.var 1)) (.var 0)))])) ((List.range w).map λj=>.int (j:Nat))
     = .ok ((List.range w).map λj=>fr2 (f (rs.getD (w * i + j) 0))):=λi hi x=>bt _ λj hj=>by
   have hj:=List.mem_range.mp hj
   have hlt:w * i + j < rs.length:=by
     rw [hl,Nat.mul_comm m w]
     exact Nat.lt_of_lt_of_le (Nat.add_lt_add_left hj _) (by rw [<- Nat.mul_succ]; exact Nat.mul_le_mul_left w hi)
   have g1:z2 .mul (.int (w:Nat)) (.int (i:Nat))=.ok (.int ((w * i:Nat):Int)):=by rw [dQ (cG (by omega)),Int.natCast_mul]
   have g2:((w * i:Nat):Int) + (j:Nat)=((w * i + j:Nat):Int):=by omega
   have g3:zI (inT rs) (.int ((w * i + j:Nat):Int))=.ok (.int (rs.getD (w * i + j) 0)):=iZ (by
     rw [List.getElem?_map,List.getElem?_eq_getElem hlt,List.getD_eq_getElem?_getD,List.getElem?_eq_getElem hlt]; rfl)
   simp only [az,gB,jS,bE,au,ag,jD,Ou.aa,aC,aJ.eq_def,iR,qU,fw,List.getElem?_cons_zero,List.getElem?_cons_succ,List.set_cons_zero,List.map_cons,List.map_nil,List.nil_append,List.cons_append,Option.bind_some,Option.bind_none,Option.join_some,if_true,g1,g2,g3,(hf _).1,fr2]
 refine ⟨λi j=>f (rs.getD (w * i + j) 0),λi j=>(hf _).2,?_⟩
 · have lw:((List.range w).map λj=>T.int (j:Nat)).length < ae:=by rw [List.length_map,List.length_range]; exact cH hw
   have lm:((List.range m).map λj=>T.int (j:Nat)).length < ae:=by rw [List.length_map,List.length_range]; exact cH hm
   have lmw:((List.range (m * w)).map λj=>T.int (j:Nat)).length < ae:=by rw [List.length_map,List.length_range]; exact Nat.lt_of_le_of_lt mw (by decide)
   have ci:∀ i,i < m->yE Ψ (.comp [none,some 0,some 1,some 2,some 3] (.nm 0) (.rng (.var 3)) [] (.call nu [(.var 2),(.ix (.var 3) (.op .add (.op .mul (.var 4) (.var 1)) (.var 0)))])) [some (.int (i:Nat)),some (.int (k:Nat)),some (inT rs),some (.int (w:Nat)),none]=.ok (.lst ((List.range w).map λj=>fr2 (f (rs.getD (w * i + j) 0)))):=λi hi=>
     bW (gp (by rw [az]; rfl) (Nat.lt_of_le_of_lt hw (by decide))) lw (inner i hi none)
   have outer:cq (iy Ψ [some (.int c),some (.int (m:Nat)),some (.int (w:Nat)),some (.int (k:Nat)),some (.int (eZ k)),some (inT rs)] [none,some 3,some 5,some 2] (.nm 0) [] (.comp [none,some 0,some 1,some 2,some 3] (.nm 0) (.rng (.var 3)) [] (.call nu [(.var 2),(.ix (.var 3) (.op .add (.op .mul (.var 4) (.var 1)) (.var 0)))]))) ((List.range m).map λj=>.int (j:Nat))
       = .ok ((List.range m).map λi=>.lst ((List.range w).map λj=>fr2 (f (rs.getD (w * i + j) 0)))):=bt _ λi hi=>by
     simp only [jD,Ou.aa,aJ.eq_def,iR,fw,List.getElem?_cons_zero,List.getElem?_cons_succ,List.set_cons_zero,List.map_cons,List.map_nil,List.nil_append,List.cons_append,Option.bind_some,Option.bind_none,Option.join_some,if_true,ci i (List.mem_range.mp hi)]
   have co:=bW (Ψ:=Ψ) (it:=.rng (.var 1)) (gp (by rw [az]; rfl) (Nat.lt_of_le_of_lt hm (by decide))) lm outer
   have c1':=bW (Ψ:=Ψ) (it:=.rng (.op .mul (.var 1) (.var 2))) (gp (by rw [gB,az,az]; exact tmw) (Nat.lt_of_le_of_lt mw (by decide))) lmw c1
   have e':Ψ nb [.int c,.lst ((List.range (m * w)).map λ_=>.int (eZ k))]=.ok (inT rs):=by rw [r1]; exact e
   have e1:yE Ψ (.ix (.lst [(.cI 114),(.cI 5),(.cI 60),(.op .mul (.op .mul (.cI 2) (.op .pow (.cI 10) (.cI 40))) (.op .pow (.cI 10) (.cI 40)))]) (.var 3)) [some (.int c),some (.int (m:Nat)),some (.int (w:Nat)),some (.int (k:Nat)),none,none]=.ok (.int (eZ k)):=by
     simp only [jS,oO,ag,au,b8,gB,Ou.aa,az,aC,List.getElem?_cons_succ,List.getElem?_cons_zero,p40,t40,t80,Ee]
     exact Eg k hk
   have e2:yE Ψ (.call nb [(.var 0),(.comp [none,some 4] (.nm 0) (.rng (.op .mul (.var 1) (.var 2))) [] (.var 1))]) [some (.int c),some (.int (m:Nat)),some (.int (w:Nat)),some (.int (k:Nat)),some (.int (eZ k)),none]=.ok (inT rs):=by
     rw [bE,ag,az,ag,c1',au]
     exact e'
   have s1:∀ n,yS Ψ ΨM ⟨μ,[],2⟩ n (.set (.nm 4) (.ix (.lst [(.cI 114),(.cI 5),(.cI 60),(.op .mul (.op .mul (.cI 2) (.op .pow (.cI 10) (.cI 40))) (.op .pow (.cI 10) (.cI 40)))]) (.var 3))) [some (.int c),some (.int (m:Nat)),some (.int (w:Nat)),some (.int (k:Nat)),none,none] []=.ok (.nx [some (.int c),some (.int (m:Nat)),some (.int (w:Nat)),some (.int (k:Nat)),some (.int (eZ k)),none] []):=λn=>by
     rw [ei _ _ _ _ _ _ _ _ nr,e1]; rfl
   have s2:∀ n,yS Ψ ΨM ⟨μ,[],2⟩ n (.set (.nm 5) (.call nb [(.var 0),(.comp [none,some 4] (.nm 0) (.rng (.op .mul (.var 1) (.var 2))) [] (.var 1))])) [some (.int c),some (.int (m:Nat)),some (.int (w:Nat)),some (.int (k:Nat)),some (.int (eZ k)),none] []=.ok (.nx [some (.int c),some (.int (m:Nat)),some (.int (w:Nat)),some (.int (k:Nat)),some (.int (eZ k)),some (inT rs)] []):=λn=>by
     rw [ei _ _ _ _ _ _ _ _ (by rw [qg]; simp only [hmv]; rfl),e2]; rfl
   have al:((List.range m).map λi=>T.lst ((List.range w).map λj=>fr2 (f (rs.getD (w * i + j) 0)))).all isL=true:=by
     rw [List.all_map,List.all_eq_true]
     intro i _
     rfl
   have rt2:sY ⟨μ,[],2⟩ [] (.comp [none,some 3,some 5,some 2] (.nm 0) (.rng (.var 1)) [] (.comp [none,some 0,some 1,some 2,some 3] (.nm 0) (.rng (.var 3)) [] (.call nu [(.var 2),(.ix (.var 3) (.op .add (.op .mul (.var 4) (.var 1)) (.var 0)))]))) (.lst ((List.range m).map λi=>.lst ((List.range w).map λj=>fr2 (f (rs.getD (w * i + j) 0)))))=.ok (.rt (.lst ((List.range m).map λi=>.lst ((List.range w).map λj=>fr2 (f (rs.getD (w * i + j) 0)))))):=by
     unfold sY
     rw [if_neg (by simp [isL]),if_pos]
     have l2:lvT (.lst ((List.range m).map λi=>.lst ((List.range w).map λj=>fr2 (f (rs.getD (w * i + j) 0)))))=2:=by
       show (if _ then 2 else 1)=2
       rw [if_pos al]
     rw [l2]
     have fe:cU μ (.comp [none,some 3,some 5,some 2] (.nm 0) (.rng (.var 1)) [] (.comp [none,some 0,some 1,some 2,some 3] (.nm 0) (.rng (.var 3)) [] (.call nu [(.var 2),(.ix (.var 3) (.op .add (.op .mul (.var 4) (.var 1)) (.var 0)))])))=2:=by
       rw [uQ,if_neg]
       rw [uQ]
       split <;> decide
     show 2<=min (cU μ _) 2
     rw [fe]
     decide
   have fl2:eN 2 (.lst ((List.range m).map λi=>.lst ((List.range w).map λj=>fr2 (f (rs.getD (w * i + j) 0)))))=true:=by
     show ((List.range m).map λi=>T.lst ((List.range w).map λj=>fr2 (f (rs.getD (w * i + j) 0)))).all xr=true
     rw [List.all_map,List.all_eq_true]
     intro i _
     show jR ((List.range w).map λj=>fr2 (f (rs.getD (w * i + j) 0)))=true
     induction List.range w with
     | nil=>rfl
     | cons k ks ih=>rw [List.map_cons]; simp only [jR,ih]; rfl
   rw [Bl,aq,s1,Ou.aa,aZ,aq,s2,Ou.aa,aZ,aq,ba,co,Ou.aa,rt2,Ou.aa,aM]
   simp only [bp,fl2,Bool.not_true,Bool.and_false]
   rfl
end Sv
namespace Sv
open PySem PySem.Spec PyProof.Rows L2
theorem p7 {Z:Zt} {m:List Addr} {H:Hp}:∀ ns:List Int,aj Z m H (ns.map V.int) (ns.map U.int)
 | []=>.nil
 | _ :: r=>.cons .int (p7 r)
theorem uo {st:Sto}:∀ ns:List Int,aD st (ns.map U.int) (ns.map T.int)
 | []=>.nil
 | _ :: r=>.cons .int (uo r)
theorem FJ {md:Md} {F:List U->Sto->Rs U} {G:List T->Ou T} (p:Pure md F G) (hG:∀ ns:List Int,ns.length<=63->G [inT ns]=.ok (.bl true)) {K:Params->PySem.W.Frag} {cl:Nat->Addr} (w:World) (H:Hp) (a:Addr) (ns:List Int) (hl:ns.length<=63) (hO:Dc H) (hS:SqL (K w.params) H a (ns.map V.int)) :
   spU ⟨K w.params,cl⟩ F [.ref a] H (λv _=>v=.bl true) λ_ _ _=>False:=by
 have hF:SqF (K w.params) H a (ns.map V.int):=by
   rcases hS with (h | ⟨o,h⟩) | h
   · rcases hO a with z | ⟨o,xs,z⟩
     · rw [z] at h; cases h
     · rw [z] at h; cases h
   · exact .inl ⟨o,h⟩
   · exact .inr (.inr h)
 have g:=p.plain (h:=⟨λ_=>False,λ_=>False,λ_ z=>z⟩) (st:=[]) (us:=[.kl (ns.map .int)]) (ds:=[inT ns]) ⟨λk fz us _ e=>by simp at e,λ_ z=>z.elim⟩
   (.cons (.of (.kl (uo ns)) (Av.kl.mpr λu hu=>by obtain ⟨i,_,rfl⟩:=List.mem_map.mp hu; exact .int)) .nil)
 rw [hG ns hl] at g
 obtain ⟨u,st',h',e,_,r,_⟩:=g
 have:=r.iB
 subst this
 refine ⟨[],[],[.kl (ns.map .int)],⟨rfl,λi j a e=>by simp at e,λl a fz ds e=>by simp at e⟩,.cons (.kl hF (p7 ns)) .nil,?_⟩
 rw [e]
 exact λm' H' v _ _ dv=>hJ dv
theorem _root_.L2.Fun.GP {K:PySem.W.Frag} {x qual:Str} {st:Stmt} {f T:Addr} {fd:FuncData} {ps:List Str} {c:Value} {d:Option Addr} {items:Array Value} {n:Nat} {sl:Array (Option Value)} (_:L2.Fun K x qual st f fd) (hd:fd.defaults=.ref T) (lT:K.lookup T=some ⟨c,d,.seq items n,sl⟩)
   (h:∀ us:List Value,us.length=ps.length->∃ k,bindArgs fd ⟨us,[]⟩=seqItems? fd.defaults >>= k/\k (some items)=pure (ps.zip us)):L2.Binds K fd ps []:=λs us X hl=>by
 rw [List.append_nil] at hl ⊢
 obtain ⟨k,h1,h2⟩:=h us hl
 exact .of_defaults hd (X _ _ lT) rfl h1 h2
theorem _root_.L2.Fun.Gg {K:PySem.W.Frag} {x qual:Str} {st:Stmt} {f T:Addr} {fd:FuncData} {p:Str} {ps:List Str} {c d:Value} {dd:Option Addr} {items:Array Value} {n:Nat} {sl:Array (Option Value)} (_:L2.Fun K x qual st f fd) (hd:fd.defaults=.ref T) (lT:K.lookup T=some ⟨c,dd,.seq items n,sl⟩)
   (h:∀ us:List Value,us.length=ps.length->∃ k,bindArgs fd ⟨us,[]⟩=seqItems? fd.defaults >>= k/\k (some items)=pure ((p :: ps).zip (us++[d]))):L2.Binds K fd (p :: ps) [d]:=λs us X hl=>by
 obtain ⟨k,h1,h2⟩:=h us (by simpa using hl)
 exact .of_defaults hd (X _ _ lT) rfl h1 h2
end Sv
namespace Sv
open PySem PySem.Spec L2
open Ev (D aA aK ae)
structure Ch (cs:List Nat) (n:Nat):Prop where
 ne:cs ≠ []
 up:∀ (i j a b:Nat),cs[i]?=some a->cs[j]?=some b->i < j->a < b
 lt:∀ a ∈ cs,a < n
theorem Ch.len {cs:List Nat} {n:Nat} (h:Ch cs n):cs.length<=n:=by
 have key:∀ (i a:Nat),cs[i]?=some a->i<=a:=by
   intro i
   induction i with
   | zero=>intro a _; exact Nat.zero_le _
   | succ i ih=>
     intro a ha
     have hi:i < cs.length:=by have:=(List.getElem?_eq_some_iff.mp ha).1; omega
     have:=ih _ (List.getElem?_eq_getElem hi)
     have:=h.up i (i + 1) _ _ (List.getElem?_eq_getElem hi) ha (by omega)
     omega
 rcases Nat.eq_zero_or_pos cs.length with z | z
 · omega
 · have hl:cs.length - 1 < cs.length:=by omega
   have h1:=key _ _ (List.getElem?_eq_getElem hl)
   have h2:=h.lt _ (List.getElem_mem hl)
   omega
end Sv
namespace L2
open PySem PySem.Spec PyProof.Rows
section
variable {κ:Type} [DecidableEq κ]
noncomputable def gh (kvs:List (κ × V)) (k:κ):Option V:=(kvs.find? λkv=>decide (kv.1=k)).map (·.2)
noncomputable def putK (kvs:List (κ × V)) (k:κ) (v:V):List (κ × V):=
 if (kvs.any λkv=>decide (kv.1=k))=true then kvs.map (λkv=>if kv.1=k then (kv.1,v) else kv) else kvs++[(k,v)]
theorem cE {p:κ × V} {r:List (κ × V)} {k:κ} (e:p.1=k):gh (p :: r) k=some p.2:=by simp [gh,List.find?_cons,e]
theorem cJ {p:κ × V} {r:List (κ × V)} {k:κ} (e:¬ p.1=k):gh (p :: r) k=gh r k:=by simp [gh,List.find?_cons,e]
theorem oS (k:κ):∀ kvs:List (κ × V),(kvs.any λkv=>decide (kv.1=k))=(gh kvs k).isSome
 | []=>rfl
 | p :: r=>by
   rw [List.any_cons]
   by_cases e:p.1=k
   · simp only [cE e,decide_eq_true e,Bool.true_or,Option.isSome_some]
   · rw [cJ e,decide_eq_false e,Bool.false_or]; exact oS k r
theorem t7 (k j:κ) (y:V):∀ kvs:List (κ × V),gh (kvs.map λkv=>if kv.1=k then (kv.1,y) else kv) j=(gh kvs j).map λx=>if j=k then y else x
 | []=>rfl
 | p :: r=>by
   have ih:=t7 k j y r
   rw [List.map_cons]
   by_cases h:p.1=k
   · rw [if_pos h]
     by_cases e:p.1=j
     · rw [cE (p:=(p.1,y)) e,cE e,Option.map_some,if_pos (e.symm.trans h)]
     · rw [cJ (p:=(p.1,y)) e,cJ e,ih]
   · rw [if_neg h]
     by_cases e:p.1=j
     · rw [cE (p:=p) e,cE e,Option.map_some,if_neg (λz=>h (e.trans z))]
     · rw [cJ (p:=p) e,cJ e,ih]
theorem qw (k j:κ) (y:V):∀ kvs:List (κ × V),gh kvs k=none->gh (kvs++[(k,y)]) j=if j=k then some y else gh kvs j
 | [],_=>by
   by_cases e:k=j
   · rw [if_pos e.symm]; exact cE (p:=(k,y)) e
   · rw [if_neg (λz=>e z.symm)]; exact cJ (p:=(k,y)) e
 | p :: r,hn=>by
   rw [List.cons_append]
   have hk:¬ p.1=k:=λz=>by rw [cE z] at hn; cases hn
   rw [cJ hk] at hn
   have ih:=qw k j y r hn
   by_cases e:p.1=j
   · rw [cE e,cE e,if_neg (λz=>hk (e.trans z))]
   · rw [cJ e,cJ e,ih]
theorem CH (kvs:List (κ × V)) (k j:κ) (y:V):gh (putK kvs k y) j=if j=k then some y else gh kvs j:=by
 unfold putK
 by_cases a:(kvs.any λkv=>decide (kv.1=k))=true
 · rw [if_pos a,t7]
   rw [oS] at a
   by_cases e:j=k
   · obtain ⟨x,hx⟩:=Option.isSome_iff_exists.mp a
     rw [if_pos e,e,hx,Option.map_some,if_pos rfl]
   · rw [if_neg e]
     cases gh kvs j with
     | none=>rfl
     | some x=>rw [Option.map_some,if_neg e]
 · rw [if_neg a]
   refine qw k j y kvs ?_
   rw [oS] at a
   cases q:gh kvs k with
   | none=>rfl
   | some x=>rw [q] at a; exact (a rfl).elim
theorem mz (kvs:List (κ × V)) (k:κ) (v:V):(putK kvs k v).length<=kvs.length + 1:=by
 unfold putK
 split
 · rw [List.length_map]; omega
 · rw [List.length_append,List.length_cons,List.length_nil]; omega
theorem uy.getD {o:Option V} {u:Option Value} {d:V} {d':Value} (r:uy o u) (rd:RelV d d'):RelV (o.getD d) (u.getD d'):=by
 cases o with
 | none=>cases u with
   | none=>exact rd
   | some _=>exact (show False from r).elim
 | some _=>cases u with
   | none=>exact (show False from r).elim
   | some _=>exact r
theorem KV.val {kvs:List (κ × V)} {vs:List (κ × Value)} (r:KV kvs vs) (k:κ):uy (gh kvs k) (valueAt vs k):=by
 unfold KV at r
 induction r with
 | nil=>exact True.intro
 | @cons p q ps qs h t ih=>
   obtain ⟨h1,h2⟩:=h
   by_cases e:p.1=k
   · have e':q.1=k:=h1.symm.trans e
     have b:valueAt (q :: qs) k=some q.2:=by simp [valueAt,List.find?_cons,e']
     rw [cE e,b]; exact h2
   · have e':¬ q.1=k:=λz=>e (h1.trans z)
     have b:valueAt (q :: qs) k=valueAt qs k:=by simp [valueAt,List.find?_cons,e']
     rw [cJ e,b]; exact ih
theorem KV.any {kvs:List (κ × V)} {vs:List (κ × Value)} (r:KV kvs vs) (k:κ):(kvs.any λkv=>decide (kv.1=k))=vs.any λkv=>decide (kv.1=k):=by
 unfold KV at r
 induction r with
 | nil=>rfl
 | cons h t ih=>rw [List.any_cons,List.any_cons,ih,h.1]
theorem KV.Je {kvs:List (κ × V)} {vs:List (κ × Value)} (r:KV kvs vs) (k:κ) {y:V} {u:Value} (ry:RelV y u) :
   KV (kvs.map λkv=>if kv.1=k then (kv.1,y) else kv) (vs.map λkv=>if kv.1=k then (kv.1,u) else kv):=by
 unfold KV at r ⊢
 induction r with
 | nil=>exact .nil
 | @cons p q ps qs h t ih=>
   rw [List.map_cons,List.map_cons]
   refine .cons ?_ ih
   obtain ⟨h1,h2⟩:=h
   by_cases e:p.1=k
   · rw [if_pos e,if_pos (h1.symm.trans e)]; exact ⟨h1,ry⟩
   · rw [if_neg e,if_neg (λz=>e (h1.trans z))]; exact ⟨h1,h2⟩
theorem KV.put {kvs:List (κ × V)} {vs:List (κ × Value)} (r:KV kvs vs) (k:κ) {y:V} {u:Value} (ry:RelV y u):KV (putK kvs k y) (stored vs k u):=by
 unfold putK stored
 rw [r.any k]
 by_cases e:(vs.any λkv=>decide (kv.1=k))=true
 · rw [if_pos e,if_pos e]; exact r.Je k ry
 · rw [if_neg e,if_neg e]; exact Paired.snoc r ⟨rfl,ry⟩
theorem KV.keys {kvs:List (κ × V)} {vs:List (κ × Value)} (r:KV kvs vs):kvs.map (·.1)=vs.map (·.1):=by
 unfold KV at r
 induction r with
 | nil=>rfl
 | cons h t ih=>rw [List.map_cons,List.map_cons,ih,h.1]
theorem KV.length {kvs:List (κ × V)} {vs:List (κ × Value)} (r:KV kvs vs):kvs.length=vs.length:=Paired.length r
end
theorem xA {P:Program} {w:World} {k:Key} {u:Value} (r:RelV (kV k) u):(cw P w).is k u=true:=by
 cases k with
 | inl i=>obtain ⟨t,e⟩:=(show ∃ t,u=Value.int i t from r); subst e; exact sV P w i t
 | inr x=>obtain ⟨t,e⟩:=(show ∃ t,u=Value.str x t from r); subst e; exact uK P w x t
section
variable {P:Program} {w:World} {H:Hp} {h:Heap} {a:Addr}
theorem HU {u:HO} (ok:HOk P w H h) (e:Rd H a u):dU P w H h a u:=e.ok ok
theorem uO {kvs:List (Key × V)} (ok:HOk P w H h) (e:Rd H a (.dK kvs)):kvs.length<=sizeLine/\(a == sysModules)=false/\∃ vs,KV kvs vs/\h.DictOf (cw P w) a vs:=
 show dU P w H h a (.dK kvs) from HU ok e
theorem zZ {kvs:List (Key × V)} (ok:HOk P w H h) (e:H a=some (.dK kvs)):kvs.length<=sizeLine/\(a == sysModules)=false/\∃ vs,KV kvs vs/\h.DictOf (cw P w) a vs:=uO ok (.inl e)
end
noncomputable def vc (H:Hp) (a:Addr) (y:V) (r:Option V):Prop:=∃ kvs k,Rd H a (.dK kvs)/\y=kV k/\r=gh kvs k
noncomputable def Bs (H:Hp) (a:Addr) (y v:V) (H':Hp):Prop:=∃ kvs k,H a=some (.dK kvs)/\y=kV k/\kvs.length < sizeLine/\H'=upd H a (.dK (putK kvs k v))
theorem vc.k {H:Hp} {a:Addr} {kvs:List (Key × V)} {k:Key} (e:H a=some (.dK kvs)):vc H a (kV k) (gh kvs k):=⟨kvs,k,.inl e,rfl,rfl⟩
theorem Bs.k {H:Hp} {a:Addr} {kvs:List (Key × V)} {k:Key} {v:V} (e:H a=some (.dK kvs)) (hl:kvs.length < sizeLine):Bs H a (kV k) v (upd H a (.dK (putK kvs k v))):=⟨kvs,k,e,rfl,hl,rfl⟩
section
variable {X:Cx} {pins:List (Addr × Obj)} {σ:St} {H:Hp} {s:Shared} {a:Addr} {y v:V} {u r:Value} {o:Option V} {A:Around} {E:Value->Shared->Prop}
theorem Inv.big (I:Inv X pins σ H s):sysModules < s.heap.objs.size:=by
 have h:mainGlobals < s.heap.objs.size:=(I.mod.glob.keeps I.bk).lt
 exact Nat.lt_trans (by decide) h
theorem yI {Q:Value->Shared->Prop} (hu:A.units + 1 < cLine) (I:Inv X pins σ H s) (g:vc H a y (some v)) (ry:RelV y u) (h:∀ w' s',Inv X pins σ H s'->RelV v w'->Q w' s') :
   wpAny (model X.prog X.w) A (getItem (.ref a) u) Q E s:=by
 obtain ⟨kvs,k,e,ey,l⟩:=g
 subst ey
 obtain ⟨z,hd,vs,rel,dd⟩:=uO I.hok e
 obtain ⟨w',hw,rw'⟩:=uy.some_of (v:=v) (o:=valueAt vs k) (by rw [l]; exact rel.val k)
 exact wpAny_getItem_of (xA ry) dd.mapOf hw (h w' _ (I.tok _) rw')
theorem rp {h':Heap} {t':Nat} {ob:HO} (I:Inv X pins σ H s) (mu:Mut (H a)) (hs:Heap.SameBut a s.heap h') (he:∃ q,h'.get? a=some q) (new:dU X.prog X.w (upd H a ob) h' a ob) :
   Inv X pins σ (upd H a ob) { s with heap:=h',toks:=t' }:=
 I.write (x:=a) (e:=a) mu (.inl rfl) (λb q hb z=>(hs.2 b hb).trans z) he new
theorem vF {P:Program} {w:World} {H':Hp} {h':Heap} {kvs:List (Key × V)} {vs:List (Key × Value)} (z:kvs.length<=sizeLine) (hd:(a == sysModules)=false) (rel:KV kvs vs) (dd:h'.DictOf (cw P w) a vs) :
   dU P w H' h' a (.dK kvs):=⟨z,hd,vs,rel,dd⟩
theorem yv {H':Hp} {Q:Unit->Shared->Prop} (hu:A.units + 1 < cLine) (I:Inv X pins σ H s) (g:Bs H a y v H') (ry:RelV y u) (rv:RelV v r) (h:∀ s',Inv X pins σ H' s'->Q () s') :
   wpAny (model X.prog X.w) A (setItem (.ref a) u r) Q E s:=by
 obtain ⟨kvs,k,e,ey,l,eH⟩:=g
 subst ey eH
 obtain ⟨z,hd,vs,rel,dd⟩:=zZ I.hok e
 have hz:vs.length<=sizeLine:=by rw [<- rel.length]; exact z
 have hl:(putK kvs k v).length<=sizeLine:=by have:=mz kvs k v; omega
 refine wpAny_setItem_pairs (hsz:=hz) (xA ry) dd λh' dd' hs=>h _ ?_
 have he:∃ q,h'.get? a=some q:=let ⟨q,_,_,hq,_⟩:=dd'; ⟨q,hq⟩
 exact rp I (by rw [e]; exact True.intro) hs he (vF hl hd (rel.put k rv) dd')
end
section
variable {X:Cx} {pins:List (Addr × Obj)} {σ:St} {H:Hp} {s:Shared} {a:Addr} {kvs:List (Key × V)} {k:Key} {u:Value} {A:Around} {E:Value->Shared->Prop}
end
noncomputable def HI (i:Expr):Prop:=∀ ov iv,subscripted i false ov iv=operate [ov,iv] (getItem ov iv)
theorem D9 {prog:Program} {w:World} {A:Around} {E:Value->Shared->Prop} {s:Shared} {env:Env} {value slice:Expr} {pos:Pos} {T id:String} {Q:Value->Shared->Prop}
   (hl:typeLookup (.type T) "__getitem__" = pure (some (.builtin id))) (hs:HI slice)
   (h:wpAny (model prog w) A (eval value env) (λo s₁=>wpAny (model prog w) A (eval slice env) (λi s₂=>s₂.TypeIs o T/\wpAny (model prog w) A (getItem o i) Q E s₂) E s₁) E s) :
   wpAny (model prog w) A (eval (.Subscript value slice pos) env) Q E s:=by
 refine Subscript_ (wpAny_mono h (λo s₁ h₁=>wpAny_mono h₁ (λi s₂ h₂=>?_) λ_ _ x=>x) λ_ _ x=>x)
 obtain ⟨hT,h₂⟩:=h₂
 unfold subscriptTail
 refine wpAny_bind ?_
 rw [getitemInPython_of_ne hT.not_modules]
 refine wpAny_bind (wpAny_specialOf hT hl ?_)
 have fin:wpAny (model prog w) A (subscripted slice false o i) (λr s₃=>wpAny (model prog w) A (letTemporaryGo value o r >>= λ_=>pure r) Q E s₃) E s₂:=by
   rw [hs o i]
   exact wpAny_operating (wpAny_mono h₂ (λr s₃ h₃=>wpAny_bind (wpAny_letTemporaryGo (wpAny_pure h₃))) λ_ _ x=>x)
 first
   | exact wpAny_pure (wpAny_bind fin)
   | exact wpAny_bind (wpAny_pure (wpAny_bind fin))
   | exact wpAny_bind fin
theorem tG {X:Cx} {pins:List (Addr × Obj)} {σ:St} {H:Hp} {s:Shared} {a:Addr} {y:V} {o:Option V} (I:Inv X pins σ H s) (g:vc H a y o):s.TypeIs (.ref a) "dict":=by
 obtain ⟨kvs,k,e,_,_⟩:=g
 obtain ⟨_,_,vs,_,dd⟩:=uO I.hok e
 exact dd.typeIs
noncomputable def BZ (td ty:TE):TE:=λσ H Q=>td σ H λx H1=>ty σ H1 λy H2=>∃ a v,x=.ref a/\vc H2 a y (some v)/\Q v H2
noncomputable def ET (td ty tv:TE):TS:=λD σ H=>tv σ H λv H1=>td σ H1 λx H2=>ty σ H2 λy H3=>∃ a H4,x=.ref a/\Bs H3 a y v H4/\D.nx σ H4
section
variable {X:Cx} {o i e value:Expr} {pos pos' tpos:Pos} {td ty tv:TE}
theorem yo (hu:X.A.units + 1 < cLine) (ho:PE X o td) (hi:PE X i ty) (hs:HI i):PE X (.Subscript o i pos) (BZ td ty):=by
 intro pins s σ H Q I h
 refine D9 PySem.F.slot_dict_getitem.lookup hs (thn (ho pins s σ H _ I h) λu s1 ⟨x,H1,I1,rx,q1⟩=>thn (hi pins s1 σ H1 _ I1 q1) λiv s2 ⟨y,H2,I2,ry,a,v,ex,g,q2⟩=>?_)
 subst ex
 obtain rfl:u=Value.ref a:=rx
 exact ⟨tG I2 g,yI hu I2 g ry λw' s3 I3 rw'=>⟨v,H2,I3,rw',q2⟩⟩
theorem DG (hu:X.A.units + 1 < cLine) (ho:PE X o td) (hi:PE X i ty) (hv:PE X value tv) (hs:swapsWith value (some (.Subscript o i pos')) pos.line X.env=pure false) :
   PS X (.Assign [.Subscript o i pos'] value pos) (ET td ty tv):=by
 intro pins s σ H D I h
 refine wpAny_Assign_Subscript (thn (hv pins s σ H _ I h) λr s1 ⟨v,H1,I1,rv,q1⟩=>thn (ho pins s1 σ H1 _ I1 q1) λu s2 ⟨x,H2,I2,rx,q2⟩=>thn (hi pins s2 σ H2 _ I2 q2) λiv s3 ⟨y,H3,I3,ry,a,H4,ex,g,q3⟩=>?_) hs
 subst ex
 obtain rfl:u=Value.ref a:=rx
 exact yv hu I3 g ry rv λs4 I4=>⟨σ,H4,I4,q3⟩
end
theorem uE {P:Program} {w:World} {H:Hp} (h:Heap) (hb:sysModules < h.objs.size):dU P w H (h.push { cls:=.type "dict",data:=.dict #[] }) h.objs.size (.dK []):=
 ⟨Nat.zero_le _,beq_eq_false_iff_ne.mpr (Ne.symm (Nat.ne_of_lt hb)),[],.nil,Heap.DictOf.new h⟩
noncomputable def Aa:TE:=λ_ H Q=>∀ p,H p=none->Q (.ref p) (upd H p (.dK []))
section
variable {X:Cx} {pos:Pos}
theorem zV:PE X (.Dict [] [] pos) Aa:=λpins s σ H Q I h=>
 wpAny_Dict_empty ⟨.ref s.heap.objs.size,_,I.laid (a:=s.heap.objs.size) (o:=.dK []) (t':=s.toks) (λ_ _ q=>Heap.get?_push_of_some _ q) (Nat.le_refl _) (uE s.heap I.big),rfl,h _ (I.hok.fresh (Nat.le_refl _))⟩
end
noncomputable def vp:List (TE × TE)->St->Hp->(List (V × V)->Hp->Prop)->Prop
 | [],_,H,Q=>Q [] H
 | (tk,tv) :: r,σ,H,Q=>tk σ H λx H1=>tv σ H1 λy H2=>vp r σ H2 λps H3=>Q ((x,y) :: ps) H3
noncomputable abbrev VV:List (V × V)->List (Value × Value)->Prop:=Paired λp q=>RelV p.1 q.1/\RelV p.2 q.2
noncomputable def PPs (X:Cx) (pos:Pos) (keys:List (Option Expr)) (values:List Expr) (trs:List (TE × TE)):Prop:=
 ∀ (pins:List (Addr × Obj)) (s:Shared) (σ:St) (H:Hp) (Q:List (V × V)->Hp->Prop),Inv X pins σ H s->vp trs σ H Q ->
   wpAny (model X.prog X.w) X.A (evalPairs (pairTrees keys values X.env pos)) (λvs s'=>∃ ps H',Inv X pins σ H' s'/\VV ps vs/\Q ps H') X.xe s
theorem DN {X:Cx} {pos:Pos}:PPs X pos [] [] []:=λpins s σ H Q I h=>pairTrees_nil_walk ⟨[],H,I,.nil,h⟩
theorem Cj {X:Cx} {pos:Pos} {k v:Expr} {ks:List (Option Expr)} {vs:List Expr} {tk tv:TE} {trs:List (TE × TE)} (hk:PE X k tk) (hv:PE X v tv) (hr:PPs X pos ks vs trs) :
   PPs X pos (some k :: ks) (v :: vs) ((tk,tv) :: trs):=λpins s σ H Q I h=>
 pairTrees_cons_walk (thn (hk pins s σ H _ I h) λu s1 ⟨x,H1,I1,rx,q1⟩=>thn (hv pins s1 σ H1 _ I1 q1) λw2 s2 ⟨y,H2,I2,ry,q2⟩=>
   thn (hr pins s2 σ H2 _ I2 q2) λws s3 ⟨ps,H3,I3,rel,q3⟩=>⟨(x,y) :: ps,H3,I3,.cons ⟨rx,ry⟩ rel,q3⟩)
noncomputable def lF (kvs more:List (Key × V)):List (Key × V):=more.foldl (λacc kv=>putK acc kv.1 kv.2) kvs
theorem KV.merge:∀ {more:List (Key × V)} {rs:List (Key × Value)} {kvs:List (Key × V)} {vs:List (Key × Value)},KV more rs->KV kvs vs->KV (lF kvs more) (merged vs rs):=by
 intro more rs kvs vs r
 unfold KV at r
 induction r generalizing kvs vs with
 | nil=>intro q; exact q
 | @cons p q ps qs h t ih=>
   intro r0
   have e:KV (putK kvs p.1 p.2) (stored vs q.1 q.2):=by
     have:=r0.put p.1 h.2
     rw [<- h.1]; exact this
   exact ih e
theorem jM:∀ (more kvs:List (Key × V)),(lF kvs more).length<=kvs.length + more.length
 | [],kvs=>by show kvs.length<=kvs.length + 0; omega
 | p :: r,kvs=>by
   have h1:=jM r (putK kvs p.1 p.2)
   have h2:=mz kvs p.1 p.2
   show (lF (putK kvs p.1 p.2) r).length<=_
   rw [List.length_cons]; omega
theorem ot {P:Program} {w:World}:∀ {kvs:List (Key × V)} {ws:List (Value × Value)},VV (kvs.map λkv=>(kV kv.1,kv.2)) ws->∃ rs,Carries (cw P w) ws rs/\KV kvs rs
 | [],_,r=>by rw [List.map_nil] at r; cases r; exact ⟨[],True.intro,.nil⟩
 | p :: kvs,_,r=>by
   rw [List.map_cons] at r
   cases r with
   | @cons a b as bs h t=>
     obtain ⟨rs,c,q⟩:=ot (P:=P) (w:=w) t
     obtain ⟨b1,b2⟩:=b
     exact ⟨(p.1,b2) :: rs,⟨xA h.1,rfl,c⟩,.cons ⟨rfl,h.2⟩ q⟩
noncomputable def E3 (trs:List (TE × TE)):TE:=λσ H Q=>∀ p,H p=none->vp trs σ (upd H p (.dK [])) λps H2=>H2 p=some (.dK [])/\∃ kvs:List (Key × V),ps=kvs.map (λkv=>(kV kv.1,kv.2))/\kvs.length<=15/\Q (.ref p) (upd H2 p (.dK (lF [] kvs)))
theorem De {X:Cx} {pos:Pos} {keys:List (Option Expr)} {values:List Expr} {trs:List (TE × TE)} (h:PPs X pos keys values trs) (hall:keys.all (·.isSome)=true) (hl:keys.length=values.length) (h0:keys ≠ [])
   (h15:keys.length<=15):PE X (.Dict keys values pos) (E3 trs):=by
 intro pins s σ H Q I q
 have hn:=I.hok.fresh (Nat.le_refl s.heap.objs.size)
 have I1:=I.laid (a:=s.heap.objs.size) (o:=.dK []) (h':=s.heap.push { cls:=.type "dict",data:=.dict #[] }) (t':=s.toks) (λ_ _ q=>Heap.get?_push_of_some _ q) (Nat.le_refl _) (uE s.heap I.big)
 refine wpAny_Dict_walk (knd:=cw X.prog X.w) hall hl h0 h15 (thn (h pins _ σ _ _ I1 (q _ hn)) λws s2 ⟨ps,H2,I2,rel,e,kvs,ep,lk,q2⟩=>?_)
 subst ep
 obtain ⟨rs,c,rk⟩:=ot (P:=X.prog) (w:=X.w) rel
 obtain ⟨z,hd,vs0,r0,dd⟩:=zZ I2.hok e
 cases r0
 refine ⟨rs,c,dd,λh' dd' hs=>⟨.ref s.heap.objs.size,_,?_,rfl,q2⟩⟩
 have hz:(lF [] kvs).length<=sizeLine:=by
   have h1:=jM kvs []
   rw [List.length_nil] at h1
   rw [sizeLine_eq]; omega
 have he:∃ q,h'.get? s.heap.objs.size=some q:=let ⟨q,_,_,hq,_⟩:=dd'; ⟨q,hq⟩
 exact rp I2 (by rw [e]; exact True.intro) hs he (vF hz hd (rk.merge .nil) dd')
structure M2 (X:Cx) (o:Expr) (m:Str) (apos:Pos) (e f:Expr) (cpos:Pos):Prop where
 base:attributeBase o m X.env (eval o X.env)=eval o X.env
 few:((backTo cpos (starEach [e,f] X.env)).all (λx=>!x.1) && (backToKw cpos (keywordEach [] X.env)).all (λx=>x.1.isSome)
   && decide (([e,f]:List Expr).length + ([]:List Keyword).length + (if ([]:List Keyword).isEmpty then 0 else 1) < 30))=true
 line:(apos.endLine == cpos.line)=true
 trees:backTo cpos (starEach [e,f] X.env)=[(false,eval e X.env),(false,eval f X.env)]
noncomputable def IsD (H:Hp) (a:Addr):Prop:=∃ kvs,Rd H a (.dK kvs)
theorem FK {X:Cx} {pins:List (Addr × Obj)} {σ:St} {H:Hp} {s:Shared} {a:Addr} (I:Inv X pins σ H s) (d:IsD H a) :
   s.TypeIs (.ref a) "dict" /\ (∀ b,Value.ref a=.ref b->∃ ob,s.heap.get? b=some ob/\ob.dict=none)/\(a == sysModules)=false:=by
 obtain ⟨kvs,e⟩:=d
 obtain ⟨_,hd,vs,_,dd⟩:=uO I.hok e
 refine ⟨dd.typeIs,λb q=>?_,hd⟩
 cases q
 obtain ⟨ob,_,_,h1,h2,_⟩:=dd
 exact ⟨ob,h1,h2.2.1⟩
section
variable {X:Cx} {pins:List (Addr × Obj)} {σ:St} {H:Hp} {s:Shared} {a:Addr} {y d:V} {u r:Value} {o:Option V} {A:Around} {E:Value->Shared->Prop}
theorem Hh {Q:Value->Shared->Prop} (hu:A.units + 1 < cLine) (I:Inv X pins σ H s) (g:vc H a y o) (ry:RelV y u) (rd:RelV d r) (h:∀ w' s',Inv X pins σ H s'->RelV (o.getD d) w'->Q w' s') :
   wpAny (model X.prog X.w) A (call (.builtin "dict.get") [.ref a,u,r]) Q E s:=by
 obtain ⟨kvs,k,e,ey,l⟩:=g
 subst ey
 obtain ⟨z,hd,vs,rel,dd⟩:=uO I.hok e
 refine call_meetsIn PySem.F.slot_dict_get dd.typeIs PySem.F.entry_dict_get (PySem.F.args_dict_get_3 _ _ _) (meets_dict_get_default (cw X.prog X.w) a (xA ry) hd r) ⟨_,dd.mapOf,h _ _ (I.tok _) ?_⟩
 rw [l]
 exact (rel.val k).getD rd
end
noncomputable def Aq (td ty tx:TE):TE:=λσ H Q=>td σ H λx H1=>∃ a,x=.ref a/\IsD H1 a/\ty σ H1 λy H2=>tx σ H2 λz H3=>∃ o,vc H3 a y o/\Q (o.getD z) H3
section
variable {X:Cx} {o e f:Expr} {apos cpos:Pos} {td ty tx:TE}
theorem AQ (hu:X.A.units + 1 < cLine) (ho:PE X o td) (he:PE X e ty) (hf:PE X f tx) (m:M2 X o "get" apos e f cpos):PE X (.Call (.Attribute o "get" apos) [e,f] [] cpos) (Aq td ty tx):=by
 intro pins s σ H Q I h
 refine wpAny_Call_method m.base m.few m.line PySem.F.plainAttrs_dict PySem.F.slot_dict_get PySem.F.type_dict_get (thn (ho pins s σ H _ I h) λu s1 ⟨x,H1,I1,rx,a,ex,d,q1⟩=>?_)
 subst ex
 obtain rfl:u=Value.ref a:=rx
 obtain ⟨t1,t2,_⟩:=FK I1 d
 refine ⟨t1,t2,?_⟩
 rw [m.trees]
 refine Calls.callWith_builtin rfl (Calls.evalArgs_plain (Calls.spliced_cons (thn (he pins s1 σ H1 _ I1 q1) λiv s2 ⟨y,H2,I2,ry,q2⟩=>
   Calls.spliced_cons (thn (hf pins s2 σ H2 _ I2 q2) λfv s3 ⟨z,H3,I3,rz,ov,g,q3⟩=>Calls.spliced_nil ?_))))
 exact Hh hu I3 g ry rz λw' s4 I4 rw'=>⟨_,H3,I4,rw',q3⟩
end
end L2
namespace Ev
open PySem PySem.Spec PyProof.Rows L2
open PySem.Builtin.Range (rangeFitsLong rangeSize)
noncomputable def kI (n:Int):Obj:={ cls:=.type "range_iterator",data:=.fields #[rawInt (0 + (rangeSize 0 n 1 - 1) * 1),rawInt (rangeSize 0 n 1),rawInt (-1)] }
theorem fits_of {i:Int} (h1:-(2 ^ 62)<=i) (h2:i<=2 ^ 62):rangeFitsLong i=true:=by
 unfold rangeFitsLong
 rw [Bool.and_eq_true,decide_eq_true_iff,decide_eq_true_iff]
 omega
theorem Am {n:Int} (h:0<=n):rangeSize 0 n 1=n:=by
 rw [rangeSize_one]
 split <;> omega
theorem FF {n:Int} (h0:0<=n) (h1:n < 2 ^ 62):(rangeFitsLong 0 && rangeFitsLong n && rangeFitsLong 1 && rangeFitsLong (-1) && rangeFitsLong (0 - 1) && rangeFitsLong (rangeSize 0 n 1))=true:=by
 rw [Am h0,fits_of (i:=n) (by omega) (by omega)]
 decide
theorem y7 (r:Addr) (n:Int) (t u v:Tok) (hs:(rangeFitsLong 0 && rangeFitsLong n && rangeFitsLong 1 && rangeFitsLong (-1) && rangeFitsLong (0 - 1) && rangeFitsLong (rangeSize 0 n 1))=true) :
   Meets (Builtin.«range.__reversed__» ⟨[.ref r],[]⟩) (λ_ R s=>IsRange s.heap r 0 n 1 t u v/\R (.ok (.ret (Value.ref s.heap.objs.size))) { s with heap:=s.heap.push (kI n),toks:=s.toks }):=
 .of_wp λprog w A R s h=>by
   obtain ⟨hp,g,d,tk,os⟩:=s
   obtain ⟨hl,h⟩:=h
   have hs':(!(rangeFitsLong 0 && rangeFitsLong n && rangeFitsLong 1 && rangeFitsLong (-1) && rangeFitsLong (0 - 1) && rangeFitsLong (rangeSize 0 n 1)))=false:=by rw [hs]; rfl
   wp_walk
   rw [if_neg (by rw [hs]; decide),if_pos hs]
   exact wpAny_bind (wpAny_newObj_type (wpAny_pure ⟨_,rfl,h⟩))
section
variable {prog:Program} {w:World} {A:Around} {E:Value->Shared->Prop} {s:Shared}
theorem o8 {r:Addr} {n:Int} {t u v:Tok} {Q:Value->Shared->Prop} (hr:IsRange s.heap r 0 n 1 t u v) (h0:0<=n) (h1:n < 2 ^ 62)
   (h:Q (.ref s.heap.objs.size) { s with heap:=s.heap.push (kI n) }):wpAny (model prog w) A (call (.builtin "range.__reversed__") [.ref r]) Q E s:=
 call_meets F.slot_range_reversed ⟨_,hr,rfl⟩ F.entry_range_reversed (F.args_range_reversed_1 _) (y7 r n t u v (FF h0 h1)) ⟨hr,h⟩
theorem qR {r:Addr} {n:Int} {t u v:Tok} {Q₁:Value->Shared->Prop} (hr:IsRange s.heap r 0 n 1 t u v) (h0:0<=n) (h1:n < 2 ^ 62)
   (h:Q₁ (.ref s.heap.objs.size) { s with heap:=s.heap.push (kI n) }) :
   codeAny (model prog w) A (.call (.builtin "reversed.__new__") ⟨[.type "reversed",.ref r],[]⟩) (wants Q₁ E) s:=by
 have hT:s.TypeIs (.ref r) "range":=⟨_,hr,rfl⟩
 refine codeAny_of_tree ?_
 refine wpAny_bind (wpAny_of_eq (F.newCall_reversed_1 _) (wpAny_pure ⟨plainId_quiet F.plain_reversed_new _,codeAny_builtin F.entry_reversed_new ?_⟩))
 rw [Around.under_plainId F.plain_reversed_new _]
 unfold Builtin.«reversed.__new__»
 refine wpAny_bind (wpAny_of_eq (newClass_reversed _) ?_)
 try dsimp only
 refine wpAny_bind (wpAny_of_eq (a:=()) (by first | rfl | kernel_rfl) ?_)
 refine wpAny_bind (wpAny_of_eq (a:=()) (by first | rfl | kernel_rfl) ?_)
 try dsimp only
 refine wpAny_bind (wpAny_specialOf hT F.slot_range_reversed.lookup ?_)
 try dsimp only
 refine wpAny_bind (wpAny_of_eq (F.slot_range_reversed.bind _) ?_)
 try dsimp only
 first
 | rw [if_neg (show ¬ ((Value.builtin "range.__reversed__" == Value.none)=true) from Bool.false_ne_true)]
 | (show wpAny _ _ (if (Value.builtin "range.__reversed__" == Value.none)=true then _ else _) _ _ _; rw [if_neg (show ¬ ((Value.builtin "range.__reversed__" == Value.none)=true) from Bool.false_ne_true)])
 refine wpAny_bind (wpAny_rule ?_)
 refine wpAny_bind (m:=runValue (.call (.builtin "range.__reversed__") ⟨[.ref r],[]⟩)) (show wpAny _ _ (call (.builtin "range.__reversed__") [.ref r]) _ _ _ from o8 hr h0 h1 ?_)
 first
 | exact wpAny_pure h
 | exact wpAny_bind (wpAny_pure (wpAny_pure h))
theorem mR:isSubtype (.type "range_iterator") (.type "reversed")=pure false:=by rw [isSubtype_type]; kernel_rfl
theorem oo {r:Addr} {n:Int} {t u v:Tok} {Q:Value->Shared->Prop} (hr:IsRange s.heap r 0 n 1 t u v) (h0:0<=n) (h1:n < 2 ^ 62)
   (h:Q (.ref s.heap.objs.size) { s with heap:=s.heap.push (kI n) }):wpAny (model prog w) A (call (.type "reversed") [.ref r]) Q E s:=by
 refine callType_other (U:="range_iterator") (Q₁:=λobj s₁=>obj=.ref s.heap.objs.size/\s₁={ s with heap:=s.heap.push (kI n) }) (by decide +kernel) F.create_reversed ⟨_,_,F.mro_reversed⟩ F.made_reversed mR (F.typeCall_reversed_1 _) (qR hr h0 h1 ⟨rfl,rfl⟩) ?_
 rintro obj s₁ ⟨rfl,rfl⟩
 exact ⟨⟨_,Heap.get?_push_size _ rfl,rfl⟩,h⟩
end
noncomputable def Itd (n:Nat):L2.It:=⟨λi _=>i < n,λi H x H'=>H'=H/\x=.int ((n:Int) - 1 - i),λi _=>n<=i⟩
theorem DY {P:Program} {w:World} {K:PySem.W.Frag} {tg:Expr} (it:Addr) (n:Nat):Turn P w K tg (Itd n) [it] it (λi h=>i<=n/\IsRangeIter h it ((n:Int) - 1 + (i:Nat) * (-1)) ((n:Int) - (i:Nat)) (-1)) where
 mem:=by simp
 obj:=λi h st b hb=>by
   have e:b=it:=by simpa using hb
   subst e
   exact ⟨_,st.2,λv z=>by
     have z':Data.fields _=Data.cell v:=z
     cases z'⟩
 keep:=λi h h' st k=>⟨st.1,k it (by simp) _ st.2⟩
 item:=by
   intro X hP hw hK hc i pins s σ H E I hf st hg
   subst hP hw hK
   obtain ⟨f0,f1,f2,f3,f4,f5⟩:=hf it (by simp)
   have W:=Walks.range (prog:=X.prog) (w:=X.w) (I.ok.hd hc) it ((n:Int) - 1) (-1) n
   refine W.item i s _ _ hg st.2 λv h' tk hv st' kk=>?_
   obtain ⟨t,rfl⟩:=hv
   have I1:Inv X pins σ H { s with heap:=h',toks:=tk }:=I.turned (λb o hb e=>kk b o (by simpa using hb) e) f0 f1 f3 f4 f5
   refine ⟨_,rfl,tV (s:={ s with heap:=h',toks:=tk }) (n:="range_iterator") st' rfl rfl (by decide) ⟨.int ((n:Int) - 1 - i),H,I1,⟨t,?_⟩,⟨rfl,rfl⟩,⟨hg,st'⟩,λb hb=>(hf b hb).1⟩⟩
   rw [Int.mul_neg,Int.mul_one,<- Int.sub_eq_add_neg]
 done:=by
   intro X hP hw hK hc i pins s σ H E I hf st hg
   subst hP hw hK
   obtain ⟨f0,f1,f2,f3,f4,f5⟩:=hf it (by simp)
   have hg:n<=i:=hg
   obtain rfl:i=n:=Nat.le_antisymm st.1 hg
   have W:=Walks.range (prog:=X.prog) (w:=X.w) (I.ok.hd hc) it ((i:Int) - 1) (-1) i
   exact W.done s _ _ st.2 λh' tk kk=>⟨rfl,I.turned (λb o hb e=>kk b o (by simpa using hb) e) f0 f1 f3 f4 f5⟩
 self:=λ_ _ _ _ _ st h=>wpAny_pyIter_rangeiter st.2 h
section
variable {X:Cx} {tg:Expr}
noncomputable def iDn (ta:TA):TI:=λσ H R=>ta σ H λvs H1=>∃ n:Nat,vs=[.int n]/\n < 1000/\R (Itd n) H1
theorem Hu {a:Expr} {ta:TA} {p p' pos pos':Pos} (hg:Gl X "reversed") (hm:X.mg "reversed" = none) (hg':Gl X "range") (hm':X.mg "range" = none) (ha:PA X [a] ta) (hs':starEach [a] X.env=[(false,eval a X.env)]:=by rfl)
   (hs:starEach [.Call (.Name "range" p') [a] [] pos'] X.env=[(false,eval (.Call (.Name "range" p') [a] [] pos') X.env)]:=by rfl):PI X tg (.Call (.Name "reversed" p) [.Call (.Name "range" p') [a] [] pos'] [] pos) (iDn ta):=by
 intro pins s σ H R I h
 refine Call_ (g8 I hg hm zS (PyProof.Rows.callWith_type1 ?_ hs rfl))
 rw [hs]
 refine Calls.spliced_cons (Call_ (g8 I hg' hm' boot_range (PyProof.Rows.callWith_type1 (thn (ha pos' pins s σ H _ I h) λus s1 ⟨vs,H1,I1,r1,n,e,hn,q⟩=>?_) hs' rfl)))
 subst e
 cases r1 with
 | cons r rr=>
   cases rr
   obtain ⟨t,rfl⟩:=r
   refine call_range_1 (Calls.spliced_nil ?_)
   have I2:Inv X pins σ H1 { s1 with heap:=s1.heap.push { cls:=.type "range",data:=.fields #[.int 0 s1.toks,.int n t,.int 1 (s1.toks + 1)] },toks:=s1.toks + 1 + 1 }:=I1.kept λb o e=>Heap.get?_push_of_some _ e
   refine oo (IsRange.new ..) (by omega) (by omega) ?_
   have z:rangeSize 0 (n:Int) 1=n:=Am (by omega)
   have st:(Heap.push (s1.heap.push { cls:=.type "range",data:=.fields #[.int 0 s1.toks,.int n t,.int 1 (s1.toks + 1)] }) (kI n)).get? (s1.heap.push { cls:=.type "range",data:=.fields #[.int 0 s1.toks,.int n t,.int 1 (s1.toks + 1)] }).objs.size=some (kI n):=Heap.get?_push_size _ rfl
   have st':IsRangeIter (Heap.push (s1.heap.push { cls:=.type "range",data:=.fields #[.int 0 s1.toks,.int n t,.int 1 (s1.toks + 1)] }) (kI n)) (s1.heap.push { cls:=.type "range",data:=.fields #[.int 0 s1.toks,.int n t,.int 1 (s1.toks + 1)] }).objs.size ((n:Int) - 1 + ((0:Nat):Int) * (-1)) ((n:Int) - ((0:Nat):Int)) (-1):=by
     unfold IsRangeIter
     rw [st,kI,z]
     congr 6
     all_goals (simp)
   refine wpAny_pyIter_rangeiter (x:=(n:Int) - 1 + ((0:Nat):Int) * (-1)) (left:=(n:Int) - ((0:Nat):Int)) (step:=-1) st' ?_
   refine ⟨_,[(s1.heap.push { cls:=.type "range",data:=.fields #[.int 0 s1.toks,.int n t,.int 1 (s1.toks + 1)] }).objs.size],_,_,H1,rfl,I2.kept (t':=s1.toks + 1 + 1) λb o e=>Heap.get?_push_of_some _ e,DY _ n,⟨Nat.zero_le _,st'⟩,λb hb=>?_,q⟩
   have e:b=(s1.heap.push { cls:=.type "range",data:=.fields #[.int 0 s1.toks,.int n t,.int 1 (s1.toks + 1)] }).objs.size:=by simpa using hb
   subst e
   exact I2.sj (Nat.le_refl _) (I2.hok.fresh (Nat.le_refl _))
end
end Ev
namespace Ev
open PySem PySem.Spec PyProof.Rows L2
noncomputable def cL (kv:List (Int × Int)):List (Key × V):=kv.map λp=>(.inl p.1,.int p.2)
noncomputable def Itk (a:Addr) (o:Obj) (kv:List (Int × Int)):L2.It:=
 ⟨λi H=>i < kv.length/\H a=some (.frz o (.dK (cL kv))),λi H x H'=>H'=H/\∃ p,kv[i]?=some p/\x=.int p.1,λi H=>kv.length<=i/\H a=some (.frz o (.dK (cL kv)))⟩
theorem Bv {X:Cx} {pins:List (Addr × Obj)} {σ:L2.St} {H:Hp} {s:Shared} {a:Addr} {o:Obj} {kvs:List (Key × V)} {es:Array DictEntry} {ep:Nat} (I:Inv X pins σ H s) (h:H a=some (.frz o (.dK kvs))) (hd:o.data=.dict es ep) :
   ∃ vs,KV kvs vs/\s.heap.DictAt (cw X.prog X.w) a vs ep:=by
 obtain ⟨e,_,_,vs,rel,o',es',ep',e',r⟩:=(show dU X.prog X.w H s.heap a (.frz o (.dK kvs)) from I.hok a _ h)
 rw [e] at e'; cases e'
 have z:=r.2.1
 rw [hd] at z
 injection z with z1 z2
 subst z1 z2
 exact ⟨vs,rel,o,es,e,r⟩
theorem yF {P:Program} {w:World} {K:PySem.W.Frag} {tg:Expr} (a it:Addr) (o:Obj) (kv:List (Int × Int)) (es:Array DictEntry) (ep:Nat) (hd:o.data=.dict es ep) :
   Turn P w K tg (Itk a o kv) [it] it (λi h=>i<=kv.length/\h.IsKeyIter it a i kv.length ep) where
 mem:=by simp
 obj:=λi h st b hb=>by
   have e:b=it:=by simpa using hb
   subst e
   obtain ⟨o,e,c,d⟩:=st.2
   exact ⟨o,e,λv z=>by rw [d] at z; cases z⟩
 keep:=λi h h' st k=>⟨st.1,st.2.at λo e=>k it (by simp) o e⟩
 item:=by
   intro X hP hw hK hc i pins s σ H E I hf st hg
   subst hP hw hK
   obtain ⟨hi,ha⟩:=hg
   obtain ⟨f0,f1,f2,f3,f4,f5⟩:=hf it (by simp)
   obtain ⟨vs,rel,dd⟩:=Bv I ha hd
   have hl:kv.length=vs.length:=by rw [<- rel.length,cL,List.length_map]
   have st2:=st.2
   rw [hl] at st2
   have hx:vs[i]?=some vs[i]:=by simp [show i < vs.length by omega]
   have kk:=congrArg (λl=>l[i]?) rel.keys
   simp only [cL,List.map_map,List.getElem?_map,hx,List.getElem?_eq_getElem hi,Option.map_some,Function.comp] at kk
   have kk:=Option.some.inj kk
   refine wpAny_pyNext_dict_item st2 dd hx λkey h' hk st' sb=>?_
   have hk:(cw X.prog X.w).is (Sum.inl kv[i].fst) key=true:=by rw [kk]; exact hk
   obtain ⟨t,rfl⟩:=Value.isInt_shape (show Value.isInt _ key=true from hk)
   have I1:Inv X pins σ H { s with heap:=h' }:=I.turned (t':=s.toks) (λb o hb e=>(sb.2 b hb).trans e) f0 f1 f3 f4 f5
   obtain ⟨o',e,c,d⟩:=id st'
   refine ⟨_,rfl,tV (s:={ s with heap:=h' }) e c d (by decide) ⟨.int kv[i].1,H,I1,⟨t,rfl⟩,⟨rfl,_,List.getElem?_eq_getElem hi,rfl⟩,⟨hi,by rw [hl]; exact st'⟩,λb hb=>(hf b hb).1⟩⟩
 done:=by
   intro X hP hw hK hc i pins s σ H E I hf st hg
   subst hP hw hK
   obtain ⟨hi,ha⟩:=hg
   obtain ⟨f0,f1,f2,f3,f4,f5⟩:=hf it (by simp)
   obtain ⟨vs,rel,dd⟩:=Bv I ha hd
   have hl:kv.length=vs.length:=by rw [<- rel.length,cL,List.length_map]
   have st2:=st.2
   rw [hl] at st2
   exact wpAny_pyNext_dict_end (I.ok.hd hc) st2 dd (List.getElem?_eq_none (by omega)) λh' eb=>⟨rfl,I.turned (t':=s.toks) (λb o hb e=>eb b o hb e) f0 f1 f3 f4 f5⟩
 self:=λ_ _ _ _ _ st h=>wpAny_pyIter_keyiter st.2 h
section
variable {X:Cx} {tg:Expr}
noncomputable def EG (tl:TE):TI:=λσ H R=>tl σ H λx H1=>∃ a kv,x=.ref a/\H1 a=some (.dK (cL kv))/\∀ o,R (Itk a o kv) (upd H1 a (.frz o (.dK (cL kv))))
theorem DX {l:Expr} {tl:TE} (hl:PE X l tl):PI X tg l (EG tl):=by
 intro pins s σ H R I h
 refine thn (hl pins s σ H _ I h) λu s1 ⟨x,H1,I1,r1,a,kv,ex,ha,q⟩=>?_
 subst ex
 cases r1
 obtain ⟨z,hd,vs,rel,dd⟩:=zZ I1.hok ha
 obtain ⟨o,es,ep,e,r⟩:=id dd
 have q:=q o
 have I2:Inv X pins σ (upd H1 a (.frz o (.dK (cL kv)))) s1:=rp (t':=s1.toks) (h':=s1.heap) I1 (by rw [ha]; exact True.intro) (.refl _ _) ⟨o,e⟩ ⟨e,vF z hd rel dd⟩
 refine wpAny_pyIter_dict hd (show s1.heap.DictAt (cw X.prog X.w) a vs ep from ⟨o,es,e,r⟩) ?_
 have hv:vs.length=kv.length:=by rw [<- rel.length,cL,List.length_map]
 refine ⟨s1.heap.objs.size,[s1.heap.objs.size],_,_,_,rfl,I2.kept (t':=s1.toks) λb o e=>Heap.get?_push_of_some _ e,yF a _ o kv es ep r.2.1,⟨Nat.zero_le _,?_⟩,λb hb=>?_,q⟩
 · rw [<- hv]
   exact ⟨_,Heap.get?_push_size _ rfl,rfl,rfl⟩
 · have e:b=s1.heap.objs.size:=by simpa using hb
   subst e
   exact I2.sj (Nat.le_refl _) (I2.hok.fresh (Nat.le_refl _))
end
end Ev
namespace Sv
open PySem PySem.Spec L2
open Ev (D aA aK ae)
noncomputable section
noncomputable def mh (kv:List (Int × Int)) (k v:Int):List (Int × Int):=
 if (kv.any λp=>decide (p.1=k))=true then kv.map (λp=>if p.1=k then (p.1,v) else p) else kv++[(k,v)]
noncomputable def cy (kv:List (Int × Int)) (k:Int):Option Int:=(kv.find? λp=>decide (p.1=k)).map (·.2)
noncomputable def Ca (k:Int) (j:Nat):Bool:=decide (Builtin.bitAnd (k / 2 ^ j) 1=1)
noncomputable def vk (k:Int) (j:Nat):Int:=Builtin.bitOr k (1 * 2 ^ j)
noncomputable def sgZ (b:Int):Int:=1 - 2 * b.fmod 2
noncomputable def yO (row:List Int) (k v:Int) (j:Nat) (s:Int × List (Int × Int)):Int × List (Int × Int):=
 if Ca k j then (s.1 + 1,s.2) else (s.1,mh s.2 (vk k j) ((cy s.2 (vk k j)).getD 0 + sgZ s.1 * row.getD j 0 * v))
noncomputable def gL (n:Nat) (row:List Int) (k v:Int) (kv:List (Int × Int)):Nat->Int × List (Int × Int)
 | 0=>(0,kv)
 | c + 1=>yO row k v (n - 1 - c) (gL n row k v kv c)
noncomputable def d9 (n:Nat) (row:List Int) (kv:List (Int × Int)):Nat->List (Int × Int)
 | 0=>[]
 | t + 1=>(gL n row (kv.getD t (0,0)).1 ((cy kv (kv.getD t (0,0)).1).getD 0) (d9 n row kv t) n).2
noncomputable def gC (Ms:List (List Int)):Nat->List (Int × Int)
 | 0=>[(0,1)]
 | i + 1=>d9 Ms.length (Ms.getD i []) (gC Ms i) (gC Ms i).length
noncomputable def lim:Nat:=2 ^ 3900
noncomputable def okZ (Ms:List (List Int)):Prop:=Ms.length<=7/\(∀ r ∈ Ms,r.length=Ms.length/\∀ x ∈ r,x.natAbs < lim)/\∀ i,i < Ms.length->∀ p ∈ gC Ms i,p.2.natAbs < lim
noncomputable def vq (Ms:List (List Int)):Option Int:=open Classical in if okZ Ms then cy (gC Ms Ms.length) (2 ^ Ms.length - 1) else none
noncomputable def om (st:Sto):List U->Option (List (List Int))
 | []=>some []
 | u :: r=>((pM st u).bind nS).bind λx=>(om st r).map (x :: ·)
noncomputable def Fw:T->Option (List Int)
 | .lst ds=>nK ds
 | _=>none
noncomputable def iL:List T->Option (List (List Int))
 | []=>some []
 | d :: r=>(Fw d).bind λx=>(iL r).map (x :: ·)
noncomputable def oT:List U->Sto->Rs U
 | [x],st=>match ((pM st x).bind (om st)).bind vq with
   | some r=>.ok (.int r) st
   | none=>.bad
 | _,_=>.bad
noncomputable def mx:List T->Ou T
 | [.lst ds]=>match (iL ds).bind vq with
   | some r=>.ok (.int r)
   | none=>.bad
 | _=>.bad
theorem B5 {h:Hd} {st:Sto} (w:Wf h st) {n:Nat}:∀ {us:List U} {ds:List T} {Ms:List (List Int)},PXs n h st us ds->iL ds=some Ms->om st us=some Ms:=by
 intro us ds
 induction ds generalizing us with
 | nil=>
   intro Ms p e
   obtain ⟨p,_⟩:=p
   cases p
   exact e
 | cons d ds ih=>
   intro Ms p e
   obtain ⟨p,q⟩:=p
   cases p with
   | @cons u us' _ _ p1 p2=>
     simp only [iL] at e
     cases h1:Fw d with
     | none=>rw [h1] at e; cases e
     | some x=>
       rw [h1] at e
       cases h2:iL ds with
       | none=>rw [h2] at e; cases e
       | some l=>
         rw [h2] at e
         cases e
         have r2:=ih ⟨p2,λu hu=>q u (List.mem_cons_of_mem _ hu)⟩ h2
         match d,h1,p1 with
         | .lst xs,h1,p1=>
           obtain ⟨vs,e1,_,e3⟩:=iI w (k:=n) ⟨p1,q u (List.mem_cons_self ..)⟩
           simp only [om,e1,r2,Option.bind_some,ints_rep e3.1 h1]
           rfl
theorem Bj (md:Md):Pure md oT mx:=by
 have key:∀ ds d,mx ds=.ok d->∃ xs r,ds=[.lst xs]/\d=.int r/\(iL xs).bind vq=some r:=λds d e=>by
   unfold mx at e
   split at e
   · split at e
     · cases e
       exact ⟨_,_,rfl,rfl,by assumption⟩
     · cases e
   · cases e
 refine ⟨λ_ ds d e=>?_,λh st us ds wf p=>?_⟩
 · obtain ⟨xs,r,_,rfl,_⟩:=key ds d e
   rfl
 · cases e:mx ds with
   | bad=>trivial
   | exc c=>
     unfold mx at e
     split at e
     · split at e <;> cases e
     · cases e
   | ok d=>
     obtain ⟨xs,r,rfl,rfl,hr⟩:=key ds d e
     obtain ⟨p,q⟩:=p
     cases p with
     | @cons u us' _ _ p1 p2=>
       cases p2
       obtain ⟨vs,e1,_,e3⟩:=iI wf (k:=0) ⟨p1,q u (List.mem_cons_self ..)⟩
       cases e4:iL xs with
       | none=>rw [e4] at hr; cases hr
       | some Ms=>
         rw [e4] at hr
         have e5:oT [u] st=.ok (.int r) st:=by
           simp only [oT,e1,Option.bind_some,B5 wf e3 e4]
           rw [show vq Ms=some r from hr]
         refine ⟨_,_,h,e5,Gr.refl wf,?_⟩
         unfold FrR
         rw [if_pos (.inr rfl)]
         exact .of .int .int
end
end Sv
namespace Sv
open PySem PySem.Spec PyProof.Rows L2 Ev
noncomputable abbrev Jn (K:PySem.W.Frag):List V->Hp->VK->Prop:=λxs H Q=>∃ p ys,xs=[.ref p]/\(SqL K H p ys\/SqT K H p ys)/\Q (.int ys.length) H
noncomputable abbrev Gf (K:PySem.W.Frag):TE:=tCB (Jn K) (wX (fO 0) Dz)
noncomputable abbrev FT (K:PySem.W.Frag):TS:=IP (tB (HE (tOp (rI (λ_ _=>True) λi j=>V.int (Builtin.bitAnd i j)) (tOp (rI (λ_ j=>0<=j) λi j=>V.int (i / 2 ^ j.toNat)) (fO 4) (fO 6)) (tC (.int 1))) (tC (.int 1))))
 (n9 (tOp (rI (λ_ _=>True) λi j=>V.int (i + j)) (fO 5) (tC (.int 1))) (gG 5))
 (ui (n9 (tOp (rI0 λi j=>V.int (Builtin.bitOr i j)) (fO 4) (tOp (rI DF λi j=>V.int (i * 2 ^ j.toNat)) (tC (.int 1)) (fO 6))) (gG 7))
   (ui (n9 (tOp (rI (λ_ _=>True) λi j=>V.int (i - j)) (tC (.int 1)) (tOp (rI aA λi j=>V.int (i * j)) (tC (.int 2)) (tOp (rI (λ_ j=>j ≠ 0) λi j=>V.int (i.fmod j)) (fO 5) (tC (.int 2))))) (gG 8))
     (ET (fO 3) (fO 7) (tOp (rI (λ_ _=>True) λi j=>V.int (i + j)) (Aq (fO 3) (fO 7) (tC (.int 0)))
       (tOp (rI aA λi j=>V.int (i * j)) (tOp (rI aA λi j=>V.int (i * j)) (fO 8) (tOp (HX K) (fO 2) (fO 6))) (BZ (fO 1) (fO 4)))))))
noncomputable abbrev EN (K:PySem.W.Frag):TS:=ui (n9 (tC (.int 0)) (gG 5)) (A0 (iDn (wX (Gf K) Dz)) (gG 6) (FT K))
noncomputable abbrev IS (K:PySem.W.Frag):TS:=ui (n9 Aa (gG 3)) (ui (A0 (EG (fO 1)) (gG 4) (EN K)) (n9 (fO 3) (gG 1)))
noncomputable abbrev Hq (K:PySem.W.Frag):TS:=ui (n9 (E3 [(tC (.int 0),tC (.int 1))]) (gG 1)) (ui (A0 (EH K (fO 0)) (gG 2) (IS K))
 (IE (BZ (fO 1) (tOp (rI (λ_ _=>True) λi j=>V.int (i - j)) (tOp (rI DF λi j=>V.int (i * 2 ^ j.toNat)) (tC (.int 1)) (Gf K)) (tC (.int 1))))))
theorem DZ (kv:List (Int × Int)) (k:Int):((cL kv).any λp=>decide (p.1=.inl k))=kv.any λp=>decide (p.1=k):=by
 unfold cL
 rw [List.any_map]
 congr 1
 funext p
 simp
theorem xX (kv:List (Int × Int)) (k v:Int):putK (cL kv) (.inl k) (.int v)=cL (mh kv k v):=by
 unfold putK mh
 rw [DZ]
 by_cases h:(kv.any λp=>decide (p.1=k))=true
 · rw [if_pos h,if_pos h]
   unfold cL
   rw [List.map_map,List.map_map]
   refine List.map_congr_left λp _=>?_
   simp only [Function.comp]
   by_cases z:p.1=k
   · rw [if_pos (congrArg Sum.inl z),if_pos z]
   · rw [if_neg (λy=>z (Sum.inl.inj y)),if_neg z]
 · rw [if_neg h,if_neg h]
   unfold cL
   rw [List.map_append]
   rfl
theorem jl:∀ (kv:List (Int × Int)) (k:Int),gh (cL kv) (.inl k)=(cy kv k).map V.int
 | [],_=>rfl
 | p :: r,k=>by
   unfold cy
   by_cases z:p.1=k
   · rw [List.find?_cons_of_pos (by simp [z])]
     exact cE (p:=(Sum.inl p.1,V.int p.2)) (congrArg Sum.inl z)
   · rw [List.find?_cons_of_neg (by simp [z])]
     exact (cJ (p:=(Sum.inl p.1,V.int p.2)) (λy=>z (Sum.inl.inj y))).trans (jl r k)
theorem EC (kv:List (Int × Int)) (k v:Int):(mh kv k v).length<=kv.length + 1:=by
 unfold mh
 split
 · rw [List.length_map]; omega
 · rw [List.length_append,List.length_cons,List.length_nil]; omega
set_option exponentiation.threshold 4000 in
theorem wN {i:Int} (h:i.natAbs < lim):i.natAbs.log2 < 1000000:=by
 rcases Nat.eq_zero_or_pos i.natAbs with h0 | hp
 · rw [h0]; decide
 · exact Nat.lt_of_lt_of_le ((Nat.log2_lt (by omega)).mpr h) (by decide)
theorem uk (b:Int):sgZ b=1\/sgZ b=-1:=by
 unfold sgZ
 rw [Int.fmod_eq_emod_of_nonneg _ (by decide)]
 omega
theorem Hf {row:List Int} {j:Nat} (h:j < row.length):atI (row.map V.int) (j:Int)=some (.int (row.getD j 0)):=by
 unfold atI ixN
 rw [if_pos (by omega),if_pos (by rw [List.length_map]; omega)]
 simp [List.getD_eq_getElem?_getD,h]
theorem FL {K:PySem.W.Frag} {D:Ends} {H:Hp} {a d p l:Addr} {m b v:Int} {j:Nat} {x7 x8:Option V} {row:List Int} {kv lk:List (Int × Int)} {o:Obj}
   (hj:j < row.length) (hp:SqL K H p (row.map V.int)) (hl:H l=some (.dK (cL lk))) (hd:H d=some (.frz o (.dK (cL kv)))) (hv:cy kv m=some v) (h1:(row.getD j 0).natAbs < lim) (h2:v.natAbs < lim) (h3:lk.length < sizeLine) (h4:j < 1000)
   (hn:∀ x7 x8 H',H' l=some (.dK (cL (yO row m v j (b,lk)).2))->(∀ c,c ≠ l->H' c=H c)->D.nx [some (.ref a),some (.ref d),some (.ref p),some (.ref l),some (.int m),some (.int (yO row m v j (b,lk)).1),some (.int j),x7,x8] H') :
   FT K D [some (.ref a),some (.ref d),some (.ref p),some (.ref l),some (.int m),some (.int b),some (.int j),x7,x8] H:=by
 refine ⟨_,rfl,_,rfl,m,j,rfl,rfl,by omega,_,1,rfl,rfl,trivial,_,1,rfl,rfl,_,rfl,?_⟩
 rw [Int.toNat_natCast]
 show if Ca m j=true then _ else _
 unfold yO at hn
 by_cases hb:Ca m j=true
 · rw [if_pos hb]
   rw [if_pos hb] at hn
   exact ⟨_,rfl,_,_,rfl,rfl,trivial,hn x7 x8 H hl λ_ _=>rfl⟩
 · rw [if_neg hb]
   rw [if_neg hb] at hn
   refine ⟨_,rfl,_,rfl,1,j,rfl,rfl,⟨by omega,by omega,by decide⟩,m,_,rfl,rfl,?_⟩
   rw [Int.toNat_natCast]
   have e1:((gh (cL lk) (.inl (Builtin.bitOr m (1 * 2 ^ j)))).getD (V.int 0))=V.int ((cy lk (vk m j)).getD 0):=by
     rw [jl]
     show _=V.int ((cy lk (Builtin.bitOr m (1 * 2 ^ j))).getD 0)
     cases cy lk (Builtin.bitOr m (1 * 2 ^ j)) <;> rfl
   have e2:gh (cL kv) (.inl m)=some (V.int v):=by rw [jl,hv]; rfl
   have s1:aA (sgZ b) (row.getD j 0):=cG (by rcases uk b with h | h <;> rw [h] <;> decide)
   have s2:aA (sgZ b * row.getD j 0) v:=by
     refine .inr (.inr ⟨wN ?_,wN h2⟩)
     rw [Int.natAbs_mul]
     rcases uk b with h | h <;> rw [h] <;> simpa using h1
   have s3:aA 2 (b.fmod 2):=cG (by decide)
   refine ⟨.int b,rfl,b,2,rfl,rfl,(show (2:Int) ≠ 0 by decide),2,_,rfl,rfl,s3,1,_,rfl,rfl,trivial,?_⟩
   refine ⟨.ref l,rfl,l,rfl,⟨_,.inl hl⟩,.int (Builtin.bitOr m (1 * 2 ^ j)),rfl,_,vc.k (k:=.inl (Builtin.bitOr m (1 * 2 ^ j))) hl,?_⟩
   refine ⟨.int (sgZ b),rfl,.ref p,rfl,.int j,rfl,p,_,j,_,rfl,rfl,hp,Hf hj,_,_,rfl,rfl,s1,.ref d,rfl,.int m,rfl,d,.int v,rfl,⟨_,.inl m,.inr ⟨o,hd⟩,rfl,e2.symm⟩,_,_,rfl,rfl,s2,_,_,e1,rfl,trivial,?_⟩
   refine ⟨.ref l,rfl,.int (Builtin.bitOr m (1 * 2 ^ j)),rfl,l,_,rfl,Bs.k (k:=.inl (Builtin.bitOr m (1 * 2 ^ j))) hl (by unfold cL; rw [List.length_map]; exact h3),?_⟩
   refine hn _ _ _ ?_ λc hc=>ar hc
   rw [aW,xX]
   rfl
theorem Gk {n:Nat} {g:TG} {tb:TS} {D:Ends} {σ:L2.St} {H:Hp} (Pv:Nat->L2.St->Hp->Prop) (h0:Pv 0 σ H)
   (hs:∀ i σ H,i < n->Pv i σ H->g (.int ((n - 1 - i:Nat):Int)) σ H λσ2 H2=>tb { D with nx:=Pv (i + 1),ct:=Pv (i + 1),bk:=D.nx } σ2 H2) (hd:∀ σ H,Pv n σ H->D.nx σ H) :
   ∃ W:Nat->Nat->L2.St->Hp->Prop,(∃ m,W 0 m σ H)/\∀ i m σ H,W i m σ H ->
     ((Itd n).stop i H/\D.nx σ H)\/((Itd n).go i H/\∃ N:L2.St->Hp->Prop,(∀ σ' H',N σ' H'->∃ m',m' < m/\W (i + 1) m' σ' H')/\∀ x H',(Itd n).yld i H x H'->g x σ H' λσ2 H2=>tb { D with nx:=N,ct:=N,bk:=D.nx } σ2 H2):=by
 refine ⟨λi m σ H=>m=n - i/\i<=n/\Pv i σ H,⟨n,by simp,Nat.zero_le _,h0⟩,?_⟩
 rintro i m σ H ⟨rfl,hi,p⟩
 by_cases hlt:i < n
 · refine .inr ⟨hlt,Pv (i + 1),λσ' H' p'=>⟨n - (i + 1),by omega,rfl,hlt,p'⟩,λx H' y=>?_⟩
   obtain ⟨e,y⟩:=y
   rw [e,y,show (n:Int) - 1 - i=((n - 1 - i:Nat):Int) by omega]
   exact hs i σ _ hlt p
 · have e:i=n:=by omega
   subst e
   exact .inl ⟨Nat.le_refl _,hd σ H p⟩
theorem By {a:Addr} {o:Obj} {kv:List (Int × Int)} {g:TG} {tb:TS} {D:Ends} {σ:L2.St} {H:Hp} (Pv:Nat->L2.St->Hp->Prop) (h0:Pv 0 σ H) (hl:∀ i σ H,Pv i σ H->H a=some (.frz o (.dK (cL kv))))
   (hs:∀ i σ H,i < kv.length->Pv i σ H->g (.int (kv.getD i (0,0)).1) σ H λσ2 H2=>tb { D with nx:=Pv (i + 1),ct:=Pv (i + 1),bk:=D.nx } σ2 H2) (hd:∀ σ H,Pv kv.length σ H->D.nx σ H) :
   ∃ W:Nat->Nat->L2.St->Hp->Prop,(∃ m,W 0 m σ H)/\∀ i m σ H,W i m σ H ->
     ((Itk a o kv).stop i H/\D.nx σ H)\/((Itk a o kv).go i H/\∃ N:L2.St->Hp->Prop,(∀ σ' H',N σ' H'->∃ m',m' < m/\W (i + 1) m' σ' H')/\∀ x H',(Itk a o kv).yld i H x H'->g x σ H' λσ2 H2=>tb { D with nx:=N,ct:=N,bk:=D.nx } σ2 H2):=by
 refine ⟨λi m σ H=>m=kv.length - i/\i<=kv.length/\Pv i σ H,⟨_,rfl,Nat.zero_le _,h0⟩,?_⟩
 rintro i m σ H ⟨rfl,hi,p⟩
 by_cases hlt:i < kv.length
 · refine .inr ⟨⟨hlt,hl i σ H p⟩,Pv (i + 1),λσ' H' p'=>⟨kv.length - (i + 1),by omega,rfl,hlt,p'⟩,λx H' y=>?_⟩
   obtain ⟨e,q,hq,y⟩:=y
   have:(kv.getD i (0,0))=q:=by rw [List.getD_eq_getElem?_getD,hq]; rfl
   rw [e,y,<- this]
   exact hs i σ _ hlt p
 · have e:i=kv.length:=by omega
   subst e
   exact .inl ⟨⟨Nat.le_refl _,hl _ σ H p⟩,hd σ H p⟩
theorem oe (n:Nat) (row:List Int) (k v:Int) (kv:List (Int × Int)):∀ c,(gL n row k v kv c).2.length<=kv.length + c
 | 0=>Nat.le_refl _
 | c + 1=>by
   have:=oe n row k v kv c
   rw [gL,yO]
   split
   · dsimp only; omega
   · have:=EC (gL n row k v kv c).2 (vk k (n - 1 - c)) ((cy (gL n row k v kv c).2 (vk k (n - 1 - c))).getD 0 + sgZ (gL n row k v kv c).1 * row.getD (n - 1 - c) 0 * v)
     dsimp only
     omega
theorem lJ (n:Nat) (row:List Int) (kv:List (Int × Int)):∀ t,(d9 n row kv t).length<=t * n
 | 0=>by rw [d9,List.length_nil]; omega
 | t + 1=>by
   have h1:=lJ n row kv t
   have h2:=oe n row (kv.getD t (0,0)).1 ((cy kv (kv.getD t (0,0)).1).getD 0) (d9 n row kv t) n
   rw [d9,Nat.succ_mul]
   omega
theorem uH (Ms:List (List Int)):∀ i,(gC Ms i).length<=Ms.length ^ i
 | 0=>Nat.le_refl 1
 | i + 1=>by
   rw [gC,Nat.pow_succ]
   exact Nat.le_trans (lJ _ _ _ _) (Nat.mul_le_mul_right _ (uH Ms i))
section
variable {K:PySem.W.Frag} {H0:Hp} {a d p l:Addr} {o:Obj} {row:List Int} {kv:List (Int × Int)} {n:Nat} {ys:List V}
theorem Ed {D:Ends} {H:Hp} {m v:Int} {x5 x6 x7 x8:Option V} {lk:List (Int × Int)} (hr:row.length=n) (hn7:n<=7) (ha:SqL K H a ys) (hy:ys.length=n) (hp:SqL K H p (row.map V.int)) (hl:H l=some (.dK (cL lk))) (hd:H d=some (.frz o (.dK (cL kv)))) (hld:l ≠ d)
   (hal:∀ H':Hp,(∀ c,c ≠ l->H' c=H c)->SqL K H' a ys/\SqL K H' p (row.map V.int)) (hv:cy kv m=some v) (h1:∀ x ∈ row,x.natAbs < lim) (h2:v.natAbs < lim) (h3:lk.length + 7 < sizeLine)
   (hn:∀ x5 x6 x7 x8 H',H' l=some (.dK (cL (gL n row m v lk n).2))->(∀ c,c ≠ l->H' c=H c)->D.nx [some (.ref a),some (.ref d),some (.ref p),some (.ref l),some (.int m),x5,x6,x7,x8] H') :
   EN K D [some (.ref a),some (.ref d),some (.ref p),some (.ref l),some (.int m),x5,x6,x7,x8] H:=by
 show A0 (iDn (wX (Gf K) Dz)) (gG 6) (FT K) D [some (.ref a),some (.ref d),some (.ref p),some (.ref l),some (.int m),some (.int 0),x6,x7,x8] H
 refine ⟨.ref a,rfl,a,ys,rfl,.inl ha,n,by rw [hy],by omega,?_⟩
 refine Gk (λc σ H'=>∃ x6 x7 x8,σ=[some (.ref a),some (.ref d),some (.ref p),some (.ref l),some (.int m),some (.int (gL n row m v lk c).1),x6,x7,x8]/\H' l=some (.dK (cL (gL n row m v lk c).2))/\∀ c,c ≠ l->H' c=H c)
   ⟨x6,x7,x8,rfl,hl,λ_ _=>rfl⟩ (λc σ H' hc ⟨x6,x7,x8,e,e1,e2⟩=>?_) λσ H' ⟨x6,x7,x8,e,e1,e2⟩=>by rw [e]; exact hn _ _ _ _ _ e1 e2
 subst e
 have hj:n - 1 - c < row.length:=by omega
 refine FL hj (hal H' e2).2 e1 (by rw [e2 d (Ne.symm hld)]; exact hd) hv ?_ h2 ?_ (by omega) λx7 x8 H'' q1 q2=>⟨_,x7,x8,rfl,q1,λb hb=>(q2 b hb).trans (e2 b hb)⟩
 · rw [List.getD_eq_getElem?_getD,List.getElem?_eq_getElem hj]
   exact h1 _ (List.getElem_mem hj)
 · have:=oe n row m v lk c
   omega
noncomputable def Kept (H H':Hp):Prop:=∀ b o,H b=some o->H' b=some o
theorem Kept.sq {H H':Hp} (k:Kept H H') {b:Addr} {xs:List V} (h:SqL K H b xs):SqL K H' b xs:=by
 rcases h with (h | ⟨o,h⟩) | h
 · exact .inl (.inl (k _ _ h))
 · exact .inl (.inr ⟨o,k _ _ h⟩)
 · exact .inr h
theorem uz:∀ {kv:List (Int × Int)} {q:Int × Int},q ∈ kv->∃ r ∈ kv,cy kv q.1=some r.2
 | p :: t,q,h=>by
   unfold cy
   by_cases z:p.1=q.1
   · rw [List.find?_cons_of_pos (by simp [z])]
     exact ⟨p,List.mem_cons_self ..,rfl⟩
   · rw [List.find?_cons_of_neg (by simp [z])]
     rcases List.mem_cons.mp h with e | h
     · exact absurd (by rw [e]) z
     · obtain ⟨r,hr,e⟩:=uz h
       exact ⟨r,List.mem_cons_of_mem _ hr,e⟩
theorem Dj {D:Ends} {H:Hp} {x3 x4 x5 x6 x7 x8:Option V} (hr:row.length=n) (hn7:n<=7) (ha:SqL K H0 a ys) (hy:ys.length=n) (hp:SqL K H0 p (row.map V.int)) (hd:H d=some (.dK (cL kv))) (h0:H0 d=none) (hk:Kept H0 H)
   (h1:∀ x ∈ row,x.natAbs < lim) (h2:∀ q ∈ kv,q.2.natAbs < lim) (h3:kv.length * n + 7 < sizeLine)
   (hn:∀ l x2 x3 x4 x5 x6 x7 x8 H',H' l=some (.dK (cL (d9 n row kv kv.length)))->H0 l=none->Kept H0 H'->D.nx [some (.ref a),some (.ref l),x2,x3,x4,x5,x6,x7,x8] H') :
   IS K D [some (.ref a),some (.ref d),some (.ref p),x3,x4,x5,x6,x7,x8] H:=by
 intro l hl
 have hld:l ≠ d:=λz=>by rw [z,hd] at hl; cases hl
 have hl0:H0 l=none:=by
   cases z:H0 l with
   | none=>rfl
   | some u=>rw [hk l u z] at hl; cases hl
 refine ⟨.ref d,rfl,d,kv,rfl,(ar (Ne.symm hld)).trans hd,λo=>?_⟩
 have keep:∀ H':Hp,(∀ c,c ≠ l->H' c=upd (upd H l (.dK [])) d (.frz o (.dK (cL kv))) c)->Kept H0 H':=λH' e b u hb=>by
   have n1:b ≠ l:=λz=>by rw [z,hl0] at hb; cases hb
   have n2:b ≠ d:=λz=>by rw [z,h0] at hb; cases hb
   rw [e b n1,ar n2,ar n1]
   exact hk b u hb
 refine By (λt σ H'=>∃ x4 x5 x6 x7 x8,σ=[some (.ref a),some (.ref d),some (.ref p),some (.ref l),x4,x5,x6,x7,x8]/\H' l=some (.dK (cL (d9 n row kv t)))/\∀ c,c ≠ l->H' c=upd (upd H l (.dK [])) d (.frz o (.dK (cL kv))) c)
   ⟨x4,x5,x6,x7,x8,rfl,by rw [ar hld,aW]; rfl,λ_ _=>rfl⟩ (λt σ H' ⟨_,_,_,_,_,_,_,e⟩=>by rw [e d (Ne.symm hld),aW]) (λt σ H' ht ⟨x4,x5,x6,x7,x8,e,e1,e2⟩=>?_) λσ H' ⟨x4,x5,x6,x7,x8,e,e1,e2⟩=>?_
 · subst e
   have hm:kv.getD t (0,0) ∈ kv:=by rw [List.getD_eq_getElem?_getD,List.getElem?_eq_getElem ht]; exact List.getElem_mem ht
   obtain ⟨r,hr',er⟩:=uz hm
   have hv:cy kv (kv.getD t (0,0)).1=some ((cy kv (kv.getD t (0,0)).1).getD 0):=by rw [er]; rfl
   have kk:=keep H' e2
   refine Ed (o:=o) (kv:=kv) (ys:=ys) hr hn7 (kk.sq ha) hy (kk.sq hp) e1 (by rw [e2 d (Ne.symm hld),aW]) hld (λH'' e=>?_) hv h1 (by rw [er]; exact h2 r hr') ?_ λx5 x6 x7 x8 H'' q1 q2=>⟨_,x5,x6,x7,x8,rfl,q1,λc hc=>(q2 c hc).trans (e2 c hc)⟩
   · have:=keep H'' λc hc=>(e c hc).trans (e2 c hc)
     exact ⟨this.sq ha,this.sq hp⟩
   · have:=lJ n row kv t
     have:=Nat.mul_le_mul_right n (Nat.le_of_lt ht)
     omega
 · subst e
   exact ⟨.ref l,rfl,hn _ _ _ _ _ _ _ _ _ e1 hl0 (keep H' e2)⟩
theorem Dq {Q:VK} {N:L2.St->Hp->Prop} {Ms:List (List Int)} {r:Int} (ha:SqL K H0 a ys) (hM:ys.length=Ms.length) (hrow:∀ i v,ys[i]?=some v->∃ p,v=.ref p/\SqL K H0 p ((Ms.getD i []).map V.int)) (ok:okZ Ms) (hr:cy (gC Ms Ms.length) (2 ^ Ms.length - 1)=some r)
   (hQ:∀ H',Kept H0 H'->Q (.int r) H'):Hq K { nx:=N,rt:=Q } [some (.ref a),none,none,none,none,none,none,none,none] H0:=by
 obtain ⟨ok1,ok2,ok3⟩:=ok
 intro d0 hd0
 refine ⟨aW,[(.inl 0,.int 1)],rfl,by decide,?_⟩
 have k0:Kept H0 (upd (upd H0 d0 (.dK [])) d0 (.dK (lF [] [(.inl 0,.int 1)]))):=λb u hb=>by
   have n1:b ≠ d0:=λz=>by rw [z,hd0] at hb; cases hb
   rw [ar n1,ar n1]
   exact hb
 refine ⟨.ref a,rfl,a,rfl,⟨ys,k0.sq ha⟩,?_⟩
 refine AM (xs:=ys) (λi σ H'=>∃ d x2 x3 x4 x5 x6 x7 x8,σ=[some (.ref a),some (.ref d),x2,x3,x4,x5,x6,x7,x8]/\H' d=some (.dK (cL (gC Ms i)))/\H0 d=none/\Kept H0 H')
   ⟨d0,none,none,none,none,none,none,none,rfl,by rw [aW]; rfl,hd0,k0⟩ (λi σ H' _ ⟨d,_,_,_,_,_,_,_,_,_,_,k⟩=>k.sq ha) (λi v σ H' hi ⟨d,x2,x3,x4,x5,x6,x7,x8,e,e1,e2,e3⟩=>?_) λσ H' ⟨d,x2,x3,x4,x5,x6,x7,x8,e,e1,e2,e3⟩=>?_
 · subst e
   obtain ⟨p,rfl,hp⟩:=hrow i v hi
   have hil:i < Ms.length:=by rw [<- hM]; exact (List.getElem?_eq_some_iff.mp hi).1
   have hm:Ms.getD i [] ∈ Ms:=by rw [List.getD_eq_getElem?_getD,List.getElem?_eq_getElem hil]; exact List.getElem_mem hil
   refine Dj (n:=Ms.length) (row:=Ms.getD i []) (kv:=gC Ms i) (ok2 _ hm).1 ok1 ha hM hp e1 e2 e3 (ok2 _ hm).2 (ok3 i hil) ?_ λl x2 x3 x4 x5 x6 x7 x8 H'' q1 q2 q3=>⟨l,x2,x3,x4,x5,x6,x7,x8,rfl,q1,q2,q3⟩
   have h1:=uH Ms i
   have h2:Ms.length ^ i<=7 ^ 7:=Nat.le_trans (Nat.pow_le_pow_left ok1 i) (Nat.pow_le_pow_right (by decide) (by omega))
   have h3:(gC Ms i).length * Ms.length<=7 ^ 7 * 7:=Nat.mul_le_mul (Nat.le_trans h1 h2) ok1
   rw [sizeLine_eq]
   omega
 · subst e
   refine ⟨.ref d,rfl,.ref a,rfl,a,ys,rfl,.inl (e3.sq ha),1,_,rfl,rfl,⟨by omega,by omega,by decide⟩,_,1,rfl,rfl,trivial,d,.int r,rfl,⟨_,.inl (2 ^ Ms.length - 1),.inl e1,?_,?_⟩,hQ H' e3⟩
   · rw [Int.toNat_natCast,Int.one_mul,hM]; rfl
   · rw [jl,hM,hr]; rfl
end
theorem Cy {Z:Zt} {m:List Addr} {H:Hp}:∀ {vs:List V} {us:List U} {xs:List Int},aj Z m H vs us->nS us=some xs->vs=xs.map V.int
 | _,_,_,.nil,e=>by cases e; rfl
 | _,_,_,.cons (d:=d) h r,e=>by
   cases d with
   | int i=>
     simp only [nS] at e
     obtain ⟨l,e1,rfl⟩:=Option.map_eq_some_iff.mp e
     rw [k8 h,Cy r e1]
     rfl
   | _=>cases e
theorem tU {Z:Zt} {m:List Addr} {H:Hp} {st:Sto} (rr:R Z m st H):∀ {vs:List V} {us:List U} {Ms:List (List Int)},aj Z m H vs us->om st us=some Ms->vs.length=Ms.length/\∀ i v,vs[i]?=some v->∃ p,v=.ref p/\SqL Z.K H p ((Ms.getD i []).map V.int)
 | _,_,_,.nil,e=>by cases e; exact ⟨rfl,λi v h=>by simp at h⟩
 | _,_,_,.cons (v:=v) (d:=d) h r,e=>by
   simp only [om] at e
   cases e1:pM st d with
   | none=>rw [e1] at e; cases e
   | some xs=>
     rw [e1,Option.bind_some] at e
     cases e2:nS xs with
     | none=>rw [e2] at e; cases e
     | some x=>
       rw [e2,Option.bind_some] at e
       obtain ⟨l,e3,rfl⟩:=Option.map_eq_some_iff.mp e
       obtain ⟨h1,h2⟩:=tU rr r e3
       obtain ⟨p,ws,rfl,q1,q2⟩:=ny rr h e1
       rw [Cy q2 e2] at q1
       refine ⟨by rw [List.length_cons,List.length_cons,h1],λi v hv=>?_⟩
       cases i with
       | zero=>cases hv; exact ⟨p,rfl,q1⟩
       | succ i=>exact h2 i v hv
theorem Kept.go {m:List Addr} {H H':Hp} (k:Kept H H'):Go m H m H':=
 ⟨List.prefix_refl m,λb o h _=>k b o h,λb h=>(by
   cases z:H b with
   | none=>rfl
   | some o=>rw [k b o z] at h; cases h),λl a hl e=>by rw [List.getElem?_eq_none hl] at e; cases e⟩
theorem Kept.r {Z:Zt} {m:List Addr} {st:Sto} {H H':Hp} (k:Kept H H') (r:R Z m st H):R Z m st H':=
 ⟨r.len,r.inj,λl a fz ds e1 e2=>by
   obtain ⟨vs,h1,h2⟩:=r.obj l a fz ds e1 e2
   refine ⟨vs,?_,h2.mono k.go⟩
   unfold Lay at h1 ⊢
   split at h1
   · rename_i z
     rw [if_pos z]
     obtain ⟨q,o,ho⟩:=h1
     exact ⟨k.sq q,o,k _ _ ho⟩
   · rename_i z
     rw [if_neg z]
     exact k _ _ h1⟩
theorem AD {Z:Zt} {vs:List V} {H:Hp} {Q:VK} {E:XK} (h:spU Z oT vs H Q E):∃ a,vs=[.ref a]/\∀ N,Hq Z.K { nx:=N,rt:=Q } [some (.ref a),none,none,none,none,none,none,none,none] H:=by
 obtain ⟨m,st,ds,r,dn,e⟩:=h
 unfold oT at e
 split at e
 · rename_i x
   split at e
   · rename_i z hz
     obtain ⟨v,rfl,dx⟩:=rl dn
     cases e1:pM st x with
     | none=>rw [e1] at hz; cases hz
     | some us=>
       rw [e1,Option.bind_some] at hz
       cases e2:om st us with
       | none=>rw [e2] at hz; cases hz
       | some Ms=>
         rw [e2,Option.bind_some] at hz
         obtain ⟨p,ws,rfl,q1,q2⟩:=ny r dx e1
         obtain ⟨h1,h2⟩:=tU r q2 e2
         unfold vq at hz
         split at hz
         · rename_i ok
           exact ⟨p,rfl,λN=>Dq q1 h1 h2 ok hz λH' k=>e m H' _ k.go (k.r r) .int⟩
         · cases hz
   · exact e.elim
 · exact e.elim
end Sv
namespace Sv
open PySem PySem.Spec L2
structure Lb where
 F:List (List U->Sto->Rs U)
 d:List Md
 G:List (List T->Ou T)
 H:List (List T->Ou T)
 S:List Str
noncomputable def nob:List T->Ou T:=λ_=>.bad
noncomputable def L0:Lb:=⟨[],[],[],[],[]⟩
noncomputable def Lb.add (L:Lb) (x:Str) (m:Md) (f:List U->Sto->Rs U) (g:List T->Ou T):Lb:=⟨L.F++[f],L.d++[m],L.G++[g],L.H++[nob],L.S++[x]⟩
noncomputable def Lb.ok (L:Lb):Prop:=gK L.F L.d L.G L.H
section
variable {L:Lb}
theorem Fz (p:L.ok) (x:Str) {m:Md} {f:List U->Sto->Rs U} {g:List T->Ou T} (h:Pure m f g) (hm:m.mv=0):(L.add x m f g).ok:=gK.snoc p h (ky hm)
theorem aR (p:L.ok) (x:Str) (m:Md) (hm:m.mv=0) (need:List Nat) (ir:List S) (np nl:Nat):(L.add x m (mk (tab L.F) ir np nl) (mkT (aI L.G) (aI L.H) (bP L.d) m need ir np nl)).ok:=gK.def p m hm need ir np nl
theorem Iw (p:L.ok) (x:Str) (n:Nat) (i:Int) (m:Md) (hm:m.mv=0) (need:List Nat) (ir:List S) (np nl:Nat):(L.add x m (dfU n i (mk (tab L.F) ir np nl)) (dfT n i (mkT (aI L.G) (aI L.H) (bP L.d) m need ir np nl))).ok:=gK.df p n i m hm need ir np nl
end
end Sv
namespace Sv
open PySem PySem.Spec PyProof.Rows L2
noncomputable def Dfn (K:PySem.W.Frag) (x:Str) (st:Stmt) (f:Addr):Prop:=PySem.W.nsIn K mainGlobals x=some (some (.ref f))/\(∃ oc od kV dc pm an cd ct sl,K.lookup f=some ⟨oc,od,.func (PySem.W.fnOf x x (ff st) (dB st) (a5 st) .none kV dc pm an cd ct),sl⟩/\PySem.W.codeIn K cd x=true)/\PySem.W.keepIn K (.ref f)=true
noncomputable def G0 (K:PySem.W.Frag) (x:Str) (st:Stmt) (f:Addr) (i:Int):Prop:=PySem.W.nsIn K mainGlobals x=some (some (.ref f))/\(∃ oc od kV dc pm an cd ct sl T td tl tc tt tn,K.lookup f=some ⟨oc,od,.func (PySem.W.fnOf x x (ff st) (dB st) (a5 st) (.ref T) kV dc pm an cd ct),sl⟩/\PySem.W.codeIn K cd x=true/\K.lookup T=some ⟨tc,td,.seq #[.int i tt] tn,tl⟩)/\PySem.W.keepIn K (.ref f)=true
noncomputable def BdA (x:Str) (st:Stmt) (ps:List Str):Prop:=∀ (kV dc pm:Value) (an:Option Addr) (cd ct:Value) (us:List Value),us.length=ps.length->bindArgs (PySem.W.fnOf x x (ff st) (dB st) (a5 st) .none kV dc pm an cd ct) ⟨us,[]⟩=pure (ps.zip us)
noncomputable def nsL (K:PySem.W.Frag):List Str->Prop
 | []=>True
 | x :: r=>PySem.W.nsIn K mainGlobals x=some none/\nsL K r
noncomputable def Tx (cst:List (Str × Int)) (st:Stmt) (N ps Fs:List Str) (ir:List S):Prop:=jC N ps (a5 st)/\tT ⟨a5 st,N,Fs,[],cst⟩ 60 (dB st)=some ir
noncomputable def Cc (P:Program) (w:World) (K:PySem.W.Frag) (mg:Str->Option Value) (base:Heap) (k:Nat) (L:Lb):Prop:=vJ P w K mg base CX0 (λ_=>0) k L.S L.F/\L.S.length=L.F.length
section
variable {P:Program} {w:World} {K:PySem.W.Frag} {h:Heap} {mg:Str->Option Value} {base:Heap} {x:Str} {st:Stmt} {f:Addr} {N ps:List Str} {k:Nat} {cst:List (Str × Int)} {ir:List S} {L:Lb} {md:Md} {g:List T->Ou T}
theorem Dfn.of {oc:Value} {od an:Option Addr} {kV dc pm cd ct:Value} {sl:Array (Option Value)} (a:PySem.W.nsIn K mainGlobals x=some (some (.ref f))) (l:K.lookup f=some ⟨oc,od,.func (PySem.W.fnOf x x (ff st) (dB st) (a5 st) .none kV dc pm an cd ct),sl⟩) (c:PySem.W.codeIn K cd x=true) (k:PySem.W.keepIn K (.ref f)=true):Dfn K x st f:=⟨a,⟨_,_,_,_,_,_,_,_,_,l,c⟩,k⟩
theorem G0.of {i:Int} {oc tc:Value} {od an td:Option Addr} {kV dc pm cd ct:Value} {sl tl:Array (Option Value)} {T:Addr} {tt:Tok} {tn:Nat} (a:PySem.W.nsIn K mainGlobals x=some (some (.ref f))) (l:K.lookup f=some ⟨oc,od,.func (PySem.W.fnOf x x (ff st) (dB st) (a5 st) (.ref T) kV dc pm an cd ct),sl⟩) (c:PySem.W.codeIn K cd x=true) (d:K.lookup T=some ⟨tc,td,.seq #[.int i tt] tn,tl⟩) (k:PySem.W.keepIn K (.ref f)=true):G0 K x st f i:=⟨a,⟨_,_,_,_,_,_,_,_,_,_,_,_,_,_,_,l,c,d⟩,k⟩
theorem nsL.none (X:K.In h) (G:h.Ns mainGlobals mg):∀ {l:List Str},nsL K l->∀ x ∈ l,mg x=none
 | _ :: _,z,x,m=>by
   rcases List.mem_cons.mp m with rfl | m
   · exact PySem.W.mg_none_of X G z.1
   · exact nsL.none X G z.2 x m
theorem Cc.zero:Cc P w K mg base 0 L0:=⟨vJ.nil,rfl⟩
theorem Cc.snoc {F:List U->Sto->Rs U} (c:Cc P w K mg base k L) (n:Cal P w K mg base CX0 (λ_=>0) (k + 1) x F):Cc P w K mg base (k + 1) (L.add x md F g):=
 ⟨c.1.snoc c.2 n,by show (L.S++[x]).length=(L.F++[F]).length; rw [List.length_append,List.length_append,c.2]; rfl⟩
theorem Dfn.raw {F:List U->Sto->Rs U} (d:Dfn K x st f) (X:K.In h) (G:h.Ns mainGlobals mg) (c:Cc P w K mg base k L) (o:∀ fd,Fun K x x st f fd->i9 P w K mg base CX0 (k + 1) f fd ps (spU ⟨K,λ_=>0⟩ F)) (b:BdA x st ps):Cc P w K mg base (k + 1) (L.add x md F g):=by
 obtain ⟨a,⟨oc,od,kV,dc,pm,an,cd,ct,sl,l,c'⟩,q⟩:=d
 have F:=vU l c' q
 exact c.snoc (Hg (o _ F) (PySem.W.mg_of X G a) q (F.binds (b kV dc pm an cd ct)))
theorem Dfn.nx (d:Dfn K x st f) (X:K.In h) (G:h.Ns mainGlobals mg) (hb:∀ x ∈ aL,mg x=none) (hc:∀ x i,cst.lookup x=some i->∃ t,mg x=some (.int i t)) (c:Cc P w K mg base k L) (t:Tx cst st N ps L.S ir) (b:BdA x st ps):Cc P w K mg base (k + 1) (L.add x md (mk (tab L.F) ir ps.length N.length) g):=
 d.raw X G c (λ_ F=>fnU F t.1 t.2 hb hc c.1) b
end
end Sv
namespace K15
open PySem PySem.Spec L2 Sv
noncomputable section
noncomputable def fh:List S:=[.set (.nm 2) (.lst []),.ite (.cmp .ge (.bi .abs [(.var 0)]) (.op .pow (.cI 10) (.cI 18))) [.for (.nm 3) (.seq (.var 1)) [.mth .append (.var 2) [(.op .mod (.var 0) (.var 3))],.set (.nm 0) (.op .fdiv (.var 0) (.var 3))],.ret (.var 2)] [],.for (.tp [4,3]) (.enu (.var 1)) [.set (.nm 5) (.op .mod (.op .add (.op .add (.op .add (.op .mul (.var 0) (.cI 48271)) (.op .mul (.op .mul (.var 4) (.var 4)) (.cI 69621))) (.op .mul (.var 4) (.cI 16807))) (.cI 11)) (.cI 2147483647)),.mth .append (.var 2) [(.op .mod (.op .fdiv (.op .mod (.op .add (.op .add (.op .mul (.var 5) (.cI 40692)) (.var 0)) (.op .mul (.cI 31) (.var 4))) (.cI 2147483399)) (.cI 7)) (.var 3))]],.ret (.var 2)]
noncomputable def tS:FnT:=aI L0.G
noncomputable def uZ:FnT:=aI L0.H
noncomputable def um:Nat->Md:=bP L0.d
noncomputable def mn:List T->Ou T:=mkT tS uZ um ⟨false,0,0⟩ [2] fh 2 6
noncomputable def L1:Lb:=L0.add "_law_numbers" ⟨false,0,0⟩ (mk (tab L0.F) fh 2 6) mn
theorem u3:L1.ok:=aR (show L0.ok from gK.nil) _ ⟨false,0,0⟩ rfl [2] fh 2 6
noncomputable def fj:List S:=[.set (.nm 0) (.bi .abs [(.var 0)]),.set (.nm 1) (.bi .abs [(.var 1)]),.while (.cmp .gt (.var 1) (.cI 0)) [.set (.nm 2) (.op .mod (.var 0) (.var 1)),.set (.nm 0) (.var 1),.set (.nm 1) (.var 2)],.ret (.var 0)]
noncomputable def tm:FnT:=aI L1.G
noncomputable def sS:FnT:=aI L1.H
noncomputable def tX:Nat->Md:=bP L1.d
noncomputable def jh:List T->Ou T:=mkT tm sS tX ⟨false,0,0⟩ [] fj 2 3
noncomputable def L2:Lb:=L1.add "_law_divisor" ⟨false,0,0⟩ (mk (tab L1.F) fj 2 3) jh
theorem uD:L2.ok:=aR u3 _ ⟨false,0,0⟩ rfl [] fj 2 3
noncomputable def jA:List S:=[.set (.nm 2) (.call 1 [(.var 0),(.var 1)]),.ret (.tup [(.op .fdiv (.var 0) (.var 2)),(.op .fdiv (.var 1) (.var 2))])]
noncomputable def tM:FnT:=aI L2.G
noncomputable def uG:FnT:=aI L2.H
noncomputable def uq:Nat->Md:=bP L2.d
noncomputable def nY:List T->Ou T:=mkT tM uG uq ⟨false,0,0⟩ [] jA 2 3
noncomputable def L3:Lb:=L2.add "_law_made" ⟨false,0,0⟩ (mk (tab L2.F) jA 2 3) nY
theorem Ay:L3.ok:=aR uD _ ⟨false,0,0⟩ rfl [] jA 2 3
noncomputable def bF:List S:=[.ite (.cmp .eq (.var 0) (.cI 1)) [.ret (.tup [(.op .sub (.op .mod (.var 1) (.cI 5)) (.cI 2)),(.cI 1)])] [],.ite (.cmp .eq (.var 0) (.cI 3)) [.set (.nm 2) (.op .mul (.op .mod (.op .fdiv (.var 1) (.cI 2)) (.op .pow (.cI 10) (.cI 40))) (.op .sub (.cI 1) (.op .mul (.cI 2) (.op .mod (.var 1) (.cI 2))))),.ret (.call 2 [(.var 2),(.op .add (.cI 1) (.op .mod (.op .fdiv (.var 1) (.op .mul (.cI 2) (.op .pow (.cI 10) (.cI 40)))) (.op .sub (.op .pow (.cI 10) (.cI 40)) (.cI 1))))])] [],.ite (.cmp .eq (.var 0) (.cI 2)) [.ret (.call 2 [(.op .mod (.var 1) (.cI 10)),(.op .add (.cI 1) (.op .mod (.op .fdiv (.var 1) (.cI 10)) (.cI 6)))])] [],.ret (.call 2 [(.op .sub (.op .mod (.var 1) (.cI 19)) (.cI 9)),(.op .add (.cI 1) (.op .mod (.op .fdiv (.var 1) (.cI 19)) (.cI 6)))])]
noncomputable def bV:FnT:=aI L3.G
noncomputable def fL:FnT:=aI L3.H
noncomputable def fB:Nat->Md:=bP L3.d
noncomputable def bJ:List T->Ou T:=mkT bV fL fB ⟨false,0,0⟩ [] bF 2 3
theorem eB (x0 x1:T):bJ [x0,x1]=bp ⟨false,0,0⟩ (ySs bV fL ⟨fB,[],0⟩ (aN [x0,x1]) bF [some x0,some x1,none] []):=bu rfl
noncomputable def L4:Lb:=L3.add "_law_number" ⟨false,0,0⟩ (mk (tab L3.F) bF 2 3) bJ
theorem v8:L4.ok:=aR Ay _ ⟨false,0,0⟩ rfl [] bF 2 3
noncomputable def iH:List S:=[.set (.nm 4) (.ix (.lst [(.cI 114),(.cI 5),(.cI 60),(.op .mul (.op .mul (.cI 2) (.op .pow (.cI 10) (.cI 40))) (.op .pow (.cI 10) (.cI 40)))]) (.var 3)),.set (.nm 5) (.call 0 [(.var 0),(.comp [none,some 4] (.nm 0) (.rng (.op .mul (.var 1) (.var 2))) [] (.var 1))]),.ret (.comp [none,some 3,some 5,some 2] (.nm 0) (.rng (.var 1)) [] (.comp [none,some 0,some 1,some 2,some 3] (.nm 0) (.rng (.var 3)) [] (.call 3 [(.var 2),(.ix (.var 3) (.op .add (.op .mul (.var 4) (.var 1)) (.var 0)))])))]
noncomputable def lz:FnT:=aI L4.G
noncomputable def p0:FnT:=aI L4.H
noncomputable def qk:Nat->Md:=bP L4.d
noncomputable def lV:List T->Ou T:=mkT lz p0 qk ⟨false,2,0⟩ [] iH 4 6
theorem kb:lz 3=bJ:=rfl
noncomputable def L5:Lb:=L4.add "_law_table" ⟨false,2,0⟩ (mk (tab L4.F) iH 4 6) lV
theorem yx:L5.ok:=aR v8 _ ⟨false,2,0⟩ rfl [] iH 4 6
noncomputable def jn:List S:=[.ite (.cmp .ge (.bi .abs [(.var 0)]) (.op .pow (.cI 10) (.cI 18))) [.ret (.op .fdiv (.var 0) (.var 1))] [],.ret (.op .add (.var 0) (.var 1))]
noncomputable def AZ:FnT:=aI L5.G
noncomputable def BV:FnT:=aI L5.H
noncomputable def CA:Nat->Md:=bP L5.d
noncomputable def nU:List T->Ou T:=mkT AZ BV CA ⟨false,0,0⟩ [] jn 2 2
noncomputable def L6:Lb:=L5.add "_law_rest" ⟨false,0,0⟩ (mk (tab L5.F) jn 2 2) nU
theorem AA:L6.ok:=aR yx _ ⟨false,0,0⟩ rfl [] jn 2 2
noncomputable def eg:List S:=[.set (.nm 2) (.call 0 [(.var 0),(.lst [(.cI 8),(.cI 4),(.cI 3),(.cI 4),(.cI 4)])]),.set (.nm 3) (.op .add (.cI 1) (.ix (.var 2) (.cI 1))),.set (.nm 4) (.ix (.var 2) (.cI 3)),.ite (.and (.cmp .eq (.ix (.var 2) (.cI 0)) (.cI 1)) (.var 1)) [.set (.nm 3) (.op .add (.cI 5) (.ix (.var 2) (.cI 2)))] [],.ite (.or (.cmp .eq (.ix (.var 2) (.cI 0)) (.cI 1)) (.not (.var 1))) [.set (.nm 4) (.op .mod (.var 4) (.cI 3))] [],.ite (.cmp .eq (.var 4) (.cI 3)) [.set (.nm 3) (.bi .min [(.var 3),(.cI 3)])] [],.set (.nm 5) (.call 4 [(.call 5 [(.var 0),(.cI 1536)]),(.var 3),(.var 3),(.var 4)]),.ite (.cmp .eq (.ix (.var 2) (.cI 4)) (.cI 1)) [.for (.nm 6) (.rng (.var 3)) [.put (.ix (.var 5) (.var 6)) (.var 6) (.tup [(.cI 0),(.cI 1)])]] [],.ret (.var 5)]
noncomputable def bD:FnT:=aI L6.G
noncomputable def ez:FnT:=aI L6.H
noncomputable def cQ:Nat->Md:=bP L6.d
noncomputable def jv:List T->Ou T:=mkT bD ez cQ ⟨false,0,0⟩ [5] eg 2 7
theorem qI (x0 x1:T):jv [x0,x1]=bp ⟨false,0,0⟩ (ySs bD ez ⟨cQ,[5],0⟩ (aN [x0,x1]) eg [some x0,some x1,none,none,none,none,none] []):=bu rfl
theorem ko:bD 4=lV:=rfl
theorem la:bD 5=nU:=rfl
noncomputable def L7:Lb:=L6.add "_law_drawn" ⟨false,0,0⟩ (mk (tab L6.F) eg 2 7) jv
theorem zu:L7.ok:=aR AA _ ⟨false,0,0⟩ rfl [5] eg 2 7
noncomputable def jt:List S:=[.ite (.cmp .lt (.var 1) (.bi .len [(.var 0)])) [.ret (.ix (.var 0) (.var 1))] [],.ret (.cI 0)]
noncomputable def Bx:FnT:=aI L7.G
noncomputable def zH:FnT:=aI L7.H
noncomputable def AB:Nat->Md:=bP L7.d
noncomputable def nH:List T->Ou T:=mkT Bx zH AB ⟨false,0,0⟩ [] jt 2 2
noncomputable def L8:Lb:=L7.add "_law_cell" ⟨false,0,0⟩ (mk (tab L7.F) jt 2 2) nH
theorem Cr:L8.ok:=aR zu _ ⟨false,0,0⟩ rfl [] jt 2 2
noncomputable def qF:List T->Ou T:=mx
noncomputable def L9:Lb:=L8.add "_law_det" ⟨true,0,0⟩ oT qF
theorem Di:L9.ok:=Fz Cr _ (Bj _) rfl
noncomputable def cT:List S:=[.ret (.and (.isi (.var 0) .list) (.chain .le .le (.cI 1) (.bi .len [(.var 0)]) (.cI 7)))]
noncomputable def mO:FnT:=aI L9.G
noncomputable def mV:FnT:=aI L9.H
noncomputable def mL:Nat->Md:=bP L9.d
noncomputable def iQ:List T->Ou T:=mkT mO mV mL ⟨false,0,0⟩ [] cT 1 1
noncomputable def L10:Lb:=L9.add "is_short_list" ⟨false,0,0⟩ (mk (tab L9.F) cT 1 1) iQ
theorem mN:L10.ok:=aR Di _ ⟨false,0,0⟩ rfl [] cT 1 1
noncomputable def gd:List S:=[.ret (.and (.isi (.var 0) .int) (.not (.isi (.var 0) .bool)))]
noncomputable def v7:FnT:=aI L10.G
noncomputable def vY:FnT:=aI L10.H
noncomputable def wA:Nat->Md:=bP L10.d
noncomputable def j3:List T->Ou T:=mkT v7 vY wA ⟨false,0,0⟩ [] gd 1 1
noncomputable def L11:Lb:=L10.add "is_whole" ⟨false,0,0⟩ (mk (tab L10.F) gd 1 1) j3
theorem vI:L11.ok:=aR mN _ ⟨false,0,0⟩ rfl [] gd 1 1
noncomputable def cv:List S:=[.set (.nm 2) (.bi .abs [(.var 0)]),.set (.nm 3) (.bi .abs [(.var 1)]),.while (.cmp .ne (.var 3) (.cI 0)) [.set (.nm 4) (.op .mod (.var 2) (.var 3)),.set (.nm 2) (.var 3),.set (.nm 3) (.var 4)],.ret (.var 2)]
noncomputable def lB:FnT:=aI L11.G
noncomputable def lQ:FnT:=aI L11.H
noncomputable def ma:Nat->Md:=bP L11.d
noncomputable def gQ:List T->Ou T:=mkT lB lQ ma ⟨false,0,0⟩ [] cv 2 5
noncomputable def L12:Lb:=L11.add "common_divisor" ⟨false,0,0⟩ (mk (tab L11.F) cv 2 5) gQ
theorem lO:L12.ok:=aR vI _ ⟨false,0,0⟩ rfl [] cv 2 5
noncomputable def dW:List S:=[.ite (.or (.not (.isi (.var 0) .tuple)) (.cmp .ne (.bi .len [(.var 0)]) (.cI 2))) [.ret (.cB false)] [],.ite (.or (.not (.call 10 [(.ix (.var 0) (.cI 0))])) (.not (.call 10 [(.ix (.var 0) (.cI 1))]))) [.ret (.cB false)] [],.ret (.and (.cmp .ge (.ix (.var 0) (.cI 1)) (.cI 1)) (.cmp .eq (.call 11 [(.ix (.var 0) (.cI 0)),(.ix (.var 0) (.cI 1))]) (.cI 1)))]
noncomputable def jT:FnT:=aI L12.G
noncomputable def pD:FnT:=aI L12.H
noncomputable def pG:Nat->Md:=bP L12.d
noncomputable def jW:List T->Ou T:=mkT jT pD pG ⟨false,0,0⟩ [] dW 1 1
noncomputable def L13:Lb:=L12.add "is_fraction" ⟨false,0,0⟩ (mk (tab L12.F) dW 1 1) jW
theorem pJ:L13.ok:=aR lO _ ⟨false,0,0⟩ rfl [] dW 1 1
noncomputable def jq:List S:=[.ret (.and (.call 9 [(.var 0)]) (.bi .all [(.comp [none] (.nm 0) (.seq (.var 0)) [] (.call 12 [(.var 0)]))]))]
noncomputable def BJ:FnT:=aI L13.G
noncomputable def AG:FnT:=aI L13.H
noncomputable def Bb:Nat->Md:=bP L13.d
noncomputable def tq:List T->Ou T:=mkT BJ AG Bb ⟨false,0,0⟩ [] jq 1 1
noncomputable def L14:Lb:=L13.add "is_row" ⟨false,0,0⟩ (mk (tab L13.F) jq 1 1) tq
theorem z6:L14.ok:=aR pJ _ ⟨false,0,0⟩ rfl [] jq 1 1
noncomputable def fQ:List S:=[.ite (.or (.not (.call 9 [(.var 0)])) (.not (.bi .all [(.comp [none] (.nm 0) (.seq (.var 0)) [] (.call 13 [(.var 0)]))]))) [.ret (.cB false)] [],.ret (.bi .all [(.comp [none,some 0] (.nm 0) (.seq (.var 0)) [] (.cmp .eq (.bi .len [(.var 0)]) (.bi .len [(.ix (.var 1) (.cI 0))])))])]
noncomputable def v9:FnT:=aI L14.G
noncomputable def vh:FnT:=aI L14.H
noncomputable def vB:Nat->Md:=bP L14.d
noncomputable def oF:List T->Ou T:=mkT v9 vh vB ⟨false,0,0⟩ [] fQ 1 1
noncomputable def L15:Lb:=L14.add "is_table" ⟨false,0,0⟩ (mk (tab L14.F) fQ 1 1) oF
theorem vy:L15.ok:=aR z6 _ ⟨false,0,0⟩ rfl [] fQ 1 1
noncomputable def cg:List S:=[.ite (.not (.call 14 [(.var 0)])) [.nev] []]
noncomputable def ij:FnT:=aI L15.G
noncomputable def kK:FnT:=aI L15.H
noncomputable def kY:Nat->Md:=bP L15.d
noncomputable def iC:List T->Ou T:=mkT ij kK kY ⟨false,0,0⟩ [] cg 1 1
theorem mY (x0:T):iC [x0]=bp ⟨false,0,0⟩ (ySs ij kK ⟨kY,[],0⟩ (aN [x0]) cg [some x0] []):=bu rfl
noncomputable def L16:Lb:=L15.add "look_table" ⟨false,0,0⟩ (mk (tab L15.F) cg 1 1) iC
theorem rb:L16.ok:=aR vy _ ⟨false,0,0⟩ rfl [] cg 1 1
noncomputable def bR:List S:=[.ite (.cmp .ne (.bi .len [(.var 0)]) (.bi .len [(.ix (.var 0) (.cI 0))])) [.nev] []]
noncomputable def jP:FnT:=aI L16.G
noncomputable def jX:FnT:=aI L16.H
noncomputable def jQ:Nat->Md:=bP L16.d
noncomputable def gx:List T->Ou T:=mkT jP jX jQ ⟨false,0,0⟩ [] bR 1 1
theorem mf (x0:T):gx [x0]=bp ⟨false,0,0⟩ (ySs jP jX ⟨jQ,[],0⟩ (aN [x0]) bR [some x0] []):=bu rfl
noncomputable def L17:Lb:=L16.add "look_square" ⟨false,0,0⟩ (mk (tab L16.F) bR 1 1) gx
theorem pz:L17.ok:=aR rb _ ⟨false,0,0⟩ rfl [] bR 1 1
noncomputable def eL:List S:=[.set (.nm 1) (.cI 1),.for (.nm 2) (.seq (.var 0)) [.set (.nm 1) (.op .mul (.op .fdiv (.var 1) (.call 11 [(.var 1),(.ix (.var 2) (.cI 1))])) (.ix (.var 2) (.cI 1)))],.ret (.var 1)]
noncomputable def hU:FnT:=aI L17.G
noncomputable def hZ:FnT:=aI L17.H
noncomputable def iz:Nat->Md:=bP L17.d
noncomputable def iE:List T->Ou T:=mkT hU hZ iz ⟨false,0,0⟩ [] eL 1 3
theorem pA (x0:T):iE [x0]=bp ⟨false,0,0⟩ (ySs hU hZ ⟨iz,[],0⟩ (aN [x0]) eL [some x0,none,none] []):=bu rfl
noncomputable def L18:Lb:=L17.add "scale_of" ⟨false,0,0⟩ (mk (tab L17.F) eL 1 3) iE
theorem vj:L18.ok:=aR pz _ ⟨false,0,0⟩ rfl [] eL 1 3
noncomputable def bO:List S:=[.for (.nm 2) (.rng2 (.var 1) (.bi .len [(.var 0)])) [.ite (.cmp .ne (.ix (.ix (.var 0) (.var 2)) (.var 1)) (.cI 0)) [.ret (.var 2)] []],.ret .cN]
noncomputable def bw:FnT:=aI L18.G
noncomputable def cj:FnT:=aI L18.H
noncomputable def ck:Nat->Md:=bP L18.d
noncomputable def dm:List T->Ou T:=mkT bw cj ck ⟨true,0,0⟩ [] bO 2 3
theorem l4 (x0 x1:T):dm [x0,x1]=bp ⟨true,0,0⟩ (ySs bw cj ⟨ck,[],0⟩ (aN [x0,x1]) bO [some x0,some x1,none] []):=bu rfl
noncomputable def L19:Lb:=L18.add "pivot_place" ⟨true,0,0⟩ (mk (tab L18.F) bO 2 3) dm
theorem pF:L19.ok:=aR vj _ ⟨true,0,0⟩ rfl [] bO 2 3
noncomputable def aQ:List S:=[.set (.nm 2) (.call 11 [(.var 0),(.var 1)]),.ite (.cmp .lt (.var 1) (.cI 0)) [.set (.nm 2) (.neg (.var 2))] [],.ret (.tup [(.op .fdiv (.var 0) (.var 2)),(.op .fdiv (.var 1) (.var 2))])]
noncomputable def fS:FnT:=aI L19.G
noncomputable def fU:FnT:=aI L19.H
noncomputable def fX:Nat->Md:=bP L19.d
noncomputable def cn:List T->Ou T:=mkT fS fU fX ⟨false,0,0⟩ [] aQ 2 3
theorem eJ (x0 x1:T):cn [x0,x1]=bp ⟨false,0,0⟩ (ySs fS fU ⟨fX,[],0⟩ (aN [x0,x1]) aQ [some x0,some x1,none] []):=bu rfl
noncomputable def L20:Lb:=L19.add "in_lowest_terms" ⟨false,0,0⟩ (mk (tab L19.F) aQ 2 3) cn
theorem ke:L20.ok:=aR pF _ ⟨false,0,0⟩ rfl [] aQ 2 3
noncomputable def cC:List S:=[.ite (.or (.not (.call 10 [(.var 0)])) (.not (.call 10 [(.var 1)]))) [.nev] [],.ite (.cmp .eq (.var 1) (.cI 0)) [.nev] [],.ret (.call 19 [(.var 0),(.var 1)])]
noncomputable def gR:FnT:=aI L20.G
noncomputable def oZ:FnT:=aI L20.H
noncomputable def nJ:Nat->Md:=bP L20.d
noncomputable def iA:List T->Ou T:=mkT gR oZ nJ ⟨false,0,0⟩ [] cC 2 2
theorem jU (x0 x1:T):iA [x0,x1]=bp ⟨false,0,0⟩ (ySs gR oZ ⟨nJ,[],0⟩ (aN [x0,x1]) cC [some x0,some x1] []):=bu rfl
noncomputable def L21:Lb:=L20.add "fraction" ⟨false,0,0⟩ (dfU 1 (1) (mk (tab L20.F) cC 2 2)) (dfT 1 (1) iA)
theorem wd:L21.ok:=Iw ke _ 1 (1) ⟨false,0,0⟩ rfl [] cC 2 2
noncomputable def cf:List S:=[.ret (.comp [none,none,some 2] (.tp [0,1]) (.zip (.var 0) (.var 1)) [] (.call 20 [(.op .mul (.var 0) (.var 1)),(.var 2)]))]
noncomputable def ik:FnT:=aI L21.G
noncomputable def ku:FnT:=aI L21.H
noncomputable def kh:Nat->Md:=bP L21.d
noncomputable def fb:List T->Ou T:=mkT ik ku kh ⟨false,1,0⟩ [] cf 3 3
theorem mW (x0 x1 x2:T):fb [x0,x1,x2]=bp ⟨false,1,0⟩ (ySs ik ku ⟨kh,[],1⟩ (aN [x0,x1,x2]) cf [some x0,some x1,some x2] []):=bu rfl
noncomputable def L22:Lb:=L21.add "undone_row" ⟨false,1,0⟩ (mk (tab L21.F) cf 3 3) fb
theorem qA:L22.ok:=aR wd _ ⟨false,1,0⟩ rfl [] cf 3 3
noncomputable def dF:List S:=[.ret (.comp [none,some 0] (.nm 0) (.rng (.var 1)) [] (.ite (.cmp .eq (.var 0) (.var 1)) (.cI 1) (.cI 0)))]
noncomputable def oB:FnT:=aI L22.G
noncomputable def nX:FnT:=aI L22.H
noncomputable def o9:Nat->Md:=bP L22.d
noncomputable def gW:List T->Ou T:=mkT oB nX o9 ⟨false,0,0⟩ [] dF 2 2
theorem pB (x0 x1:T):gW [x0,x1]=bp ⟨false,0,0⟩ (ySs oB nX ⟨o9,[],0⟩ (aN [x0,x1]) dF [some x0,some x1] []):=bu rfl
noncomputable def L23:Lb:=L22.add "unit_row" ⟨false,0,0⟩ (mk (tab L22.F) dF 2 2) gW
theorem wC:L23.ok:=aR qA _ ⟨false,0,0⟩ rfl [] dF 2 2
noncomputable def cP:List S:=[.ret (.comp [none,some 1] (.nm 0) (.seq (.var 0)) [] (.op .mul (.ix (.var 0) (.cI 0)) (.op .fdiv (.var 1) (.ix (.var 0) (.cI 1)))))]
noncomputable def mJ:FnT:=aI L23.G
noncomputable def mK:FnT:=aI L23.H
noncomputable def mG:Nat->Md:=bP L23.d
noncomputable def iY:List T->Ou T:=mkT mJ mK mG ⟨false,0,0⟩ [] cP 2 2
theorem oM (x0 x1:T):iY [x0,x1]=bp ⟨false,0,0⟩ (ySs mJ mK ⟨mG,[],0⟩ (aN [x0,x1]) cP [some x0,some x1] []):=bu rfl
noncomputable def L24:Lb:=L23.add "whole_row" ⟨false,0,0⟩ (mk (tab L23.F) cP 2 2) iY
theorem uw:L24.ok:=aR wC _ ⟨false,0,0⟩ rfl [] cP 2 2
noncomputable def b9:List S:=[.ret (.comp [none,none] (.tp [0,1]) (.zip (.var 0) (.var 1)) [] (.call 23 [(.var 0),(.var 1)]))]
noncomputable def kX:FnT:=aI L24.G
noncomputable def ki:FnT:=aI L24.H
noncomputable def kS:Nat->Md:=bP L24.d
noncomputable def e7:List T->Ou T:=mkT kX ki kS ⟨false,0,0⟩ [] b9 2 2
theorem mQ (x0 x1:T):e7 [x0,x1]=bp ⟨false,0,0⟩ (ySs kX ki ⟨kS,[],0⟩ (aN [x0,x1]) b9 [some x0,some x1] []):=bu rfl
noncomputable def L25:Lb:=L24.add "whole_rows" ⟨false,0,0⟩ (mk (tab L24.F) b9 2 2) e7
theorem rh:L25.ok:=aR uw _ ⟨false,0,0⟩ rfl [] b9 2 2
noncomputable def ej:List S:=[.set (.nm 4) (.ix (.var 1) (.var 2)),.set (.nm 5) (.ix (.var 0) (.var 2)),.ret (.comp [none,none,some 5,some 3,some 4] (.tp [0,1]) (.zip (.var 0) (.var 1)) [] (.op .fdiv (.op .sub (.op .mul (.var 0) (.var 4)) (.op .mul (.var 1) (.var 2))) (.var 3)))]
noncomputable def pT:FnT:=aI L25.G
noncomputable def pZ:FnT:=aI L25.H
noncomputable def qj:Nat->Md:=bP L25.d
noncomputable def jx:List T->Ou T:=mkT pT pZ qj ⟨false,0,0⟩ [] ej 4 6
theorem sF (x0 x1 x2 x3:T):jx [x0,x1,x2,x3]=bp ⟨false,0,0⟩ (ySs pT pZ ⟨qj,[],0⟩ (aN [x0,x1,x2,x3]) ej [some x0,some x1,some x2,some x3,none,none] []):=bu rfl
noncomputable def L26:Lb:=L25.add "cleared" ⟨false,0,0⟩ (mk (tab L25.F) ej 4 6) jx
theorem ze:L26.ok:=aR rh _ ⟨false,0,0⟩ rfl [] ej 4 6
noncomputable def fo:List S:=[.expr (.call 15 [(.var 0)]),.expr (.call 16 [(.var 0)]),.set (.nm 1) (.bi .len [(.var 0)]),.set (.nm 2) (.comp [none] (.nm 0) (.seq (.var 0)) [] (.call 17 [(.var 0)])),.set (.nm 3) (.comp [none,none,some 1] (.tp [0,1]) (.enu (.call 24 [(.var 0),(.var 2)])) [] (.op .add (.var 1) (.call 22 [(.var 0),(.var 2)]))),.set (.nm 4) (.cI 1),.for (.nm 5) (.rng (.var 1)) [.set (.nm 6) (.call 18 [(.var 3),(.var 5)]),.ite (.isN false (.var 6)) [.nev] [],.mth .rot (.var 3) [(.var 5),(.var 6)],.set (.nm 3) (.comp [none,none,some 3,some 5,some 4] (.tp [0,1]) (.enu (.var 3)) [] (.ite (.cmp .eq (.var 0) (.var 3)) (.var 1) (.call 25 [(.var 1),(.ix (.var 2) (.var 3)),(.var 3),(.var 4)]))),.set (.nm 4) (.ix (.ix (.var 3) (.var 5)) (.var 5))],.ret (.comp [none,some 4,some 1,some 2] (.nm 0) (.seq (.var 3)) [] (.call 21 [(.sl (.var 0) (.var 2) .cN),(.var 3),(.var 1)]))]
noncomputable def aX:FnT:=aI L26.G
noncomputable def eO:FnT:=aI L26.H
noncomputable def di:Nat->Md:=bP L26.d
noncomputable def gH:List T->Ou T:=mkT aX eO di ⟨true,2,0⟩ [3] fo 1 7
theorem tR (x0:T):gH [x0]=bp ⟨true,2,0⟩ (ySs aX eO ⟨di,[3],2⟩ (aN [x0]) fo [some x0,none,none,none,none,none,none] []):=bu rfl
theorem kx:aX 17=iE:=rfl
theorem i3:aX 18=dm:=rfl
theorem jJ:aX 21=fb:=rfl
theorem kg:aX 22=gW:=rfl
theorem jI:aX 24=e7:=rfl
theorem lD:aX 25=jx:=rfl
noncomputable def L27:Lb:=L26.add "undone" ⟨true,2,0⟩ (mk (tab L26.F) fo 1 7) gH
theorem Ap:L27.ok:=aR ze _ ⟨true,2,0⟩ rfl [3] fo 1 7
noncomputable def fy:List S:=[.set (.nm 1) (.lst []),.set (.nm 2) (.cI 1),.for (.nm 3) (.seq (.var 0)) [.set (.nm 4) (.cI 1),.for (.nm 5) (.seq (.var 3)) [.set (.nm 4) (.op .fdiv (.op .mul (.var 4) (.ix (.var 5) (.cI 1))) (.call 1 [(.var 4),(.ix (.var 5) (.cI 1))]))],.mth .append (.var 1) [(.comp [none,some 4] (.nm 0) (.seq (.var 3)) [] (.op .mul (.ix (.var 0) (.cI 0)) (.op .fdiv (.var 1) (.ix (.var 0) (.cI 1)))))],.set (.nm 2) (.op .mul (.var 2) (.var 4))],.ret (.tup [(.var 1),(.var 2)])]
noncomputable def gM:FnT:=aI L27.G
noncomputable def jj:FnT:=aI L27.H
noncomputable def iT:Nat->Md:=bP L27.d
noncomputable def k6:List T->Ou T:=mkT gM jj iT ⟨false,0,0⟩ [1] fy 1 6
theorem uF (x0:T):k6 [x0]=bp ⟨false,0,0⟩ (ySs gM jj ⟨iT,[1],0⟩ (aN [x0]) fy [some x0,none,none,none,none,none] []):=bu rfl
noncomputable def L28:Lb:=L27.add "_law_rows" ⟨false,0,0⟩ (mk (tab L27.F) fy 1 6) k6
theorem Af:L28.ok:=aR Ap _ ⟨false,0,0⟩ rfl [1] fy 1 6
noncomputable def gZ:List S:=[.ret (.and (.isi (.var 0) .int) (.not (.isi (.var 0) .bool)))]
noncomputable def zd:FnT:=aI L28.G
noncomputable def zg:FnT:=aI L28.H
noncomputable def yW:Nat->Md:=bP L28.d
noncomputable def pU:List T->Ou T:=mkT zd zg yW ⟨false,0,0⟩ [] gZ 1 1
noncomputable def L29:Lb:=L28.add "_law_whole" ⟨false,0,0⟩ (mk (tab L28.F) gZ 1 1) pU
theorem yV:L29.ok:=aR Af _ ⟨false,0,0⟩ rfl [] gZ 1 1
noncomputable def bN:List S:=[.ite (.or (.not (.isi (.var 0) .tuple)) (.or (.cmp .ne (.bi .len [(.var 0)]) (.cI 2)) (.or (.not (.call 28 [(.ix (.var 0) (.cI 0))])) (.not (.call 28 [(.ix (.var 0) (.cI 1))]))))) [.ret (.cB false)] [],.ite (.or (.cmp .lt (.ix (.var 0) (.cI 1)) (.cI 1)) (.cmp .ne (.call 1 [(.ix (.var 0) (.cI 0)),(.ix (.var 0) (.cI 1))]) (.cI 1))) [.ret (.cB false)] [],.ret (.cmp .eq (.op .mul (.ix (.var 0) (.cI 0)) (.var 2)) (.op .mul (.var 1) (.ix (.var 0) (.cI 1))))]
noncomputable def jZ:FnT:=aI L29.G
noncomputable def jN:FnT:=aI L29.H
noncomputable def jY:Nat->Md:=bP L29.d
noncomputable def eF:List T->Ou T:=mkT jZ jN jY ⟨false,0,0⟩ [] bN 3 3
theorem lY (x0 x1 x2:T):eF [x0,x1,x2]=bp ⟨false,0,0⟩ (ySs jZ jN ⟨jY,[],0⟩ (aN [x0,x1,x2]) bN [some x0,some x1,some x2] []):=bu rfl
noncomputable def L30:Lb:=L29.add "_law_is_number" ⟨false,0,0⟩ (mk (tab L29.F) bN 3 3) eF
theorem pI:L30.ok:=aR yV _ ⟨false,0,0⟩ rfl [] bN 3 3
noncomputable def cb:List S:=[.ite (.or (.not (.isi (.var 0) .list)) (.cmp .ne (.bi .len [(.var 0)]) (.var 1))) [.ret (.cB false)] [],.for (.nm 2) (.seq (.var 0)) [.ite (.or (.not (.isi (.var 2) .list)) (.cmp .ne (.bi .len [(.var 2)]) (.var 1))) [.ret (.cB false)] [],.ite (.not (.bi .all [(.comp [none] (.nm 0) (.seq (.var 2)) [] (.call 29 [(.var 0),(.ix (.var 0) (.cI 0)),(.ix (.var 0) (.cI 1))]))])) [.ret (.cB false)] []],.ret (.cB true)]
noncomputable def e8:FnT:=aI L30.G
noncomputable def iw:FnT:=aI L30.H
noncomputable def hV:Nat->Md:=bP L30.d
noncomputable def dZ:List T->Ou T:=mkT e8 iw hV ⟨true,0,0⟩ [] cb 2 3
theorem mS (x0 x1:T):dZ [x0,x1]=bp ⟨true,0,0⟩ (ySs e8 iw ⟨hV,[],0⟩ (aN [x0,x1]) cb [some x0,some x1,none] []):=bu rfl
noncomputable def L31:Lb:=L30.add "_law_is_table" ⟨true,0,0⟩ (mk (tab L30.F) cb 2 3) dZ
theorem qG:L31.ok:=aR pI _ ⟨true,0,0⟩ rfl [] cb 2 3
noncomputable def cR:List S:=[.set (.nm 2) (.bi .len [(.var 0)]),.for (.nm 3) (.rng (.var 2)) [.for (.nm 4) (.rng (.var 2)) [.set (.nm 5) (.cI 0),.set (.nm 6) (.cI 1),.for (.nm 7) (.rng (.var 2)) [.set (.nm 8) (.op .mul (.ix (.ix (.ix (.var 0) (.var 3)) (.var 7)) (.cI 1)) (.ix (.ix (.ix (.var 1) (.var 7)) (.var 4)) (.cI 1))),.set (.nm 9) (.op .mul (.ix (.ix (.ix (.var 0) (.var 3)) (.var 7)) (.cI 0)) (.ix (.ix (.ix (.var 1) (.var 7)) (.var 4)) (.cI 0))),.set (.nm 5) (.op .add (.op .mul (.var 5) (.var 8)) (.op .mul (.var 9) (.var 6))),.set (.nm 6) (.op .mul (.var 6) (.var 8))],.ite (.cmp .ne (.var 5) (.op .mul (.bi .int [(.cmp .eq (.var 3) (.var 4))]) (.var 6))) [.ret (.cB false)] []]],.ret (.cB true)]
noncomputable def dI:FnT:=aI L31.G
noncomputable def dM:FnT:=aI L31.H
noncomputable def dE:Nat->Md:=bP L31.d
noncomputable def dJ:List T->Ou T:=mkT dI dM dE ⟨true,0,0⟩ [] cR 2 10
theorem nO (x0 x1:T):dJ [x0,x1]=bp ⟨true,0,0⟩ (ySs dI dM ⟨dE,[],0⟩ (aN [x0,x1]) cR [some x0,some x1,none,none,none,none,none,none,none,none] []):=bu rfl
noncomputable def L32:Lb:=L31.add "_law_is_unit" ⟨true,0,0⟩ (mk (tab L31.F) cR 2 10) dJ
theorem uJ:L32.ok:=aR qG _ ⟨true,0,0⟩ rfl [] cR 2 10
noncomputable def lX:List S:=[.for (.nm 1) (.rng (.bi .max [(.cI 1),(.bi .min [(.cI 8),(.bi .len [(.var 0)])])])) [.set (.nm 2) (.call 6 [(.call 7 [(.var 0),(.var 1)]),(.cmp .eq (.var 1) (.cI 0))]),.ite (.cmp .ne (.call 8 [(.ix (.call 27 [(.var 2)]) (.cI 0))]) (.cI 0)) [.set (.nm 3) (.comp [none] (.nm 0) (.seq (.var 2)) [] (.bi .list [(.var 0)])),.set (.nm 4) (.call 26 [(.var 2)]),.ite (.or (.not (.call 30 [(.var 4),(.bi .len [(.var 2)])])) (.cmp .ne (.var 2) (.var 3))) [.ret (.cB false)] [],.ite (.or (.not (.call 31 [(.var 4),(.var 2)])) (.or (.not (.call 31 [(.var 2),(.var 4)])) (.cmp .ne (.call 26 [(.var 4)]) (.var 2)))) [.ret (.cB false)] [],.set (.nm 5) (.comp [none] (.nm 0) (.seq (.var 4)) [] (.bi .list [(.var 0)])),.mth .clear (.ix (.var 4) (.cI 0)) [],.mth .pop (.var 4) [],.ite (.or (.cmp .ne (.call 26 [(.var 2)]) (.var 5)) (.cmp .ne (.var 2) (.var 3))) [.ret (.cB false)] []] []],.ret (.cB true)]
noncomputable def eM:FnT:=aI L32.G
noncomputable def mC:FnT:=aI L32.H
noncomputable def i7:Nat->Md:=bP L32.d
noncomputable def Ax:List T->Ou T:=mkT eM mC i7 ⟨false,0,0⟩ [4] lX 1 6
theorem BX (x0:T):Ax [x0]=bp ⟨false,0,0⟩ (ySs eM mC ⟨i7,[4],0⟩ (aN [x0]) lX [some x0,none,none,none,none,none] []):=bu rfl
theorem pN:eM 6=jv:=rfl
theorem rV:eM 7=nH:=rfl
theorem uI:eM 8=qF:=rfl
theorem qO:eM 26=gH:=rfl
theorem rj:eM 27=k6:=rfl
theorem lH:eM 30=dZ:=rfl
theorem mT:eM 31=dJ:=rfl
noncomputable def xq:List U->Sto->Rs U:=mk (tab L32.F) lX 1 6
noncomputable def L33:Lb:=L32.add "law" ⟨false,0,0⟩ xq Ax
theorem HF:L33.ok:=aR uJ _ ⟨false,0,0⟩ rfl [4] lX 1 6
end
end K15
namespace K15
noncomputable def ah (f:Nat->Rat):Nat->Rat
 | 0=>0
 | n + 1=>ah f n + f n
theorem ai {f g:Nat->Rat}:∀ {n:Nat},(∀ k < n,f k=g k)->ah f n=ah g n
 | 0,_=>rfl
 | n + 1,h=>by rw [ah,ah,ai λk hk=>h k (by omega),h n (by omega)]
theorem a8 (c:Rat) (f:Nat->Rat):∀ n:Nat,c * ah f n=ah (λk=>c * f k) n
 | 0=>Rat.mul_zero c
 | n + 1=>by rw [ah,ah,Rat.mul_add,a8 c f n]
theorem ja (c:Rat) (f:Nat->Rat):∀ n:Nat,ah f n * c=ah (λk=>f k * c) n
 | 0=>Rat.zero_mul c
 | n + 1=>by rw [ah,ah,Rat.add_mul,ja c f n]
theorem dO (f g:Nat->Rat):∀ n:Nat,ah (λk=>f k + g k) n=ah f n + ah g n
 | 0=>(Rat.add_zero 0).symm
 | n + 1=>by rw [ah,ah,ah,dO f g n]; grind
theorem lW:∀ n:Nat,ah (λ_=>0) n=0
 | 0=>rfl
 | n + 1=>by rw [ah,lW n,Rat.add_zero]
theorem jk (f:Nat->Nat->Rat) (m:Nat):∀ n:Nat,ah (λk=>ah (λl=>f k l) m) n=ah (λl=>ah (λk=>f k l) n) m
 | 0=>by simp only [ah]; exact (lW m).symm
 | n + 1=>by simp only [ah]; rw [jk f m n,<- dO]
theorem vG (A:Nat->Rat) (B:Nat->Nat->Rat) (C:Nat->Rat) (m n:Nat):ah (λk=>ah (λl=>A l * B l k) m * C k) n=ah (λl=>A l * ah (λk=>B l k * C k) n) m:=by
 have e1:(λk=>ah (λl=>A l * B l k) m * C k)=λk=>ah (λl=>A l * B l k * C k) m:=by
   funext k; exact ja _ _ _
 have e2:(λl=>A l * ah (λk=>B l k * C k) n)=λl=>ah (λk=>A l * B l k * C k) n:=by
   funext l
   rw [a8]
   congr 1
   funext k
   rw [Rat.mul_assoc]
 rw [e1,e2,jk]
noncomputable def dq (i j:Nat):Rat:=if i=j then 1 else 0
theorem sW (A:Nat->Rat) (j:Nat):∀ n:Nat,n<=j->ah (λk=>A k * dq k j) n=0
 | 0,_=>rfl
 | n + 1,h=>by
   rw [ah,sW A j n (by omega),dq,if_neg (by omega),Rat.mul_zero,Rat.add_zero]
theorem dG (A:Nat->Rat) (j:Nat):∀ n:Nat,j < n->ah (λk=>A k * dq k j) n=A j
 | n + 1,h=>by
   rw [ah]
   by_cases e:j=n
   · subst e
     rw [sW A j j (Nat.le_refl _),dq,if_pos rfl,Rat.mul_one,Rat.zero_add]
   · rw [dG A j n (by omega),dq,if_neg (by omega),Rat.mul_zero,Rat.add_zero]
theorem o3 (A:Nat->Rat) (i n:Nat) (h:i < n):ah (λk=>dq i k * A k) n=A i:=by
 rw [<- dG A i n h]
 congr 1
 funext k
 rw [Rat.mul_comm,dq,dq]
 by_cases e:i=k
 · rw [if_pos e,if_pos e.symm]
 · rw [if_neg e,if_neg λz=>e z.symm]
noncomputable def skp (i r:Nat):Nat:=if r < i then r else r + 1
noncomputable def minor (M:Nat->Nat->Rat) (i r c:Nat):Rat:=M (skp i r) (c + 1)
noncomputable def sgn (i:Nat):Rat:=if i % 2=0 then 1 else -1
theorem ji (i:Nat):sgn (i + 1)=-sgn i:=by
 unfold sgn
 by_cases h:i % 2=0
 · rw [if_pos h,if_neg (by omega)]
 · rw [if_neg h,if_pos (by omega)]
   rfl
theorem Aw (i:Nat):sgn i * sgn i=1:=by
 unfold sgn
 split <;> grind
noncomputable def det:Nat->(Nat->Nat->Rat)->Rat
 | 0,_=>1
 | n + 1,M=>ah (λi=>sgn i * M i 0 * det n (minor M i)) (n + 1)
theorem rK {i r n:Nat} (h:r < n):skp i r < n + 1:=by unfold skp; split <;> omega
theorem Gu (i r:Nat):skp i r ≠ i:=by unfold skp; split <;> omega
theorem aE:∀ {n:Nat} {M M':Nat->Nat->Rat},(∀ i < n,∀ j < n,M i j=M' i j)->det n M=det n M'
 | 0,_,_,_=>rfl
 | n + 1,M,M',h=>by
   unfold det
   refine ai λi hi=>?_
   rw [h i hi 0 (by omega),aE (M:=minor M i) (M':=minor M' i) λr hr c hc=>h _ (rK hr) _ (by omega)]
noncomputable def af (M:Nat->Nat->Rat) (p:Nat) (v:Nat->Rat) (r c:Nat):Rat:=if r=p then v c else M r c
noncomputable def gj (M:Nat->Nat->Rat) (q:Nat) (v:Nat->Rat) (r c:Nat):Rat:=if c=q then v r else M r c
noncomputable def un (i p:Nat):Nat:=if p < i then p else p - 1
theorem j5 (M:Nat->Nat->Rat) (p:Nat) (v:Nat->Rat):minor (af M p v) p=minor M p:=by
 funext r c
 unfold minor af
 rw [if_neg (Gu p r)]
theorem jc (M:Nat->Nat->Rat) {i p:Nat} (h:i ≠ p) (v:Nat->Rat):minor (af M p v) i=af (minor M i) (un i p) λc=>v (c + 1):=by
 funext r c
 unfold minor af
 have:skp i r=p ↔ r=un i p:=by unfold skp un; split <;> split <;> omega
 by_cases q:skp i r=p
 · rw [if_pos q,if_pos (this.mp q)]
 · rw [if_neg q,if_neg λz=>q (this.mpr z)]
theorem sx:∀ {n:Nat} (M:Nat->Nat->Rat) {p:Nat},p < n->∀ (a b:Rat) (x y:Nat->Rat),det n (af M p λc=>a * x c + b * y c)=a * det n (af M p x) + b * det n (af M p y)
 | 0,_,_,h,_,_,_,_=>absurd h (Nat.not_lt_zero _)
 | n + 1,M,p,hp,a,b,x,y=>by
   unfold det
   rw [a8,a8,<- dO]
   refine ai λi hi=>?_
   by_cases h:i=p
   · subst h
     rw [j5,j5,j5]
     simp only [af,if_pos rfl]
     grind
   · rw [jc M h,jc M h,jc M h,sx (minor M i) (show un i p < n by unfold un; split <;> omega) a b]
     simp only [af,if_neg h]
     grind
theorem zx {f:Nat->Rat} {p:Nat} (h0:∀ i,i ≠ p->i ≠ p + 1->f i=0) (h:f p + f (p + 1)=0):∀ n,p + 1 < n->ah f n=0:=by
 have z:∀ n,n<=p->ah f n=0:=by
   intro n
   induction n with
   | zero=>intro _; rfl
   | succ n ih=>intro hn; rw [ah,ih (by omega),h0 n (by omega) (by omega),Rat.add_zero]
 intro n
 induction n with
 | zero=>intro hn; omega
 | succ n ih=>
   intro hn
   rw [ah]
   by_cases q:n=p + 1
   · subst q
     rw [ah,z p (Nat.le_refl _),Rat.zero_add]
     exact h
   · rw [ih (by omega),h0 n (by omega) q,Rat.add_zero]
theorem gI {f:Nat->Rat} {n:Nat} (h:∀ i < n,f i=0):ah f n=0:=by
 rw [ai h]; exact lW n
theorem mZ:∀ {n:Nat} {M:Nat->Nat->Rat} {p:Nat},p + 1 < n->(∀ c < n,M p c=M (p + 1) c)->det n M=0
 | 0,_,_,h,_=>absurd h (Nat.not_lt_zero _)
 | n + 1,M,p,hp,h=>by
   unfold det
   let f:Nat->Rat:=λi=>if i < n + 1 then sgn i * M i 0 * det n (minor M i) else 0
   have e:ah (λi=>sgn i * M i 0 * det n (minor M i)) (n + 1)=ah f (n + 1):=ai λi hi=>by simp only [f]; rw [if_pos hi]
   rw [e]
   refine zx (p:=p) (λi h1 h2=>?_) ?_ _ hp
   · simp only [f]
     by_cases hi:i < n + 1
     · rw [if_pos hi]
       have:det n (minor M i)=0:=by
         by_cases q:i < p
         · refine mZ (p:=p - 1) (by omega) λc hc=>?_
           unfold minor skp
           rw [if_neg (by omega),if_neg (by omega),show p - 1 + 1=p by omega]
           exact h (c + 1) (by omega)
         · refine mZ (p:=p) (by omega) λc hc=>?_
           unfold minor skp
           rw [if_pos (by omega),if_pos (by omega)]
           exact h (c + 1) (by omega)
       rw [this,Rat.mul_zero]
     · rw [if_neg hi]
   · simp only [f]
     rw [if_pos (by omega),if_pos hp,ji,<- h 0 (by omega)]
     have:det n (minor M p)=det n (minor M (p + 1)):=aE λr hr c hc=>by
       unfold minor skp
       by_cases q:r < p
       · rw [if_pos q,if_pos (by omega)]
       · rw [if_neg q]
         by_cases q2:r=p
         · subst q2
           rw [if_pos (by omega)]
           exact (h (c + 1) (by omega)).symm
         · rw [if_neg (by omega)]
     rw [this]
     grind
structure ML (n:Nat) (f:(Nat->Nat->Rat)->Rat):Prop where
 cong:∀ {M M':Nat->Nat->Rat},(∀ i < n,∀ j < n,M i j=M' i j)->f M=f M'
 lin:∀ (M:Nat->Nat->Rat) {p:Nat},p < n->∀ (a b:Rat) (x y:Nat->Rat),f (af M p λc=>a * x c + b * y c)=a * f (af M p x) + b * f (af M p y)
 alt:∀ {M:Nat->Nat->Rat} {p:Nat},p + 1 < n->(∀ c < n,M p c=M (p + 1) c)->f M=0
theorem ig (n:Nat):ML n (det n):=⟨aE,sx,mZ⟩
section
variable {n:Nat} {f:(Nat->Nat->Rat)->Rat}
theorem bT (M:Nat->Nat->Rat) (p:Nat):af M p (M p)=M:=by
 funext r c
 unfold af
 split
 · rename_i h; rw [h]
 · rfl
theorem cV {M:Nat->Nat->Rat} {p:Nat} {v:Nat->Rat}:af M p v p=v:=by funext c; unfold af; rw [if_pos rfl]
theorem cX {M:Nat->Nat->Rat} {p r:Nat} {v:Nat->Rat} (h:r ≠ p):af M p v r=M r:=by funext c; unfold af; rw [if_neg h]
theorem bH {M:Nat->Nat->Rat} {p q:Nat} {v u:Nat->Rat} (h:p ≠ q):af (af M p v) q u=af (af M q u) p v:=by
 funext r c
 unfold af
 by_cases h1:r=q
 · rw [if_pos h1,if_neg λz=>h (z.symm.trans h1),if_pos h1]
 · rw [if_neg h1,if_neg h1]
theorem ML.add (h:ML n f) (M:Nat->Nat->Rat) {p:Nat} (hp:p < n) (x y:Nat->Rat):f (af M p λc=>x c + y c)=f (af M p x) + f (af M p y):=by
 have:=h.lin M hp 1 1 x y
 simp only [Rat.one_mul] at this
 exact this
theorem ML.nb (h:ML n f) (M:Nat->Nat->Rat) {p:Nat} (hp:p + 1 < n) (x y:Nat->Rat):f (af (af M p x) (p + 1) y)=-f (af (af M p y) (p + 1) x):=by
 have z:∀ u:Nat->Rat,f (af (af M p u) (p + 1) u)=0:=λu=>h.alt hp λc _=>by rw [cV,cX (by omega),cV]
 have e:=z λc=>x c + y c
 rw [h.add _ hp] at e
 rw [bH (by omega),h.add _ (show p < n by omega),bH (M:=M) (p:=p) (q:=p + 1) (v:=λc=>x c + y c) (u:=y) (by omega),h.add _ (show p < n by omega)] at e
 rw [bH (M:=M) (p:=p + 1) (q:=p) (v:=x) (u:=x) (by omega),z x,bH (M:=M) (p:=p + 1) (q:=p) (v:=y) (u:=y) (by omega),z y,bH (M:=M) (p:=p + 1) (q:=p) (v:=x) (u:=y) (by omega),bH (M:=M) (p:=p + 1) (q:=p) (v:=y) (u:=x) (by omega)] at e
 grind
theorem ML.two (h:ML n f):∀ (d:Nat) (M:Nat->Nat->Rat) (p:Nat),p + 1 + d < n->M p=M (p + 1 + d)->f M=0
 | 0,M,p,hp,e=>h.alt hp λc _=>by rw [e]
 | d + 1,M,p,hp,e=>by
   have s:=h.nb M (p:=p + 1 + d) (by omega) (M (p + 1 + d)) (M (p + 1 + d + 1))
   rw [bT,bT] at s
   rw [s,ML.two h d _ p (by omega) (by rw [cX (by omega),cX (by omega),cX (by omega),cV]; exact e)]
   rfl
theorem ML.same (h:ML n f) {M:Nat->Nat->Rat} {p q:Nat} (hp:p < n) (hq:q < n) (hpq:p ≠ q) (e:M p=M q):f M=0:=by
 rcases Nat.lt_or_lt_of_ne hpq with z | z
 · exact h.two (q - p - 1) M p (by omega) (by rw [show p + 1 + (q - p - 1)=q by omega]; exact e)
 · exact h.two (p - q - 1) M q (by omega) (by rw [show q + 1 + (p - q - 1)=p by omega]; exact e.symm)
theorem ML.swap (h:ML n f) {M:Nat->Nat->Rat} {p q:Nat} (hp:p < n) (hq:q < n) (hpq:p ≠ q) (x y:Nat->Rat):f (af (af M p x) q y)=-f (af (af M p y) q x):=by
 have z:∀ u:Nat->Rat,f (af (af M p u) q u)=0:=λu=>h.same hp hq hpq (by rw [cV,cX hpq,cV])
 have e:=z λc=>x c + y c
 have c1:∀ u v:Nat->Rat,af (af M q u) p v=af (af M p v) q u:=λu v=>bH λz=>hpq z.symm
 rw [h.add _ hq,bH hpq,h.add _ hp,bH (M:=M) (p:=p) (q:=q) (v:=λc=>x c + y c) (u:=y) hpq,h.add _ hp,c1,c1,c1,c1,z x,z y] at e
 grind
theorem ML.HS (h:ML n f) (M:Nat->Nat->Rat) {p:Nat} (hp:p < n):f (af M p λ_=>0)=0:=by
 have:=h.lin M hp 0 0 (λ_=>0) (λ_=>0)
 simp only [Rat.zero_mul,Rat.add_zero] at this
 exact this
theorem ML.sum (h:ML n f) (M:Nat->Nat->Rat) {p:Nat} (hp:p < n) (v:Nat->Rat) (e:Nat->Nat->Rat):∀ m,f (af M p λj=>ah (λc=>v c * e c j) m)=ah (λc=>v c * f (af M p (e c))) m
 | 0=>h.HS M hp
 | m + 1=>by
   have:=h.lin M hp 1 (v m) (λj=>ah (λc=>v c * e c j) m) (e m)
   simp only [Rat.one_mul] at this
   rw [ah,<- ML.sum h M hp v e m]
   exact this
theorem ML.comb (h:ML n f) (M:Nat->Nat->Rat) {p k:Nat} (hp:p < n) (hk:k<=p) (d:Rat) (β:Nat->Rat):f (af M p λj=>d * M p j + ah (λi=>β i * M i j) k)=d * f M:=by
 have e:=h.lin M hp d 1 (M p) (λj=>ah (λi=>β i * M i j) k)
 simp only [Rat.one_mul] at e
 rw [e,bT,h.sum M hp β M k,gI,Rat.add_zero]
 intro i hi
 rw [h.same (p:=i) (q:=p) (by omega) hp (by omega) (by rw [cX (by omega),cV]),Rat.mul_zero]
end
noncomputable def idQ (i j:Nat):Rat:=if i=j then 1 else 0
noncomputable def un1 (σ:Nat->Nat) (i j:Nat):Rat:=if σ i=j then 1 else 0
theorem Bq:∀ (m:Nat) (σ:Nat->Nat),(∀ i < m + 1,σ i < m)->∃ i j,i < j/\j < m + 1/\σ i=σ j
 | 0,σ,h=>absurd (h 0 (by decide)) (Nat.not_lt_zero _)
 | m + 1,σ,h=>by
   by_cases q:∃ i,i < m + 1/\σ i=σ (m + 1)
   · obtain ⟨i,hi,e⟩:=q
     exact ⟨i,m + 1,hi,by omega,e⟩
   · have q':∀ i < m + 1,σ i ≠ σ (m + 1):=λi hi z=>q ⟨i,hi,z⟩
     obtain ⟨i,j,h1,h2,e⟩:=Bq m (λi=>if σ (m + 1) < σ i then σ i - 1 else σ i) λi hi=>by
       have a:=h i (by omega)
       have b:=h (m + 1) (by omega)
       have c:=q' i hi
       split <;> omega
     refine ⟨i,j,h1,by omega,?_⟩
     have a:=q' i (by omega)
     have b:=q' j h2
     split at e <;> split at e <;> omega
theorem Ds {n k:Nat} {σ:Nat->Nat} (h:∀ i < n,σ i < n) (hk:k < n) (hn:∀ i < n,σ i ≠ k):∃ i j,i < j/\j < n/\σ i=σ j:=by
 obtain ⟨m,rfl⟩:∃ m,n=m + 1:=⟨n - 1,by omega⟩
 obtain ⟨i,j,h1,h2,e⟩:=Bq m (λi=>if k < σ i then σ i - 1 else σ i) λi hi=>by
   have a:=h i hi
   have b:=hn i hi
   split <;> omega
 refine ⟨i,j,h1,h2,?_⟩
 have a:=hn i (by omega)
 have b:=hn j h2
 split at e <;> split at e <;> omega
section
variable {n:Nat} {h:(Nat->Nat->Rat)->Rat}
theorem ML.A4 (H:ML n h) (h0:h idQ=0):∀ (d k:Nat),k + d=n->∀ σ:Nat->Nat,(∀ i < n,σ i < n)->(∀ i < k,σ i=i)->h (un1 σ)=0
 | 0,k,hk,σ,_,hf=>by
   rw [<- h0]
   exact H.cong λi hi j _=>by unfold un1 idQ; rw [hf i (by omega)]
 | d + 1,k,hk,σ,hs,hf=>by
   by_cases q:∃ j,k<=j/\j < n/\σ j=k
   · obtain ⟨j,h1,h2,h3⟩:=q
     by_cases z:j=k
     · subst z
       exact ML.A4 H h0 d (j + 1) (by omega) σ hs λi hi=>by
         by_cases y:i=j
         · rw [y]; exact h3
         · exact hf i (by omega)
     · have e:un1 σ=af (af (un1 σ) k (un1 σ k)) j (un1 σ j):=by rw [bT,bT]
       have e2:af (af (un1 σ) k (un1 σ j)) j (un1 σ k)=un1 λi=>if i=j then σ k else if i=k then σ j else σ i:=by
         funext r c
         have zk:¬ k=j:=λy=>z y.symm
         by_cases y1:r=j <;> by_cases y2:r=k <;> simp [af,un1,y1,y2,zk]
       rw [e,H.swap (by omega) h2 (λy=>z y.symm),e2,ML.A4 H h0 d (k + 1) (by omega) _ (λi hi=>?_) (λi hi=>?_)]
       · rfl
       · split
         · exact hs k (by omega)
         · split
           · exact hs j h2
           · exact hs i hi
       · rw [if_neg (by omega)]
         by_cases y:i=k
         · rw [if_pos y,h3,y]
         · rw [if_neg y]
           exact hf i (by omega)
   · obtain ⟨i,j,h1,h2,e⟩:=Ds hs (show k < n by omega) λi hi z=>by
       by_cases y:i < k
       · have:=hf i y
         omega
       · exact q ⟨i,by omega,hi,z⟩
     exact H.same (p:=i) (q:=j) (by omega) h2 (by omega) (by funext c; unfold un1; rw [e])
noncomputable def sg (k:Nat) (M:Nat->Nat->Rat) (σ:Nat->Nat) (i j:Nat):Rat:=if i < k then M i j else un1 σ i j
theorem ML.IA (H:ML n h) (h0:h idQ=0) (M:Nat->Nat->Rat):∀ (k:Nat),k<=n->∀ σ:Nat->Nat,(∀ i < n,σ i < n)->h (sg k M σ)=0
 | 0,_,σ,hs=>by
   rw [<- ML.A4 H h0 n 0 (by omega) σ hs λi hi=>absurd hi (Nat.not_lt_zero _)]
   exact H.cong λi _ j _=>by unfold sg; rw [if_neg (Nat.not_lt_zero _)]
 | k + 1,hk,σ,hs=>by
   have e:h (sg (k + 1) M σ)=h (af (sg k M σ) k λj=>ah (λc=>M k c * idQ c j) n):=H.cong λi hi j hj=>by
     unfold af sg
     by_cases y:i=k
     · subst y
       rw [if_pos (by omega),if_pos rfl]
       exact (dG (M i) j n hj).symm
     · rw [if_neg y]
       by_cases z:i < k
       · rw [if_pos (by omega),if_pos z]
       · rw [if_neg (by omega),if_neg z]
   rw [e,H.sum _ (by omega),gI]
   intro c hc
   have e2:af (sg k M σ) k (idQ c)=sg k M λi=>if i=k then c else σ i:=by
     funext r j
     by_cases y:r=k <;> simp [af,sg,un1,idQ,y]
   rw [e2,ML.IA H h0 M k (by omega) _ (λi hi=>?_),Rat.mul_zero]
   split
   · exact hc
   · exact hs i hi
theorem ML.zero (H:ML n h) (h0:h idQ=0) (M:Nat->Nat->Rat):h M=0:=by
 rw [<- ML.IA H h0 M n (Nat.le_refl _) (λi=>i) λi hi=>hi]
 exact H.cong λi hi j _=>by unfold sg; rw [if_pos hi]
end
theorem CF:minor idQ 0=idQ:=by
 funext r c
 unfold minor idQ skp
 rw [if_neg (Nat.not_lt_zero _)]
 by_cases h:r=c
 · rw [if_pos (by omega),if_pos h]
 · rw [if_neg (by omega),if_neg h]
theorem qH:∀ n,det n idQ=1
 | 0=>rfl
 | n + 1=>by
   unfold det
   rw [ai (g:=λi=>det n (minor idQ i) * idQ i 0) λi hi=>?_]
   · have:=dG (λi=>det n (minor idQ i)) 0 (n + 1) (by omega)
     have e:(λi=>det n (minor idQ i) * idQ i 0)=λk=>(λi=>det n (minor idQ i)) k * dq k 0:=rfl
     rw [e,this,CF,qH n]
   · by_cases z:i=0
     · subst z
       show 1 * 1 * _=_ * 1
       grind
     · unfold idQ
       rw [if_neg z]
       grind
theorem ML.uniq {n:Nat} {f:(Nat->Nat->Rat)->Rat} (F:ML n f) (M:Nat->Nat->Rat):f M=det n M * f idQ:=by
 have D:=ig n
 have H:ML n λM=>f M - det n M * f idQ:=by
   refine ⟨λ{M M'} e=>?_,λM p hp a b x y=>?_,λ{M p} hp e=>?_⟩
   · rw [F.cong e,D.cong e]
   · rw [F.lin M hp,D.lin M hp]
     grind
   · rw [F.alt hp e,D.alt hp e]
     grind
 have:=H.zero (by rw [qH]; grind) M
 grind
theorem tF:∀ {n:Nat} (M:Nat->Nat->Rat) {q:Nat},q < n->∀ (a b:Rat) (x y:Nat->Rat),det n (gj M q λc=>a * x c + b * y c)=a * det n (gj M q x) + b * det n (gj M q y)
 | 0,_,_,h,_,_,_,_=>absurd h (Nat.not_lt_zero _)
 | n + 1,M,q,hq,a,b,x,y=>by
   unfold det
   rw [a8,a8,<- dO]
   refine ai λi hi=>?_
   cases q with
   | zero=>
     have e:∀ v,minor (gj M 0 v) i=minor M i:=λv=>by
       funext r c
       unfold minor gj
       rw [if_neg (by omega)]
     rw [e,e,e]
     simp only [gj,if_true]
     grind
   | succ q=>
     have e:∀ v,minor (gj M (q + 1) v) i=gj (minor M i) q λr=>v (skp i r):=λv=>by
       funext r c
       unfold minor gj
       by_cases z:c=q
       · rw [if_pos (by omega),if_pos z]
       · rw [if_neg (by omega),if_neg z]
     rw [e,e,e,tF (minor M i) (show q < n by omega) a b]
     have z:¬ (0=q + 1):=by omega
     simp only [gj,if_neg z]
     grind
theorem qo (g:Nat->Rat) (i:Nat):∀ n,i<=n->ah (λj=>g (skp i j)) n=ah g (n + 1) - g i
 | 0,h=>by
   have:i=0:=by omega
   subst this
   show (0:Rat)=0 + g 0 - g 0
   grind
 | n + 1,h=>by
   by_cases q:i=n + 1
   · subst q
     have e:ah (λj=>g (skp (n + 1) j)) (n + 1)=ah g (n + 1):=ai λk hk=>by unfold skp; rw [if_pos hk]
     rw [e,ah.eq_2 g (n + 1)]
     grind
   · rw [ah,qo g i n (by omega),ah.eq_2 g (n + 1)]
     have:skp i n=n + 1:=by unfold skp; rw [if_neg (by omega)]
     rw [this]
     grind
theorem yu {n:Nat} {G:Nat->Nat->Rat} (h:∀ i < n,∀ j < n,G i j=-G j i):ah (λi=>ah (λj=>G i j) n) n=0:=by
 have e:ah (λi=>ah (λj=>G i j) n) n=-1 * ah (λi=>ah (λj=>G i j) n) n:=by
   conv=>lhs; rw [jk]
   rw [a8]
   refine ai λi hi=>?_
   rw [a8]
   refine ai λj hj=>?_
   rw [h j hj i hi]
   grind
 grind
theorem Dn {i j r:Nat} (h:i < j):skp i (skp (j - 1) r)=skp j (skp i r):=by
 unfold skp
 split <;> split <;> (try split) <;> (try split) <;> omega
theorem tu:∀ {n:Nat} {M:Nat->Nat->Rat} {q:Nat},q + 1 < n->(∀ r < n,M r q=M r (q + 1))->det n M=0
 | 0,_,_,h,_=>absurd h (Nat.not_lt_zero _)
 | 1,_,_,h,_=>by omega
 | n + 2,M,q + 1,hq,h=>by
   rw [det]
   refine gI λi hi=>?_
   rw [tu (M:=minor M i) (q:=q) (by omega) λr hr=>h _ (rK hr),Rat.mul_zero]
 | n + 2,M,0,hq,h=>by
   let D:Nat->Nat->Rat:=λi j=>det n λr c=>M (skp i (skp j r)) (c + 2)
   let G:Nat->Nat->Rat:=λi j=>if i < j then -(sgn i * sgn j * M i 0 * M j 0 * D i (j - 1)) else if j < i then sgn i * sgn j * M i 0 * M j 0 * D i j else 0
   have inner:∀ i < n + 2,sgn i * M i 0 * det (n + 1) (minor M i)=ah (λj=>G i j) (n + 2):=λi hi=>by
     have e:ah (λj=>G i j) (n + 2)=ah (λj=>G i (skp i j)) (n + 1):=by
       have g0:G i i=0:=by simp only [G]; rw [if_neg (Nat.lt_irrefl i),if_neg (Nat.lt_irrefl i)]
       rw [qo (λj=>G i j) i (n + 1) (by omega),g0]
       grind
     rw [e,det,a8]
     refine ai λj hj=>?_
     have m0:minor M i j 0=M (skp i j) 0:=(h _ (rK hj)).symm
     have mm:det n (minor (minor M i) j)=D i j:=rfl
     rw [m0,mm]
     simp only [G]
     by_cases z:j < i
     · have s:skp i j=j:=by unfold skp; rw [if_pos z]
       rw [s,if_neg (by omega),if_pos z]
       grind
     · have s:skp i j=j + 1:=by unfold skp; rw [if_neg z]
       rw [s,if_pos (by omega),ji,show j + 1 - 1=j by omega]
       grind
   rw [det,ai inner]
   refine yu λi hi j hj=>?_
   have sy:∀ {i j:Nat},i < j->D i (j - 1)=D j i:=λ{i j} z=>by
     simp only [D]
     congr 1
     funext r c
     rw [Dn z]
   simp only [G]
   rcases Nat.lt_trichotomy i j with z | z | z
   · rw [if_pos z,if_neg (by omega),if_pos z,sy z]
     grind
   · subst z
     rw [if_neg (Nat.lt_irrefl _),if_neg (Nat.lt_irrefl _)]
     rfl
   · rw [if_neg (by omega),if_pos z,if_pos z,sy z]
     grind
theorem ml (n:Nat) (M:Nat->Nat->Rat):det n (λi j=>M j i)=det n M:=by
 have H:ML n λM=>det n λi j=>M j i:=by
   refine ⟨λ{M M'} e=>aE λi hi j hj=>e j hj i hi,λM p hp a b x y=>?_,λ{M p} hp e=>tu hp λr hr=>e r hr⟩
   exact tF (λi j=>M j i) hp a b x y
 have u:=H.uniq M
 have i1:(det n λi j=>idQ j i)=1:=by
   rw [<- qH n]
   congr 1
   funext i j
   unfold idQ
   by_cases z:i=j
   · rw [if_pos z,if_pos z.symm]
   · rw [if_neg z,if_neg λy=>z y.symm]
 simp only [i1,Rat.mul_one] at u
 exact u
noncomputable def mulQ (n:Nat) (F H:Nat->Nat->Rat) (i j:Nat):Rat:=ah (λk=>F i k * H k j) n
theorem Ea (n:Nat) (A B:Nat->Nat->Rat):det n (mulQ n A B)=det n A * det n B:=by
 have H:ML n λA=>det n (mulQ n A B):=by
   refine ⟨λ{M M'} e=>aE λi hi j hj=>ai λk hk=>by rw [e i hi k hk],λM p hp a b x y=>?_,λ{M p} hp e=>mZ hp λc hc=>ai λk hk=>by rw [e k hk]⟩
   have e:∀ v,mulQ n (af M p v) B=af (mulQ n M B) p λj=>ah (λk=>v k * B k j) n:=λv=>by
     funext r c
     unfold mulQ af
     split <;> rfl
   rw [e,e,e,<- sx _ hp]
   congr 2
   funext j
   rw [a8,a8,<- dO]
   exact ai λk hk=>by grind
 have u:=H.uniq A
 have i1:det n (mulQ n idQ B)=det n B:=aE λi hi j hj=>o3 (λk=>B k j) i n hi
 simp only [i1] at u
 exact u
theorem ju (m:Nat):∀ (k:Nat) (M:Nat->Nat->Rat),(∀ i,k<=i->i < k + m->∀ j < k,M i j=0)->det (k + m) M=det k M * det m λi j=>M (k + i) (k + j)
 | 0,M,_=>by
   rw [Nat.zero_add]
   show det m M=1 * _
   rw [Rat.one_mul]
   congr 1
   funext i j
   rw [Nat.zero_add,Nat.zero_add]
 | k + 1,M,h=>by
   have a:k + 1 + m=(k + m) + 1:=by omega
   rw [a,det,det,ja]
   have tail:∀ t,ah (λi=>sgn i * M i 0 * det (k + m) (minor M i)) (k + 1 + t)=ah (λi=>sgn i * M i 0 * det (k + m) (minor M i)) (k + 1)\/¬ t<=m:=by
     intro t
     induction t with
     | zero=>exact .inl rfl
     | succ t ih=>
       by_cases q:t + 1<=m
       · rcases ih with ih | ih
         · refine .inl ?_
           rw [show k + 1 + (t + 1)=(k + 1 + t) + 1 by omega,ah,ih,h (k + 1 + t) (by omega) (by omega) 0 (by omega)]
           grind
         · omega
       · exact .inr q
   rcases tail m with e | e
   · rw [show k + m + 1=k + 1 + m by omega,e]
     refine ai λi hi=>?_
     rw [ju m k (minor M i) λr h1 h2 c hc=>?_]
     · have:(λr c=>minor M i (k + r) (k + c))=λr c=>M (k + 1 + r) (k + 1 + c):=by
         funext r c
         unfold minor skp
         rw [if_neg (by omega),show k + r + 1=k + 1 + r by omega,show k + c + 1=k + 1 + c by omega]
       rw [this]
       grind
     · unfold minor skp
       rw [if_neg (by omega)]
       exact h _ (by omega) (by omega) _ (by omega)
   · exact absurd (Nat.le_refl m) e
theorem oa {n k:Nat} (d:Rat) (β:Nat->Nat->Rat) (M:Nat->Nat->Rat):∀ t,k + t<=n->det n (λi j=>if k<=i/\i < k + t then d * M i j + ah (λa=>β i a * M a j) k else M i j)=d ^ t * det n M
 | 0,_=>by
   rw [Rat.pow_zero,Rat.one_mul]
   congr 1
   funext i j
   have n0:¬ (k<=i/\i < k + 0):=by omega
   rw [if_neg n0]
 | t + 1,h=>by
   have ih:=oa (n:=n) (k:=k) d β M t (by omega)
   have c:=(ig n).comb (λi j=>if k<=i/\i < k + t then d * M i j + ah (λa=>β i a * M a j) k else M i j) (p:=k + t) (k:=k) (by omega) (by omega) d (β (k + t))
   rw [ih] at c
   rw [Rat.pow_succ,Rat.mul_comm (d ^ t) d,Rat.mul_assoc,<- c]
   congr 1
   funext i j
   unfold af
   by_cases q:i=k + t
   · subst q
     have n1:¬ (k<=k + t/\k + t < k + t):=by omega
     have p1:k<=k + t/\k + t < k + (t + 1):=by omega
     rw [if_pos p1,if_pos rfl]
     dsimp only
     rw [if_neg n1]
     congr 1
     exact ai λa ha=>by
       have na:¬ (k<=a/\a < k + t):=by omega
       rw [if_neg na]
   · rw [if_neg q]
     dsimp only
     by_cases z:k<=i/\i < k + t
     · rw [if_pos (by omega),if_pos z]
     · rw [if_neg (by omega),if_neg z]
theorem An {d:Rat} (h:d ≠ 0):∀ t:Nat,d ^ t ≠ 0
 | 0=>by rw [Rat.pow_zero]; exact λz=>by cases z
 | t + 1=>by
   rw [Rat.pow_succ]
   intro z
   rcases Rat.mul_eq_zero.mp z with y | y
   · exact An h t y
   · exact h y
noncomputable def bm (Y:Nat->Nat->Rat) (k p q:Nat):Rat:=det (k + 1) λr c=>Y (if r < k then r else p) (if c < k then c else q)
noncomputable def bc (Y:Nat->Nat->Rat) (k p i:Nat):Rat:=det (k + 1) (af (λr c=>Y (if c < k then c else p) r) k (idQ i))
theorem nA (M:Nat->Nat->Rat):det 1 M=M 0 0:=by
 show 0 + 1 * M 0 0 * 1=M 0 0
 grind
theorem D1 (M:Nat->Nat->Rat):det 2 M=M 0 0 * M 1 1 - M 0 1 * M 1 0:=by
 show 0 + 1 * M 0 0 * det 1 (minor M 0) + -1 * M 1 0 * det 1 (minor M 1)=_
 rw [nA,nA]
 show 0 + 1 * M 0 0 * M 1 1 + -1 * M 1 0 * M 0 1=_
 grind
section
variable {Y:Nat->Nat->Rat} {k p q:Nat}
theorem wq:bm Y k p q=det k Y * Y p q + ah (λi=>bc Y k p i * Y i q) k:=by
 have e:bm Y k p q=det (k + 1) (af (λr c=>Y (if c < k then c else p) r) k λr=>ah (λc=>Y (if c < k then c else p) q * idQ c r) (k + 1)):=by
   unfold bm
   rw [<- ml]
   refine aE λi hi j hj=>?_
   unfold af
   by_cases z:i=k
   · subst z
     rw [if_pos rfl,if_neg (Nat.lt_irrefl _)]
     exact (dG (λc=>Y (if c < i then c else p) q) j (i + 1) hj).symm
   · rw [if_neg z,if_pos (show i < k by omega)]
 have last:det (k + 1) (af (λr c=>Y (if c < k then c else p) r) k (idQ k))=det k Y:=by
   rw [ju 1 k _ λi h1 h2 j hj=>?_,nA]
   · have e1:af (λr c=>Y (if c < k then c else p) r) k (idQ k) (k + 0) (k + 0)=1:=by
       unfold af idQ
       rw [if_pos (Nat.add_zero k),if_pos (Nat.add_zero k).symm]
     rw [e1,Rat.mul_one,<- ml]
     refine aE λi hi j hj=>?_
     unfold af
     rw [if_neg (by omega)]
     dsimp only
     rw [if_pos hi]
   · have:i=k:=by omega
     subst this
     unfold af idQ
     rw [if_pos rfl,if_neg (by omega)]
 rw [e,(ig (k + 1)).sum _ (Nat.lt_succ_self k),ah,last,if_neg (Nat.lt_irrefl _),Rat.add_comm,Rat.mul_comm (Y p q)]
 congr 1
 exact ai λi hi=>by rw [if_pos hi,Rat.mul_comm]; rfl
theorem qN (h:q < k):bm Y k p q=0:=by
 unfold bm
 rw [<- ml]
 refine (ig (k + 1)).same (p:=q) (q:=k) (by omega) (by omega) (by omega) ?_
 funext r
 rw [if_pos h,if_neg (Nat.lt_irrefl _)]
theorem qY:bm Y k k k=det (k + 1) Y:=by
 refine aE λi hi j hj=>?_
 have:∀ r,r < k + 1->(if r < k then r else k)=r:=λr hr=>by split <;> omega
 rw [this i hi,this j hj]
theorem DJ {i j:Nat} (h0:det k Y ≠ 0):det k Y * bm Y (k + 1) i j=bm Y k k k * bm Y k i j - bm Y k k j * bm Y k i k:=by
 let W:Nat->Nat->Rat:=λr c=>Y (if r < k + 1 then r else i) (if c < k + 1 then c else j)
 have e:=oa (n:=k + 2) (k:=k) (det k Y) (λr a=>bc Y k (if r < k + 1 then r else i) a) W 2 (Nat.le_refl _)
 have ent:∀ r c,(if k<=r/\r < k + 2 then det k Y * W r c + ah (λa=>bc Y k (if r < k + 1 then r else i) a * W a c) k else W r c)=if k<=r/\r < k + 2 then bm Y k (if r < k + 1 then r else i) (if c < k + 1 then c else j) else W r c:=λr c=>by
   by_cases z:k<=r/\r < k + 2
   · rw [if_pos z,if_pos z,wq]
     congr 1
     exact ai λa ha=>by simp only [W]; rw [if_pos (show a < k + 1 by omega)]
   · rw [if_neg z,if_neg z]
 simp only [ent] at e
 rw [ju 2 k _ λr h1 h2 c hc=>?_,D1] at e
 · have a0:k<=k + 0/\k + 0 < k + 2:=by omega
   have a1:k<=k + 1/\k + 1 < k + 2:=by omega
   have b0:k + 0 < k + 1:=by omega
   have b1:¬ k + 1 < k + 1:=by omega
   rw [if_pos a0,if_pos a1,if_pos a0,if_pos a1,if_pos b0,if_neg b1,if_pos b0,if_neg b1,Nat.add_zero] at e
   have dk:(det k λr c=>if k<=r/\r < k + 2 then bm Y k (if r < k + 1 then r else i) (if c < k + 1 then c else j) else W r c)=det k Y:=aE λr hr c hc=>by
     rw [if_neg (by omega)]
     simp only [W]
     rw [if_pos (by omega),if_pos (by omega)]
   rw [dk] at e
   have dw:det (k + 2) W=bm Y (k + 1) i j:=rfl
   rw [dw] at e
   have c:=Rat.inv_mul_cancel (det k Y) h0
   have p2:det k Y ^ 2=det k Y * det k Y:=by rw [Rat.pow_succ,Rat.pow_succ,Rat.pow_zero,Rat.one_mul]
   rw [p2] at e
   have e2:(det k Y)⁻¹ * (det k Y * det k Y * bm Y (k + 1) i j)=(det k Y)⁻¹ * (det k Y * (bm Y k k k * bm Y k i j - bm Y k k j * bm Y k i k)):=congrArg _ e.symm
   rw [Rat.mul_assoc,<- Rat.mul_assoc,c,Rat.one_mul,<- Rat.mul_assoc,c,Rat.one_mul] at e2
   exact e2
 · rw [if_pos ⟨h1,h2⟩,if_pos (show c < k + 1 by omega)]
   exact qN hc
theorem CL {n:Nat} (h0:det k Y ≠ 0) (hk:k < n) (h:∀ p,k<=p->p < n->bm Y k p k=0):det n Y=0:=by
 have e:=oa (n:=n) (k:=k) (det k Y) (λr a=>bc Y k r a) Y (n - k) (by omega)
 have ent:∀ r c,(if k<=r/\r < k + (n - k) then det k Y * Y r c + ah (λa=>bc Y k r a * Y a c) k else Y r c)=if k<=r/\r < k + (n - k) then bm Y k r c else Y r c:=λr c=>by
   by_cases z:k<=r/\r < k + (n - k)
   · rw [if_pos z,if_pos z,wq]
   · rw [if_neg z,if_neg z]
 simp only [ent] at e
 have z:(det n λr c=>if k<=r/\r < k + (n - k) then bm Y k r c else Y r c)=0:=by
   obtain ⟨m,hm⟩:∃ m,n=k + (m + 1):=⟨n - k - 1,by omega⟩
   subst hm
   rw [ju (m + 1) k _ λr h1 h2 c hc=>?_]
   · have:det (m + 1) (λi j=>if k<=k + i/\k + i < k + (k + (m + 1) - k) then bm Y k (k + i) (k + j) else Y (k + i) (k + j))=0:=by
       rw [det]
       refine gI λi hi=>?_
       rw [if_pos (by omega),Nat.add_zero,h (k + i) (by omega) (by omega)]
       grind
     rw [this,Rat.mul_zero]
   · rw [if_pos (by omega)]
     exact qN hc
 rw [z] at e
 rcases Rat.mul_eq_zero.mp e.symm with y | y
 · exact absurd y (An h0 _)
 · exact y
noncomputable def rho (k m r:Nat):Nat:=if r < k then r else if r=k then k + m else if r<=k + m then r - 1 else r
theorem qQ {n:Nat}:∀ (m:Nat) (Y:Nat->Nat->Rat),k + m < n->(det n λr=>Y (rho k m r))=sgn m * det n Y
 | 0,Y,_=>by
   have:(λr=>Y (rho k 0 r))=Y:=by
     funext r
     congr 1
     unfold rho
     split
     · rfl
     · split
       · omega
       · split <;> omega
   rw [this]
   show _=1 * _
   rw [Rat.one_mul]
 | m + 1,Y,h=>by
   have ih:=qQ (n:=n) m (af (af Y (k + m) (Y (k + m + 1))) (k + m + 1) (Y (k + m))) (by omega)
   have s:=(ig n).nb Y (p:=k + m) (by omega) (Y (k + m + 1)) (Y (k + m))
   rw [bT,bT] at s
   rw [s] at ih
   rw [ji]
   have e:(λr=>af (af Y (k + m) (Y (k + m + 1))) (k + m + 1) (Y (k + m)) (rho k m r))=λr=>Y (rho k (m + 1) r):=by
     funext r
     by_cases z:rho k m r=k + m + 1
     · rw [z,cV]
       congr 1
       unfold rho at z ⊢
       split at z
       · omega
       · split at z
         · omega
         · split at z
           · omega
           · rename_i a b c
             rw [if_neg a,if_neg b,if_pos (by omega)]
             omega
     · rw [cX z]
       by_cases y:rho k m r=k + m
       · rw [y,cV]
         congr 1
         unfold rho at y z ⊢
         split at y
         · omega
         · split at y
           · rename_i a b
             rw [if_neg a,if_pos b]
             omega
           · split at y
             · omega
             · omega
       · rw [cX y]
         congr 1
         unfold rho at y z ⊢
         split at y
         · rename_i a
           rw [if_pos a,if_pos a]
         · rename_i a
           rw [if_neg a] at z
           split at y
           · omega
           · rename_i b
             rw [if_neg b] at z
             rw [if_neg a,if_neg b,if_neg a,if_neg b]
             split at y
             · rename_i c
               rw [if_pos c,if_pos (by omega)]
             · rename_i c
               rw [if_neg c] at z
               rw [if_neg c,if_neg (by omega)]
   rw [e] at ih
   rw [ih]
   grind
theorem GF {m:Nat}:bm (λr=>Y (rho k m r)) k p q=bm Y k (rho k m p) q:=by
 refine aE λr hr c hc=>?_
 dsimp only
 congr 1
 by_cases z:r < k
 · rw [if_pos z,if_pos z]
   unfold rho
   rw [if_pos z]
 · rw [if_neg z,if_neg z]
theorem y4 {m:Nat}:(det k λr=>Y (rho k m r))=det k Y:=aE λr hr c hc=>by
 unfold rho
 rw [if_pos hr]
end
structure Sz (a b:Nat) (x:Rat):Prop where
 num:x.num.natAbs<=2 ^ a
 den:x.den<=2 ^ b
theorem Sz.mono {a b a' b':Nat} {x:Rat} (h:Sz a b x) (ha:a<=a') (hb:b<=b'):Sz a' b' x:=
 ⟨Nat.le_trans h.num (Nat.pow_le_pow_right (by decide) ha),Nat.le_trans h.den (Nat.pow_le_pow_right (by decide) hb)⟩
theorem kf (x:Rat):x * (((x.den:Nat):Int):Rat)=(x.num:Rat):=by
 have h:mkRat x.num x.den=x:=by rw [<- Rat.normalize_eq_mkRat x.den_nz]; exact Rat.normalize_self x
 rw [Rat.mkRat_eq_div] at h
 have hd:((x.den:Nat):Rat) ≠ 0:=λz=>x.den_nz (Rat.natCast_eq_zero_iff.mp z)
 rw [Rat.intCast_natCast]
 conv=>lhs; lhs; rw [<- h]
 exact Rat.div_mul_cancel hd
theorem ve {t b:Int} {x:Rat} (hb:0 < b) (h:(t:Rat)=x * (b:Rat)):x.num=t / (Int.gcd t b:Int)/\((x.den:Nat):Int)=b / (Int.gcd t b:Int):=by
 have hb0:((b.toNat:Nat):Rat) ≠ 0:=λz=>by have:=Rat.natCast_eq_zero_iff.mp z; omega
 have hbb:((b:Int):Rat)=((b.toNat:Nat):Rat):=by rw [<- Rat.intCast_natCast,Int.toNat_of_nonneg (by omega)]
 have e:x=mkRat t b.toNat:=by
   rw [Rat.mkRat_eq_div,h,hbb,Rat.mul_div_cancel hb0]
 have g:b.toNat.gcd t.natAbs=Int.gcd t b:=by
   rw [Int.gcd,Nat.gcd_comm,show b.natAbs=b.toNat by omega]
 have nz:¬ b.toNat=0:=by omega
 constructor
 · rw [e,Rat.num_mkRat,if_neg nz,g]
 · rw [e,Rat.den_mkRat,if_neg nz,g,Int.natCast_ediv,Int.toNat_of_nonneg (by omega)]
noncomputable def ZB (b:Nat) (x:Rat):Prop:=∃ z:Int,x=(z:Rat)/\z.natAbs<=2 ^ b
theorem ZB.mono {b c:Nat} {x:Rat} (h:ZB b x) (hc:b<=c):ZB c x:=by
 obtain ⟨z,e,l⟩:=h
 exact ⟨z,e,Nat.le_trans l (Nat.pow_le_pow_right (by decide) hc)⟩
theorem ZB.mul {b c:Nat} {x y:Rat} (h:ZB b x) (g:ZB c y):ZB (b + c) (x * y):=by
 obtain ⟨u,rfl,l⟩:=h
 obtain ⟨v,rfl,k⟩:=g
 exact ⟨u * v,(Rat.intCast_mul u v).symm,by rw [Int.natAbs_mul,Nat.pow_add]; exact Nat.mul_le_mul l k⟩
theorem ZB.sgn (i:Nat):ZB 0 (sgn i):=by
 unfold K15.sgn
 split
 · exact ⟨1,rfl,by decide⟩
 · exact ⟨-1,rfl,by decide⟩
theorem ZB.sum {b:Nat} {f:Nat->Rat}:∀ {n:Nat},(∀ i < n,ZB b (f i))->∃ z:Int,ah f n=(z:Rat)/\z.natAbs<=n * 2 ^ b
 | 0,_=>⟨0,rfl,Nat.zero_le _⟩
 | n + 1,h=>by
   obtain ⟨u,e,l⟩:=ZB.sum λi hi=>h i (Nat.lt_succ_of_lt hi)
   obtain ⟨v,e',l'⟩:=h n (Nat.lt_succ_self n)
   refine ⟨u + v,by rw [ah,e,e',Rat.intCast_add],?_⟩
   rw [Nat.succ_mul]
   exact Nat.le_trans (Int.natAbs_add_le _ _) (Nat.add_le_add l l')
theorem zl {b:Nat}:∀ {n:Nat} {M:Nat->Nat->Rat},n<=8->(∀ i < n,∀ j < n,ZB b (M i j))->ZB (n * (b + 3)) (det n M)
 | 0,_,_,_=>⟨1,rfl,Nat.one_le_two_pow⟩
 | n + 1,M,hn,h=>by
   obtain ⟨z,e,l⟩:=ZB.sum (b:=b + n * (b + 3)) (f:=λi=>sgn i * M i 0 * det n (minor M i)) (n:=n + 1) λi hi=>by
     have:=((ZB.sgn i).mul (h i hi 0 (by omega))).mul (zl (n:=n) (M:=minor M i) (by omega) λr hr c hc=>h _ (rK hr) _ (by omega))
     exact this.mono (by omega)
   refine ⟨z,e,Nat.le_trans l ?_⟩
   rw [show (n + 1) * (b + 3)=3 + (b + n * (b + 3)) by rw [Nat.succ_mul]; omega,Nat.pow_add 2 3]
   exact Nat.mul_le_mul_right _ (by omega)
noncomputable def jV (s:Nat->Rat):Nat->Rat
 | 0=>1
 | n + 1=>jV s n * s n
theorem lM {n:Nat} (s:Nat->Rat) (M:Nat->Nat->Rat):∀ t,t<=n->det n (λi j=>if i < t then s i * M i j else M i j)=jV s t * det n M
 | 0,_=>by
   rw [jV,Rat.one_mul]
   exact aE λi _ j _=>if_neg (Nat.not_lt_zero _)
 | t + 1,h=>by
   have ih:=lM (n:=n) s M t (by omega)
   have c:=(ig n).comb (λi j=>if i < t then s i * M i j else M i j) (p:=t) (k:=0) (by omega) (Nat.zero_le _) (s t) (λ_=>0)
   rw [ih] at c
   rw [jV,Rat.mul_comm (jV s t),Rat.mul_assoc,<- c]
   refine aE λi _ j _=>?_
   unfold af
   by_cases q:i=t
   · subst q
     rw [if_pos (Nat.lt_succ_self i),if_pos rfl]
     dsimp only
     rw [if_neg (Nat.lt_irrefl i)]
     show _=_ + 0
     rw [Rat.add_zero]
   · rw [if_neg q]
     dsimp only
     by_cases z:i < t
     · rw [if_pos (by omega),if_pos z]
     · rw [if_neg (by omega),if_neg z]
theorem ZB.num {b:Nat} {x:Rat} (h:ZB b x):x=(x.num:Rat)/\x.num.natAbs<=2 ^ b:=by
 obtain ⟨z,rfl,l⟩:=h
 rw [Rat.num_intCast]
 exact ⟨rfl,l⟩
theorem AS (m:Nat) (Y:Nat->Nat->Rat):det (m + 1) Y=ah (λc=>sgn (m + c) * Y m c * det m λr q=>Y r (skp c q)) (m + 1):=by
 have e1:=qQ (k:=0) (n:=m + 1) m Y (by omega)
 have e2:=ml (m + 1) λr=>Y (rho 0 m r)
 rw [det] at e2
 have r0:rho 0 m 0=m:=by unfold rho; rw [if_neg (by omega),if_pos rfl]; omega
 have rs:∀ r,r < m->rho 0 m (r + 1)=r:=λr hr=>by
   unfold rho
   rw [if_neg (by omega),if_neg (by omega),if_pos (by omega)]
   omega
 have e3:ah (λc=>sgn c * Y m c * det m λr q=>Y r (skp c q)) (m + 1)=sgn m * det (m + 1) Y:=by
   rw [<- e1,<- e2]
   refine ai λc _=>?_
   rw [r0,<- ml m]
   congr 1
   exact aE λr hr q hq=>by
     unfold minor
     dsimp only
     rw [rs q hq]
 have sm:∀ c,sgn (m + c)=sgn m * sgn c:=λc=>by
   induction c with
   | zero=>rw [Nat.add_zero,show sgn 0=1 from rfl,Rat.mul_one]
   | succ c ih=>rw [<- Nat.add_assoc,ji,ih,ji]; grind
 have:ah (λc=>sgn (m + c) * Y m c * det m λr q=>Y r (skp c q)) (m + 1)=sgn m * ah (λc=>sgn c * Y m c * det m λr q=>Y r (skp c q)) (m + 1):=by
   rw [a8]
   refine ai λc _=>?_
   rw [sm]
   grind
 rw [this,e3,<- Rat.mul_assoc,Aw,Rat.one_mul]
noncomputable def i6 (M:Nat->Nat->Rat) (L:List Nat):Rat:=det L.length λr c=>M r (L.getD c 0)
theorem vO {M:Nat->Nat->Rat} {L:List Nat} {m:Nat} (h:L.length=m + 1):i6 M L=ah (λc=>sgn (m - c) * M m (L.getD c 0) * i6 M (L.eraseIdx c)) (m + 1):=by
 unfold i6
 rw [h,AS]
 refine ai λc hc=>?_
 have e1:sgn (m + c)=sgn (m - c):=by
   unfold sgn
   by_cases z:(m + c) % 2=0
   · rw [if_pos z,if_pos (by omega)]
   · rw [if_neg z,if_neg (by omega)]
 have e2:(L.eraseIdx c).length=m:=by rw [List.length_eraseIdx_of_lt (by omega)]; omega
 rw [e1,e2]
 refine congrArg (λx=>sgn (m - c) * M m (L.getD c 0) * x) (aE λr _ q hq=>?_)
 rw [List.getD_eq_getElem?_getD,List.getD_eq_getElem?_getD,List.getElem?_eraseIdx]
 unfold skp
 split <;> rfl
noncomputable def cols (n S:Nat):List Nat:=(List.range n).filter λj=>S.testBit j
theorem oK {n S j:Nat}:j ∈ cols n S ↔ j < n/\S.testBit j=true:=by
 unfold cols
 rw [List.mem_filter,List.mem_range]
theorem DT {n S j:Nat} (hj:j < n) (h:S.testBit j=false):cols n (S ||| 2 ^ j)=(cols j S)++j :: ((List.range (n - (j + 1))).map (j + 1 + ·)).filter (λk=>S.testBit k):=by
 unfold cols
 obtain ⟨d,rfl⟩:=Nat.exists_eq_add_of_le (show j + 1<=n from hj)
 rw [List.range_add,List.range_succ,List.filter_append,List.filter_append,show j + 1 + d - (j + 1)=d by omega,List.append_assoc]
 have lo:(List.range j).filter (λk=>(S ||| 2 ^ j).testBit k)=(List.range j).filter λk=>S.testBit k:=List.filter_congr λk hk=>by
   have:=List.mem_range.mp hk
   rw [Nat.testBit_or,Nat.testBit_two_pow_of_ne (by omega),Bool.or_false]
 have hi:((List.range d).map (j + 1 + ·)).filter (λk=>(S ||| 2 ^ j).testBit k)=((List.range d).map (j + 1 + ·)).filter λk=>S.testBit k:=List.filter_congr λk hk=>by
   obtain ⟨q,_,rfl⟩:=List.mem_map.mp hk
   rw [Nat.testBit_or,Nat.testBit_two_pow_of_ne (by omega),Bool.or_false]
 rw [lo,hi,List.filter_cons_of_pos (by rw [Nat.testBit_or,Nat.testBit_two_pow_self,Bool.or_true]),List.filter_nil]
 rfl
noncomputable def above (n j S:Nat):List Nat:=((List.range (n - (j + 1))).map (j + 1 + ·)).filter λk=>S.testBit k
theorem vZ {n S j:Nat} (hj:j < n) (h:S.testBit j=false):cols n S=cols j S++above n j S:=by
 unfold cols above
 obtain ⟨d,rfl⟩:=Nat.exists_eq_add_of_le (show j + 1<=n from hj)
 rw [List.range_add,List.range_succ,List.filter_append,List.filter_append,show j + 1 + d - (j + 1)=d by omega,List.filter_cons_of_neg (by rw [h]; decide),List.filter_nil,List.append_nil]
theorem nM {n S j:Nat} (hj:j < n) (h:S.testBit j=false):(cols n (S ||| 2 ^ j)).length=(cols n S).length + 1/\(cols n (S ||| 2 ^ j)).getD (cols j S).length 0=j/\(cols n (S ||| 2 ^ j)).eraseIdx (cols j S).length=cols n S/\(cols n S).length - (cols j S).length=(above n j S).length/\(cols j S).length<=(cols n S).length:=by
 rw [DT hj h,vZ hj h]
 refine ⟨by simp only [List.length_append,List.length_cons]; rfl,?_,?_,by rw [List.length_append]; omega,by rw [List.length_append]; omega⟩
 · rw [List.getD_eq_getElem?_getD,List.getElem?_append_right (Nat.le_refl _),Nat.sub_self]
   rfl
 · rw [List.eraseIdx_append_of_length_le (Nat.le_refl _),Nat.sub_self]
   rfl
theorem yG (n S:Nat):cols (n + 1) S=if S.testBit n then cols n S++[n] else cols n S:=by
 unfold cols
 rw [List.range_succ,List.filter_append]
 cases h:S.testBit n with
 | true=>rw [List.filter_cons_of_pos h,List.filter_nil,if_pos rfl]
 | false=>rw [List.filter_cons_of_neg (by rw [h]; decide),List.filter_nil,List.append_nil,if_neg (by decide)]
theorem uv (G:Nat->Nat->Rat) (S:Nat):∀ n,ah (λc=>G c ((cols n S).getD c 0)) (cols n S).length=ah (λj=>if S.testBit j then G (cols j S).length j else 0) n
 | 0=>rfl
 | n + 1=>by
   rw [yG,ah,<- uv G S n]
   cases h:S.testBit n with
   | true=>
     rw [if_pos rfl,if_pos rfl,List.length_append,List.length_singleton,ah]
     have e1:(cols n S++[n]).getD (cols n S).length 0=n:=by
       rw [List.getD_eq_getElem?_getD,List.getElem?_append_right (Nat.le_refl _),Nat.sub_self]
       rfl
     rw [e1]
     refine congrArg (· + G (cols n S).length n) (ai λc hc=>?_)
     rw [List.getD_eq_getElem?_getD,List.getElem?_append_left hc,<- List.getD_eq_getElem?_getD]
   | false=>rw [if_neg (by decide),if_neg (by decide),Rat.add_zero]
theorem kW {S j:Nat} (h:S.testBit j=true):(S ^^^ 2 ^ j).testBit j=false/\(S ^^^ 2 ^ j) ||| 2 ^ j=S/\∀ k,k ≠ j->(S ^^^ 2 ^ j).testBit k=S.testBit k:=by
 have a:∀ k,k ≠ j->(S ^^^ 2 ^ j).testBit k=S.testBit k:=λk hk=>by rw [Nat.testBit_xor,Nat.testBit_two_pow_of_ne (Ne.symm hk),Bool.xor_false]
 have b:(S ^^^ 2 ^ j).testBit j=false:=by rw [Nat.testBit_xor,Nat.testBit_two_pow_self,h]; rfl
 refine ⟨b,Nat.eq_of_testBit_eq λk=>?_,a⟩
 rw [Nat.testBit_or]
 by_cases z:k=j
 · subst z
   rw [Nat.testBit_two_pow_self,Bool.or_true,h]
 · rw [a k z,Nat.testBit_two_pow_of_ne (Ne.symm z),Bool.or_false]
theorem zc {M:Nat->Nat->Rat} {n m S:Nat} (h:(cols n S).length=m + 1):i6 M (cols n S)=ah (λj=>if S.testBit j then sgn (above n j S).length * M m j * i6 M (cols n (S ^^^ 2 ^ j)) else 0) n:=by
 rw [vO h,<- h,uv (λc j=>sgn (m - c) * M m j * i6 M ((cols n S).eraseIdx c)) S n]
 refine ai λj hj=>?_
 cases hb:S.testBit j with
 | false=>rfl
 | true=>
   rw [if_pos rfl,if_pos rfl]
   obtain ⟨b1,b2,b3⟩:=kW hb
   obtain ⟨c1,c2,c3,c4,c5⟩:=nM hj b1
   rw [b2] at c1 c2 c3
   have l1:cols j (S ^^^ 2 ^ j)=cols j S:=List.filter_congr λk hk=>b3 k (by have:=List.mem_range.mp hk; omega)
   have l2:above n j (S ^^^ 2 ^ j)=above n j S:=List.filter_congr λk hk=>by
     obtain ⟨q,_,rfl⟩:=List.mem_map.mp hk
     exact b3 _ (by omega)
   rw [l1] at c3 c4
   rw [l2] at c4
   rw [c3,<- c4,show (cols n (S ^^^ 2 ^ j)).length=m by omega]
section
variable {Y:Nat->Nat->Rat} {k p q:Nat}
theorem Hr:bm (λr c=>Y c r) k q p=bm Y k p q:=by
 unfold bm
 rw [<- ml]
noncomputable def cr (Y:Nat->Nat->Rat) (k c q:Nat):Rat:=-bc (λr c=>Y c r) k q c
theorem zD:bm Y k p q=det k Y * Y p q - ah (λc=>cr Y k c q * Y p c) k:=by
 rw [<- Hr,wq,ml]
 have e:ah (λc=>cr Y k c q * Y p c) k=-1 * ah (λi=>bc (λr c=>Y c r) k q i * Y p i) k:=by
   rw [a8]
   exact ai λc _=>by unfold cr; grind
 rw [e]
 grind
theorem rX (hp:p < k):ah (λc=>cr Y k c q * Y p c) k=det k Y * Y p q:=by
 have e:=zD (Y:=Y) (k:=k) (p:=p) (q:=q)
 rw [<- Hr,qN hp] at e
 grind
theorem F5 (h:det k Y ≠ 0) {a:Nat->Rat} (e:∀ p < k,ah (λc=>a c * Y p c) k=0):∀ c < k,a c=0:=λc hc=>by
 have e1:=(ig k).sum (λr c=>Y c r) hc a (λc' j=>Y j c') k
 have e2:det k (af (λr c=>Y c r) c λj=>ah (λc'=>a c' * Y j c') k)=0:=by
   rw [show det k (af (λr c=>Y c r) c λj=>ah (λc'=>a c' * Y j c') k)=det k (af (λr c=>Y c r) c λ_=>0) from aE λi _ j hj=>by
     unfold af
     split
     · exact e j hj
     · rfl]
   exact (ig k).HS _ hc
 have e3:ah (λc'=>a c' * det k (af (λr c=>Y c r) c λj=>Y j c')) k=ah (λc'=>(a c' * det k Y) * dq c' c) k:=ai λc' hc'=>by
   unfold dq
   by_cases z:c'=c
   · subst z
     rw [if_pos rfl,Rat.mul_one,show (λj=>Y j c')=(λr c=>Y c r) c' from rfl,bT,ml]
   · rw [if_neg z,Rat.mul_zero,(ig k).same (M:=af (λr c=>Y c r) c λj=>Y j c') (p:=c) (q:=c') hc hc' (Ne.symm z) (by rw [cV,cX z]),Rat.mul_zero]
 rw [e2,e3,dG _ c k hc] at e1
 rcases Rat.mul_eq_zero.mp e1.symm with z | z
 · exact z
 · exact absurd z h
theorem yd (h0:det k Y ≠ 0) (h1:det (k + 1) Y ≠ 0):(∀ c < k,det k Y * cr Y (k + 1) c q=det (k + 1) Y * cr Y k c q - bm Y k k q * cr Y k c k)/\cr Y (k + 1) k q=bm Y k k q:=by
 have key:=F5 (k:=k + 1) h1 (a:=λc=>if c < k then det k Y * cr Y (k + 1) c q - (det (k + 1) Y * cr Y k c q - bm Y k k q * cr Y k c k) else det k Y * cr Y (k + 1) c q - det k Y * bm Y k k q) λp hp=>by
   have c1:=rX (Y:=Y) (k:=k + 1) (p:=p) (q:=q) hp
   rw [ah] at c1 ⊢
   rw [if_neg (Nat.lt_irrefl k)]
   have e:ah (λc=>(if c < k then det k Y * cr Y (k + 1) c q - (det (k + 1) Y * cr Y k c q - bm Y k k q * cr Y k c k) else det k Y * cr Y (k + 1) c q - det k Y * bm Y k k q) * Y p c) k=det k Y * ah (λc=>cr Y (k + 1) c q * Y p c) k + ((-det (k + 1) Y) * ah (λc=>cr Y k c q * Y p c) k + bm Y k k q * ah (λc=>cr Y k c k * Y p c) k):=by
     rw [a8,a8,a8,<- dO,<- dO]
     exact ai λc hc=>by rw [if_pos hc]; grind
   rw [e]
   rcases Nat.lt_or_ge p k with z | z
   · rw [rX z,rX z]
     grind
   · obtain rfl:p=k:=by omega
     have b1:=zD (Y:=Y) (k:=p) (p:=p) (q:=q)
     have b2:=zD (Y:=Y) (k:=p) (p:=p) (q:=p)
     rw [qY] at b2
     grind
 refine ⟨λc hc=>?_,?_⟩
 · have:=key c (by omega)
   rw [if_pos hc] at this
   grind
 · have:=key k (by omega)
   rw [if_neg (Nat.lt_irrefl k)] at this
   have e:det k Y * (cr Y (k + 1) k q - bm Y k k q)=0:=by grind
   rcases Rat.mul_eq_zero.mp e with z | z
   · exact absurd z h0
   · grind
end
end K15
namespace K15
open PySem L2 Sv Ev
theorem HB (S j:Nat):Ca (S:Int) j=S.testBit j:=by
 unfold Ca
 have e:(S:Int) / 2 ^ j=((S / 2 ^ j:Nat):Int):=by simp
 rw [e,PyProof.Rows.bitAnd_pp (Int.natCast_nonneg _) (by decide),Int.toNat_natCast,Nat.testBit_eq_decide_div_mod_eq]
 have:(S / 2 ^ j) &&& (1:Int).toNat=S / 2 ^ j % 2:=by show (S / 2 ^ j) &&& 1=_; rw [Nat.and_one_is_mod]
 rw [this]
 congr 1
 rw [eq_iff_iff]
 omega
theorem Hn (S j:Nat):vk (S:Int) j=((S ||| 2 ^ j:Nat):Int):=by
 unfold vk
 have e:(1:Int) * 2 ^ j=((2 ^ j:Nat):Int):=by simp
 rw [e]
 generalize 2 ^ j=y
 unfold Builtin.bitOr
 have h1:¬ (0<=Builtin.bitNot (S:Int)):=by unfold Builtin.bitNot; omega
 have h2:¬ (0<=Builtin.bitNot (y:Int)):=by unfold Builtin.bitNot; omega
 rw [PyProof.Rows.bitAnd_nn h1 h2]
 have h3:∀ x:Int,Builtin.bitNot (Builtin.bitNot x)=x:=λx=>by unfold Builtin.bitNot; omega
 rw [h3,h3,h3,Int.toNat_natCast,Int.toNat_natCast]
theorem Jy (k:Nat):((sgZ (k:Int):Int):Rat)=sgn k:=by
 unfold sgZ sgn
 rw [Int.fmod_eq_emod_of_nonneg _ (by decide)]
 by_cases h:k % 2=0
 · rw [if_pos h,show (k:Int) % 2=0 by omega]; rfl
 · rw [if_neg h,show (k:Int) % 2=1 by omega]; rfl
theorem qV (kv:List (Int × Int)) (k v j:Int):cy (mh kv k v) j=if j=k then some v else cy kv j:=by
 have e:=CH (cL kv) (Sum.inl k) (Sum.inl j) (V.int v)
 rw [xX,jl,jl] at e
 by_cases h:j=k
 · rw [if_pos (congrArg Sum.inl h)] at e
   rw [if_pos h]
   cases z:cy (mh kv k v) j with
   | none=>rw [z] at e; cases e
   | some x=>rw [z] at e; cases e; rfl
 · rw [if_neg (λz=>h (Sum.inl.inj z))] at e
   rw [if_neg h]
   cases z:cy (mh kv k v) j <;> cases z':cy kv j <;> rw [z,z'] at e <;> cases e <;> rfl
theorem uS (kv:List (Int × Int)) (k v:Int):(mh kv k v).map (·.1)=if (kv.any λp=>decide (p.1=k))=true then kv.map (·.1) else kv.map (·.1)++[k]:=by
 unfold mh
 split
 · rw [List.map_map]
   refine List.map_congr_left λp _=>?_
   simp only [Function.comp]
   split <;> rfl
 · rw [List.map_append]; rfl
theorem GC {kv:List (Int × Int)} {k v:Int} (h:(kv.map (·.1)).Nodup):((mh kv k v).map (·.1)).Nodup:=by
 rw [uS]
 split
 · exact h
 · rename_i z
   rw [List.nodup_append]
   refine ⟨h,by simp,λa ha b hb e=>z ?_⟩
   obtain ⟨p,hp,rfl⟩:=List.mem_map.mp ha
   rw [List.mem_singleton] at hb
   exact List.any_eq_true.mpr ⟨p,hp,decide_eq_true (e.trans hb)⟩
theorem CU {kv:List (Int × Int)} {k v x:Int} (h:x ∈ (mh kv k v).map (·.1)):x=k\/x ∈ kv.map (·.1):=by
 rw [uS] at h
 split at h
 · exact .inr h
 · rcases List.mem_append.mp h with h | h
   · exact .inr h
   · exact .inl (List.mem_singleton.mp h)
theorem zF:∀ {kv:List (Int × Int)} {q:Int × Int},(kv.map (·.1)).Nodup->q ∈ kv->cy kv q.1=some q.2
 | p :: t,q,h,hq=>by
   rw [List.map_cons,List.nodup_cons] at h
   unfold cy
   by_cases z:p.1=q.1
   · rw [List.find?_cons_of_pos (by simp [z])]
     rcases List.mem_cons.mp hq with e | hq
     · rw [e]; rfl
     · exact absurd (List.mem_map.mpr ⟨q,hq,z.symm⟩) h.1
   · rw [List.find?_cons_of_neg (by simp [z])]
     rcases List.mem_cons.mp hq with e | hq
     · exact absurd (by rw [e]) z
     · exact zF h.2 hq
theorem z9:∀ {kv:List (Int × Int)} {k v:Int},cy kv k=some v->(k,v) ∈ kv
 | p :: t,k,v,h=>by
   unfold cy at h
   by_cases z:p.1=k
   · rw [List.find?_cons_of_pos (by simp [z])] at h
     cases h
     rw [<- z]
     exact List.mem_cons_self ..
   · rw [List.find?_cons_of_neg (by simp [z])] at h
     exact List.mem_cons_of_mem _ (z9 h)
noncomputable def gv (kv:List (Int × Int)) (k:Int):Rat:=(((cy kv k).getD 0:Int):Rat)
theorem FD (kv:List (Int × Int)) (k j x:Int):gv (mh kv k ((cy kv k).getD 0 + x)) j=gv kv j + if j=k then (x:Rat) else 0:=by
 unfold gv
 rw [qV]
 by_cases h:j=k
 · rw [if_pos h,if_pos h,h,Option.getD_some,Rat.intCast_add]
 · rw [if_neg h,if_neg h,Rat.add_zero]
theorem vw {n j S:Nat} (h:j + 1 < n):(above n j S).length=(if S.testBit (j + 1) then 1 else 0) + (above n (j + 1) S).length:=by
 unfold above
 obtain ⟨d,rfl⟩:=Nat.exists_eq_add_of_le (show j + 2<=n from h)
 rw [show j + 2 + d - (j + 1)=d + 1 by omega,show j + 2 + d - (j + 1 + 1)=d by omega,List.range_succ_eq_map,List.map_cons,List.map_map,List.filter_cons]
 have e:(List.range d).map ((j + 1 + ·) ∘ Nat.succ)=(List.range d).map (j + 1 + 1 + ·):=List.map_congr_left λk _=>by simp only [Function.comp]; omega
 rw [e,Nat.add_zero]
 split
 · rw [List.length_cons]; omega
 · omega
theorem wo {n S:Nat}:(above (n + 1) n S).length=0:=by
 unfold above
 rw [show n + 1 - (n + 1)=0 by omega]
 rfl
theorem nW (g:Nat->Rat):∀ n,ah g (n + 1)=g 0 + ah (λk=>g (k + 1)) n
 | 0=>by simp only [ah,Rat.add_zero,Rat.zero_add]
 | n + 1=>by
   rw [ah,nW g n,ah,Rat.add_assoc]
theorem tO (f:Nat->Rat):∀ n,ah (λt=>f (n - 1 - t)) n=ah f n
 | 0=>rfl
 | n + 1=>by
   rw [nW,ah,Rat.add_comm,show n + 1 - 1 - 0=n by omega,<- tO f n]
   refine congrArg (· + f n) (ai λk hk=>?_)
   rw [show n + 1 - 1 - (k + 1)=n - 1 - k by omega]
noncomputable def wu (n S:Nat):Nat->Nat
 | 0=>0
 | c + 1=>wu n S c + if S.testBit (n - 1 - c) then 1 else 0
theorem qh {n S:Nat}:∀ c,c < n->wu n S c=(above n (n - 1 - c) S).length
 | 0,h=>by
   obtain ⟨m,rfl⟩:=Nat.exists_eq_succ_of_ne_zero (show n ≠ 0 by omega)
   rw [show m.succ - 1 - 0=m by omega,wo]
   rfl
 | c + 1,h=>by
   rw [wu,qh c (by omega),vw (n:=n) (j:=n - 1 - (c + 1)) (by omega),show n - 1 - (c + 1) + 1=n - 1 - c by omega]
   omega
noncomputable def evQ (n:Nat) (row:List Int) (S:Nat) (v:Rat) (T:Int) (j:Nat):Rat:=if S.testBit j then 0 else if T=((S ||| 2 ^ j:Nat):Int) then sgn (above n j S).length * ((row.getD j 0:Int):Rat) * v else 0
structure CI (n S:Nat) (row:List Int) (v:Int) (lk:List (Int × Int)) (c:Nat) (r:Int × List (Int × Int)):Prop where
 cnt:r.1=(wu n S c:Nat)
 val:∀ T,gv r.2 T=gv lk T + ah (λt=>evQ n row S v T (n - 1 - t)) c
 key:∀ x ∈ r.2.map (·.1),x ∈ lk.map (·.1)\/∃ j,j < n/\S.testBit j=false/\x=((S ||| 2 ^ j:Nat):Int)
 nd:(r.2.map (·.1)).Nodup
 old:∀ T,cy lk T ≠ none->cy r.2 T ≠ none
 new:∀ t < c,S.testBit (n - 1 - t)=false->cy r.2 ((S ||| 2 ^ (n - 1 - t):Nat):Int) ≠ none
theorem xO {n S:Nat} {row:List Int} {v:Int} {lk:List (Int × Int)} (hn:(lk.map (·.1)).Nodup):∀ c,c<=n->CI n S row v lk c (gL n row (S:Int) v lk c)
 | 0,_=>⟨rfl,λT=>by rw [ah,Rat.add_zero]; rfl,λx h=>.inl h,hn,λ_ h=>h,λt h=>by omega⟩
 | c + 1,hc=>by
   obtain ⟨h1,h2,h3,h4,h5,h6⟩:=xO (n:=n) (S:=S) (row:=row) (v:=v) hn c (by omega)
   rw [gL,yO,HB,Hn]
   generalize gL n row (S:Int) v lk c=r at h1 h2 h3 h4 h5 h6 ⊢
   cases hb:S.testBit (n - 1 - c) with
   | true=>
     rw [if_pos rfl]
     refine ⟨by dsimp only; rw [h1,wu,hb,if_pos rfl]; omega,λT=>?_,h3,h4,h5,λt ht hf=>?_⟩
     · rw [ah,evQ,if_pos hb,Rat.add_zero]; exact h2 T
     · rcases Nat.lt_or_ge t c with z | z
       · exact h6 t z hf
       · obtain rfl:t=c:=by omega
         rw [hb] at hf; cases hf
   | false=>
     rw [if_neg (by decide)]
     refine ⟨by dsimp only; rw [h1,wu,hb]; rfl,λT=>?_,λx hx=>?_,GC h4,λT hT=>?_,λt ht hf=>?_⟩
     · dsimp only
       have e:evQ n row S v T (n - 1 - c)=if T=((S ||| 2 ^ (n - 1 - c):Nat):Int) then sgn (wu n S c) * ((row.getD (n - 1 - c) 0:Int):Rat) * v else 0:=by
         unfold evQ
         rw [if_neg (by rw [hb]; decide),<- qh (n:=n) (S:=S) c (by omega)]
       rw [FD,h2,ah,<- Rat.add_assoc,e,h1,Rat.intCast_mul,Rat.intCast_mul,Jy]
     · rcases CU hx with e | e
       · exact .inr ⟨n - 1 - c,by omega,hb,e⟩
       · exact h3 x e
     · dsimp only
       rw [qV]
       split
       · exact nofun
       · exact h5 T hT
     · dsimp only
       rw [qV]
       split
       · exact nofun
       · rename_i z
         rcases Nat.lt_or_ge t c with y | y
         · exact h6 t y hf
         · obtain rfl:t=c:=by omega
           exact absurd rfl z
structure MI (n:Nat) (row:List Int) (Sf:Nat->Nat) (vf:Nat->Rat) (t:Nat) (r:List (Int × Int)):Prop where
 val:∀ T,gv r T=ah (λs=>ah (evQ n row (Sf s) (vf s) T) n) t
 key:∀ x ∈ r.map (·.1),∃ s < t,∃ j,j < n/\(Sf s).testBit j=false/\x=((Sf s ||| 2 ^ j:Nat):Int)
 nd:(r.map (·.1)).Nodup
 new:∀ s < t,∀ j < n,(Sf s).testBit j=false->cy r ((Sf s ||| 2 ^ j:Nat):Int) ≠ none
theorem uU {n:Nat} {row:List Int} {kv:List (Int × Int)} {Sf:Nat->Nat} (hS:∀ s < kv.length,(kv.getD s (0,0)).1=(Sf s:Int)):∀ t,t<=kv.length->MI n row Sf (λs=>gv kv (Sf s)) t (d9 n row kv t)
 | 0,_=>⟨λT=>rfl,λx h=>by simp [d9] at h,by simp [d9],λs h=>by omega⟩
 | t + 1,ht=>by
   obtain ⟨h1,h2,h3,h4⟩:=uU (n:=n) (row:=row) hS t (by omega)
   rw [d9,hS t (by omega)]
   generalize d9 n row kv t=r at h1 h2 h3 h4 ⊢
   obtain ⟨_,c2,c3,c4,c5,c6⟩:=xO (n:=n) (S:=Sf t) (row:=row) (v:=(cy kv (Sf t:Int)).getD 0) h3 n (Nat.le_refl _)
   refine ⟨λT=>?_,λx hx=>?_,c4,λs hs j hj hf=>?_⟩
   · rw [c2,h1,ah,tO (evQ n row (Sf t) _ T)]
     rfl
   · rcases c3 x hx with e | ⟨j,e⟩
     · obtain ⟨s,hs,e⟩:=h2 x e
       exact ⟨s,by omega,e⟩
     · exact ⟨t,by omega,j,e⟩
   · rcases Nat.lt_or_ge s t with z | z
     · exact c5 _ (h4 s z j hj hf)
     · obtain rfl:s=t:=by omega
       have:=c6 (n - 1 - j) (by omega)
       rw [show n - 1 - (n - 1 - j)=j by omega] at this
       exact this hf
structure RI (n i:Nat) (M:Nat->Nat->Rat) (kv:List (Int × Int)):Prop where
 key:∀ x ∈ kv.map (·.1),∃ S:Nat,x=(S:Int)/\S < 2 ^ n/\(cols n S).length=i
 nd:(kv.map (·.1)).Nodup
 all:∀ S:Nat,S < 2 ^ n->(cols n S).length=i->cy kv (S:Int) ≠ none/\gv kv (S:Int)=i6 M (cols n S)
theorem Cn {S T j:Nat} (h:S.testBit j=false) (e:T=S ||| 2 ^ j):T.testBit j=true/\S=T ^^^ 2 ^ j:=by
 have h1:T.testBit j=true:=by rw [e,Nat.testBit_or,Nat.testBit_two_pow_self,Bool.or_true]
 refine ⟨h1,Nat.eq_of_testBit_eq λk=>?_⟩
 obtain ⟨b1,_,b3⟩:=kW h1
 by_cases z:k=j
 · subst z; rw [h,b1]
 · rw [b3 k z,e,Nat.testBit_or,Nat.testBit_two_pow_of_ne (Ne.symm z),Bool.or_false]
theorem RI.step {n i:Nat} {M:Nat->Nat->Rat} {kv:List (Int × Int)} {row:List Int} (h:RI n i M kv) (hr:∀ j < n,((row.getD j 0:Int):Rat)=M i j):RI n (i + 1) M (d9 n row kv kv.length):=by
 have hS:∀ s < kv.length,(kv.getD s (0,0)).1=((kv.getD s (0,0)).1.toNat:Int)/\(kv.getD s (0,0)).1.toNat < 2 ^ n/\(cols n (kv.getD s (0,0)).1.toNat).length=i:=λs hs=>by
   have hm:kv.getD s (0,0) ∈ kv:=by rw [List.getD_eq_getElem?_getD,List.getElem?_eq_getElem hs]; exact List.getElem_mem hs
   obtain ⟨S,e1,e2,e3⟩:=h.key _ (List.mem_map.mpr ⟨_,hm,rfl⟩)
   rw [e1,Int.toNat_natCast]
   exact ⟨rfl,e2,e3⟩
 obtain ⟨m1,m2,m3,m4⟩:=uU (n:=n) (row:=row) (kv:=kv) (Sf:=λs=>(kv.getD s (0,0)).1.toNat) (λs hs=>(hS s hs).1) kv.length (Nat.le_refl _)
 have off:∀ {T j:Nat},T < 2 ^ n->(cols n T).length=i + 1->j < n->T.testBit j=true->T ^^^ 2 ^ j < 2 ^ n/\(cols n (T ^^^ 2 ^ j)).length=i/\∃ s < kv.length,(kv.getD s (0,0)).1.toNat=T ^^^ 2 ^ j:=λ{T j} hT hl hj hb=>by
   obtain ⟨b1,b2,_⟩:=kW hb
   have l1:T ^^^ 2 ^ j < 2 ^ n:=Nat.xor_lt_two_pow hT (Nat.pow_lt_pow_right (by decide) hj)
   have l2:=(nM hj b1).1
   rw [b2,hl] at l2
   refine ⟨l1,by omega,?_⟩
   obtain ⟨q,_⟩:=h.all _ l1 (by omega)
   cases z:cy kv ((T ^^^ 2 ^ j:Nat):Int) with
   | none=>exact absurd z q
   | some v=>
     obtain ⟨s,hs⟩:=List.getElem?_of_mem (z9 z)
     refine ⟨s,(List.getElem?_eq_some_iff.mp hs).1,?_⟩
     rw [List.getD_eq_getElem?_getD,hs]
     show (((T ^^^ 2 ^ j:Nat):Int)).toNat=_
     rw [Int.toNat_natCast]
 refine ⟨λx hx=>?_,m3,λT hT hl=>⟨?_,?_⟩⟩
 · obtain ⟨s,hs,j,hj,hf,rfl⟩:=m2 x hx
   obtain ⟨_,e2,e3⟩:=hS s hs
   exact ⟨_,rfl,Nat.or_lt_two_pow e2 (Nat.pow_lt_pow_right (by decide) hj),by rw [(nM hj hf).1,e3]⟩
 · obtain ⟨j,hj⟩:=List.exists_mem_of_length_pos (l:=cols n T) (by omega)
   obtain ⟨hj,hb⟩:=oK.mp hj
   obtain ⟨_,_,s,hs,e⟩:=off hT hl hj hb
   obtain ⟨b1,b2,_⟩:=kW hb
   have:=m4 s hs j hj
   try dsimp only at this
   rw [e,b2] at this
   exact this b1
 · rw [m1,jk (λs j=>evQ n row (kv.getD s (0,0)).1.toNat (gv kv ((kv.getD s (0,0)).1.toNat:Int)) (T:Int) j) n kv.length,zc hl]
   refine ai λj hj=>?_
   cases hb:T.testBit j with
   | false=>
     rw [if_neg (by decide)]
     refine gI λs hs=>?_
     unfold evQ
     cases hf:(kv.getD s (0,0)).1.toNat.testBit j with
     | true=>rw [if_pos rfl]
     | false=>
       rw [if_neg (by decide),if_neg λz=>?_]
       have:=(Cn hf (Int.ofNat.inj z)).1
       rw [hb] at this; cases this
   | true=>
     rw [if_pos rfl]
     obtain ⟨l1,l2,s0,hs0,e0⟩:=off hT hl hj hb
     obtain ⟨b1,b2,b3⟩:=kW hb
     have ea:above n j (T ^^^ 2 ^ j)=above n j T:=List.filter_congr λk hk=>by
       obtain ⟨q,_,rfl⟩:=List.mem_map.mp hk
       exact b3 _ (by omega)
     rw [<- (h.all _ l1 l2).2,<- hr j hj,<- ea,<- dG (λ_=>sgn (above n j (T ^^^ 2 ^ j)).length * ((row.getD j 0:Int):Rat) * gv kv ((T ^^^ 2 ^ j:Nat):Int)) s0 kv.length hs0]
     refine ai λs hs=>?_
     unfold evQ dq
     by_cases z:s=s0
     · subst z
       rw [e0,b1,b2,if_neg (by decide),if_pos rfl,if_pos rfl,Rat.mul_one]
     · rw [if_neg z,Rat.mul_zero]
       cases hf:(kv.getD s (0,0)).1.toNat.testBit j with
       | true=>rw [if_pos rfl]
       | false=>
         rw [if_neg (by decide),if_neg λy=>z ?_]
         have e1:=(Cn hf (Int.ofNat.inj y)).2
         have e2:(kv.map (·.1))[s]?=(kv.map (·.1))[s0]?:=by
           have g:∀ s < kv.length,(kv.map (·.1))[s]?=some (kv.getD s (0,0)).1:=λs hs=>by
             rw [List.getElem?_map,List.getD_eq_getElem?_getD,List.getElem?_eq_getElem hs]; rfl
           rw [g s hs,g s0 hs0,(hS s hs).1,(hS s0 hs0).1,e1,e0]
         exact (List.getElem?_inj (by rw [List.length_map]; exact hs) h.nd).mp e2
theorem RI.zero (n:Nat) (M:Nat->Nat->Rat):RI n 0 M [(0,1)]:=by
 have c0:∀ S:Nat,S < 2 ^ n->(cols n S).length=0->S=0:=λS hS h=>Nat.eq_of_testBit_eq λk=>by
   rw [Nat.zero_testBit]
   rcases Nat.lt_or_ge k n with z | z
   · cases hb:S.testBit k with
     | false=>rfl
     | true=>
       have:=oK.mpr ⟨z,hb⟩
       rw [List.length_eq_zero_iff.mp h] at this
       cases this
   · exact Nat.testBit_lt_two_pow (Nat.lt_of_lt_of_le hS (Nat.pow_le_pow_right (by decide) z))
 refine ⟨λx hx=>⟨0,?_,Nat.two_pow_pos n,?_⟩,by simp,λS hS h=>?_⟩
 · simpa using hx
 · unfold cols
   rw [List.filter_eq_nil_iff.mpr λa _=>by rw [Nat.zero_testBit]; decide]
   rfl
 · obtain rfl:=c0 S hS h
   refine ⟨nofun,?_⟩
   rw [i6,h]
   rfl
theorem qL {n:Nat} {M:Nat->Nat->Rat} {Ms:List (List Int)} (hl:Ms.length=n) (hM:∀ i < n,∀ j < n,(((Ms.getD i []).getD j 0:Int):Rat)=M i j):∀ i,i<=n->RI n i M (gC Ms i)
 | 0,_=>RI.zero n M
 | i + 1,h=>by
   rw [gC,hl]
   exact (qL hl hM i (by omega)).step (hM i (by omega))
theorem DU {n b:Nat} {M:Nat->Nat->Rat} (hn:n<=7) (hM:∀ i < n,∀ j < n,ZB b (M i j)) {S:Nat}:ZB (n * (b + 3)) (i6 M (cols n S)):=by
 unfold i6
 have hl:(cols n S).length<=n:=by
   have:=List.length_filter_le (λj=>S.testBit j) (List.range n)
   rw [List.length_range] at this
   exact this
 refine (zl (b:=b) (by omega) λi hi j hj=>hM i (by omega) _ ?_).mono (Nat.mul_le_mul_right _ hl)
 rw [List.getD_eq_getElem?_getD,List.getElem?_eq_getElem hj]
 exact (oK.mp (List.getElem_mem hj)).1
set_option exponentiation.threshold 4000 in
theorem GY {n b:Nat} {M:Nat->Nat->Rat} {Ms:List (List Int)} (hn:n<=7) (hl:Ms.length=n) (hr:∀ r ∈ Ms,r.length=n/\∀ x ∈ r,x.natAbs<=2 ^ b) (hM:∀ i < n,∀ j < n,(((Ms.getD i []).getD j 0:Int):Rat)=M i j) (hb:n * (b + 3)<=3800) (hb':b<=3800) :
   ∃ d:Int,vq Ms=some d/\(d:Rat)=det n M:=by
 have zb:∀ i < n,∀ j < n,ZB b (M i j):=λi hi j hj=>by
   have h1:i < Ms.length:=by omega
   have h2:Ms.getD i [] ∈ Ms:=by rw [List.getD_eq_getElem?_getD,List.getElem?_eq_getElem h1]; exact List.getElem_mem h1
   refine ⟨_,(hM i hi j hj).symm,(hr _ h2).2 _ ?_⟩
   have h3:j < (Ms.getD i []).length:=by rw [(hr _ h2).1]; exact hj
   rw [List.getD_eq_getElem?_getD (l:=Ms.getD i []),List.getElem?_eq_getElem h3]
   exact List.getElem_mem h3
 have lm:∀ {x c:Nat},x<=2 ^ c->c<=3800->x < lim:=λ{x c} h hc=>Nat.lt_of_le_of_lt h (Nat.pow_lt_pow_right (by decide) (by omega))
 have ok:okZ Ms:=by
   refine ⟨by omega,λr h=>⟨by rw [hl]; exact (hr r h).1,λx hx=>lm ((hr r h).2 x hx) hb'⟩,λi hi p hp=>?_⟩
   have R:=qL hl hM i (by omega)
   obtain ⟨S,e1,e2,e3⟩:=R.key _ (List.mem_map.mpr ⟨p,hp,rfl⟩)
   have e4:=(R.all S e2 e3).2
   rw [<- e1] at e4
   unfold gv at e4
   rw [zF R.nd hp,Option.getD_some] at e4
   obtain ⟨z,e5,e6⟩:=DU (S:=S) hn zb
   rw [e5] at e4
   rw [Rat.intCast_inj.mp e4]
   exact lm e6 hb
 have R:=qL hl hM n (Nat.le_refl _)
 have bits:cols n (2 ^ n - 1)=List.range n:=List.filter_eq_self.mpr λk hk=>by
   rw [Nat.testBit_two_pow_sub_one]
   exact decide_eq_true (List.mem_range.mp hk)
 have p2:=Nat.two_pow_pos n
 obtain ⟨q1,q2⟩:=R.all (2 ^ n - 1) (by omega) (by rw [bits,List.length_range])
 have e1:((2 ^ n - 1:Nat):Int)=2 ^ n - 1:=by rw [Int.natCast_sub p2]; simp
 unfold vq
 rw [if_pos ok,hl,<- e1]
 cases z:cy (gC Ms n) ((2 ^ n - 1:Nat):Int) with
 | none=>exact absurd z q1
 | some d=>
   refine ⟨d,rfl,?_⟩
   unfold gv at q2
   rw [z,Option.getD_some] at q2
   rw [q2,i6,bits,List.length_range]
   refine aE λi hi j hj=>?_
   rw [List.getD_eq_getElem?_getD,List.getElem?_range hj]
   rfl
end K15
namespace K15
open PySem PySem.Spec L2 Sv
open Ev (D aA aK ae)
theorem IQ {Ψ:FnT} {i:Nat} (e:Ψ i=jh):w6 Ψ i:=λa b=>by rw [e]; exact nG _ _ _ _ a b
theorem DC {Ψ:FnT} {i:Nat} (e:Ψ i=gQ):w6 Ψ i:=λa b=>by rw [e]; exact yR _ _ _ _ a b
theorem CD {Ψ:FnT} {i:Nat} (e:Ψ i=mn):Cv Ψ i:=λc bs hb hl=>by rw [e]; exact vS _ _ _ c bs hb hl
theorem Jm {Ψ:FnT} {i:Nat} (e:Ψ i=j3):HN Ψ i:=λd h=>by rw [e]; exact pd d h
theorem JK {Ψ:FnT} {i:Nat} (e:Ψ i=jW):Ho Ψ i:=λd h=>by rw [e]; exact B9 (Ψ:=jT) (wh:=10) (cd:=11) (Jm rfl) (DC rfl) d h
theorem HG {Ψ:FnT} {i:Nat} (e:Ψ i=iQ):Fv Ψ i:=λd h=>by rw [e]; exact zq d h
theorem JM {Ψ:FnT} {i:Nat} (e:Ψ i=tq):HL Ψ i:=λd h=>by rw [e]; exact Fg (sl:=9) (fr:=12) (HG rfl) (JK rfl) d h
theorem IF (d:T) (h:nx d=true):oF [d]=.ok (.bl (v5 d)):=y6 (sl:=9) (rw':=13) (HG rfl) (JM rfl) d h
theorem Ec (ns:List Int) (k:Nat):∃ c:Int,nH [inT ns,.int (k:Nat)]=.ok (.int c):=DR _ _ _ _ ns k
theorem DV (c u:Int) (h0:0 < u) (h1:u.natAbs < 10 ^ 200):∃ r:Int,nU [.int c,.int u]=.ok (.int r):=CS _ _ _ _ c u h0 h1
theorem E2 (a b:Int):jh [.int a,.int b]=.ok (.int (Int.gcd a b:Nat)):=nG _ _ _ _ a b
theorem Hv:(2:Nat) ^ 8900 < big:=by decide +kernel
theorem dv {n b:Nat} (h:n<=2 ^ b) (hb:b<=8900):n < big:=Nat.lt_of_le_of_lt h (Nat.lt_of_le_of_lt (Nat.pow_le_pow_right (by decide) hb) Hv)
theorem lg {n b:Nat} (h:n<=2 ^ b) (hb:b<=900000):n.log2 < 1000000:=by
 by_cases e:n=0
 · subst e; rw [Nat.log2_zero]; decide
 · rw [Nat.log2_lt e]
   exact Nat.lt_of_le_of_lt h (Nat.pow_lt_pow_right (by decide) (by omega))
theorem mo {i j:Int} {a b:Nat} (h:i.natAbs<=2 ^ a) (g:j.natAbs<=2 ^ b) (ha:a<=900000) (hb:b<=900000):z2 .mul (.int i) (.int j)=.ok (.int (i * j)):=dQ (.inr (.inr ⟨lg h ha,lg g hb⟩))
theorem wQ {t b:Int} (hb:b ≠ 0) (h:b.natAbs < big):Int.gcd t b < big:=Nat.lt_of_le_of_lt (zz t b hb) h
theorem fdv {t b i:Int} (hb:b ≠ 0) (h:b.natAbs < big):z2 .fdiv (.int i) (.int (Int.gcd t b:Nat))=.ok (.int (i / (Int.gcd t b:Int))):=fR (by have:=Int.gcd_pos_of_ne_zero_right t hb; omega) (by rw [Int.natAbs_natCast]; exact wQ hb h)
noncomputable def fq (x:Rat):T:=rL x.num ((x.den:Nat):Int)
theorem ED (x:Rat):Low x.num ((x.den:Nat):Int):=⟨by have:=x.den_pos; omega,by rw [Int.gcd,Int.natAbs_natCast]; exact x.reduced⟩
noncomputable def tel (t b:Int):T:=rL (t / (Int.gcd t b:Int)) (b / (Int.gcd t b:Int))
theorem E0 {t b:Int} {x:Rat} (hb:0 < b) (h:(t:Rat)=x * (b:Rat)):tel t b=fq x:=by
 obtain ⟨h1,h2⟩:=ve hb h
 unfold tel fq
 rw [h1,h2]
theorem AU {x:Rat} {p q:Int} (h1:x.num=p) (h2:((x.den:Nat):Int)=q):(.tup [.int p,.int q]:T)=fq x:=by rw [<- h1,<- h2]; rfl
theorem HD (x:Rat):((x.den:Nat):Int) ≠ 0:=by have:=x.den_pos; omega
theorem xD {a b:Nat} {x:Rat} (h:Sz a b x) (hb:b<=8900):(((x.den:Nat):Int)).natAbs < big:=by rw [Int.natAbs_natCast]; exact dv h.den hb
theorem lA {a b:Nat} {x:Rat} (h:Sz a b x):(((x.den:Nat):Int)).natAbs<=2 ^ b:=by rw [Int.natAbs_natCast]; exact h.den
theorem iK {i j:Int} {a:Nat} (h:i.natAbs<=2 ^ a):(i / j).natAbs<=2 ^ a:=Nat.le_trans (Int.natAbs_ediv_le_natAbs _ _) h
section
variable {Ψ ΨM:FnT} {X:Fx} {μ:Nat->Md} {n f i:Nat} {τ τ':ak} {e e' e1 e2 e3 e4:E} {x y z d x1 x2 x3 x4:T} {s:S} {ss:List S} {own own':Own} {need:List Nat} {lv:Nat}
theorem rZ {t:Tg} (hm:kZ ⟨μ,[],lv⟩ e=false) (he:yE Ψ e τ=.ok x) (ht:aJ t x τ=some τ'):yS Ψ ΨM ⟨μ,[],lv⟩ n (.set t e) τ []=.ok (.nx τ' []):=by
 rw [ei _ _ _ _ _ _ t e hm,he,Ou.aa,ht,bC,Df,aY,aY]
theorem dX {t:Tg} (hm:kZ X e=false) (he:yE Ψ e τ=.ok x) (ht:aJ t x τ=some τ') (ho:cA X (dn (gU X.μ 0 e) own) t e x τ=own'):yS Ψ ΨM X n (.set t e) τ own=.ok (.nx τ' own'):=by
 rw [ei _ _ _ _ _ _ t e hm,he,Ou.aa,ht,bC,ho]
theorem Ii (h:yS Ψ ΨM X n s τ own=.ok (.nx τ' own')):ySs Ψ ΨM X n (s :: ss) τ own=ySs Ψ ΨM X n ss τ' own':=by
 rw [aq,h,Ou.aa,aZ]
theorem step {r:Ou FlT} (h:yS Ψ ΨM X n s τ own=.ok (.nx τ' own')) (k:ySs Ψ ΨM X n ss τ' own'=r):ySs Ψ ΨM X n (s :: ss) τ own=r:=(Ii h).trans k
theorem cD {r:Ou FlT} (h:r=.ok (.rt x)):bp ⟨false,0,0⟩ r=.ok x:=by rw [h,qK]
theorem u9 (h:yS Ψ ΨM X n s τ own=.ok (.rt d)):ySs Ψ ΨM X n (s :: ss) τ own=.ok (.rt d):=by
 rw [aq,h,Ou.aa,aM]
theorem bK (he:yE Ψ e τ=.ok x):ySs Ψ ΨM ⟨μ,need,0⟩ n [.ret e] τ own=.ok (.rt x):=by
 rw [aq,ba,he,Ou.aa,bq,Ou.aa,aM]
theorem mI {c:E} {b:Bool} {A B:List S} (he:yE Ψ c τ=.ok (.bl b)) (ho:dn (gU X.μ 2 c) own=own'):yS Ψ ΨM X n (.ite c A B) τ own=if b=true then ySs Ψ ΨM X n A τ own' else ySs Ψ ΨM X n B τ own':=by
 rw [cZ,he,Ou.aa,ho]
 cases b <;> rfl
theorem iO {t:Tg} {it:Sv.It} {body:List S} {xs:List T} {r:FlT} (hi:yIt Ψ it τ=.ok xs) (ho:dn (gUI X.μ 0 it) own=own') (hl:cx (bM Ψ ΨM X n t body) xs τ own'=.ok r):yS Ψ ΨM X n (.for t it body) τ own=.ok r:=by
 rw [vm,hi,Ou.aa,ho,hl,Ou.gi]
theorem ab (h:aC τ i=.ok x):yE Ψ (.var i) τ=.ok x:=by rw [az,h]
theorem aB {i:Int}:yE Ψ (.cI i) τ=.ok (.int i):=b8 _ _ _
theorem aG {o:Op2} (he:yE Ψ e τ=.ok x) (he':yE Ψ e' τ=.ok y) (h:z2 o x y=.ok z):yE Ψ (.op o e e') τ=.ok z:=by rw [gB,he,Ou.aa,he',Ou.aa,h]
theorem fT (he:yE Ψ e τ=.ok x) (he':yE Ψ e' τ=.ok y) (h:zI x y=.ok z):yE Ψ (.ix e e') τ=.ok z:=by rw [jS,he,Ou.aa,he',Ou.aa,h]
theorem a7 {o:Cm} {b:Bool} (he:yE Ψ e τ=.ok x) (he':yE Ψ e' τ=.ok y) (h:zC o x y=some b):yE Ψ (.cmp o e e') τ=.ok (.bl b):=by rw [cY,he,Ou.aa,he',Ou.aa,h,aV]
theorem oV (he:yE Ψ e τ=.ok x) (he':yE Ψ e' τ=.ok y):yE Ψ (.tup [e,e']) τ=.ok (.tup [x,y]):=by rw [B8,ag,he,Ou.aa,ag,he',Ou.aa,au,Ou.aa,Ou.aa,Ou.aa,yp]
theorem fF (h:Ψ f [d]=.ok x) (he:yE Ψ e τ=.ok d):yE Ψ (.call f [e]) τ=.ok x:=by
 rw [bE,ag,he,Ou.aa,au,Ou.aa,Ou.aa,h]
theorem call2 (h:Ψ f [x,y]=.ok z) (he:yE Ψ e τ=.ok x) (he':yE Ψ e' τ=.ok y):yE Ψ (.call f [e,e']) τ=.ok z:=by
 rw [bE,ag,he,Ou.aa,ag,he',Ou.aa,au,Ou.aa,Ou.aa,Ou.aa,h]
theorem EL (h:Ψ f [x1,x2,x3]=.ok z) (h1:yE Ψ e1 τ=.ok x1) (h2:yE Ψ e2 τ=.ok x2) (h3:yE Ψ e3 τ=.ok x3):yE Ψ (.call f [e1,e2,e3]) τ=.ok z:=by
 rw [bE,ag,h1,Ou.aa,ag,h2,Ou.aa,ag,h3,Ou.aa,au,Ou.aa,Ou.aa,Ou.aa,Ou.aa,h]
theorem E9 (h:Ψ f [x1,x2,x3,x4]=.ok z) (h1:yE Ψ e1 τ=.ok x1) (h2:yE Ψ e2 τ=.ok x2) (h3:yE Ψ e3 τ=.ok x3) (h4:yE Ψ e4 τ=.ok x4):yE Ψ (.call f [e1,e2,e3,e4]) τ=.ok z:=by
 rw [bE,ag,h1,Ou.aa,ag,h2,Ou.aa,ag,h3,Ou.aa,ag,h4,Ou.aa,au,Ou.aa,Ou.aa,Ou.aa,Ou.aa,Ou.aa,h]
theorem dD {b:Bool} (he:yE Ψ e τ=.ok (.bl b)):yE Ψ (.not e) τ=.ok (.bl (!b)):=by rw [fA,he,Ou.aa,fH]
theorem gJ (he:yE Ψ e τ=.ok (.bl false)) (he':yE Ψ e' τ=.ok x):yE Ψ (.or e e') τ=.ok x:=by rw [jg,he,Ou.aa,mH,he']
theorem G9 (he:yE Ψ e τ=.ok (.bl true)) (he':yE Ψ e' τ=.ok x):yE Ψ (.and e e') τ=.ok x:=by rw [gg,he,Ou.aa,lC,he']
theorem bi1 {b:Bi} (h:zB b [x]=.ok z) (he:yE Ψ e τ=.ok x):yE Ψ (.bi b [e]) τ=.ok z:=by rw [bS,ag,he,Ou.aa,au,Ou.aa,Ou.aa,h]
theorem fr0 {q:Rat} (he:yE Ψ e τ=.ok (fq q)):yE Ψ (.ix e (.cI 0)) τ=.ok (.int q.num):=fT he aB (qc _ _)
theorem fr1 {q:Rat} (he:yE Ψ e τ=.ok (fq q)):yE Ψ (.ix e (.cI 1)) τ=.ok (.int ((q.den:Nat):Int)):=fT he aB (t5 _ _ _)
end
theorem eV {Ψ ΨM:FnT} {μ:Nat->Md} {n lv:Nat} {τ τ':ak} {e:E} {x:T} {t:Tg} (he:yE Ψ e τ=.ok x) (hm:kZ ⟨μ,[],lv⟩ e=false) (ht:aJ t x τ=some τ'):yS Ψ ΨM ⟨μ,[],lv⟩ n (.set t e) τ []=.ok (.nx τ' []):=rZ hm he ht
theorem BG {t b:Int} {x:Rat} (hb:0 < b) (h:(t:Rat)=x * (b:Rat)) (s:b.natAbs < big):nY [.int t,.int b]=.ok (fq x):=
 (Ey (Ψ:=tM) (ΨM:=uG) (μ:=uq) (sc:=false) (dv:=1) rfl (λa b=>E2 a b) t b hb s).trans (congrArg Ou.ok (E0 hb h))
noncomputable def line (n:Nat) (F:Nat->T):T:=.lst ((List.range n).map F)
noncomputable def uf (m w:Nat) (F:Nat->Nat->T):T:=line m λi=>line w (F i)
theorem eG {n j:Nat} {F:Nat->T} (hj:j < n):zI (line n F) (.int (j:Nat))=.ok (F j):=iZ (by rw [List.getElem?_map,List.getElem?_range hj]; rfl)
theorem eP (n:Nat) (F:Nat->T):zB .len [line n F]=.ok (.int (n:Nat)):=by rw [line,eQ,List.length_map,List.length_range]
theorem fI {n:Nat} {F H:Nat->T} (h:∀ j < n,F j=H j):line n F=line n H:=by
 unfold line
 congr 1
 exact List.map_congr_left λj hj=>h j (List.mem_range.mp hj)
theorem pg {m w:Nat} {F H:Nat->Nat->T} (h:∀ i < m,∀ j < w,F i j=H i j):uf m w F=uf m w H:=
 fI λi hi=>fI λj hj=>h i hi j hj
noncomputable def gq (m w:Nat) (F:Nat->Nat->Rat):T:=uf m w λi j=>fq (F i j)
theorem Hk {m w:Nat} {F:Nat->Nat->Rat} (hm:1<=m/\m<=7) (hw:1<=w/\w<=7):v5 (gq m w F)=true/\nx (gq m w F)=true:=by
 have hr:∀ i,mU (line w λj=>fq (F i j))=true:=λi=>by
   unfold mU
   rw [Bool.and_eq_true]
   refine ⟨by simp only [line,lL,List.length_map,List.length_range,Bool.and_eq_true,decide_eq_true_eq]; exact hw,?_⟩
   simp only [line,kQ,List.all_map,List.all_eq_true]
   intro j hj
   have lo:=ED (F i j)
   simp only [Function.comp,fq,rL,oY,Bool.and_eq_true,decide_eq_true_eq]
   exact ⟨lo.pos,lo.cop⟩
 have hl:∀ i,pC (line w λj=>fq (F i j))=w:=λi=>by simp only [line,pC,List.length_map,List.length_range]
 constructor
 · unfold v5
   rw [Bool.and_eq_true,Bool.and_eq_true]
   refine ⟨⟨by simp only [gq,uf,line,lL,List.length_map,List.length_range,Bool.and_eq_true,decide_eq_true_eq]; exact hm,?_⟩,?_⟩
   · simp only [gq,uf,kQ,line,List.all_map,List.all_eq_true]
     intro i _
     exact hr i
   · have hh:pC (hdT (gq m w F))=w:=by
       obtain ⟨m',rfl⟩:∃ m',m=m' + 1:=⟨m - 1,by omega⟩
       unfold gq uf
       unfold line
       rw [List.range_succ_eq_map,List.map_cons]
       exact hl 0
     rw [hh]
     simp only [gq,uf,kQ,line,List.all_map,List.all_eq_true]
     intro i _
     exact decide_eq_true (hl i)
 · exact AF λx hx=>by
     obtain ⟨i,_,rfl⟩:=List.mem_map.mp hx
     exact AF λy hy=>by obtain ⟨j,_,rfl⟩:=List.mem_map.mp hy; rfl
theorem Dy {m w:Nat} {F:Nat->Nat->Rat} (hm:1<=m/\m<=7) (hw:1<=w/\w<=7):iC [gq m w F]=.ok .non:=by
 obtain ⟨h1,h2⟩:=Hk (F:=F) hm hw
 have h3:=IF _ h2
 rw [h1] at h3
 rw [mY,cg]
 exact (congrArg (bp _) (step ((mI (own':=[]) (dD (fF (Ψ:=ij) (f:=14) h3 (ab rfl))) rfl).trans ((if_neg (by decide)).trans (ax ..))) (ax ..))).trans rfl
theorem iU (m w:Nat) (F:Nat->Nat->T):lvT (uf m w F)=2:=by
 show (if ((List.range m).map λi=>line w (F i)).all isL=true then 2 else 1)=2
 rw [if_pos]
 rw [List.all_map,List.all_eq_true]
 intro r _
 rfl
theorem EF (m w:Nat) (F:Nat->Nat->Rat):eN 2 (gq m w F)=true:=by
 show ((List.range m).map λi=>line w λj=>fq (F i j)).all xr=true
 rw [List.all_map,List.all_eq_true]
 intro i _
 show jR ((List.range w).map λj=>fq (F i j))=true
 induction List.range w with
 | nil=>rfl
 | cons k ks ih=>rw [List.map_cons]; simp only [jR,ih]; rfl
theorem IZ {d:T} (sc:Bool) (h:eN 2 d=true):bp ⟨sc,2,0⟩ (.ok (.rt d))=.ok d:=by
 simp only [bp,h,Bool.not_true,Bool.and_false]
 rfl
section
variable {Ψ ΨM:FnT} {X:Fx} {N v:Nat} {τ τ':ak} {e a i:E} {own own':Own}
theorem xF {n k:Nat} {F:Nat->T} {y:T}:((List.range n).map F).set k y=(List.range n).map λi=>if i=k then y else F i:=by
 apply List.ext_getElem
 · simp
 · intro i h1 h2
   rw [List.getElem_set]
   simp only [List.getElem_map,List.getElem_range]
   by_cases q:k=i
   · rw [if_pos q,if_pos q.symm]
   · rw [if_neg q,if_neg λz=>q z.symm]
theorem vH {n k:Nat} (h:k < n):L2.ixN n (k:Nat)=some k:=by
 unfold L2.ixN
 rw [if_pos (by omega),if_pos (by omega)]
 rfl
theorem wO {a b m w i j:Nat} {M:Nat->Nat->Rat} (hv:aC τ v=.ok (gq m w M)) (ha:aC τ a=.ok (.int (i:Nat))) (hb:aC τ b=.ok (.int (j:Nat))) (hi:i < m) (hj:j < w):yE Ψ (.ix (.ix (.var v) (.var a)) (.var b)) τ=.ok (fq (M i j)):=
 fT (fT (ab hv) (ab ha) (eG hi)) (ab hb) (eG hj)
theorem cM {t:Tg} {body:List S} {x:T} {r:Ou FlT} (ht:aJ t x τ=some τ') (ho:dn (frg t) own=own') (h:ySs Ψ ΨM X N body τ' own'=r):bM Ψ ΨM X N t body x τ own=r:=by
 rw [oU,ht,ho]
 exact h
end
section
variable {Ψ ΨM:FnT} {X:Fx} {N v f:Nat} {τ τ':ak} {e a i:E} {own own' own2:Own}
theorem b7 {caps:List (Option Nat)} {t:Tg} {elt:E} {x y:T} {τ1:ak} (ht:aJ t x (iR τ caps++[none])=some τ1) (he:yE Ψ elt τ1=.ok y):iy Ψ τ caps t [] elt x=.ok (some y):=by
 rw [fw,ht]
 simp only [jD,Ou.aa,if_true,he]
theorem DE {i m w:Nat} {F:Nat->Nat->Rat} (hm:m<=7) (h:aC τ i=.ok (gq m w F)):yE Ψ (.comp [none] (.nm 0) (.seq (.var i)) [] (.bi .list [(.var 0)])) τ=.ok (gq m w F):=
 bW (xs:=(List.range m).map λi=>line w λj=>fq (F i j)) (by rw [dR,ab h]; rfl) (by rw [List.length_map,List.length_range]; exact cH hm) (bt _ λj hj=>b7 rfl (bi1 (x:=line w λk=>fq (F j k)) rfl (ab rfl)))
theorem len0 {i m w:Nat} {F:Nat->Nat->Rat} (hm:1<=m) (h:aC τ i=.ok (gq m w F)):yE Ψ (.bi .len [(.ix (.var i) (.cI 0))]) τ=.ok (.int (w:Nat)):=
 bi1 (eP w λj=>fq (F 0 j)) (fT (ab h) aB (eG (j:=0) hm))
end
section
variable {Ψ ΨM:FnT} {X:Fx} {N:Nat} {τ:ak} {e c:E} {x y:T} {own own':Own}
theorem vN {t:Ty} (he:yE Ψ e τ=.ok x) (h:uR t x=.ok y):yE Ψ (.isi e t) τ=.ok y:=by rw [fJ,he,Ou.aa,h]
theorem skip {A:List S} (he:yE Ψ c τ=.ok (.bl false)) (ho:dn (gU X.μ 2 c) own=own'):yS Ψ ΨM X N (.ite c A []) τ own=.ok (.nx τ own'):=(mI he ho).trans ((if_neg (by decide)).trans (ax ..))
end
mutual
theorem uh:∀ d:T,clT d=true->eqT d d=true
 | .non,_=>rfl
 | .bl b,_=>by simp [eqT]
 | .int i,_=>by simp [eqT]
 | .str x,_=>by simp [eqT]
 | .tup xs,h=>by rw [eqT]; exact lU xs (by simpa [clT] using h)
 | .lst xs,h=>by rw [eqT]; exact lU xs (by simpa [clT] using h)
 | .exo c,h=>by simp [clT] at h
theorem lU:∀ d:List T,kJ d=true->pR d d=true
 | [],_=>rfl
 | x :: xs,h=>by
   rw [kJ,Bool.and_eq_true] at h
   rw [pR,uh x h.1,lU xs h.2]
   rfl
end
theorem tQ {α:Type} {f:α->T} (h:∀ a,clT (f a)=true):∀ l:List α,kJ (l.map f)=true
 | []=>rfl
 | a :: l=>by rw [List.map_cons,kJ,h a,tQ h l]; rfl
theorem sQ {α:Type} {f:α->T} {k:Nat} (h:∀ a,dpT (f a)<=k):∀ l:List α,pO (l.map f)<=k
 | []=>Nat.zero_le _
 | a :: l=>by rw [List.map_cons,pO]; exact Nat.max_le.mpr ⟨h a,sQ h l⟩
theorem u4 {n k:Nat} {G:Nat->T} (h:∀ i,clT (G i)=true/\dpT (G i)<=k):clT (line n G)=true/\dpT (line n G)<=k + 1:=by
 refine ⟨by rw [line,clT]; exact tQ (λi=>(h i).1) _,?_⟩
 have:=sQ (f:=G) (k:=k) (λi=>(h i).2) (List.range n)
 rw [line,dpT]; omega
theorem Ik (m w:Nat) (F:Nat->Nat->Rat):clT (gq m w F)=true/\dpT (gq m w F)<=3:=
 u4 λi=>u4 λj=>⟨rfl,by simp [fq,rL,dpT,pO]⟩
theorem sH (m w:Nat) (F:Nat->Nat->Rat):zC .ne (gq m w F) (gq m w F)=some false:=by
 obtain ⟨a1,a2⟩:=Ik m w F
 have h:eqK (gq m w F):=⟨a1,by omega⟩
 show (if eqK _/\eqK _ then some (!eqT _ _) else none)=some false
 rw [if_pos ⟨h,h⟩,uh _ h.1]
 rfl
theorem j9 {Ψ:FnT} {e:E} {τ:ak} {n:Nat} {G:Nat->T} (h:yE Ψ e τ=.ok (line n G)):yIt Ψ (.seq e) τ=.ok ((List.range n).map G):=by
 rw [dR,h,Ou.aa,line,me]
theorem sL {t b:Int} {x y:Nat} (hb:0 < b) (st:t.natAbs<=2 ^ x) (sb:b.natAbs<=2 ^ y) (hy:y<=8900):∃ q:Rat,nY [.int t,.int b]=.ok (fq q)/\Sz x y q:=by
 have hbb:((b:Int):Rat)=((b.toNat:Nat):Rat):=by rw [<- Rat.intCast_natCast,Int.toNat_of_nonneg (by omega)]
 have hb0:((b.toNat:Nat):Rat) ≠ 0:=λz=>by have:=Rat.natCast_eq_zero_iff.mp z; omega
 have h:(t:Rat)=mkRat t b.toNat * (b:Rat):=by rw [Rat.mkRat_eq_div,hbb,Rat.div_mul_cancel hb0]
 obtain ⟨h1,h2⟩:=ve hb h
 refine ⟨mkRat t b.toNat,BG hb h (dv sb hy),by rw [h1]; exact iK st,?_⟩
 have:((mkRat t b.toNat).den:Int).natAbs<=2 ^ y:=by rw [h2]; exact iK sb
 rwa [Int.natAbs_natCast] at this
section
variable {p:Int}
theorem fdk {i j:Int} (h:0 < j) (h':j.natAbs < 10 ^ 200):z2 .fdiv (.int i) (.int j)=.ok (.int (i / j)):=fR h (jw h')
theorem n1 {A:List S} {k z:Int} {τ:ak} {N:Nat} (h:aC τ 0=.ok (.int k)) (hk:k ≠ z):yS bV fL ⟨fB,[],0⟩ N (.ite (.cmp .eq (.var 0) (.cI z)) A []) τ []=.ok (.nx τ []):=skip (a7 (ab h) aB (by rw [a6,decide_eq_false hk])) (aY _)
theorem n2 {A:List S} {k:Int} {τ:ak} {N:Nat} {r:Ou FlT} (h:aC τ 0=.ok (.int k)) (hr:ySs bV fL ⟨fB,[],0⟩ N A τ []=r):yS bV fL ⟨fB,[],0⟩ N (.ite (.cmp .eq (.var 0) (.cI k)) A []) τ []=r:=(mI (own':=[]) (a7 (b:=true) (ab h) aB (by rw [a6,decide_eq_true rfl])) (aY _)).trans ((if_pos rfl).trans hr)
theorem Hx:∃ q:Rat,bJ [.int 0,.int p]=.ok (fq q)/\Sz 4 3 q:=by
 obtain ⟨q,e,h⟩:=sL (t:=p % 19 - 9) (b:=1 + p / 19 % 6) (x:=4) (y:=3) (by omega) (by omega) (by omega) (by decide)
 refine ⟨q,?_,h⟩
 rw [eB,bF]
 exact cD (step (n1 rfl (by decide)) (step (n1 rfl (by decide)) (step (n1 rfl (by decide)) (bK (call2 (Ψ:=bV) (f:=2) e (aG (aG (ab rfl) aB (j1 p 19)) aB rfl) (aG aB (aG (aG (ab rfl) aB (fdk (by decide) (by decide))) aB (j1 _ 6)) rfl))))))
theorem num_1:∃ q:Rat,bJ [.int 1,.int p]=.ok (fq q)/\Sz 1 0 q:=by
 refine ⟨((p % 5 - 2:Int):Rat),?_,by rw [Rat.num_intCast]; omega,by rw [Rat.den_intCast]; decide⟩
 rw [eB,bF]
 refine cD (u9 (n2 rfl (bK ((oV (aG (aG (ab rfl) aB (j1 p 5)) aB rfl) aB).trans (congrArg Ou.ok (AU ?_ ?_))))))
 · rw [Rat.num_intCast]
 · rw [Rat.den_intCast]; rfl
theorem Ic:∃ q:Rat,bJ [.int 2,.int p]=.ok (fq q)/\Sz 4 3 q:=by
 obtain ⟨q,e,h⟩:=sL (t:=p % 10) (b:=1 + p / 10 % 6) (x:=4) (y:=3) (by omega) (by omega) (by omega) (by decide)
 refine ⟨q,?_,h⟩
 rw [eB,bF]
 exact cD (step (n1 rfl (by decide)) (step (n1 rfl (by decide)) (u9 (n2 rfl (bK (call2 (Ψ:=bV) (f:=2) e (aG (ab rfl) aB (j1 p 10)) (aG aB (aG (aG (ab rfl) aB (fdk (by decide) (by decide))) aB (j1 _ 6)) rfl)))))))
theorem t40:(10:Nat) ^ 40<=2 ^ 133:=by decide +kernel
theorem Il:∃ q:Rat,bJ [.int 3,.int p]=.ok (fq q)/\Sz 133 133 q:=by
 have hz:0<=p / 2 % 10 ^ 40/\p / 2 % 10 ^ 40 < 10 ^ 40:=⟨Int.emod_nonneg _ (by decide),Int.emod_lt_of_pos _ (by decide)⟩
 have hy:0<=p / (2 * 10 ^ 40) % (10 ^ 40 - 1)/\p / (2 * 10 ^ 40) % (10 ^ 40 - 1) < 10 ^ 40 - 1:=⟨Int.emod_nonneg _ (by decide),Int.emod_lt_of_pos _ (by decide)⟩
 have st:(p / 2 % 10 ^ 40 * (1 - 2 * (p % 2))).natAbs<=10 ^ 40:=by
   rcases (by omega:p % 2=0\/p % 2=1) with q | q
   · rw [q]; omega
   · rw [q]; omega
 have sb:(1 + p / (2 * 10 ^ 40) % (10 ^ 40 - 1)).natAbs<=10 ^ 40:=by omega
 obtain ⟨q,e,h⟩:=sL (t:=p / 2 % 10 ^ 40 * (1 - 2 * (p % 2))) (b:=1 + p / (2 * 10 ^ 40) % (10 ^ 40 - 1)) (x:=133) (y:=133) (by omega) (Nat.le_trans st t40) (Nat.le_trans sb t40) (by decide)
 refine ⟨q,?_,h⟩
 rw [eB,bF]
 have P40:∀ τ:ak,yE bV (.op .pow (.cI 10) (.cI 40)) τ=.ok (.int (10 ^ 40)):=λτ=>aG aB aB p40
 refine cD (step (n1 rfl (by decide)) (u9 (n2 rfl (step (eV (x:=.int (p / 2 % 10 ^ 40 * (1 - 2 * (p % 2)))) ?_ rfl rfl) (bK (call2 (Ψ:=bV) (f:=2) e (ab rfl) ?_))))))
 · exact aG (aG (aG (ab rfl) aB (fdk (by decide) (by decide))) (P40 _) (jb (by decide))) (aG aB (aG aB (aG (ab rfl) aB (j1 p 2)) (dQ (cG (by decide)))) rfl) (dQ (dH (by omega)))
 · exact aG aB (aG (aG (ab rfl) (aG aB (P40 _) (dQ (cG (by decide)))) (fdk (by decide) (by decide))) (aG (P40 _) aB rfl) (jb (by decide))) rfl
end
theorem table_at {a b k:Nat} (c:Int) (m w:Nat) (hm:m<=7) (hw:w<=7) (hk:k < 4) (hu:∀ p:Int,∃ q:Rat,bJ [.int (k:Nat),.int p]=.ok (fq q)/\Sz a b q):∃ Q:Nat->Nat->Rat,(∀ i j,Sz a b (Q i j))/\lV [.int c,.int (m:Nat),.int (w:Nat),.int (k:Nat)]=.ok (gq m w Q):=by
 obtain ⟨F,hF,e⟩:=CT (Ψ:=lz) (ΨM:=p0) (μ:=qk) (nb:=0) (nu:=3) (R:=λt u=>∃ q:Rat,q.num=t/\((q.den:Nat):Int)=u/\Sz a b q) rfl (CD rfl) c m w k hm hw hk λp=>by
   obtain ⟨q,e,h⟩:=hu p
   rw [kb]
   exact ⟨_,_,e,q,rfl,rfl,h⟩
 refine ⟨λi j=>Classical.choose (hF i j),λi j=>(Classical.choose_spec (hF i j)).2.2,?_⟩
 refine e.trans (congrArg Ou.ok ?_)
 refine pg (F:=λi j=>fr2 (F i j)) λi _ j _=>?_
 obtain ⟨h1,h2,_⟩:=Classical.choose_spec (hF i j)
 unfold fr2 fq
 rw [h1,h2]
theorem sG (i:Int):j3 [.int i]=.ok (.bl true):=pd _ rfl
theorem Ib {t b:Int} (hb:0 < b) (sb:b.natAbs < big):iA [.int t,.int b]=.ok (tel t b):=by
 have hn:¬ b < 0:=by omega
 have h0:¬ b=0:=by omega
 have il:cn [.int t,.int b]=.ok (tel t b):=by
   rw [eJ,aQ]
   exact cD (step (rZ rfl (call2 (DC rfl _ _) (ab rfl) (ab rfl)) rfl) (step (skip (own':=[]) (a7 (ab rfl) aB (by rw [gP,decide_eq_false hn])) rfl) (bK (oV (aG (ab rfl) (ab rfl) (fdv h0 sb)) (aG (ab rfl) (ab rfl) (fdv h0 sb))))))
 rw [jU,cC]
 exact cD (step (skip (own':=[]) (gJ (dD (b:=true) (fF (d:=.int t) (sG t) (ab rfl))) (dD (b:=true) (fF (d:=.int b) (sG b) (ab rfl)))) rfl) (step (skip (own':=[]) (a7 (ab rfl) aB (by rw [a6,decide_eq_false h0])) rfl) (bK (call2 (Ψ:=gR) (f:=19) il (ab rfl) (ab rfl)))))
noncomputable def sc:List Rat->Int->Int
 | [],s=>s
 | x :: xs,s=>sc xs (s / (Int.gcd s ((x.den:Nat):Int):Int) * ((x.den:Nat):Int))
theorem yk {s:Int} {d:Nat} (hs:0 < s) (hd:0 < d):0 < s / (Int.gcd s ((d:Nat):Int):Int) * ((d:Nat):Int)/\s ∣ s / (Int.gcd s ((d:Nat):Int):Int) * ((d:Nat):Int)/\((d:Nat):Int) ∣ s / (Int.gcd s ((d:Nat):Int):Int) * ((d:Nat):Int):=by
 have g0:0 < Int.gcd s ((d:Nat):Int):=Int.gcd_pos_of_ne_zero_left _ (by omega)
 obtain ⟨a,ha⟩:=Int.gcd_dvd_left s ((d:Nat):Int)
 obtain ⟨b,hb⟩:=Int.gcd_dvd_right s ((d:Nat):Int)
 have e:s / (Int.gcd s ((d:Nat):Int):Int)=a:=by
   conv=>lhs; lhs; rw [ha]
   rw [Int.mul_ediv_cancel_left _ (by omega)]
 refine ⟨?_,?_,Int.dvd_mul_left _ _⟩
 · rw [e]
   have:0 < a:=by
     rcases Int.lt_trichotomy a 0 with z | z | z
     · have:=Int.mul_neg_of_pos_of_neg (show (0:Int) < (Int.gcd s ((d:Nat):Int):Int) by omega) z
       omega
     · subst z; rw [Int.mul_zero] at ha; omega
     · exact z
   exact Int.mul_pos this (by omega)
 · rw [e]
   refine ⟨b,?_⟩
   conv=>lhs; rw [hb]
   conv=>rhs; lhs; rw [ha]
   rw [<- Int.mul_assoc,Int.mul_comm a]
theorem EW:∀ (xs:List Rat) (s:Int),0 < s->0 < sc xs s/\s ∣ sc xs s/\∀ x ∈ xs,((x.den:Nat):Int) ∣ sc xs s
 | [],s,h=>⟨h,Int.dvd_refl s,λ_ h=>by cases h⟩
 | x :: xs,s,h=>by
   obtain ⟨h1,h2,h3⟩:=yk h x.den_pos
   obtain ⟨g1,g2,g3⟩:=EW xs _ h1
   refine ⟨g1,Int.dvd_trans h2 g2,λy hy=>?_⟩
   rcases List.mem_cons.mp hy with rfl | hy
   · exact Int.dvd_trans h3 g2
   · exact g3 y hy
theorem EV {b:Nat}:∀ (xs:List Rat) (s:Int) (c:Nat),(∀ x ∈ xs,x.den<=2 ^ b)->s.natAbs<=2 ^ c->(sc xs s).natAbs<=2 ^ (c + xs.length * b)
 | [],s,c,_,h=>by rw [List.length_nil,Nat.zero_mul]; exact h
 | x :: xs,s,c,hx,h=>by
   have r:=EV xs (s / (Int.gcd s ((x.den:Nat):Int):Int) * ((x.den:Nat):Int)) (c + b) (λy hy=>hx y (List.mem_cons_of_mem _ hy)) (by
     rw [Int.natAbs_mul,Nat.pow_add,Int.natAbs_natCast]
     exact Nat.mul_le_mul (iK h) (hx x (List.mem_cons_self ..)))
   rw [List.length_cons,Nat.succ_mul]
   exact Nat.le_trans r (Nat.pow_le_pow_right (by decide) (by omega))
noncomputable def EK:List S:=[.set (.nm 1) (.op .mul (.op .fdiv (.var 1) (.call 11 [(.var 1),(.ix (.var 2) (.cI 1))])) (.ix (.var 2) (.cI 1)))]
theorem ox (N:Nat) (a:Option T) {b:Nat} (hb:b<=8900):∀ (xs:List Rat) (s:Int) (c:Nat) (r:Option T),s.natAbs<=2 ^ c->(∀ x ∈ xs,x.den<=2 ^ b)->c + xs.length * b<=90000->∃ r',cx (bM hU hZ ⟨iz,[],0⟩ N (.nm 2) EK) (xs.map fq) [a,some (.int s),r] []=.ok (.nx [a,some (.int (sc xs s)),r'] [])
 | [],s,c,r,_,_,_=>⟨r,by rw [List.map_nil,eo]; rfl⟩
 | x :: xs,s,c,r,hs,hx,hc=>by
   have hd:=hx x (List.mem_cons_self ..)
   have hd':(((x.den:Nat):Int)).natAbs<=2 ^ b:=by rw [Int.natAbs_natCast]; exact hd
   rw [List.length_cons,Nat.succ_mul] at hc
   obtain ⟨r',e⟩:=ox N a hb xs (s / (Int.gcd s ((x.den:Nat):Int):Int) * ((x.den:Nat):Int)) (c + b) (some (fq x)) (by
     rw [Int.natAbs_mul,Nat.pow_add]
     exact Nat.mul_le_mul (iK hs) hd') (λy hy=>hx y (List.mem_cons_of_mem _ hy)) (by omega)
   refine ⟨r',?_⟩
   have t:bM hU hZ ⟨iz,[],0⟩ N (.nm 2) EK (fq x) [a,some (.int s),r] []=.ok (.nx [a,some (.int (s / (Int.gcd s ((x.den:Nat):Int):Int) * ((x.den:Nat):Int))),some (fq x)] []):=
     cM rfl rfl (step (eV (aG (aG (ab rfl) (call2 (DC rfl _ _) (ab rfl) (fr1 (ab rfl))) (fdv (HD x) (dv hd' hb))) (fr1 (ab rfl)) (mo (iK hs) hd' (by omega) (by omega))) rfl rfl) (ax ..))
   rw [List.map_cons,bY,t,Ou.aa,dY,e]
   rfl
noncomputable def scl (n:Nat) (f:Nat->Rat):Int:=sc ((List.range n).map f) 1
theorem oD (n:Nat) (f:Nat->Rat):0 < scl n f/\∀ k < n,(((f k).den:Nat):Int) ∣ scl n f:=by
 obtain ⟨h1,_,h3⟩:=EW ((List.range n).map f) 1 (by decide)
 exact ⟨h1,λk hk=>h3 _ (List.mem_map.mpr ⟨k,List.mem_range.mpr hk,rfl⟩)⟩
theorem vM {n b:Nat} {f:Nat->Rat} (h:∀ k < n,(f k).den<=2 ^ b):(scl n f).natAbs<=2 ^ (n * b):=by
 have:=EV (b:=b) ((List.range n).map f) 1 0 (λx hx=>by
   obtain ⟨k,hk,rfl⟩:=List.mem_map.mp hx
   exact h k (List.mem_range.mp hk)) (by decide)
 rw [List.length_map,List.length_range,Nat.zero_add] at this
 exact this
theorem zG {b n:Nat} {f:Nat->Rat} (hn:n<=7) (h:∀ k < n,(f k).den<=2 ^ b) (hb:b<=8900):iE [line n λk=>fq (f k)]=.ok (.int (scl n f)):=by
 have hm:n * b<=7 * 8900:=Nat.mul_le_mul hn hb
 obtain ⟨r',e⟩:=ox (b:=b) (aN [line n λk=>fq (f k)]) (some (line n λk=>fq (f k))) hb ((List.range n).map f) 1 0 none (by decide) (λx hx=>by
   obtain ⟨k,hk,rfl⟩:=List.mem_map.mp hx
   exact h k (List.mem_range.mp hk)) (by rw [List.length_map,List.length_range]; omega)
 rw [pA]
 exact cD (step (eV aB rfl rfl) (step (iO (own':=[]) (xs:=((List.range n).map f).map fq) (by rw [dR,ab rfl,Ou.aa,List.map_map]; rfl) rfl e) (bK (ab rfl))))
noncomputable def vec (n:Nat) (f:Nat->Int):T:=line n λi=>.int (f i)
noncomputable def wr (f:Nat->Rat) (s:Int) (k:Nat):Int:=(f k).num * (s / (((f k).den:Nat):Int))
theorem Hc {f:Nat->Rat} {s:Int} {k:Nat} (h:(((f k).den:Nat):Int) ∣ s):(wr f s k:Rat)=f k * (s:Rat):=by
 obtain ⟨c,rfl⟩:=h
 unfold wr
 rw [Int.mul_ediv_cancel_left _ (by have:=(f k).den_pos; omega),Rat.intCast_mul,Rat.intCast_mul,<- Rat.mul_assoc,kf]
theorem EO {f:Nat->Rat} {s:Int} {k a c:Nat} (h:(f k).num.natAbs<=2 ^ a) (hs:s.natAbs<=2 ^ c):(wr f s k).natAbs<=2 ^ (a + c):=by
 unfold wr
 rw [Int.natAbs_mul,Nat.pow_add]
 exact Nat.mul_le_mul h (iK hs)
theorem sD {n a b c:Nat} {f:Nat->Rat} {s:Int} (hn:n<=7) (h:∀ k < n,Sz a b (f k)) (hs:s.natAbs<=2 ^ c) (ha:a<=90000) (hb:b<=8900) (hc:c<=90000):iY [line n λk=>fq (f k),.int s]=.ok (vec n (wr f s)):=by
 rw [oM,cP]
 refine cD (bK (bW (j9 (n:=n) (ab rfl)) (by rw [List.length_map,List.length_range]; exact cH hn) (bt _ λk hk=>?_)))
 have z:=h k (List.mem_range.mp hk)
 have d:z2 .fdiv (.int s) (.int (((f k).den:Nat):Int))=.ok (.int (s / (((f k).den:Nat):Int))):=fR (by have:=(f k).den_pos; omega) (xD z hb)
 exact b7 rfl (aG (fr0 (ab rfl)) (aG (ab rfl) (fr1 (ab rfl)) d) (mo z.num (iK hs) (by omega) (by omega)))
theorem zip_map (F H:Nat->T):∀ ks:List Nat,j6 (ks.map F) (ks.map H)=ks.map λi=>.tup [F i,H i]
 | []=>rfl
 | k :: ks=>by rw [List.map_cons,List.map_cons,List.map_cons,j6,zip_map F H ks]
theorem wB {Ψ:FnT} {e1 e2:E} {τ:ak} {n:Nat} {F H:Nat->T} (h1:yE Ψ e1 τ=.ok (line n F)) (h2:yE Ψ e2 τ=.ok (line n H)):yIt Ψ (.zip e1 e2) τ=.ok ((List.range n).map λi=>.tup [F i,H i]):=by
 rw [DI,h1,Ou.aa,h2,Ou.aa,line,line,HQ,zip_map]
theorem pQ {w n a b c:Nat} {H:Nat->Nat->Rat} {s:Nat->Int} (hw:w<=7) (hn:n<=7) (h:∀ j < w,∀ k < n,Sz a b (H j k)) (hs:∀ j < w,(s j).natAbs<=2 ^ c) (ha:a<=90000) (hb:b<=8900) (hc:c<=90000):e7 [gq w n H,vec w s]=.ok (line w λj=>vec n (wr (H j) (s j))):=by
 rw [mQ,b9]
 refine cD (bK (bW (wB (n:=w) (F:=λj=>line n λk=>fq (H j k)) (H:=λj=>.int (s j)) (ab rfl) (ab rfl)) (by rw [List.length_map,List.length_range]; exact cH hw) (bt _ λj hj=>?_)))
 have hj:=List.mem_range.mp hj
 exact b7 rfl (call2 (sD hn (h j hj) (hs j hj) ha hb hc) (ab rfl) (ab rfl))
noncomputable def gw (n w:Nat) (g:Nat->Nat->Int):T:=line n λi=>vec w (g i)
noncomputable abbrev gz (n:Nat) (g:Nat->Nat->Int):T:=gw n n g
theorem F8 {Ψ:FnT} {a b:E} {τ:ak} {k n:Nat} (h0:yE Ψ a τ=.ok (.int (k:Nat))) (h:yE Ψ b τ=.ok (.int (n:Nat))) (hk:k < 1000000) (hn:n < 1000000):yIt Ψ (.rng2 a b) τ=.ok ((List.range (n - k)).map λt=>.int ((k + t:Nat):Int)):=by
 rw [Cs,h0,Ou.aa,h,Ou.aa]
 have e:((n:Int) - (k:Int)).toNat=n - k:=by omega
 simp only [E8]
 rw [if_pos (by omega),e]
 unfold rangeT
 congr 1
theorem Iy {Ψ:FnT} {τ:ak} {v a b n w i j:Nat} {g:Nat->Nat->Int} (hv:aC τ v=.ok (gw n w g)) (ha:aC τ a=.ok (.int (i:Nat))) (hb:aC τ b=.ok (.int (j:Nat))) (hi:i < n) (hj:j < w):yE Ψ (.ix (.ix (.var v) (.var a)) (.var b)) τ=.ok (.int (g i j)):=
 fT (fT (ab hv) (ab ha) (eG hi)) (ab hb) (eG hj)
theorem zW {n w k:Nat} {g:Nat->Nat->Int} (hn:n<=7) (hk:k < n) (hw:k < w):(∃ p,k<=p/\p < n/\g p k ≠ 0/\dm [gw n w g,.int (k:Nat)]=.ok (.int (p:Nat)))\/((∀ p,k<=p->p < n->g p k=0)/\dm [gw n w g,.int (k:Nat)]=.ok .non):=by
 rw [l4,bO]
 have it:∀ r,yIt bw (.rng2 (.var 1) (.bi .len [(.var 0)])) [some (gw n w g),some (.int (k:Nat)),r]=.ok ((List.range (n - k)).map λt=>.int ((k + t:Nat):Int)):=λr=>F8 (ab rfl) (bi1 (eP n λi=>vec w (g i)) (ab rfl)) (by omega) (by omega)
 have lp:∀ (N:Nat) (ts:List Nat) (r:Option T),(∀ t ∈ ts,k + t < n)->(∃ p,k<=p/\p < n/\g p k ≠ 0/\cx (bM bw cj ⟨ck,[],0⟩ N (.nm 2) [.ite (.cmp .ne (.ix (.ix (.var 0) (.var 2)) (.var 1)) (.cI 0)) [.ret (.var 2)] []]) (ts.map λt=>.int ((k + t:Nat):Int)) [some (gw n w g),some (.int (k:Nat)),r] []=.ok (.rt (.int (p:Nat))))\/((∀ t ∈ ts,g (k + t) k=0)/\∃ r',cx (bM bw cj ⟨ck,[],0⟩ N (.nm 2) [.ite (.cmp .ne (.ix (.ix (.var 0) (.var 2)) (.var 1)) (.cI 0)) [.ret (.var 2)] []]) (ts.map λt=>.int ((k + t:Nat):Int)) [some (gw n w g),some (.int (k:Nat)),r] []=.ok (.nx [some (gw n w g),some (.int (k:Nat)),r'] [])):=by
   intro N ts
   induction ts with
   | nil=>exact λr _=>.inr ⟨λt h=>(by cases h),r,by rw [List.map_nil,eo]⟩
   | cons t ts ih=>
     intro r ht
     have h1:=ht t (List.mem_cons_self ..)
     have c:yE bw (.cmp .ne (.ix (.ix (.var 0) (.var 2)) (.var 1)) (.cI 0)) [some (gw n w g),some (.int (k:Nat)),some (.int ((k + t:Nat):Int))]=.ok (.bl (!decide (g (k + t) k=0))):=a7 (Iy rfl rfl rfl h1 hw) aB (bA _ _)
     by_cases z:g (k + t) k=0
     · rw [decide_eq_true z] at c
       have tn:bM bw cj ⟨ck,[],0⟩ N (.nm 2) [.ite (.cmp .ne (.ix (.ix (.var 0) (.var 2)) (.var 1)) (.cI 0)) [.ret (.var 2)] []] (.int ((k + t:Nat):Int)) [some (gw n w g),some (.int (k:Nat)),r] []=.ok (.nx [some (gw n w g),some (.int (k:Nat)),some (.int ((k + t:Nat):Int))] []):=cM rfl rfl (step (skip (own':=[]) c rfl) (ax ..))
       rcases ih (some (.int ((k + t:Nat):Int))) λu hu=>ht u (List.mem_cons_of_mem _ hu) with ⟨p,a1,a2,a3,e⟩ | ⟨a,r',e⟩
       · exact .inl ⟨p,a1,a2,a3,by rw [List.map_cons,bY,tn,Ou.aa,dY,e]⟩
       · refine .inr ⟨λu hu=>?_,r',by rw [List.map_cons,bY,tn,Ou.aa,dY,e]⟩
         rcases List.mem_cons.mp hu with rfl | hu
         · exact z
         · exact a u hu
     · rw [decide_eq_false z] at c
       have tn:bM bw cj ⟨ck,[],0⟩ N (.nm 2) [.ite (.cmp .ne (.ix (.ix (.var 0) (.var 2)) (.var 1)) (.cI 0)) [.ret (.var 2)] []] (.int ((k + t:Nat):Int)) [some (gw n w g),some (.int (k:Nat)),r] []=.ok (.rt (.int ((k + t:Nat):Int))):=cM rfl rfl (u9 ((mI (own':=[]) c rfl).trans ((if_pos rfl).trans (bK (ab rfl)))))
       exact .inl ⟨k + t,by omega,h1,z,by rw [List.map_cons,bY,tn,Ou.aa,AH]⟩
 rcases lp (aN [gw n w g,.int (k:Nat)]) (List.range (n - k)) none λt ht=>by have:=List.mem_range.mp ht; omega with ⟨p,a1,a2,a3,e⟩ | ⟨a,r',e⟩
 · exact .inl ⟨p,a1,a2,a3,congrArg (bp _) (u9 (iO (own':=[]) (it _) rfl e))⟩
 · refine .inr ⟨λp h1 h2=>?_,congrArg (bp _) (step (iO (own':=[]) (it _) rfl e) (bK (EI ..)))⟩
   have:=a (p - k) (List.mem_range.mpr (by omega))
   rwa [show k + (p - k)=p by omega] at this
theorem vR {n k b:Nat} {r p e:Nat->Int} {last:Int} (hn:n<=14) (hk:k < n) (hr:∀ j < n,(r j).natAbs<=2 ^ b) (hp:∀ j < n,(p j).natAbs<=2 ^ b) (hb:b<=400000) (l0:last ≠ 0) (lb:last.natAbs < big) (he:∀ j < n,r j * p k - p j * r k=last * e j):jx [vec n r,vec n p,.int (k:Nat),.int last]=.ok (vec n e):=by
 rw [sF,ej]
 refine cD (step (eV (fT (ab rfl) (ab rfl) (eG hk)) rfl rfl) (step (eV (fT (ab rfl) (ab rfl) (eG hk)) rfl rfl) (bK (bW (wB (n:=n) (F:=λj=>.int (r j)) (H:=λj=>.int (p j)) (ab rfl) (ab rfl)) (by rw [List.length_map,List.length_range]; unfold ae; omega) (bt _ λj hj=>?_)))))
 have hj:=List.mem_range.mp hj
 refine b7 rfl (aG (aG (aG (ab rfl) (ab rfl) (mo (hr j hj) (hp k hk) (by omega) (by omega))) (aG (ab rfl) (ab rfl) (mo (hp j hj) (hr k hk) (by omega) (by omega))) rfl) (ab rfl) ?_)
 rw [ou l0 lb,he j hj,Int.mul_fdiv_cancel_left _ l0]
theorem Au {n k p:Nat} {F:Nat->T} (hk:k<=p) (hp:p < n):(((List.range n).map F).eraseIdx p).insertIdx k (F p)=(List.range n).map λi=>F (rho k (p - k) i):=by
 apply List.ext_getElem
 · have le:(((List.range n).map F).eraseIdx p).length=n - 1:=by rw [List.length_eraseIdx,List.length_map,List.length_range,if_pos hp]
   rw [List.length_insertIdx_of_le_length (by omega),le,List.length_map,List.length_range]
   omega
 · intro i h1 h2
   have hi:i < n:=by simpa using h2
   rw [List.getElem_insertIdx]
   simp only [List.getElem_eraseIdx,List.getElem_map,List.getElem_range]
   unfold rho
   by_cases a:i < k
   · rw [dif_pos a,dif_pos (by omega),if_pos a]
   · rw [dif_neg a,if_neg a]
     by_cases c:i=k
     · rw [dif_pos c,if_pos c]
       congr 1
       omega
     · rw [dif_neg c,if_neg c]
       by_cases d:i<=p
       · rw [dif_pos (by omega),if_pos (by omega)]
       · rw [dif_neg (by omega),if_neg (by omega)]
         congr 1
         omega
section
variable {Ψ ΨM:FnT} {X:Fx} {N v:Nat} {τ:ak} {e i:E} {own own' own2:Own}
theorem A2 {n k p:Nat} {F:Nat->T} {a b:E} (ho:dn (gUL X.μ 0 [a,b]) own=own') (hl:0 < bz own' v) (h2:dn (λk lv=>k == v && lv == 2) own'=own2) (hv:aC τ v=.ok (line n F)) (ha:yE Ψ a τ=.ok (.int (k:Nat))) (hb:yE Ψ b τ=.ok (.int (p:Nat))) (hk:k<=p) (hp:p < n) (hn:n<=7):yS Ψ ΨM X N (.mth .rot (.var v) [a,b]) τ own=.ok (.nx (τ.set v (some (line n λi=>F (rho k (p - k) i)))) own2):=by
 have z:zM .rot ((List.range n).map F) [.int (k:Nat),.int (p:Nat)]=some ((List.range n).map λi=>F (rho k (p - k) i)):=by
   have c:((List.range n).map F).length < ae/\(0:Int)<=((k:Nat):Int)/\(((k:Nat):Int)).toNat < ((List.range n).map F).length/\(0:Int)<=((p:Nat):Int)/\(((p:Nat):Int)).toNat < ((List.range n).map F).length:=by
     rw [List.length_map,List.length_range]
     exact ⟨cH hn,by omega,by omega,by omega,by omega⟩
   rw [zM.eq_def]
   simp only
   rw [if_pos c,Int.toNat_natCast,Int.toNat_natCast,List.getElem?_map,List.getElem?_range hp]
   exact congrArg some (Au hk hp)
 rw [nL,hv,show ef (.ok (line n F))=some ((List.range n).map F) from rfl,aF,ho,if_pos hl,ag,ha,Ou.aa,ag,hb,Ou.aa,au,Ou.aa,Ou.aa,Ou.aa,sr,z,aF,h2]
 rfl
end
theorem GL {Ψ:FnT} {τ:ak} {e:E} {x:T} (he:yE Ψ e τ=.ok x):yE Ψ (.isN false e) τ=.ok (.bl (Em x)):=by
 rw [Ge,he,Ou.aa,Bool.false_xor]
theorem A8 {f:T->ak->Own->Ou FlT} {n:Nat} {g:Nat->T} (I:Nat->ak->Own->Prop) (h:∀ k < n,∀ τ o,I k τ o->∃ τ' o',f (g k) τ o=.ok (.nx τ' o')/\I (k + 1) τ' o') {τ:ak} {o:Own} (h0:I 0 τ o):∃ τ' o',cx f ((List.range n).map g) τ o=.ok (.nx τ' o')/\I n τ' o':=by
 have go:∀ (m k:Nat) (τ:ak) (o:Own),k + m=n->I k τ o->∃ τ' o',cx f ((List.range' k m).map g) τ o=.ok (.nx τ' o')/\I n τ' o':=by
   intro m
   induction m with
   | zero=>exact λk τ o e i=>⟨τ,o,by rw [List.range'_zero,List.map_nil,eo],by rw [<- e]; exact i⟩
   | succ m ih=>
     intro k τ o e i
     obtain ⟨τ1,o1,e1,i1⟩:=h k (by omega) τ o i
     obtain ⟨τ2,o2,e2,i2⟩:=ih (k + 1) τ1 o1 (by omega) i1
     exact ⟨τ2,o2,by rw [List.range'_succ,List.map_cons,bY,e1,Ou.aa,dY,e2],i2⟩
 rw [List.range_eq_range']
 exact go n 0 τ o (by omega) h0
theorem Bw {k m n p:Nat} (hm:k + m < n) (hp:p < n):rho k m p < n:=by
 unfold rho
 split
 · omega
 · split
   · omega
   · split <;> omega
theorem G2 {k m p:Nat} (hk:k<=p):k<=rho k m p:=by
 unfold rho
 split
 · omega
 · split
   · omega
   · split <;> omega
theorem FV {k m n i:Nat} (hm:k + m < n) (hi:i < n):∃ r,r < n/\rho k m r=i:=by
 by_cases h1:i < k
 · exact ⟨i,hi,by unfold rho; rw [if_pos h1]⟩
 · by_cases h2:i=k + m
   · exact ⟨k,by omega,by unfold rho; rw [if_neg (by omega),if_pos rfl,h2]⟩
   · by_cases h3:i < k + m
     · exact ⟨i + 1,by omega,by unfold rho; rw [if_neg (by omega),if_neg (by omega),if_pos (by omega)]; omega⟩
     · exact ⟨i,hi,by unfold rho; rw [if_neg h1,if_neg (by omega),if_neg (by omega)]⟩
section
variable {n b k:Nat} {Z Y:Nat->Nat->Rat} {g:Nat->Nat->Int} {l:Int}
theorem CY {Y':Nat->Nat->Rat} {c q:Nat} (h:∀ r < k,Y' r=Y r):cr Y' k c q=cr Y k c q:=by
 unfold cr bc
 congr 1
 refine aE λi hi j hj=>?_
 unfold af
 split
 · rfl
 · dsimp only
   rw [h i (by omega)]
structure Uv (n b k:Nat) (Z:Nat->Nat->Rat) (g:Nat->Nat->Int) (l:Int) (Y:Nat->Nat->Rat):Prop where
 dt:det n Y ≠ 0
 on:∀ p < n,∃ i < n,Y i=Z p
 ls:(l:Rat)=det k Y
 l0:l ≠ 0
 lo:∀ i < k,∀ j < n + n,(g i j:Rat)=cr Y k i j
 hi:∀ i,k<=i->i < n->∀ j < n + n,(g i j:Rat)=bm Y k i j
 yz:∀ i < n,∀ j < n + n,ZB b (Y i j)
theorem Uv.rot (h:Uv n b k Z g l Y) {m:Nat} (hm:k + m < n):Uv n b k Z (λi=>g (rho k m i)) l λr=>Y (rho k m r):=by
 have low:∀ r < k,rho k m r=r:=λr hr=>by unfold rho; rw [if_pos hr]
 refine ⟨?_,λp hp=>?_,by rw [y4]; exact h.ls,h.l0,λi hi j hj=>?_,λi h1 h2 j hj=>?_,λi hi j hj=>h.yz _ (Bw hm hi) j hj⟩
 · rw [qQ m Y hm]
   intro z
   rcases Rat.mul_eq_zero.mp z with z | z
   · have:=Aw m
     rw [z,Rat.zero_mul] at this
     exact absurd this (by decide)
   · exact h.dt z
 · obtain ⟨i,hi,e⟩:=h.on p hp
   obtain ⟨r,hr,er⟩:=FV hm hi
   exact ⟨r,hr,by rw [er]; exact e⟩
 · rw [CY (Y:=Y) λr hr=>by rw [low r hr],low i hi]
   exact h.lo i hi j hj
 · rw [GF]
   exact h.hi _ (G2 h1) (Bw hm h2) j hj
theorem zJ {c q:Nat} (hn:n<=7) (hY:∀ i < n,∀ j < n + n,ZB b (Y i j)) (hk:k<=n) (hq:q < n + n):ZB ((n + 1) * (b + 3)) (cr Y k c q):=by
 unfold cr bc
 obtain ⟨z,e1,e2⟩:=zl (n:=k + 1) (b:=b) (M:=af (λr c'=>Y r (if c' < k then c' else q)) k (idQ c)) (by omega) λi hi j hj=>by
   unfold af
   split
   · unfold idQ
     split
     · exact ⟨1,rfl,Nat.one_le_two_pow⟩
     · exact ⟨0,rfl,Nat.zero_le _⟩
   · exact hY i (by omega) _ (by split <;> omega)
 refine ⟨-z,?_,?_⟩
 · rw [Rat.intCast_neg,<- e1]
 · rw [Int.natAbs_neg]
   exact Nat.le_trans e2 (Nat.pow_le_pow_right (by decide) (Nat.mul_le_mul_right _ (by omega)))
theorem EJ {i j:Nat} (hn:n<=7) (hY:∀ i < n,∀ j < n + n,ZB b (Y i j)) (hk:k < n) (hi:i < n) (hj:j < n + n):ZB ((n + 1) * (b + 3)) (bm Y k i j):=by
 refine (zl (n:=k + 1) (by omega) λr hr c hc=>hY _ ?_ _ ?_).mono (Nat.mul_le_mul_right _ (by omega))
 · split <;> omega
 · split <;> omega
noncomputable def nxt (Y:Nat->Nat->Rat) (k i j:Nat):Int:=if i<=k then (cr Y (k + 1) i j).num else (bm Y (k + 1) i j).num
theorem Uv.next (h:Uv n b k Z g l Y) (hn:n<=7) (hk:k < n) (hp:g k k ≠ 0):Uv n b (k + 1) Z (λi=>if i=k then g k else nxt Y k i) (g k k) Y/\(∀ i < n,i ≠ k->∀ j < n + n,g i j * g k k - g k j * g i k=l * nxt Y k i j)/\∀ i < n,∀ j < n + n,(g i j).natAbs<=2 ^ ((n + 1) * (b + 3)):=by
 have gk:(g k k:Rat)=det (k + 1) Y:=by rw [h.hi k (Nat.le_refl _) hk k (by omega),qY]
 have d0:det k Y ≠ 0:=λz=>h.l0 (Rat.intCast_inj.mp (show (l:Rat)=((0:Int):Rat) from h.ls.trans z))
 have d1:det (k + 1) Y ≠ 0:=λz=>hp (Rat.intCast_inj.mp (show (g k k:Rat)=((0:Int):Rat) from gk.trans z))
 have nc:∀ i j,i<=k->j < n + n->((nxt Y k i j:Int):Rat)=cr Y (k + 1) i j:=λi j h1 h2=>by
   unfold nxt
   rw [if_pos h1]
   exact (zJ hn h.yz hk h2).num.1.symm
 have nb:∀ i j,k < i->i < n->j < n + n->k + 1 < n->((nxt Y k i j:Int):Rat)=bm Y (k + 1) i j:=λi j h1 h2 h3 h4=>by
   unfold nxt
   rw [if_neg (by omega)]
   exact (EJ hn h.yz h4 h2 h3).num.1.symm
 refine ⟨⟨h.dt,h.on,gk,hp,λi hi j hj=>?_,λi h1 h2 j hj=>?_,h.yz⟩,λi hi hne j hj=>?_,λi hi j hj=>?_⟩
 · by_cases z:i=k
   · rw [if_pos z,z,h.hi k (Nat.le_refl _) hk j hj,(yd (q:=j) d0 d1).2]
   · rw [if_neg z,nc i j (by omega) hj]
 · rw [if_neg (by omega),nb i j (by omega) h2 hj (by omega)]
 · refine Rat.intCast_inj.mp ?_
   rw [Rat.intCast_sub,Rat.intCast_mul,Rat.intCast_mul,Rat.intCast_mul,gk,h.hi k (Nat.le_refl _) hk j hj,h.ls]
   rcases Nat.lt_or_gt_of_ne hne with z | z
   · rw [h.lo i z j hj,h.lo i z k (by omega),nc i j (by omega) hj,(yd (q:=j) d0 d1).1 i z]
     grind
   · rw [h.hi i (by omega) hi j hj,h.hi i (by omega) hi k (by omega),nb i j z hi hj (by omega),DJ d0,qY]
     grind
 · rcases Nat.lt_or_ge i k with z | z
   · obtain ⟨q1,q2⟩:=(zJ (c:=i) hn h.yz (Nat.le_of_lt hk) hj).num
     rw [show g i j=(cr Y k i j).num from Rat.intCast_inj.mp (by rw [h.lo i z j hj]; exact q1)]
     exact q2
   · obtain ⟨q1,q2⟩:=(EJ hn h.yz hk hi hj).num
     rw [show g i j=(bm Y k i j).num from Rat.intCast_inj.mp (by rw [h.hi i z hi j hj]; exact q1)]
     exact q2
end
theorem F6 {t b:Int} {x:Rat} (hb:b ≠ 0) (sb:b.natAbs < big) (e:(t:Rat)=x * (b:Rat)):iA [.int t,.int b]=.ok (fq x):=by
 rcases Int.lt_or_gt_of_ne hb with h | h
 · have g0:Int.gcd t b ≠ 0:=λz=>hb (Int.gcd_eq_zero_iff.mp z).2
   have gb:((Int.gcd t b:Nat):Int).natAbs < big:=by rw [Int.natAbs_natCast]; exact wQ hb sb
   have gn:-((Int.gcd t b:Nat):Int) ≠ 0:=by omega
   obtain ⟨q1,q2⟩:=ve (t:=-t) (b:=-b) (x:=x) (by omega) (by rw [Rat.intCast_neg,Rat.intCast_neg,e]; grind)
   rw [Int.gcd_neg,Int.neg_gcd] at q1 q2
   have f1:∀ y:Int,((Int.gcd t b:Nat):Int) ∣ y->y.fdiv (-((Int.gcd t b:Nat):Int))=-y / ((Int.gcd t b:Nat):Int):=λy hy=>by
     obtain ⟨u,rfl⟩:=hy
     rw [show ((Int.gcd t b:Nat):Int) * u=-((Int.gcd t b:Nat):Int) * -u by rw [Int.neg_mul_neg],Int.mul_fdiv_cancel_left _ gn,Int.neg_mul_neg,show -(((Int.gcd t b:Nat):Int) * u)=((Int.gcd t b:Nat):Int) * -u by rw [Int.mul_neg],Int.mul_ediv_cancel_left _ (by omega)]
   have il:cn [.int t,.int b]=.ok (fq x):=by
     rw [eJ,aQ]
     refine cD (step (rZ rfl (call2 (DC rfl _ _) (ab rfl) (ab rfl)) rfl) (step ((mI (b:=true) (own':=[]) (a7 (ab rfl) aB (by rw [gP,decide_eq_true h])) rfl).trans ((if_pos rfl).trans (step (rZ rfl (x:=.int (-((Int.gcd t b:Nat):Int))) (by rw [Ff,ab rfl,Ou.aa,Ga]) rfl) (ax ..)))) (bK ((oV (aG (ab rfl) (ab rfl) (ou gn (by rw [Int.natAbs_neg]; exact gb))) (aG (ab rfl) (ab rfl) (ou gn (by rw [Int.natAbs_neg]; exact gb)))).trans ?_))))
     rw [f1 t (Int.gcd_dvd_left ..),f1 b (Int.gcd_dvd_right ..)]
     exact congrArg Ou.ok (AU q1 q2)
   have h0:¬ b=0:=hb
   rw [jU,cC]
   exact cD (step (skip (own':=[]) (gJ (dD (b:=true) (fF (d:=.int t) (sG t) (ab rfl))) (dD (b:=true) (fF (d:=.int b) (sG b) (ab rfl)))) rfl) (step (skip (own':=[]) (a7 (ab rfl) aB (by rw [a6,decide_eq_false h0])) rfl) (bK (call2 (Ψ:=gR) (f:=19) il (ab rfl) (ab rfl)))))
 · exact (Ib h sb).trans (congrArg Ou.ok (E0 h e))
theorem xJ (F:Nat->T):∀ (m k:Nat),je k ((List.range' k m).map F)=(List.range' k m).map λi=>.tup [.int (i:Nat),F i]
 | 0,_=>rfl
 | m + 1,k=>by rw [List.range'_succ,List.map_cons,List.map_cons,je,xJ F m (k + 1)]
theorem zO {Ψ:FnT} {e:E} {τ:ak} {n:Nat} {F:Nat->T} (h:yE Ψ e τ=.ok (line n F)):yIt Ψ (.enu e) τ=.ok ((List.range n).map λi=>.tup [.int (i:Nat),F i]):=by
 rw [xh,h,Ou.aa,line,ES,List.range_eq_range',xJ]
theorem E1 {Ψ:FnT} {τ:ak} {c a b:E} {v:Bool} {x:T} (hc:yE Ψ c τ=.ok (.bl v)) (ha:v=true->yE Ψ a τ=.ok x) (hb:v=false->yE Ψ b τ=.ok x):yE Ψ (.ite c a b) τ=.ok x:=by
 rw [GW,hc,Ou.aa]
 cases v with
 | true=>exact ha rfl
 | false=>exact hb rfl
noncomputable def zX:E:=.comp [none,none,some 3,some 5,some 4] (.tp [0,1]) (.enu (.var 3)) [] (.ite (.cmp .eq (.var 0) (.var 3)) (.var 1) (.call 25 [(.var 1),(.ix (.var 2) (.var 3)),(.var 3),(.var 4)]))
noncomputable def EM:List S:=[.set (.nm 6) (.call 18 [(.var 3),(.var 5)]),.ite (.isN false (.var 6)) [.nev] [],.mth .rot (.var 3) [(.var 5),(.var 6)],.set (.nm 3) zX,.set (.nm 4) (.ix (.ix (.var 3) (.var 5)) (.var 5))]
section
variable {n b k N:Nat} {Z Y:Nat->Nat->Rat} {g:Nat->Nat->Int} {l:Int} {r0 r2 r5 r6:Option T} {o:Own}
noncomputable def du (n:Nat) (r0 r2:Option T) (g:Nat->Nat->Int) (l:Int) (r5 r6:Option T):ak:=[r0,some (.int (n:Nat)),r2,some (gw n (n + n) g),some (.int l),r5,r6]
theorem Ai (hn:n<=7) (hk:k < n) (hb:(n + 1) * (b + 3)<=400000) (hd:(n - 1) * (b + 3)<=8900) (h:Uv n b k Z g l Y) (ho:o=[(3,2)]\/o=[(3,1)]):∃ τ',bM aX eO ⟨di,[3],2⟩ N (.nm 5) EM (.int (k:Nat)) (du n r0 r2 g l r5 r6) o=.ok (.nx τ' [(3,1)])/\∃ g' l' r5' r6' Y',τ'=du n r0 r2 g' l' r5' r6'/\Uv n b (k + 1) Z g' l' Y':=by
 have pv:=zW (w:=n + n) (g:=g) hn hk (by omega)
 rw [<- i3] at pv
 have d0:det k Y ≠ 0:=λz=>h.l0 (Rat.intCast_inj.mp (show (l:Rat)=((0:Int):Rat) from h.ls.trans z))
 rcases pv with ⟨p,p1,p2,p3,ep⟩ | ⟨z,_⟩
 · have hm:k + (p - k) < n:=by omega
   have rk:rho k (p - k) k=p:=by unfold rho; rw [if_neg (Nat.lt_irrefl _),if_pos rfl]; omega
   obtain ⟨Y1,g1,hg1,h1⟩:∃ Y1 g1,(λi=>g (rho k (p - k) i))=g1/\Uv n b k Z g1 l Y1:=⟨_,_,rfl,h.rot hm⟩
   have gk:g1 k k ≠ 0:=by rw [<- hg1]; dsimp only; rw [rk]; exact p3
   obtain ⟨h2,he,hz⟩:=h1.next hn hk gk
   have lb:l.natAbs < big:=by
     obtain ⟨y,y1,y2⟩:=zl (n:=k) (b:=b) (M:=Y) (by omega) λi hi j hj=>h.yz i (by omega) j (by omega)
     obtain rfl:l=y:=Rat.intCast_inj.mp (h.ls.trans y1)
     exact dv y2 (Nat.le_trans (Nat.mul_le_mul_right _ (show k<=n - 1 by omega)) hd)
   refine ⟨_,?_,λi=>if i=k then g1 k else nxt Y1 k i,g1 k k,some (.int (k:Nat)),some (.int (p:Nat)),Y1,rfl,h2⟩
   have ro:yS aX eO ⟨di,[3],2⟩ N (.mth .rot (.var 3) [(.var 5),(.var 6)]) (du n r0 r2 g l (some (.int (k:Nat))) (some (.int (p:Nat)))) o=.ok (.nx (du n r0 r2 g1 l (some (.int (k:Nat))) (some (.int (p:Nat)))) [(3,1)]):=by
     rw [<- hg1]
     rcases ho with rfl | rfl
     · exact A2 (own':=[(3,2)]) (own2:=[(3,1)]) (F:=λi=>vec (n + n) (g i)) rfl (by decide) rfl rfl (ab rfl) (ab rfl) p1 p2 hn
     · exact A2 (own':=[(3,1)]) (own2:=[(3,1)]) (F:=λi=>vec (n + n) (g i)) rfl (by decide) rfl rfl (ab rfl) (ab rfl) p1 p2 hn
   have co:yE aX zX (du n r0 r2 g1 l (some (.int (k:Nat))) (some (.int (p:Nat))))=.ok (gw n (n + n) λi=>if i=k then g1 k else nxt Y1 k i):=by
     refine bW (zO (n:=n) (F:=λi=>vec (n + n) (g1 i)) (ab rfl)) (by rw [List.length_map,List.length_range]; exact cH hn) (bt _ λi hi=>b7 rfl ?_)
     have hi:=List.mem_range.mp hi
     refine E1 (a7 (ab rfl) (ab rfl) (a6 _ _)) (λy=>?_) λy=>?_
     · have y:i=k:=by have:=of_decide_eq_true y; omega
       rw [y]
       dsimp only
       rw [if_pos rfl]
       exact ab rfl
     · have y:i ≠ k:=λz=>by rw [z,decide_eq_true rfl] at y; cases y
       dsimp only
       rw [if_neg y]
       have cl:=vR (n:=n + n) (k:=k) (b:=(n + 1) * (b + 3)) (r:=g1 i) (p:=g1 k) (e:=nxt Y1 k i) (last:=l) (by omega) (by omega) (λj hj=>hz i hi j hj) (λj hj=>hz k hk j hj) hb h.l0 lb (he i hi y)
       rw [<- lD] at cl
       exact E9 cl (ab rfl) (fT (ab rfl) (ab rfl) (eG hk)) (ab rfl) (ab rfl)
   have se:o=[(3,2)]\/o=[(3,1)]->yS aX eO ⟨di,[3],2⟩ N (.set (.nm 6) (.call 18 [(.var 3),(.var 5)])) (du n r0 r2 g l (some (.int (k:Nat))) r6) o=.ok (.nx (du n r0 r2 g l (some (.int (k:Nat))) (some (.int (p:Nat)))) o):=λho=>by
     rcases ho with rfl | rfl <;> exact dX rfl (call2 ep (ab rfl) (ab rfl)) rfl rfl
   have sk:o=[(3,2)]\/o=[(3,1)]->yS aX eO ⟨di,[3],2⟩ N (.ite (.isN false (.var 6)) [.nev] []) (du n r0 r2 g l (some (.int (k:Nat))) (some (.int (p:Nat)))) o=.ok (.nx (du n r0 r2 g l (some (.int (k:Nat))) (some (.int (p:Nat)))) o):=λho=>by
     rcases ho with rfl | rfl <;> exact skip (GL (x:=.int (p:Nat)) (ab rfl)) rfl
   have fg:dn (frg (.nm 5)) o=o:=by rcases ho with rfl | rfl <;> rfl
   have ow:cA ⟨di,[3],2⟩ [(3,1)] (.nm 3) zX (gw n (n + n) λi=>if i=k then g1 k else nxt Y1 k i) (du n r0 r2 g1 l (some (.int (k:Nat))) (some (.int (p:Nat))))=[(3,1)]:=by
     have lv:lvT (gw n (n + n) λi=>if i=k then g1 k else nxt Y1 k i)=2:=iU n (n + n) _
     unfold cA
     simp only [lv]
     rfl
   refine cM rfl fg (step (se ho) (step (sk ho) (step ro (step (dX (own':=[(3,1)]) rfl co rfl ow) (step (dX (own':=[(3,1)]) rfl (fT (fT (ab rfl) (ab rfl) (eG hk)) (ab rfl) (eG (show k < n + n by omega))) rfl rfl) ((ax ..).trans ?_))))))
   dsimp only
   rw [if_pos rfl]
   rfl
 · refine absurd (CL d0 hk λp h1 h2=>?_) h.dt
   rw [<- h.hi p h1 h2 k (by omega),z p h1 h2]
   rfl
end
theorem zY {n m:Nat} {f:Nat->T}:Bz ((List.range (n + m)).map f) (some ((n:Nat):Int)) none=(List.range m).map λi=>f (n + i):=by
 unfold Bz
 rw [List.length_map,List.length_range,HT.DP,HT.AR,Nat.min_eq_left (Nat.le_add_right n m),show n + m - n=m by omega,List.range_add,List.map_append,List.map_map,List.drop_left' (by simp),List.take_of_length_le (by simp)]
 rfl
theorem Dt {Ψ:FnT} {τ:ak} {e l:E} {n m:Nat} {f:Nat->T} (he:yE Ψ e τ=.ok (line (n + m) f)) (hl:yE Ψ l τ=.ok (.int (n:Nat))) (bl:n8 l (.int (n:Nat))=some (some ((n:Nat):Int))):yE Ψ (.sl e l .cN) τ=.ok (line m λi=>f (n + i)):=by
 rw [HV,he,Ou.aa,hl,Ou.aa,bl,aF,EI,Ou.aa,show n8 .cN .non=some none from rfl,aF]
 exact congrArg (λl=>Ou.ok (T.lst l)) zY
theorem E7 {X:Fx} {own:Own} {e:E} {x:T} (hv:∀ i,e ≠ .var i) (h:X.lv<=min (cU X.μ e) (lvT x)):sY X own e x=.ok (.rt x):=by
 unfold sY
 split
 · rfl
 · cases e <;> first | exact if_pos h | exact absurd rfl (hv _)
theorem wI {Ψ ΨM:FnT} {X:Fx} {n:Nat} {e:E} {τ:ak} {x:T} {own:Own} (he:yE Ψ e τ=.ok x) (h:sY X own e x=.ok (.rt x)):ySs Ψ ΨM X n [.ret e] τ own=.ok (.rt x):=by
 rw [aq,ba,he,Ou.aa,h,Ou.aa,aM]
theorem Et {n i:Nat} (hn:n<=7):gW [.int (i:Nat),.int (n:Nat)]=.ok (vec n λj=>if j=i then 1 else 0):=by
 rw [pB,dF]
 refine cD (bK (bW (gp (ab rfl) (by omega)) (by rw [List.length_map,List.length_range]; exact cH hn) (bt _ λj hj=>b7 rfl (E1 (a7 (ab rfl) (ab rfl) (a6 _ _)) (λy=>?_) λy=>?_))))
 · have y:j=i:=by have:=of_decide_eq_true y; omega
   dsimp only
   rw [if_pos y]
   exact aB
 · have y:j ≠ i:=λz=>by rw [z,decide_eq_true rfl] at y; cases y
   dsimp only
   rw [if_neg y]
   exact aB
theorem DW {n c d:Nat} {x s:Nat->Int} {l:Int} (hn:n<=7) (hx:∀ i < n,(x i).natAbs<=2 ^ c) (hs:∀ i < n,(s i).natAbs<=2 ^ d) (hc:c<=400000) (hd:d<=400000) (l0:l ≠ 0) (lb:l.natAbs < big):fb [vec n x,vec n s,.int l]=.ok (line n λi=>fq ((x i:Rat) * (s i:Rat) / (l:Rat))):=by
 rw [mW,cf]
 have lq:(l:Rat) ≠ 0:=λz=>l0 (Rat.intCast_inj.mp (show (l:Rat)=((0:Int):Rat) from z))
 have fr:∀ i,ik 20 [.int (x i * s i),.int l]=.ok (fq ((x i:Rat) * (s i:Rat) / (l:Rat))):=λi=>F6 l0 lb (by rw [Rat.intCast_mul,Rat.div_mul_cancel lq])
 refine (congrArg (bp _) (wI (bW (wB (n:=n) (F:=λi=>.int (x i)) (H:=λi=>.int (s i)) (ab rfl) (ab rfl)) (by rw [List.length_map,List.length_range]; exact cH hn) (bt _ λi hi=>b7 rfl (call2 (fr i) (aG (ab rfl) (ab rfl) (mo (hx i (List.mem_range.mp hi)) (hs i (List.mem_range.mp hi)) (by omega) (by omega))) (ab rfl)))) (E7 (λ_=>nofun) ?_))).trans rfl
 exact Nat.le_min.mpr ⟨by unfold cU; split <;> decide,by show 1<=(if _ then 2 else 1); split <;> decide⟩
noncomputable def g0 (n:Nat) (F:Nat->Nat->Rat) (i j:Nat):Int:=if j < n then wr (F i) (scl n (F i)) j else if j - n=i then 1 else 0
theorem B7 {n m:Nat} {f g:Nat->T}:(List.range n).map f++(List.range m).map g=(List.range (n + m)).map λj=>if j < n then f j else g (j - n):=by
 rw [List.range_add,List.map_append,List.map_map]
 congr 1
 · exact List.map_congr_left λj hj=>by rw [if_pos (List.mem_range.mp hj)]
 · exact List.map_congr_left λj _=>by simp only [Function.comp]; rw [if_neg (by omega),show n + j - n=j by omega]
theorem p6 {n a b B c:Nat} {F:Nat->Nat->Rat} (h1:1<=n) (hn:n<=7) (hF:∀ i < n,∀ j < n,Sz a b (F i j)) (ha:a<=90000) (hb:b<=8900) (hW:∀ i < n,∀ j < n,(wr (F i) (scl n (F i)) j).natAbs<=2 ^ B) (hS:∀ i < n,(scl n (F i)).natAbs<=2 ^ c) (hc:c<=8900) (hB:n * (B + 3)<=8900) (hd:det n F ≠ 0) :
   ∃ (R:Nat->Nat->Rat) (l:Int),l ≠ 0/\l.natAbs<=2 ^ (n * (B + 3))/\(∀ i < n,∀ q < n,ZB ((n + 1) * (B + 3) + c) (R i q * (l:Rat)))/\(∀ p < n,∀ q < n,ah (λi=>F p i * R i q) n=if p=q then 1 else 0)/\gH [gq n n F]=.ok (gq n n R):=by
 have w0:∀ i < n,∀ j < n,((g0 n F i j:Int):Rat)=F i j * ((scl n (F i):Int):Rat):=λi _ j hj=>by
   unfold g0
   rw [if_pos hj,Hc ((oD n (F i)).2 j hj)]
 have dz:det n (λi j=>((g0 n F i j:Int):Rat)) ≠ 0:=by
   have e:det n (λi j=>((g0 n F i j:Int):Rat))=jV (λi=>((scl n (F i):Int):Rat)) n * det n F:=by
     rw [<- lM (n:=n) _ F n (Nat.le_refl _)]
     exact aE λi hi j hj=>by rw [if_pos hi,w0 i hi j hj,Rat.mul_comm]
   rw [e]
   intro z
   rcases Rat.mul_eq_zero.mp z with z | z
   · have np:∀ m,m<=n->jV (λi=>((scl n (F i):Int):Rat)) m ≠ 0:=λm=>by
       induction m with
       | zero=>exact λ_=>(by decide:(1:Rat) ≠ 0)
       | succ m ih=>
         intro hm y
         rcases Rat.mul_eq_zero.mp (show jV (λi=>((scl n (F i):Int):Rat)) m * ((scl n (F m):Int):Rat)=0 from y) with y | y
         · exact ih (by omega) y
         · have:=(oD n (F m)).1
           have:scl n (F m)=0:=Rat.intCast_inj.mp (show ((scl n (F m):Int):Rat)=((0:Int):Rat) from y)
           omega
     exact np n (Nat.le_refl _) z
   · exact hd z
 have u0:Uv n B 0 (λi j=>((g0 n F i j:Int):Rat)) (g0 n F) 1 (λi j=>((g0 n F i j:Int):Rat)):=by
   refine ⟨dz,λp hp=>⟨p,hp,rfl⟩,rfl,by decide,λi hi=>by omega,λi _ _ j _=>?_,λi hi j hj=>⟨_,rfl,?_⟩⟩
   · unfold bm
     rw [nA]
     rfl
   · unfold g0
     split
     · exact hW i hi j (by assumption)
     · split
       · exact Nat.one_le_two_pow
       · exact Nat.zero_le _
 have b3:B + 3<=n * (B + 3):=Nat.le_mul_of_pos_left _ h1
 have nb1:(n + 1) * (B + 3)<=400000:=Nat.le_trans (Nat.mul_le_mul (show n + 1<=8 by omega) (show B + 3<=8900 by omega)) (by decide)
 have nb2:(n - 1) * (B + 3)<=8900:=Nat.le_trans (Nat.mul_le_mul_right _ (by omega)) hB
 obtain ⟨τ',o',el,g,l,r5,r6,Y,eτ,hu,ho⟩:=A8 (n:=n) (g:=λ(k:Nat)=>.int (k:Nat)) (f:=bM aX eO ⟨di,[3],2⟩ (aN [gq n n F]) (.nm 5) EM)
   (λk τ o=>∃ g l r5 r6 Y,τ=du n (some (gq n n F)) (some (vec n λi=>scl n (F i))) g l r5 r6/\Uv n B k (λi j=>((g0 n F i j:Int):Rat)) g l Y/\(o=[(3,2)]\/o=[(3,1)]))
   (λk hk τ o ⟨g,l,r5,r6,Y,eτ,hu,ho⟩=>by
     subst eτ
     obtain ⟨τ',e,g',l',r5',r6',Y',e2,h2⟩:=Ai (N:=aN [gq n n F]) hn hk nb1 nb2 hu ho
     exact ⟨τ',_,e,g',l',r5',r6',Y',e2,h2,.inr rfl⟩)
   (τ:=du n (some (gq n n F)) (some (vec n λi=>scl n (F i))) (g0 n F) 1 none none) (o:=[(3,2)]) ⟨g0 n F,1,none,none,_,rfl,u0,.inl rfl⟩
 subst eτ
 have lq:(l:Rat) ≠ 0:=λz=>hu.l0 (Rat.intCast_inj.mp (show (l:Rat)=((0:Int):Rat) from z))
 have lb':l.natAbs<=2 ^ (n * (B + 3)):=by
   obtain ⟨y,y1,y2⟩:=zl (n:=n) (b:=B) (M:=Y) (by omega) λi hi j hj=>hu.yz i hi j (by omega)
   obtain rfl:l=y:=Rat.intCast_inj.mp (hu.ls.trans y1)
   exact y2
 have lb:l.natAbs < big:=dv lb' hB
 have gb:∀ i < n,∀ j < n + n,(g i j).natAbs<=2 ^ ((n + 1) * (B + 3)):=λi hi j hj=>by
   obtain ⟨q1,q2⟩:=(zJ (c:=i) hn hu.yz (Nat.le_refl n) hj).num
   rw [show g i j=(cr Y n i j).num from Rat.intCast_inj.mp (by rw [hu.lo i hi j hj]; exact q1)]
   exact q2
 refine ⟨λi q=>(g i (n + q):Rat) * ((scl n (F q):Int):Rat) / (l:Rat),l,hu.l0,lb',λi hi q hq=>⟨g i (n + q) * scl n (F q),by dsimp only; rw [Rat.div_mul_cancel lq,Rat.intCast_mul],?_⟩,λp hp q hq=>?_,?_⟩
 · rw [Int.natAbs_mul,Nat.pow_add]
   exact Nat.mul_le_mul (gb i hi (n + q) (by omega)) (hS q hq)
 · obtain ⟨i0,hi0,e0⟩:=hu.on p hp
   have cm:=rX (Y:=Y) (k:=n) (p:=i0) (q:=n + q) hi0
   rw [e0,<- hu.ls] at cm
   have sp:((scl n (F p):Int):Rat) ≠ 0:=λz=>by
     have:=(oD n (F p)).1
     have:scl n (F p)=0:=Rat.intCast_inj.mp (show ((scl n (F p):Int):Rat)=((0:Int):Rat) from z)
     omega
   have e1:ah (λc=>cr Y n c (n + q) * ((g0 n F p c:Int):Rat)) n=ah (λc=>(g c (n + q):Rat) * F p c) n * ((scl n (F p):Int):Rat):=by
     rw [ja]
     exact ai λc hc'=>by rw [w0 p hp c hc',<- hu.lo c hc' (n + q) (by omega)]; grind
   have e2:((g0 n F p (n + q):Int):Rat)=if p=q then 1 else 0:=by
     unfold g0
     rw [if_neg (by omega),show n + q - n=q by omega]
     by_cases z:p=q
     · rw [if_pos z,if_pos z.symm]; rfl
     · rw [if_neg z,if_neg (Ne.symm z)]; rfl
   rw [e1] at cm
   dsimp only at cm ⊢
   rw [e2] at cm
   have e3:ah (λi=>F p i * ((g i (n + q):Rat) * ((scl n (F q):Int):Rat) / (l:Rat))) n=ah (λc=>(g c (n + q):Rat) * F p c) n * (((scl n (F q):Int):Rat) / (l:Rat)):=by
     rw [ja]
     exact ai λc _=>by rw [Rat.div_def,Rat.div_def]; grind
   rw [e3]
   generalize ah (λc=>(g c (n + q):Rat) * F p c) n=A at cm
   by_cases z:p=q
   · subst z
     rw [if_pos rfl] at cm ⊢
     rw [Rat.mul_one] at cm
     rw [Rat.div_def,<- Rat.mul_assoc,cm,Rat.mul_inv_cancel _ lq]
   · rw [if_neg z] at cm ⊢
     rw [Rat.mul_zero] at cm
     rcases Rat.mul_eq_zero.mp cm with y | y
     · rw [y,Rat.zero_mul]
     · exact absurd y sp
 · have ls:gx [gq n n F]=.ok .non:=by
     rw [mf,bR]
     refine (congrArg (bp _) (step (skip (own':=[]) (a7 (b:=false) (bi1 (eP n λi=>line n λj=>fq (F i j)) (ab rfl)) (len0 h1 rfl) ?_) rfl) (ax ..))).trans rfl
     rw [bA,decide_eq_true rfl]
     rfl
   have wrs:=pQ (w:=n) (n:=n) (H:=F) (s:=λi=>scl n (F i)) hn hn hF hS (by omega) hb (by omega)
   rw [<- jI] at wrs
   have sco:∀ i < n,aX 17 [line n λk=>fq (F i k)]=.ok (.int (scl n (F i))):=λi hi=>by
     rw [kx]
     exact zG hn (λk hk=>(hF i hi k hk).den) hb
   have st3:yE aX (.comp [none,none,some 1] (.tp [0,1]) (.enu (.call 24 [(.var 0),(.var 2)])) [] (.op .add (.var 1) (.call 22 [(.var 0),(.var 2)]))) [some (gq n n F),some (.int (n:Nat)),some (vec n λi=>scl n (F i)),none,none,none,none]=.ok (gw n (n + n) (g0 n F)):=by
     refine bW (zO (n:=n) (F:=λi=>vec n (wr (F i) (scl n (F i)))) (call2 wrs (ab rfl) (ab rfl))) (by rw [List.length_map,List.length_range]; exact cH hn) (bt _ λi hi=>b7 rfl ?_)
     have un:=Et (n:=n) (i:=i) hn
     rw [<- kg] at un
     refine aG (ab rfl) (call2 un (ab rfl) (ab rfl)) ?_
     show (if _ then _ else _)=_
     rw [if_pos (by simp; unfold ae; omega),B7]
     refine congrArg (λx=>Ou.ok (T.lst x)) (List.map_congr_left λj _=>?_)
     unfold g0
     split <;> rfl
   have ow:cA ⟨di,[3],2⟩ [] (.nm 3) (.comp [none,none,some 1] (.tp [0,1]) (.enu (.call 24 [(.var 0),(.var 2)])) [] (.op .add (.var 1) (.call 22 [(.var 0),(.var 2)]))) (gw n (n + n) (g0 n F)) [some (gq n n F),some (.int (n:Nat)),some (vec n λi=>scl n (F i)),none,none,none,none]=[(3,2)]:=by
     have lv:lvT (gw n (n + n) (g0 n F))=2:=iU n (n + n) _
     unfold cA
     simp only [lv]
     rfl
   have ret:∀ N,ySs aX eO ⟨di,[3],2⟩ N [.ret (.comp [none,some 4,some 1,some 2] (.nm 0) (.seq (.var 3)) [] (.call 21 [(.sl (.var 0) (.var 2) .cN),(.var 3),(.var 1)]))] (du n (some (gq n n F)) (some (vec n λi=>scl n (F i))) g l r5 r6) o'=.ok (.rt (gq n n λi q=>(g i (n + q):Rat) * ((scl n (F q):Int):Rat) / (l:Rat))):=λN=>by
     refine wI (bW (j9 (n:=n) (G:=λi=>vec (n + n) (g i)) (ab rfl)) (by rw [List.length_map,List.length_range]; exact cH hn) (bt _ λi hi=>?_)) (E7 (λ_=>nofun) ?_)
     · have ur:=DW (n:=n) (x:=λc=>g i (n + c)) (s:=λc=>scl n (F c)) (l:=l) hn (λc hc=>gb i (List.mem_range.mp hi) (n + c) (by omega)) hS nb1 (by omega) hu.l0 lb
       rw [<- jJ] at ur
       exact b7 rfl (EL ur (Dt (f:=λj=>.int (g i j)) (ab rfl) (ab rfl) rfl) (ab rfl) (ab rfl))
     · exact Nat.le_min.mpr ⟨by show 2<=2; decide,Nat.le_of_eq (iU n n _).symm⟩
   rw [tR,fo]
   refine (congrArg (bp _) (step (own':=[]) (τ':=[some (gq n n F),none,none,none,none,none,none]) ?_ (step (own':=[]) (τ':=[some (gq n n F),none,none,none,none,none,none]) ?_ (step (dX (own':=[]) rfl (bi1 (eP n λi=>line n λj=>fq (F i j)) (ab rfl)) rfl rfl) (step (dX (own':=[]) (x:=vec n λi=>scl n (F i)) rfl (bW (j9 (n:=n) (G:=λi=>line n λk=>fq (F i k)) (ab rfl)) (by rw [List.length_map,List.length_range]; exact cH hn) (bt _ λi hi=>b7 rfl (fF (sco i (List.mem_range.mp hi)) (ab rfl)))) rfl rfl) (step (dX (own':=[(3,2)]) rfl st3 rfl ow) (step (dX (own':=[(3,2)]) rfl aB rfl rfl) (step (iO (own':=[(3,2)]) (gp (ab rfl) (by omega)) rfl el) (ret _))))))))).trans (IZ true (EF _ _ _))
   · rw [xQ _ _ _ _ _ _ _ rfl,fF (Ψ:=aX) (f:=15) (e:=.var 0) (d:=gq n n F) (Dy ⟨h1,hn⟩ ⟨h1,hn⟩) (ab rfl),Ou.aa,aY]
   · rw [xQ _ _ _ _ _ _ _ rfl,fF (Ψ:=aX) (f:=16) (e:=.var 0) (d:=gq n n F) ls (ab rfl),Ou.aa,aY]
theorem xC {x:Rat} {l z:Int} (h:x * (l:Rat)=(z:Rat)):((x.den:Nat):Int) ∣ l:=by
 have e:x.num * l=z * ((x.den:Nat):Int):=Rat.intCast_inj.mp (by rw [Rat.intCast_mul,Rat.intCast_mul,<- h,<- kf]; grind)
 have d:x.den ∣ x.num.natAbs * l.natAbs:=by
   rw [<- Int.natAbs_mul,e,Int.natAbs_mul,Int.natAbs_natCast]
   exact Nat.dvd_mul_left ..
 exact Int.ofNat_dvd_left.mpr (Nat.Coprime.dvd_of_dvd_mul_left x.reduced.symm d)
theorem BH {l:Int}:∀ (xs:List Rat) (s:Int),0 < s->s ∣ l->(∀ x ∈ xs,((x.den:Nat):Int) ∣ l)->sc xs s ∣ l
 | [],_,_,h,_=>h
 | x :: xs,s,hs,h,hx=>by
   refine BH xs _ (yk hs x.den_pos).1 ?_ λy hy=>hx y (List.mem_cons_of_mem _ hy)
   have hd:=hx x (List.mem_cons_self ..)
   have e:s / (Int.gcd s ((x.den:Nat):Int):Int) * ((x.den:Nat):Int)=((Int.lcm s ((x.den:Nat):Int):Nat):Int):=by
     have h1:0 < Int.gcd s ((x.den:Nat):Int):=Int.gcd_pos_of_ne_zero_left _ (by omega)
     have h2:((Int.gcd s ((x.den:Nat):Int):Nat):Int) * ((Int.lcm s ((x.den:Nat):Int):Nat):Int)=s * ((x.den:Nat):Int):=by
       rw [<- Int.natCast_mul,Int.gcd_mul_lcm,Int.natCast_mul,Int.natAbs_of_nonneg (by omega),Int.natAbs_natCast]
     rw [<- Int.mul_ediv_assoc' _ (Int.gcd_dvd_left ..),<- h2,Int.mul_ediv_cancel_left _ (by omega)]
   rw [e]
   exact Int.ofNat_dvd_left.mpr (Nat.lcm_dvd (Int.natAbs_dvd_natAbs.mpr h) (Int.ofNat_dvd_left.mp hd))
section
variable {n C B:Nat} {R F S:Nat->Nat->Rat} {l:Int}
theorem GV (l0:l ≠ 0) (hl:l.natAbs<=2 ^ C) {x:Rat} (h:ZB B (x * (l:Rat))):Sz B C x:=by
 obtain ⟨z,e,hz⟩:=h
 obtain ⟨u,hu⟩:=xC e
 have u0:u ≠ 0:=λy=>l0 (by rw [hu,y,Int.mul_zero])
 have e2:x.num * u=z:=Rat.intCast_inj.mp (by
   rw [Rat.intCast_mul,<- e,hu,Rat.intCast_mul,<- kf]
   grind)
 refine ⟨?_,?_⟩
 · rw [<- e2,Int.natAbs_mul] at hz
   exact Nat.le_trans (Nat.le_mul_of_pos_right _ (by omega)) hz
 · rw [hu,Int.natAbs_mul,Int.natAbs_natCast] at hl
   exact Nat.le_trans (Nat.le_mul_of_pos_right _ (by omega)) hl
theorem xm (l0:l ≠ 0) (hl:l.natAbs<=2 ^ C) {f:Nat->Rat} (h:∀ q < n,ZB B (f q * (l:Rat))):(scl n f).natAbs<=2 ^ C/\∀ q < n,(wr f (scl n f) q).natAbs<=2 ^ B:=by
 have dv:scl n f ∣ l:=BH _ 1 (by decide) (Int.one_dvd _) λx hx=>by
   obtain ⟨q,hq,rfl⟩:=List.mem_map.mp hx
   obtain ⟨z,e,_⟩:=h q (List.mem_range.mp hq)
   exact xC e
 obtain ⟨u,hu⟩:=dv
 have u0:u ≠ 0:=λy=>l0 (by rw [hu,y,Int.mul_zero])
 refine ⟨?_,λq hq=>?_⟩
 · rw [hu,Int.natAbs_mul] at hl
   exact Nat.le_trans (Nat.le_mul_of_pos_right _ (by omega)) hl
 · obtain ⟨z,e,hz⟩:=h q hq
   have e2:wr f (scl n f) q * u=z:=Rat.intCast_inj.mp (by
     rw [Rat.intCast_mul,Hc ((oD n f).2 q hq),<- e,hu,Rat.intCast_mul]
     grind)
   rw [<- e2,Int.natAbs_mul] at hz
   exact Nat.le_trans (Nat.le_mul_of_pos_right _ (by omega)) hz
noncomputable def Inv (n:Nat) (F R:Nat->Nat->Rat):Prop:=∀ p < n,∀ q < n,ah (λi=>F p i * R i q) n=if p=q then 1 else 0
theorem Inv.det (h:Inv n F R):K15.det n R ≠ 0:=λz=>by
 have e:=Ea n F R
 rw [z,Rat.mul_zero] at e
 have e2:K15.det n (mulQ n F R)=K15.det n idQ:=aE λi hi j hj=>h i hi j hj
 rw [e2,qH] at e
 exact absurd e (by decide)
theorem Inv.uniq (hd:K15.det n F ≠ 0) (h:Inv n F R) (g:Inv n F S):∀ i < n,∀ q < n,R i q=S i q:=λi hi q hq=>by
 have:=F5 (Y:=F) (k:=n) hd (a:=λc=>R c q - S c q) (λp hp=>by
   have e:ah (λc=>(R c q - S c q) * F p c) n=ah (λc=>F p c * R c q) n + (-1) * ah (λc=>F p c * S c q) n:=by
     rw [a8,<- dO]
     exact ai λc _=>by grind
   rw [e,h p hp q hq,g p hp q hq]
   grind) i hi
 grind
theorem Inv.symm (hd:K15.det n F ≠ 0) (h:Inv n F R):Inv n R F:=λp hp q hq=>by
 have:=F5 (Y:=F) (k:=n) hd (a:=λc=>ah (λi=>R c i * F i q) n - idQ c q) (λr hr=>by
   have e:ah (λc=>(ah (λi=>R c i * F i q) n - idQ c q) * F r c) n=ah (λc=>F r c * ah (λi=>R c i * F i q) n) n + (-1) * ah (λc=>F r c * dq c q) n:=by
     rw [a8,<- dO]
     exact ai λc _=>by unfold idQ dq; grind
   have e2:ah (λc=>F r c * ah (λi=>R c i * F i q) n) n=F r q:=by
     rw [<- vG (λc=>F r c) (λc i=>R c i) (λi=>F i q) n n,<- o3 (λi=>F i q) r n hr]
     exact ai λi hi=>by rw [h r hr i hi]; rfl
   rw [e,e2,dG (λc=>F r c) q n hq]
   grind) p hp
 have z:ah (λi=>R p i * F i q) n=idQ p q:=by grind
 rw [z]
 rfl
end
noncomputable def jO (s:Nat->Int):Nat->Int
 | 0=>1
 | n + 1=>jO s n * s n
theorem ye (s:Nat->Int):∀ n,(jO s n:Rat)=jV (λi=>(s i:Rat)) n
 | 0=>rfl
 | n + 1=>by rw [jO,jV,Rat.intCast_mul,ye s n]
theorem yX {s:Nat->Int}:∀ {n:Nat},(∀ i < n,0 < s i)->0 < jO s n
 | 0,_=>show (0:Int) < 1 by decide
 | n + 1,h=>Int.mul_pos (yX λi hi=>h i (by omega)) (h n (by omega))
theorem sN {s:Nat->Int} {c:Nat}:∀ {n:Nat},(∀ i < n,(s i).natAbs<=2 ^ c)->(jO s n).natAbs<=2 ^ (n * c)
 | 0,_=>Nat.one_le_two_pow
 | n + 1,h=>by
   rw [jO,Int.natAbs_mul,Nat.succ_mul,Nat.pow_add]
   exact Nat.mul_le_mul (sN λi hi=>h i (by omega)) (h n (by omega))
theorem vo {Ψ:FnT} {τ:ak} {a b:E} {i j:Int} (ha:yE Ψ a τ=.ok (.int i)) (hb:yE Ψ b τ=.ok (.int j)):yE Ψ (.op .add a b) τ=.ok (.int (i + j)):=aG ha hb (qU _ _)
theorem mj {f:T->ak->Own->Ou FlT} {own:Own} {n:Nat} {g:Nat->T} (I:Nat->ak->Prop) (h:∀ k < n,∀ τ,I k τ->∃ τ',f (g k) τ own=.ok (.nx τ' own)/\I (k + 1) τ') {τ:ak} (h0:I 0 τ):∃ τ',cx f ((List.range n).map g) τ own=.ok (.nx τ' own)/\I n τ':=by
 have go:∀ (m k:Nat) (τ:ak),k + m=n->I k τ->∃ τ',cx f ((List.range' k m).map g) τ own=.ok (.nx τ' own)/\I n τ':=by
   intro m
   induction m with
   | zero=>exact λk τ e i=>⟨τ,by rw [List.range'_zero,List.map_nil,eo],by rw [<- e]; exact i⟩
   | succ m ih=>
     intro k τ e i
     obtain ⟨τ1,e1,i1⟩:=h k (by omega) τ i
     obtain ⟨τ2,e2,i2⟩:=ih (k + 1) τ1 (by omega) i1
     exact ⟨τ2,by rw [List.range'_succ,List.map_cons,bY,e1,Ou.aa,dY,e2],i2⟩
 rw [List.range_eq_range']
 exact go n 0 τ (by omega) h0
theorem GR {Ψ ΨM:FnT} {X:Fx} {N v:Nat} {τ:ak} {e:E} {own own' own2:Own} {n:Nat} {F:Nat->T} (he:yE Ψ e τ=.ok (F n)) (hv:aC τ v=.ok (line n F)) (hx:n < ae) (ho:dn (gUL X.μ 0 [e]) own=own') (hl:0 < bz own' v) (h2:dn (λk lv=>k == v && lv == 2) own'=own2) :
   yS Ψ ΨM X N (.mth .append (.var v) [e]) τ own=.ok (.nx (τ.set v (some (line (n + 1) F))) own2):=by
 have z:zM .append ((List.range n).map F) [F n]=some ((List.range (n + 1)).map F):=by
   show (if ((List.range n).map F).length < ae then some ((List.range n).map F++[F n]) else none)=_
   rw [if_pos (by rw [List.length_map,List.length_range]; exact hx),List.range_succ,List.map_append]
   rfl
 rw [nL,hv,show ef (.ok (line n F))=some ((List.range n).map F) from rfl,aF,ho,if_pos hl,ag,he,Ou.aa,au,Ou.aa,Ou.aa,sr,z,aF,h2]
 rfl
noncomputable def my:List S:=[.set (.nm 4) (.op .fdiv (.op .mul (.var 4) (.ix (.var 5) (.cI 1))) (.call 1 [(.var 4),(.ix (.var 5) (.cI 1))]))]
section
variable {t0 t1 t2 t3:Option T} {N a b m w:Nat} {F:Nat->Nat->Rat}
theorem uA (hb:b<=8900):∀ (xs:List Rat) (s:Int) (c:Nat) (r5:Option T),s.natAbs<=2 ^ c->(∀ x ∈ xs,x.den<=2 ^ b)->c + xs.length * b<=90000->∃ r5',cx (bM gM jj ⟨iT,[1],0⟩ N (.nm 5) my) (xs.map fq) [t0,t1,t2,t3,some (.int s),r5] [(1,1)]=.ok (.nx [t0,t1,t2,t3,some (.int (sc xs s)),r5'] [(1,1)])
 | [],s,c,r,_,_,_=>⟨r,by rw [List.map_nil,eo]; rfl⟩
 | x :: xs,s,c,r,hs,hx,hc=>by
   have hd:=hx x (List.mem_cons_self ..)
   have hd':(((x.den:Nat):Int)).natAbs<=2 ^ b:=by rw [Int.natAbs_natCast]; exact hd
   rw [List.length_cons,Nat.succ_mul] at hc
   obtain ⟨r',e⟩:=uA hb xs (s / (Int.gcd s ((x.den:Nat):Int):Int) * ((x.den:Nat):Int)) (c + b) (some (fq x)) (by
     rw [Int.natAbs_mul,Nat.pow_add]
     exact Nat.mul_le_mul (iK hs) hd') (λy hy=>hx y (List.mem_cons_of_mem _ hy)) (by omega)
   refine ⟨r',?_⟩
   have fd:z2 .fdiv (.int (s * ((x.den:Nat):Int))) (.int (Int.gcd s ((x.den:Nat):Int):Nat))=.ok (.int (s / (Int.gcd s ((x.den:Nat):Int):Int) * ((x.den:Nat):Int))):=by
     rw [fdv (HD x) (dv hd' hb),Int.mul_ediv_assoc' _ (Int.gcd_dvd_left ..)]
   have t:bM gM jj ⟨iT,[1],0⟩ N (.nm 5) my (fq x) [t0,t1,t2,t3,some (.int s),r] [(1,1)]=.ok (.nx [t0,t1,t2,t3,some (.int (s / (Int.gcd s ((x.den:Nat):Int):Int) * ((x.den:Nat):Int))),some (fq x)] [(1,1)]):=
     cM rfl rfl (step (dX (own':=[(1,1)]) rfl (aG (aG (ab rfl) (fr1 (ab rfl)) (mo hs hd' (by omega) (by omega))) (call2 (IQ (Ψ:=gM) (i:=1) rfl _ _) (ab rfl) (fr1 (ab rfl))) fd) rfl rfl) (ax ..))
   rw [List.map_cons,bY,t,Ou.aa,dY,e]
   rfl
noncomputable def wz (w:Nat) (F:Nat->Nat->Rat) (i:Nat):Nat->Int:=wr (F i) (scl w (F i))
theorem Ag (hm:m<=7) (hw:w<=7) (hF:∀ i < m,∀ j < w,Sz a b (F i j)) (ha:a<=8900) (hb:w * b<=8900) (hb':b<=8900):k6 [gq m w F]=.ok (.tup [line m λi=>vec w (wz w F i),.int (jO (λi=>scl w (F i)) m)]):=by
 rw [uF,fy]
 have sl:∀ i < m,(scl w (F i)).natAbs<=2 ^ (w * b):=λi hi=>vM λk hk=>(hF i hi k hk).den
 obtain ⟨τ',e,r3,r4,r5,eτ⟩:=mj (n:=m) (g:=λi=>line w λk=>fq (F i k)) (own:=[(1,1)]) (f:=bM gM jj ⟨iT,[1],0⟩ (aN [gq m w F]) (.nm 3) [.set (.nm 4) (.cI 1),.for (.nm 5) (.seq (.var 3)) my,.mth .append (.var 1) [(.comp [none,some 4] (.nm 0) (.seq (.var 3)) [] (.op .mul (.ix (.var 0) (.cI 0)) (.op .fdiv (.var 1) (.ix (.var 0) (.cI 1)))))],.set (.nm 2) (.op .mul (.var 2) (.var 4))])
   (λk τ=>∃ r3 r4 r5,τ=[some (gq m w F),some (line k λi=>vec w (wz w F i)),some (.int (jO (λi=>scl w (F i)) k)),r3,r4,r5])
   (λk hk τ ⟨r3,r4,r5,eτ⟩=>by
     subst eτ
     have pl:=sN (n:=k) λi hi=>sl i (by omega)
     have kc:k * (w * b)<=7 * 8900:=Nat.mul_le_mul (by omega) hb
     obtain ⟨r5',e5⟩:=uA (t0:=some (gq m w F)) (t1:=some (line k λi=>vec w (wz w F i))) (t2:=some (.int (jO (λi=>scl w (F i)) k))) (t3:=some (line w λj=>fq (F k j))) (N:=aN [gq m w F]) hb' ((List.range w).map (F k)) 1 0 r5 (by decide) (λx hx=>by
       obtain ⟨j,hj,rfl⟩:=List.mem_map.mp hx
       exact (hF k hk j (List.mem_range.mp hj)).den) (by rw [List.length_map,List.length_range]; omega)
     refine ⟨_,cM (own':=[(1,1)]) rfl rfl (step (dX (own':=[(1,1)]) rfl aB rfl rfl) (step (iO (own':=[(1,1)]) (xs:=((List.range w).map (F k)).map fq) (by rw [dR,ab rfl,Ou.aa,List.map_map]; rfl) rfl e5) (step (GR (n:=k) (F:=λi=>vec w (wz w F i)) (own':=[(1,1)]) (own2:=[(1,1)]) (bW (j9 (n:=w) (G:=λj=>fq (F k j)) (ab rfl)) (by rw [List.length_map,List.length_range]; exact cH hw) (bt _ λj hj=>?_)) rfl (by unfold ae; omega) rfl (by decide) rfl) (step (dX (own':=[(1,1)]) rfl (aG (ab rfl) (ab rfl) (mo pl (sl k hk) (by omega) (by omega))) rfl rfl) (ax ..))))),_,_,_,rfl⟩
     have z:=hF k hk j (List.mem_range.mp hj)
     have d:z2 .fdiv (.int (scl w (F k))) (.int (((F k j).den:Nat):Int))=.ok (.int (scl w (F k) / (((F k j).den:Nat):Int))):=fR (by have:=(F k j).den_pos; omega) (xD z hb')
     exact b7 rfl (aG (fr0 (ab rfl)) (aG (ab rfl) (fr1 (ab rfl)) d) (mo z.num (iK (sl k hk)) (by omega) (by omega))))
   (τ:=[some (gq m w F),some (.lst []),some (.int 1),none,none,none]) ⟨none,none,none,rfl⟩
 subst eτ
 exact cD (step (dX (own':=[(1,1)]) (x:=.lst []) rfl (by simp only [oO,au,Ou.aa]; rfl) rfl rfl) (step (dX (own':=[(1,1)]) rfl aB rfl rfl) (step (iO (own':=[(1,1)]) (j9 (n:=m) (ab rfl)) rfl e) (bK (oV (ab rfl) (ab rfl))))))
end
theorem tu0 {Ψ:FnT} {τ:ak} {e:E} {x y:T} (he:yE Ψ e τ=.ok (.tup [x,y])):yE Ψ (.ix e (.cI 0)) τ=.ok x:=fT he aB (qc _ _)
theorem wL {n:Nat} {z:Nat->Nat->Int}:∀ is:List Nat,iL (is.map λi=>vec n (z i))=some (is.map λi=>(List.range n).map (z i))
 | []=>rfl
 | i :: is=>by
   have e:∀ js:List Nat,nK (js.map λj=>.int (z i j))=some (js.map (z i)):=λjs=>by
     induction js with
     | nil=>rfl
     | cons j js ih=>rw [List.map_cons,List.map_cons,nK,ih]; rfl
   rw [List.map_cons,List.map_cons,iL,show Fw (vec n (z i))=some ((List.range n).map (z i)) from e _,Option.bind_some,wL is]
   rfl
theorem B1 {α:Type} {n i:Nat} {f:Nat->α} {d:α} (h:i < n):((List.range n).map f).getD i d=f i:=by
 rw [List.getD_eq_getElem?_getD,List.getElem?_map,List.getElem?_range h]
 rfl
theorem Ej {n c:Nat} {z:Nat->Nat->Int} (hn:n<=7) (hz:∀ i < n,∀ j < n,(z i j).natAbs<=2 ^ c) (hc:n * (c + 3)<=3800) (hc':c<=3800):∃ d:Int,qF [gz n z]=.ok (.int d)/\(d:Rat)=det n λi j=>(z i j:Rat):=by
 obtain ⟨d,h1,h2⟩:=GY (n:=n) (b:=c) (M:=λi j=>(z i j:Rat)) (Ms:=(List.range n).map λi=>(List.range n).map (z i)) hn (by rw [List.length_map,List.length_range]) (λr hr=>by
   obtain ⟨i,hi,rfl⟩:=List.mem_map.mp hr
   refine ⟨by rw [List.length_map,List.length_range],λx hx=>?_⟩
   obtain ⟨j,hj,rfl⟩:=List.mem_map.mp hx
   exact hz i (List.mem_range.mp hi) j (List.mem_range.mp hj)) (λi hi j hj=>by rw [B1 hi,B1 hj]) hc hc'
 refine ⟨d,?_,h2⟩
 show mx [.lst ((List.range n).map λi=>vec n (z i))]=_
 simp only [mx]
 rw [wL,Option.bind_some,h1]
theorem BF (i:Int):pU [.int i]=.ok (.bl true):=pd _ rfl
theorem FE {x:Rat} {t b:Int} {c d:Nat} (h:Sz 400000 8900 x) (ht:t.natAbs<=2 ^ c) (hb:b.natAbs<=2 ^ d) (hc:c<=900000) (hd:d<=900000) (e:x.num * b=t * ((x.den:Nat):Int)):eF [fq x,.int t,.int b]=.ok (.bl true):=by
 have lo:=ED x
 have g:((Int.gcd x.num ((x.den:Nat):Int):Nat):Int)=1:=by rw [lo.cop]; rfl
 rw [lY,bN]
 refine cD (step (skip (own':=[]) (gJ (dD (b:=true) (vN (ab rfl) rfl)) (gJ (a7 (bi1 (fG _) (ab rfl)) aB rfl) (gJ (dD (fF (BF _) (fr0 (ab rfl)))) (dD (fF (BF _) (fr1 (ab rfl))))))) rfl) (step (skip (own':=[]) (gJ (a7 (fr1 (ab rfl)) aB ?_) (a7 (call2 (E2 _ _) (fr0 (ab rfl)) (fr1 (ab rfl))) aB ?_)) rfl) (bK (a7 (aG (fr0 (ab rfl)) (ab rfl) (mo h.num hb (by decide) hd)) (aG (ab rfl) (fr1 (ab rfl)) (mo ht (lA h) hc (by decide))) ?_))))
 · rw [gP,decide_eq_false (by have:=lo.pos; omega)]
 · rw [bA,g]; rfl
 · rw [a6,decide_eq_true e]
section
variable {n a b c d:Nat} {A C:Nat->Nat->Rat}
noncomputable def wF:List S:=[.set (.nm 8) (.op .mul (.ix (.ix (.ix (.var 0) (.var 3)) (.var 7)) (.cI 1)) (.ix (.ix (.ix (.var 1) (.var 7)) (.var 4)) (.cI 1))),.set (.nm 9) (.op .mul (.ix (.ix (.ix (.var 0) (.var 3)) (.var 7)) (.cI 0)) (.ix (.ix (.ix (.var 1) (.var 7)) (.var 4)) (.cI 0))),.set (.nm 5) (.op .add (.op .mul (.var 5) (.var 8)) (.op .mul (.var 9) (.var 6))),.set (.nm 6) (.op .mul (.var 6) (.var 8))]
noncomputable def uY (n:Nat) (A C:Nat->Nat->Rat) (r3 r4 r5 r6 r7 r8 r9:Option T):ak:=[some (gq n n A),some (gq n n C),some (.int (n:Nat)),r3,r4,r5,r6,r7,r8,r9]
theorem AX {N i j:Nat} {r7 r8 r9:Option T} (hn:n<=7) (hA:∀ i < n,∀ j < n,Sz a b (A i j)) (hC:∀ i < n,∀ j < n,Sz c d (C i j)) (hE:7 * (a + b + c + d + 1)<=400000) (hi:i < n) (hj:j < n):∃ (t u:Int) (s7 s8 s9:Option T),(t:Rat)=ah (λk=>A i k * C k j) n * (u:Rat)/\u.natAbs<=2 ^ (7 * (a + b + c + d + 1)) /\
   cx (bM dI dM ⟨dE,[],0⟩ N (.nm 7) wF) ((List.range n).map λ(k:Nat)=>.int (k:Nat)) (uY n A C (some (.int (i:Nat))) (some (.int (j:Nat))) (some (.int 0)) (some (.int 1)) r7 r8 r9) []=.ok (.nx (uY n A C (some (.int (i:Nat))) (some (.int (j:Nat))) (some (.int t)) (some (.int u)) s7 s8 s9) []):=by
 obtain ⟨τ',e,t,u,r7',r8',r9',e1,e2,e3,eτ⟩:=mj (n:=n) (g:=λ(k:Nat)=>.int (k:Nat)) (own:=[]) (f:=bM dI dM ⟨dE,[],0⟩ N (.nm 7) wF)
   (λk τ=>∃ (t u:Int) (r7 r8 r9:Option T),(t:Rat)=ah (λk=>A i k * C k j) k * (u:Rat)/\t.natAbs<=2 ^ (k * (a + b + c + d + 1))/\u.natAbs<=2 ^ (k * (a + b + c + d + 1))/\τ=uY n A C (some (.int (i:Nat))) (some (.int (j:Nat))) (some (.int t)) (some (.int u)) r7 r8 r9)
   (λk hk τ ⟨t,u,r7,r8,r9,e1,e2,e3,eτ⟩=>by
     subst eτ
     have sA:=hA i hi k hk
     have sC:=hC k hk j hj
     have kE:k * (a + b + c + d + 1)<=7 * (a + b + c + d + 1):=Nat.mul_le_mul_right _ (by omega)
     have pb:((((A i k).den:Nat):Int) * (((C k j).den:Nat):Int)).natAbs<=2 ^ (b + d):=by rw [Int.natAbs_mul,Nat.pow_add]; exact Nat.mul_le_mul (lA sA) (lA sC)
     have mb:((A i k).num * (C k j).num).natAbs<=2 ^ (a + c):=by rw [Int.natAbs_mul,Nat.pow_add]; exact Nat.mul_le_mul sA.num sC.num
     have up:∀ x y z:Nat,x<=y->2 ^ x * 2 ^ z<=2 ^ (y + z):=λx y z h=>by rw [<- Nat.pow_add]; exact Nat.pow_le_pow_right (by decide) (by omega)
     refine ⟨_,cM rfl rfl (step (eV (aG (fr1 (wO rfl rfl rfl hi hk)) (fr1 (wO rfl rfl rfl hk hj)) (mo (lA sA) (lA sC) (by omega) (by omega))) rfl rfl) (step (eV (aG (fr0 (wO rfl rfl rfl hi hk)) (fr0 (wO rfl rfl rfl hk hj)) (mo sA.num sC.num (by omega) (by omega))) rfl rfl) (step (eV (vo (aG (ab rfl) (ab rfl) (mo e2 pb (by omega) (by omega))) (aG (ab rfl) (ab rfl) (mo mb e3 (by omega) (by omega)))) rfl rfl) (step (eV (aG (ab rfl) (ab rfl) (mo e3 pb (by omega) (by omega))) rfl rfl) (ax ..))))),_,_,_,_,_,?_,?_,?_,rfl⟩
     · rw [ah,Rat.intCast_add,Rat.intCast_mul,Rat.intCast_mul,Rat.intCast_mul,Rat.intCast_mul,Rat.intCast_mul,e1,<- kf (A i k),<- kf (C k j)]
       grind
     · rw [Nat.succ_mul]
       have t1:(t * ((((A i k).den:Nat):Int) * (((C k j).den:Nat):Int))).natAbs<=2 ^ (k * (a + b + c + d + 1) + (a + b + c + d)):=by
         rw [Int.natAbs_mul]
         exact Nat.le_trans (Nat.mul_le_mul e2 pb) (by rw [<- Nat.pow_add]; exact Nat.pow_le_pow_right (by decide) (by omega))
       have t2:((A i k).num * (C k j).num * u).natAbs<=2 ^ (k * (a + b + c + d + 1) + (a + b + c + d)):=by
         rw [Int.natAbs_mul]
         exact Nat.le_trans (Nat.mul_le_mul mb e3) (by rw [<- Nat.pow_add]; exact Nat.pow_le_pow_right (by decide) (by omega))
       have:=Int.natAbs_add_le (t * ((((A i k).den:Nat):Int) * (((C k j).den:Nat):Int))) ((A i k).num * (C k j).num * u)
       rw [show k * (a + b + c + d + 1) + (a + b + c + d + 1)=k * (a + b + c + d + 1) + (a + b + c + d) + 1 by omega,Nat.pow_succ]
       omega
     · rw [Nat.succ_mul,Int.natAbs_mul]
       exact Nat.le_trans (Nat.mul_le_mul e3 pb) (by rw [<- Nat.pow_add]; exact Nat.pow_le_pow_right (by decide) (by omega)))
   (τ:=uY n A C (some (.int (i:Nat))) (some (.int (j:Nat))) (some (.int 0)) (some (.int 1)) r7 r8 r9) ⟨0,1,r7,r8,r9,by rw [ah,Rat.zero_mul]; rfl,Nat.zero_le _,Nat.one_le_two_pow,rfl⟩
 subst eτ
 exact ⟨t,u,r7',r8',r9',e1,Nat.le_trans e3 (Nat.pow_le_pow_right (by decide) (Nat.mul_le_mul_right _ hn)),e⟩
theorem nN (h1:1<=n) (hn:n<=7) (hA:∀ i < n,∀ j < n,Sz a b (A i j)) (hC:∀ i < n,∀ j < n,Sz c d (C i j)) (hE:7 * (a + b + c + d + 1)<=400000) (h:Inv n A C):dJ [gq n n A,gq n n C]=.ok (.bl true):=by
 rw [nO,cR]
 obtain ⟨τ',e,r3,r4,r5,r6,r7,r8,r9,eτ⟩:=mj (n:=n) (g:=λ(k:Nat)=>.int (k:Nat)) (own:=[]) (f:=bM dI dM ⟨dE,[],0⟩ (aN [gq n n A,gq n n C]) (.nm 3) [.for (.nm 4) (.rng (.var 2)) [.set (.nm 5) (.cI 0),.set (.nm 6) (.cI 1),.for (.nm 7) (.rng (.var 2)) wF,.ite (.cmp .ne (.var 5) (.op .mul (.bi .int [(.cmp .eq (.var 3) (.var 4))]) (.var 6))) [.ret (.cB false)] []]])
   (λ_ τ=>∃ r3 r4 r5 r6 r7 r8 r9,τ=uY n A C r3 r4 r5 r6 r7 r8 r9)
   (λi hi τ ⟨r3,r4,r5,r6,r7,r8,r9,eτ⟩=>by
     subst eτ
     obtain ⟨τ',e,r4',r5',r6',r7',r8',r9',eτ⟩:=mj (n:=n) (g:=λ(k:Nat)=>.int (k:Nat)) (own:=[]) (f:=bM dI dM ⟨dE,[],0⟩ (aN [gq n n A,gq n n C]) (.nm 4) [.set (.nm 5) (.cI 0),.set (.nm 6) (.cI 1),.for (.nm 7) (.rng (.var 2)) wF,.ite (.cmp .ne (.var 5) (.op .mul (.bi .int [(.cmp .eq (.var 3) (.var 4))]) (.var 6))) [.ret (.cB false)] []])
       (λ_ τ=>∃ r4 r5 r6 r7 r8 r9,τ=uY n A C (some (.int (i:Nat))) r4 r5 r6 r7 r8 r9)
       (λj hj τ ⟨r4,r5,r6,r7,r8,r9,eτ⟩=>by
         subst eτ
         obtain ⟨t,u,s7,s8,s9,e1,e2,e3⟩:=AX (N:=aN [gq n n A,gq n n C]) (r7:=r7) (r8:=r8) (r9:=r9) hn hA hC hE hi hj
         rw [h i hi j hj] at e1
         have bb:(if decide (((i:Nat):Int)=((j:Nat):Int)) then (1:Int) else 0).natAbs<=2 ^ 1:=by cases decide (((i:Nat):Int)=((j:Nat):Int)) <;> decide
         have et:t=(if decide (((i:Nat):Int)=((j:Nat):Int)) then (1:Int) else 0) * u:=by
           by_cases z:i=j
           · rw [if_pos z,Rat.one_mul] at e1
             rw [decide_eq_true (by omega),Rat.intCast_inj.mp e1]
             exact (Int.one_mul _).symm
           · rw [if_neg z,Rat.zero_mul] at e1
             rw [decide_eq_false (by omega)]
             have:t=0:=Rat.intCast_inj.mp (e1.trans rfl)
             rw [this]
             exact (Int.zero_mul _).symm
         refine ⟨_,cM rfl rfl (step (eV aB rfl rfl) (step (eV aB rfl rfl) (step (iO (own':=[]) (gp (ab rfl) (by omega)) rfl e3) (step (skip (own':=[]) (a7 (ab rfl) (aG (bi1 (CK _) (a7 (ab rfl) (ab rfl) (a6 _ _))) (ab rfl) (mo bb e2 (by decide) (by omega))) ?_) rfl) (ax ..))))),_,_,_,_,_,_,rfl⟩
         rw [bA,decide_eq_true et]
         rfl)
       (τ:=uY n A C (some (.int (i:Nat))) r4 r5 r6 r7 r8 r9) ⟨r4,r5,r6,r7,r8,r9,rfl⟩
     subst eτ
     exact ⟨_,cM rfl rfl (step (iO (own':=[]) (gp (ab rfl) (by omega)) rfl e) (ax ..)),_,_,_,_,_,_,_,rfl⟩)
   (τ:=uY n A C none none none none none none none) ⟨_,_,_,_,_,_,_,rfl⟩
 subst eτ
 exact (congrArg (bp _) (step (eV (bi1 (eP n λi=>line n λj=>fq (A i j)) (ab rfl)) rfl rfl) (step (iO (own':=[]) (gp (ab rfl) (by omega)) rfl e) (bK (iP _ _ _))))).trans (bI _ _)
end
theorem AW {x:Rat} {a b:Nat} (h:Sz a b x) (ha:a<=400000) (hb:b<=8900):eF [fq x,.int x.num,.int ((x.den:Nat):Int)]=.ok (.bl true):=
 FE (h.mono ha hb) h.num (lA h) (by omega) (by omega) rfl
theorem all_true:∀ l:List Nat,mX (l.map λ_=>.bl true)=some true
 | []=>rfl
 | _ :: l=>by rw [List.map_cons,mX,all_true l]; rfl
section
variable {n a b:Nat} {R:Nat->Nat->Rat}
theorem uc (hn:n<=7) (hR:∀ i < n,∀ j < n,Sz a b (R i j)) (ha:a<=400000) (hb:b<=8900):dZ [gq n n R,.int (n:Nat)]=.ok (.bl true):=by
 rw [mS,cb]
 have ne:zC .ne (.int (n:Nat)) (.int (n:Nat))=some false:=by rw [bA,decide_eq_true rfl]; rfl
 obtain ⟨τ',e,r2,eτ⟩:=mj (n:=n) (g:=λi=>line n λj=>fq (R i j)) (own:=[]) (f:=bM e8 iw ⟨hV,[],0⟩ (aN [gq n n R,.int (n:Nat)]) (.nm 2) [.ite (.or (.not (.isi (.var 2) .list)) (.cmp .ne (.bi .len [(.var 2)]) (.var 1))) [.ret (.cB false)] [],.ite (.not (.bi .all [(.comp [none] (.nm 0) (.seq (.var 2)) [] (.call 29 [(.var 0),(.ix (.var 0) (.cI 0)),(.ix (.var 0) (.cI 1))]))])) [.ret (.cB false)] []])
   (λ_ τ=>∃ r2,τ=[some (gq n n R),some (.int (n:Nat)),r2])
   (λi hi τ ⟨r2,eτ⟩=>by
     subst eτ
     have isn:∀ j < n,e8 29 [fq (R i j),.int (R i j).num,.int (((R i j).den:Nat):Int)]=.ok (.bl true):=λj hj=>AW (hR i hi j hj) ha hb
     refine ⟨_,cM rfl rfl (step (skip (own':=[]) (gJ (dD (b:=true) (vN (ab rfl) rfl)) (a7 (bi1 (eP n λj=>fq (R i j)) (ab rfl)) (ab rfl) ne)) rfl) (step (skip (own':=[]) (dD (b:=true) (bi1 (x:=.lst ((List.range n).map λ_=>.bl true)) ?_ (bW (j9 (n:=n) (G:=λj=>fq (R i j)) (ab rfl)) (by rw [List.length_map,List.length_range]; exact cH hn) (bt _ λj hj=>b7 rfl (EL (isn j (List.mem_range.mp hj)) (ab rfl) (fr0 (ab rfl)) (fr1 (ab rfl))))))) rfl) (ax ..))),_,rfl⟩
     show (match mX _ with | some b=>_ | none=>_)=_
     rw [all_true])
   (τ:=[some (gq n n R),some (.int (n:Nat)),none]) ⟨none,rfl⟩
 subst eτ
 exact (congrArg (bp _) (step (skip (own':=[]) (gJ (dD (b:=true) (vN (ab rfl) rfl)) (a7 (bi1 (eP n λi=>line n λj=>fq (R i j)) (ab rfl)) (ab rfl) ne)) rfl) (step (iO (own':=[]) (j9 (n:=n) (ab rfl)) rfl e) (bK (iP _ _ _))))).trans (bI _ _)
end
section
variable {Ψ ΨM:FnT} {X:Fx} {N v:Nat} {τ τ':ak} {e a i:E} {own own':Own}
noncomputable def upd (M:Nat->Nat->Rat) (p q:Nat) (x:Rat) (i j:Nat):Rat:=if i=p/\j=q then x else M i j
theorem G5 {m w p q:Nat} {M:Nat->Nat->Rat} {x:Rat} (ho:dn (gP2 X.μ e a i) own=own') (hl:bz own' v=2) (he:yE Ψ e τ=.ok (fq x)) (hv:aC τ v=.ok (gq m w M)) (ha:yE Ψ a τ=.ok (.int (p:Nat))) (hi:yE Ψ i τ=.ok (.int (q:Nat))) (hp:p < m) (hq:q < w) :
   yS Ψ ΨM X N (.put (.ix (.var v) a) i e) τ own=.ok (.nx (τ.set v (some (gq m w (upd M p q x)))) own'):=by
 have l1:ef (.ok (gq m w M))=some ((List.range m).map λi=>line w λj=>fq (M i j)):=rfl
 have l2:(((List.range m).map λi=>line w λj=>fq (M i j))[p]?.bind iV)=some ((List.range w).map λj=>fq (M p j)):=by
   rw [List.getElem?_map,List.getElem?_range hp]
   rfl
 rw [Dr,ho,if_pos hl,he,Ou.aa,hv,l1,aF,ha,Ou.aa,show intOf (.int (p:Nat))=some ((p:Nat):Int) from rfl,aF,List.length_map,List.length_range,vH hp,aF,l2,aF,hi,Ou.aa,sO,
   show intOf (.int (q:Nat))=some ((q:Nat):Int) from rfl,aF,List.length_map,List.length_range,vH hq,aF,xF,xF]
 congr 4
 refine fI λi _=>?_
 by_cases h:i=p
 · subst h
   rw [if_pos rfl]
   refine fI λj _=>?_
   show _=fq (if i=i/\j=q then x else M i j)
   by_cases g:j=q
   · rw [if_pos g,if_pos ⟨rfl,g⟩]
   · rw [if_neg g,if_neg λz=>g z.2]
 · rw [if_neg h]
   refine fI λj _=>?_
   simp only [upd]
   rw [if_neg λz=>h z.1]
end
theorem zo {Ψ:FnT} {τ:ak} {v k:Nat} {rs:List Int} {r:Int} (h:aC τ v=.ok (inT rs)) (hr:(rs.map T.int)[k]?=some (.int r)):yE Ψ (.ix (.var v) (.cI ((k:Nat):Int))) τ=.ok (.int r):=fT (ab h) aB (iZ hr)
theorem sz0 {a b:Nat}:Sz a b 0:=⟨Nat.zero_le _,Nat.one_le_two_pow⟩
theorem Hw {k:Nat} (hk:k < 3) (p:Int):∃ q:Rat,bJ [.int (k:Nat),.int p]=.ok (fq q)/\Sz 4 3 q:=by
 match k,hk with
 | 0,_=>exact Hx
 | 1,_=>exact num_1.imp λq h=>⟨h.1,h.2.mono (by decide) (by decide)⟩
 | 2,_=>exact Ic
structure Fn (n a b:Nat):Prop where
 n1:1<=n
 n7:n<=7
 ha:a<=8900
 hb:b<=8900
 hc:n * b<=8900
 hB:n * (a + n * b + 3)<=3800
 hB2:n * ((n + 1) * (a + n * b + 3) + n * b + 3)<=8900
 hE:7 * (a + b + ((n + 1) * (a + n * b + 3) + n * b) + n * (a + n * b + 3) + 1)<=400000
theorem JB {n:Nat} (h1:1<=n) (h7:n<=7):Fn n 4 3:=by
 have:n=1\/n=2\/n=3\/n=4\/n=5\/n=6\/n=7:=by omega
 rcases this with rfl | rfl | rfl | rfl | rfl | rfl | rfl <;> exact ⟨by decide,by decide,by decide,by decide,by decide,by decide,by decide,by decide⟩
theorem JJ {n:Nat} (h1:1<=n) (h3:n<=3):Fn n 133 133:=by
 have:n=1\/n=2\/n=3:=by omega
 rcases this with rfl | rfl | rfl <;> exact ⟨by decide,by decide,by decide,by decide,by decide,by decide,by decide,by decide⟩
theorem Jz {Ψ:FnT} {τ:ak} {e e':E} {x y:Bool} (he:yE Ψ e τ=.ok (.bl x)) (he':yE Ψ e' τ=.ok (.bl y)):yE Ψ (.or e e') τ=.ok (.bl (x || y)):=by
 cases x with
 | true=>rw [jg,he,Ou.aa]; rfl
 | false=>exact (gJ he he').trans rfl
theorem IJ {Ψ:FnT} {τ:ak} {e e':E} {x y:Bool} (he:yE Ψ e τ=.ok (.bl x)) (he':yE Ψ e' τ=.ok (.bl y)):yE Ψ (.and e e') τ=.ok (.bl (x && y)):=by
 cases x with
 | true=>exact (G9 he he').trans rfl
 | false=>rw [gg,he,Ou.aa,ph]; rfl
theorem rR {Ψ ΨM:FnT} {μ:Nat->Md} {need:List Nat} {N lv i:Nat} {τ:ak} {c e:E} {b:Bool} {x y:T} (hc:yE Ψ c τ=.ok (.bl b)) (he:yE Ψ e τ=.ok y) (hm:kZ ⟨μ,need,lv⟩ e=false) (hx:b=false->τ.set i (some x)=τ) (hy:b=true->x=y) (ho:cA ⟨μ,need,lv⟩ [] (.nm i) e y τ=[]):yS Ψ ΨM ⟨μ,need,lv⟩ N (.ite c [.set (.nm i) e] []) τ []=.ok (.nx (τ.set i (some x)) []):=by
 cases b with
 | true=>
   rw [hy rfl]
   exact (mI (own':=[]) hc rfl).trans ((if_pos rfl).trans (step (dX (own':=[]) hm he rfl ho) (ax ..)))
 | false=>
   rw [hx rfl]
   exact skip (own':=[]) hc rfl
theorem Cd (c:Int) (g:Bool):∃ (n a b:Nat) (G:Nat->Nat->Rat),Fn n a b/\(∀ i j,Sz a b (G i j))/\jv [.int c,.bl g]=.ok (gq n n G):=by
 obtain ⟨cr,er⟩:=DV c 1536 (by decide) (by decide)
 rw [<- la] at er
 obtain ⟨rs,dg,en⟩:=CD (Ψ:=bD) (i:=0) rfl c [8,4,3,4,4] (by
   intro b hb
   simp only [List.mem_cons,List.not_mem_nil,or_false] at hb
   rcases hb with rfl | rfl | rfl | rfl | rfl <;> decide) (by decide)
 match rs,dg with
 | [q0,q1,q2,q3,q4],dg=>
   obtain ⟨d0,d1,d2,d3,d4,_⟩:=dg
   have l5:∀ τ,yE bD (.lst [(.cI 8),(.cI 4),(.cI 3),(.cI 4),(.cI 4)]) τ=.ok (inT [8,4,3,4,4]):=λτ=>by
     simp only [oO,ag,b8,au,Ou.aa]
     rfl
   obtain ⟨m,hm⟩:∃ m:Int,m=if (decide (q0=1) && g)=true then 5 + q2 else 1 + q1:=⟨_,rfl⟩
   obtain ⟨k,hk⟩:∃ k:Int,k=if (decide (q0=1) || !g)=true then q3 % 3 else q3:=⟨_,rfl⟩
   obtain ⟨n,hn⟩:∃ n:Int,n=if k=3 then min m 3 else m:=⟨_,rfl⟩
   have m1:1<=m/\m<=7:=by rw [hm]; split <;> omega
   have k4:0<=k/\k < 4:=by rw [hk]; split <;> omega
   obtain ⟨N,rfl⟩:∃ N:Nat,n=(N:Nat):=⟨n.toNat,by rw [hn]; split <;> omega⟩
   obtain ⟨K,rfl⟩:∃ K:Nat,k=(K:Nat):=⟨k.toNat,by omega⟩
   obtain ⟨a,b,f,nu⟩:∃ a b,Fn N a b/\∀ p:Int,∃ q:Rat,bJ [.int (K:Nat),.int p]=.ok (fq q)/\Sz a b q:=by
     by_cases z:K=3
     · subst z
       rw [if_pos (show ((3:Nat):Int)=3 from rfl)] at hn
       exact ⟨133,133,JJ (by omega) (by omega),λp=>Il⟩
     · rw [if_neg (by omega)] at hn
       exact ⟨4,3,JB (by omega) (by omega),Hw (by omega)⟩
   obtain ⟨A,hA,tA⟩:=table_at cr N N f.n7 f.n7 (k:=K) (by omega) nu
   rw [<- ko] at tA
   have s4:∀ M,yS bD ez ⟨cQ,[5],0⟩ M (.ite (.and (.cmp .eq (.ix (.var 2) (.cI 0)) (.cI 1)) (.var 1)) [.set (.nm 3) (.op .add (.cI 5) (.ix (.var 2) (.cI 2)))] []) [some (.int c),some (.bl g),some (inT [q0,q1,q2,q3,q4]),some (.int (1 + q1)),some (.int q3),none,none] []=.ok (.nx [some (.int c),some (.bl g),some (inT [q0,q1,q2,q3,q4]),some (.int m),some (.int q3),none,none] []):=λM=>
     rR (i:=3) (x:=.int m) (IJ (a7 (zo (k:=0) rfl rfl) aB (a6 _ _)) (ab rfl)) (vo aB (zo (k:=2) rfl rfl)) rfl (λy=>by rw [hm,y]; rfl) (λy=>by rw [hm,y]; rfl) rfl
   have s5:∀ M,yS bD ez ⟨cQ,[5],0⟩ M (.ite (.or (.cmp .eq (.ix (.var 2) (.cI 0)) (.cI 1)) (.not (.var 1))) [.set (.nm 4) (.op .mod (.var 4) (.cI 3))] []) [some (.int c),some (.bl g),some (inT [q0,q1,q2,q3,q4]),some (.int m),some (.int q3),none,none] []=.ok (.nx [some (.int c),some (.bl g),some (inT [q0,q1,q2,q3,q4]),some (.int m),some (.int (K:Nat)),none,none] []):=λM=>
     rR (i:=4) (x:=.int (K:Nat)) (Jz (a7 (zo (k:=0) rfl rfl) aB (a6 _ _)) (dD (ab rfl))) (aG (ab rfl) aB (j1 _ 3)) rfl (λy=>by rw [hk,y]; rfl) (λy=>by rw [hk,y]; rfl) rfl
   have s6:∀ M,yS bD ez ⟨cQ,[5],0⟩ M (.ite (.cmp .eq (.var 4) (.cI 3)) [.set (.nm 3) (.bi .min [(.var 3),(.cI 3)])] []) [some (.int c),some (.bl g),some (inT [q0,q1,q2,q3,q4]),some (.int m),some (.int (K:Nat)),none,none] []=.ok (.nx [some (.int c),some (.bl g),some (inT [q0,q1,q2,q3,q4]),some (.int (N:Nat)),some (.int (K:Nat)),none,none] []):=λM=>
     rR (i:=3) (x:=.int (N:Nat)) (a7 (ab rfl) aB (a6 _ _)) (y:=.int (min m 3)) (by rw [bS,ag,ab rfl,Ou.aa,ag,b8,Ou.aa,au,Ou.aa,Ou.aa,Ou.aa,Ao]) rfl (λy=>by rw [hn,if_neg (of_decide_eq_false y)]; rfl) (λy=>by rw [hn,if_pos (of_decide_eq_true y)]) rfl
   have ow:cA ⟨cQ,[5],0⟩ [] (.nm 5) (.call 4 [(.call 5 [(.var 0),(.cI 1536)]),(.var 3),(.var 3),(.var 4)]) (gq N N A) [some (.int c),some (.bl g),some (inT [q0,q1,q2,q3,q4]),some (.int (N:Nat)),some (.int (K:Nat)),none,none]=[(5,2)]:=by
     have l:lvT (gq N N A)=2:=iU _ _ _
     unfold cA
     simp only [l]
     rfl
   have n7:=f.n7
   obtain ⟨G,r6,hG,s8⟩:∃ (G:Nat->Nat->Rat) (r6:Option T),(∀ i j,Sz a b (G i j))/\yS bD ez ⟨cQ,[5],0⟩ (aN [.int c,.bl g]) (.ite (.cmp .eq (.ix (.var 2) (.cI 4)) (.cI 1)) [.for (.nm 6) (.rng (.var 3)) [.put (.ix (.var 5) (.var 6)) (.var 6) (.tup [(.cI 0),(.cI 1)])]] []) [some (.int c),some (.bl g),some (inT [q0,q1,q2,q3,q4]),some (.int (N:Nat)),some (.int (K:Nat)),some (gq N N A),none] [(5,2)]=.ok (.nx [some (.int c),some (.bl g),some (inT [q0,q1,q2,q3,q4]),some (.int (N:Nat)),some (.int (K:Nat)),some (gq N N G),r6] [(5,2)]):=by
     have e1:yE bD (.cmp .eq (.ix (.var 2) (.cI 4)) (.cI 1)) [some (.int c),some (.bl g),some (inT [q0,q1,q2,q3,q4]),some (.int (N:Nat)),some (.int (K:Nat)),some (gq N N A),none]=.ok (.bl (decide (q4=1))):=a7 (zo (k:=4) rfl rfl) aB (a6 _ _)
     by_cases z:q4=1
     · rw [decide_eq_true z] at e1
       obtain ⟨τ',e,G,r6,hG,eτ⟩:=mj (n:=N) (g:=λ(i:Nat)=>.int (i:Nat)) (own:=[(5,2)]) (f:=bM bD ez ⟨cQ,[5],0⟩ (aN [.int c,.bl g]) (.nm 6) [.put (.ix (.var 5) (.var 6)) (.var 6) (.tup [(.cI 0),(.cI 1)])])
         (λ_ τ=>∃ (G:Nat->Nat->Rat) (r6:Option T),(∀ i j,Sz a b (G i j))/\τ=[some (.int c),some (.bl g),some (inT [q0,q1,q2,q3,q4]),some (.int (N:Nat)),some (.int (K:Nat)),some (gq N N G),r6])
         (λi hi τ ⟨G,r6,hG,eτ⟩=>by
           subst eτ
           refine ⟨_,cM (own':=[(5,2)]) rfl rfl (step (G5 (X:=⟨cQ,[5],0⟩) (own':=[(5,2)]) (m:=N) (w:=N) (p:=i) (q:=i) (x:=0) (M:=G) rfl rfl ((oV aB aB).trans (congrArg Ou.ok (AU (x:=0) rfl rfl))) rfl (ab rfl) (ab rfl) hi hi) (ax ..)),upd G i i 0,some (.int (i:Nat)),λp q=>?_,rfl⟩
           unfold upd
           split
           · exact sz0
           · exact hG p q)
         (τ:=[some (.int c),some (.bl g),some (inT [q0,q1,q2,q3,q4]),some (.int (N:Nat)),some (.int (K:Nat)),some (gq N N A),none]) ⟨A,none,hA,rfl⟩
       subst eτ
       exact ⟨G,r6,hG,(mI (own':=[(5,2)]) e1 rfl).trans ((if_pos rfl).trans (step (iO (own':=[(5,2)]) (gp (ab rfl) (by omega)) rfl e) (ax ..)))⟩
     · rw [decide_eq_false z] at e1
       exact ⟨A,none,hA,skip (own':=[(5,2)]) e1 rfl⟩
   refine ⟨N,a,b,G,f,hG,?_⟩
   rw [qI,eg]
   exact cD (step (dX (own':=[]) rfl (call2 en (ab rfl) (l5 _)) rfl rfl) (step (dX (own':=[]) rfl (vo aB (zo (k:=1) rfl rfl)) rfl rfl) (step (dX (own':=[]) rfl (zo (k:=3) rfl rfl) rfl rfl) (step (s4 _) (step (s5 _) (step (s6 _) (step (dX (own':=[(5,2)]) rfl (E9 tA (call2 er (ab rfl) aB) (ab rfl) (ab rfl) (ab rfl)) rfl ow) (step s8 (bK (ab rfl))))))))))
noncomputable def Ab:List S:=[.set (.nm 3) (.comp [none] (.nm 0) (.seq (.var 2)) [] (.bi .list [(.var 0)])),.set (.nm 4) (.call 26 [(.var 2)]),.ite (.or (.not (.call 30 [(.var 4),(.bi .len [(.var 2)])])) (.cmp .ne (.var 2) (.var 3))) [.ret (.cB false)] [],.ite (.or (.not (.call 31 [(.var 4),(.var 2)])) (.or (.not (.call 31 [(.var 2),(.var 4)])) (.cmp .ne (.call 26 [(.var 4)]) (.var 2)))) [.ret (.cB false)] [],.set (.nm 5) (.comp [none] (.nm 0) (.seq (.var 4)) [] (.bi .list [(.var 0)])),.mth .clear (.ix (.var 4) (.cI 0)) [],.mth .pop (.var 4) [],.ite (.or (.cmp .ne (.call 26 [(.var 2)]) (.var 5)) (.cmp .ne (.var 2) (.var 3))) [.ret (.cB false)] []]
noncomputable def A1:List S:=[.set (.nm 2) (.call 6 [(.call 7 [(.var 0),(.var 1)]),(.cmp .eq (.var 1) (.cI 0))]),.ite (.cmp .ne (.call 8 [(.ix (.call 27 [(.var 2)]) (.cI 0))]) (.cI 0)) Ab []]
theorem BD:lX=[.for (.nm 1) (.rng (.bi .max [(.cI 1),(.bi .min [(.cI 8),(.bi .len [(.var 0)])])])) A1,.ret (.cB true)]:=rfl
theorem JE {Ψ ΨM:FnT} {X:Fx} {N v m:Nat} {τ:ak} {own own':Own} {F:Nat->T} {ys:List T} (ho:dn (gM2 X.μ (.cI 0) []) own=own') (hl:bz own' v=2) (hv:aC τ v=.ok (line m F)) (hm:1<=m) (hy:F 0=.lst ys):yS Ψ ΨM X N (.mth .clear (.ix (.var v) (.cI 0)) []) τ own=.ok (.nx (τ.set v (some (.lst (((List.range m).map F).set 0 (.lst []))))) own'):=by
 have x0:((List.range m).map F)[0]?=some (.lst ys):=by rw [List.getElem?_map,List.getElem?_range hm,Option.map_some,hy]
 rw [Dm,hv,show ef (.ok (line m F))=some ((List.range m).map F) from rfl,aF,ho,if_pos hl,b8,Ou.aa,show intOf (.int 0)=some 0 from rfl,aF,List.length_map,List.length_range,show L2.ixN m 0=some 0 from vH (k:=0) hm,aF,x0]
 rfl
theorem Jf {Ψ ΨM:FnT} {X:Fx} {N v:Nat} {τ:ak} {own own' own2:Own} {x:T} {xs:List T} (ho:dn (gUL X.μ 0 []) own=own') (hl:0 < bz own' v) (h2:dn (λk lv=>k == v && lv == 2) own'=own2) (hv:aC τ v=.ok (.lst (x :: xs))):yS Ψ ΨM X N (.mth .pop (.var v) []) τ own=.ok (.nx (τ.set v (some (.lst (x :: xs).dropLast))) own2):=by
 rw [nL,hv,show ef (.ok (.lst (x :: xs)))=some (x :: xs) from rfl,aF,ho,if_pos hl,au,Ou.aa,sr,show zM .pop (x :: xs) []=some (x :: xs).dropLast from rfl,aF,h2]
section
variable {n a b:Nat} {F:Nat->Nat->Rat}
theorem D2 (f:Fn n a b) (hF:∀ i j,Sz a b (F i j)) (hd:det n F ≠ 0):∃ R:Nat->Nat->Rat,gH [gq n n F]=.ok (gq n n R)/\gH [gq n n R]=.ok (gq n n F)/\dZ [gq n n R,.int (n:Nat)]=.ok (.bl true)/\dJ [gq n n R,gq n n F]=.ok (.bl true)/\dJ [gq n n F,gq n n R]=.ok (.bl true):=by
 have sl:∀ i < n,(scl n (F i)).natAbs<=2 ^ (n * b):=λi hi=>vM λk hk=>(hF i k).den
 have hB:=f.hB
 have hB2:=f.hB2
 have hE:=f.hE
 obtain ⟨R,l,l0,hl,hz,hi,e1⟩:=p6 (a:=a) (b:=b) (B:=a + n * b) (c:=n * b) f.n1 f.n7 (λi _ j _=>hF i j) (by have:=f.ha; omega) f.hb (λi hi j hj=>EO (hF i j).num (sl i hi)) sl f.hc (by omega) hd
 have inv:Inv n F R:=hi
 have sR:∀ i < n,∀ j < n,Sz ((n + 1) * (a + n * b + 3) + n * b) (n * (a + n * b + 3)) (R i j):=λi hi j hj=>GV l0 hl (hz i hi j hj)
 have b1:(n + 1) * (a + n * b + 3) + n * b + 3<=n * ((n + 1) * (a + n * b + 3) + n * b + 3):=Nat.le_mul_of_pos_left _ f.n1
 obtain ⟨S,_,_,_,_,hi2,e2⟩:=p6 (a:=(n + 1) * (a + n * b + 3) + n * b) (b:=n * (a + n * b + 3)) (B:=(n + 1) * (a + n * b + 3) + n * b) (c:=n * (a + n * b + 3)) f.n1 f.n7 sR (by omega) (by omega) (λi hi j hj=>(xm l0 hl (hz i hi)).2 j hj) (λi hi=>(xm (B:=(n + 1) * (a + n * b + 3) + n * b) l0 hl (hz i hi)).1) (by omega) hB2 inv.det
 have eS:gq n n S=gq n n F:=pg λi hi j hj=>by rw [(Inv.uniq inv.det hi2 (inv.symm hd)) i hi j hj]
 rw [eS] at e2
 exact ⟨R,e1,e2,uc f.n7 sR (by omega) (by omega),nN f.n1 f.n7 sR (λi _ j _=>hF i j) (by omega) (inv.symm hd),nN f.n1 f.n7 (λi _ j _=>hF i j) sR (by omega) inv⟩
end
theorem E5 {Ψ ΨM:FnT} {X:Fx} {N:Nat} {τ τ':ak} {own own':Own} {t:Tg} {i m w:Nat} {F:Nat->Nat->Rat} (hm:m<=7) (h:aC τ i=.ok (gq m w F)) (ht:aJ t (gq m w F) τ=some τ') (ho:cA X own t (cpE i) (gq m w F) τ=own'):yS Ψ ΨM X N (.set t (.comp [none] (.nm 0) (.seq (.var i)) [] (.bi .list [(.var 0)]))) τ own=.ok (.nx τ' own'):=
 (I0 _ _ _ _ _ _ (DE hm h) (EF m w F)).trans (by rw [ht,bC,ho])
theorem Co (ns:List Int) (N k:Nat) (r1 r2 r3 r4 r5:Option T) (o:Own) (ho:o=[]\/o=[(4,1)]):∃ τ' o',bM eM mC ⟨i7,[4],0⟩ N (.nm 1) A1 (.int (k:Nat)) [some (inT ns),r1,r2,r3,r4,r5] o=.ok (.nx τ' o')/\(o'=[]\/o'=[(4,1)])/\∃ r1 r2 r3 r4 r5,τ'=[some (inT ns),r1,r2,r3,r4,r5]:=by
 obtain ⟨c,ec⟩:=Ec ns k
 rw [<- rV] at ec
 obtain ⟨n,a,b,F,f,hF,ed⟩:=Cd c (decide (((k:Nat):Int)=0))
 rw [<- pN] at ed
 have n7:=f.n7
 have n1:=f.n1
 have hB:=f.hB
 have c8:a + n * b + 3<=n * (a + n * b + 3):=Nat.le_mul_of_pos_left _ n1
 have lr:=Ag (m:=n) (w:=n) n7 n7 (λi _ j _=>hF i j) f.ha f.hc f.hb
 rw [<- rj] at lr
 have sl:∀ i < n,(scl n (F i)).natAbs<=2 ^ (n * b):=λi hi=>vM λk hk=>(hF i k).den
 obtain ⟨d,e1,e2⟩:=Ej (n:=n) (c:=a + n * b) (z:=wz n F) n7 (λi hi j hj=>EO (hF i j).num (sl i hi)) hB (by omega)
 rw [<- uI] at e1
 have key:(d:Rat)=det n F * ((jO (λr=>scl n (F r)) n:Int):Rat):=by
   rw [e2,ye,Rat.mul_comm,<- lM (n:=n) _ F n (Nat.le_refl _)]
   exact aE λr hr q hq=>by
     rw [if_pos hr]
     unfold wz
     rw [Hc ((oD n (F r)).2 _ hq),Rat.mul_comm]
 have cd:∀ r1 r3 r4 r5,yE eM (.cmp .ne (.call 8 [(.ix (.call 27 [(.var 2)]) (.cI 0))]) (.cI 0)) [some (inT ns),r1,some (gq n n F),r3,r4,r5]=.ok (.bl (!decide (d=0))):=λ_ _ _ _=>a7 (fF e1 (tu0 (fF lr (ab rfl)))) aB (bA _ _)
 have s2:yS eM mC ⟨i7,[4],0⟩ N (.set (.nm 2) (.call 6 [(.call 7 [(.var 0),(.var 1)]),(.cmp .eq (.var 1) (.cI 0))])) [some (inT ns),some (.int (k:Nat)),r2,r3,r4,r5] o=.ok (.nx [some (inT ns),some (.int (k:Nat)),some (gq n n F),r3,r4,r5] o):=by
   rcases ho with rfl | rfl <;> exact dX rfl (call2 ed (call2 ec (ab rfl) (ab rfl)) (a7 (ab rfl) aB (a6 _ _))) rfl rfl
 have fg:dn (frg (.nm 1)) o=o:=by rcases ho with rfl | rfl <;> rfl
 by_cases z:d=0
 · have cd':=cd (some (.int (k:Nat))) r3 r4 r5
   rw [decide_eq_true z] at cd'
   have s3:yS eM mC ⟨i7,[4],0⟩ N (.ite (.cmp .ne (.call 8 [(.ix (.call 27 [(.var 2)]) (.cI 0))]) (.cI 0)) Ab []) [some (inT ns),some (.int (k:Nat)),some (gq n n F),r3,r4,r5] o=.ok (.nx [some (inT ns),some (.int (k:Nat)),some (gq n n F),r3,r4,r5] o):=by
     rcases ho with rfl | rfl <;> exact skip cd' rfl
   exact ⟨_,o,cM rfl fg (step s2 (step s3 (ax ..))),ho,_,_,_,_,_,rfl⟩
 · have cd':=cd (some (.int (k:Nat))) r3 r4 r5
   rw [decide_eq_false z] at cd'
   have hd:det n F ≠ 0:=λy=>z (Rat.intCast_inj.mp (by rw [key,y,Rat.zero_mul]; rfl))
   obtain ⟨R,u1,u2,it,iu1,iu2⟩:=D2 f hF hd
   rw [<- qO] at u1 u2
   rw [<- lH] at it
   rw [<- mT] at iu1 iu2
   have cu:dn (gU i7 2 (.cmp .ne (.call 8 [(.ix (.call 27 [(.var 2)]) (.cI 0))]) (.cI 0))) o=o:=by rcases ho with rfl | rfl <;> rfl
   have s3:yS eM mC ⟨i7,[4],0⟩ N (.set (.nm 3) (.comp [none] (.nm 0) (.seq (.var 2)) [] (.bi .list [(.var 0)]))) [some (inT ns),some (.int (k:Nat)),some (gq n n F),r3,r4,r5] o=.ok (.nx [some (inT ns),some (.int (k:Nat)),some (gq n n F),some (gq n n F),r4,r5] o):=by
     rcases ho with rfl | rfl <;> exact E5 n7 rfl rfl rfl
   have ow:∀ o,o=[]\/o=[(4,1)]->cA ⟨i7,[4],0⟩ (dn (gU i7 0 (.call 26 [(.var 2)])) o) (.nm 4) (.call 26 [(.var 2)]) (gq n n R) [some (inT ns),some (.int (k:Nat)),some (gq n n F),some (gq n n F),r4,r5]=[(4,2)]:=λo ho=>by
     have l:lvT (gq n n R)=2:=iU _ _ _
     rcases ho with rfl | rfl <;> (unfold cA; simp only [l]; rfl)
   have blk:ySs eM mC ⟨i7,[4],0⟩ N Ab [some (inT ns),some (.int (k:Nat)),some (gq n n F),r3,r4,r5] o=.ok (.nx [some (inT ns),some (.int (k:Nat)),some (gq n n F),some (gq n n F),some (.lst (((List.range n).map λi=>line n λj=>fq (R i j)).set 0 (.lst [])).dropLast),some (gq n n R)] [(4,1)]):=by
     obtain ⟨m,rfl⟩:∃ m,n=m + 1:=⟨n - 1,by omega⟩
     refine step s3 (step (dX rfl (fF u1 (ab rfl)) rfl (ow o ho)) (step (skip (own':=[(4,2)]) (gJ (dD (b:=true) (call2 it (ab rfl) (bi1 (eP (m + 1) λi=>line (m + 1) λj=>fq (F i j)) (ab rfl)))) (a7 (ab rfl) (ab rfl) (sH ..))) rfl) (step (skip (own':=[(4,2)]) (gJ (dD (b:=true) (call2 iu1 (ab rfl) (ab rfl))) (gJ (dD (b:=true) (call2 iu2 (ab rfl) (ab rfl))) (a7 (fF u2 (ab rfl)) (ab rfl) (sH ..)))) rfl) (step (E5 (own':=[(4,2)]) n7 rfl rfl rfl) (step (JE (own':=[(4,2)]) (F:=λi=>line (m + 1) λj=>fq (R i j)) rfl rfl rfl (by omega) rfl) (step (Jf (own':=[(4,2)]) (own2:=[(4,1)]) (x:=.lst []) (xs:=(List.map Nat.succ (List.range m)).map λi=>line (m + 1) λj=>fq (R i j)) rfl (by decide) rfl ?_) (step (skip (own':=[(4,1)]) (gJ (a7 (fF u1 (ab rfl)) (ab rfl) (sH ..)) (a7 (ab rfl) (ab rfl) (sH ..))) rfl) ((ax ..).trans ?_))))))))
     · show Ou.ok (T.lst (((List.range (m + 1)).map λi=>line (m + 1) λj=>fq (R i j)).set 0 (.lst [])))=_
       rw [List.range_succ_eq_map,List.map_cons,List.set_cons_zero]
     · rw [List.range_succ_eq_map,List.map_cons,List.set_cons_zero]
       rfl
   exact ⟨_,_,cM rfl fg (step s2 (step ((mI cd' cu).trans ((if_pos rfl).trans blk)) (ax ..))),.inr rfl,_,_,_,_,_,rfl⟩
theorem FR (ns:List Int) (hl:ns.length<=63):Ax [inT ns]=.ok (.bl true):=by
 rw [BX,BD]
 have hN:yE eM (.bi .max [(.cI 1),(.bi .min [(.cI 8),(.bi .len [(.var 0)])])]) [some (inT ns),none,none,none,none,none]=.ok (.int ((max (1:Int) (min 8 ((ns.map T.int).length:Nat))).toNat:Nat)):=by
   have:(((max (1:Int) (min 8 ((ns.map T.int).length:Nat))).toNat:Nat):Int)=max (1:Int) (min 8 ((ns.map T.int).length:Nat)):=by omega
   rw [this,bS,ag,b8,Ou.aa,ag,bS,ag,b8,Ou.aa,ag,bi1 (x:=inT ns) (eQ _) (ab rfl),Ou.aa,au,Ou.aa,Ou.aa,Ou.aa,Ao,Ou.aa,Ou.aa,Ou.aa,Ou.aa,Gn]
 obtain ⟨τ',o',e,_,r1,r2,r3,r4,r5,rfl⟩:=A8 (n:=(max (1:Int) (min 8 ((ns.map T.int).length:Nat))).toNat) (g:=λ(k:Nat)=>.int (k:Nat)) (f:=bM eM mC ⟨i7,[4],0⟩ (aN [inT ns]) (.nm 1) A1) (λ_ τ o=>(o=[]\/o=[(4,1)])/\∃ r1 r2 r3 r4 r5,τ=[some (inT ns),r1,r2,r3,r4,r5]) (by
   rintro k _ τ o ⟨ho,r1,r2,r3,r4,r5,rfl⟩
   exact Co ns _ k r1 r2 r3 r4 r5 o ho) (τ:=[some (inT ns),none,none,none,none,none]) (o:=[]) ⟨.inl rfl,none,none,none,none,none,rfl⟩
 exact cD (step (iO (own':=[]) (gp hN (by rw [List.length_map]; omega)) rfl e) (bK (iP ..)))
end K15
namespace K15
open PySem PySem.Spec PyProof.Rows L2 Sv
noncomputable def top (i:Nat):Stmt:=PySem.Challenge.pw_signsmooth_k15_undone.main.body.getD i (.Pass ⟨0,0,0,0⟩)
noncomputable abbrev cs:List (Str × Int):=[("MOST",7)]
theorem u7:Tx cs (top 30) ["_law_cell_here","_law_bases","_law_row","_law_base","_law_k","_law_mixed"] ["_law_cell_here","_law_bases"] L0.S fh:=⟨⟨rfl,rfl,rfl,by decide +kernel,rfl,by decide +kernel,by decide +kernel⟩,by with_unfolding_all rfl⟩
theorem tH:Tx cs (top 32) ["_law_one","_law_other","_law_rest_here"] ["_law_one","_law_other"] L1.S fj:=⟨⟨rfl,rfl,rfl,by decide +kernel,rfl,by decide +kernel,by decide +kernel⟩,by with_unfolding_all rfl⟩
theorem Bm:Tx cs (top 33) ["_law_top","_law_bottom","_law_common"] ["_law_top","_law_bottom"] L2.S jA:=⟨⟨rfl,rfl,rfl,by decide +kernel,rfl,by decide +kernel,by decide +kernel⟩,by with_unfolding_all rfl⟩
theorem wj:Tx cs (top 34) ["_law_kind","_law_part","_law_top"] ["_law_kind","_law_part"] L3.S bF:=⟨⟨rfl,rfl,rfl,by decide +kernel,rfl,by decide +kernel,by decide +kernel⟩,by with_unfolding_all rfl⟩
theorem y9:Tx cs (top 35) ["_law_cell_here","_law_many","_law_wide","_law_kind","_law_base","_law_parts"] ["_law_cell_here","_law_many","_law_wide","_law_kind"] L4.S iH:=⟨⟨rfl,rfl,rfl,by decide +kernel,rfl,by decide +kernel,by decide +kernel⟩,by with_unfolding_all rfl⟩
theorem B3:Tx cs (top 31) ["_law_cell_here","_law_used"] ["_law_cell_here","_law_used"] L5.S jn:=⟨⟨rfl,rfl,rfl,by decide +kernel,rfl,by decide +kernel,by decide +kernel⟩,by with_unfolding_all rfl⟩
theorem y8:Tx cs (top 40) ["_law_cell_here","_law_great","_law_parts","_law_many","_law_kind","_law_table_here","_law_i"] ["_law_cell_here","_law_great"] L6.S eg:=⟨⟨rfl,rfl,rfl,by decide +kernel,rfl,by decide +kernel,by decide +kernel⟩,by with_unfolding_all rfl⟩
theorem Cq:Tx cs (top 29) ["_law_script","_law_k"] ["_law_script","_law_k"] L7.S jt:=⟨⟨rfl,rfl,rfl,by decide +kernel,rfl,by decide +kernel,by decide +kernel⟩,by with_unfolding_all rfl⟩
noncomputable abbrev xW:Stmt:=top 39
theorem cF:jC ["_law_rows_here","_law_sums","_law_row","_law_longer","_law_mask","_law_behind_it","_law_j","_law_key","_law_sign"] ["_law_rows_here"] (a5 xW):=⟨rfl,rfl,rfl,by decide +kernel,rfl,by decide +kernel,by decide +kernel⟩
theorem mM:Tx cs (top 14) ["thing"] ["thing"] L9.S cT:=⟨⟨rfl,rfl,rfl,by decide +kernel,rfl,by decide +kernel,by decide +kernel⟩,by with_unfolding_all rfl⟩
theorem vz:Tx cs (top 7) ["thing"] ["thing"] L10.S gd:=⟨⟨rfl,rfl,rfl,by decide +kernel,rfl,by decide +kernel,by decide +kernel⟩,by with_unfolding_all rfl⟩
theorem mi:Tx cs (top 9) ["one","other","greater","lesser","rest"] ["one","other"] L11.S cv:=⟨⟨rfl,rfl,rfl,by decide +kernel,rfl,by decide +kernel,by decide +kernel⟩,by with_unfolding_all rfl⟩
theorem pH:Tx cs (top 8) ["thing"] ["thing"] L12.S dW:=⟨⟨rfl,rfl,rfl,by decide +kernel,rfl,by decide +kernel,by decide +kernel⟩,by with_unfolding_all rfl⟩
theorem BY:Tx cs (top 15) ["thing"] ["thing"] L13.S jq:=⟨⟨rfl,rfl,rfl,by decide +kernel,rfl,by decide +kernel,by decide +kernel⟩,by with_unfolding_all rfl⟩
theorem vg:Tx cs (top 16) ["thing"] ["thing"] L14.S fQ:=⟨⟨rfl,rfl,rfl,by decide +kernel,rfl,by decide +kernel,by decide +kernel⟩,by with_unfolding_all rfl⟩
theorem rT:Tx cs (top 17) ["thing"] ["thing"] L15.S cg:=⟨⟨rfl,rfl,rfl,by decide +kernel,rfl,by decide +kernel,by decide +kernel⟩,by with_unfolding_all rfl⟩
theorem pP:Tx cs (top 19) ["table"] ["table"] L16.S bR:=⟨⟨rfl,rfl,rfl,by decide +kernel,rfl,by decide +kernel,by decide +kernel⟩,by with_unfolding_all rfl⟩
theorem vE:Tx cs (top 20) ["row","scale","number"] ["row"] L17.S eL:=⟨⟨rfl,rfl,rfl,by decide +kernel,rfl,by decide +kernel,by decide +kernel⟩,by with_unfolding_all rfl⟩
theorem pK:Tx cs (top 23) ["grid","k","i"] ["grid","k"] L18.S bO:=⟨⟨rfl,rfl,rfl,by decide +kernel,rfl,by decide +kernel,by decide +kernel⟩,by with_unfolding_all rfl⟩
theorem kr:Tx cs (top 10) ["top","bottom","divisor"] ["top","bottom"] L19.S aQ:=⟨⟨rfl,rfl,rfl,by decide +kernel,rfl,by decide +kernel,by decide +kernel⟩,by with_unfolding_all rfl⟩
theorem oH:Tx cs (top 11) ["top","bottom"] ["top","bottom"] L20.S cC:=⟨⟨rfl,rfl,rfl,by decide +kernel,rfl,by decide +kernel,by decide +kernel⟩,by with_unfolding_all rfl⟩
theorem rg:Tx cs (top 27) ["numbers","scales","bottom"] ["numbers","scales","bottom"] L21.S cf:=⟨⟨rfl,rfl,rfl,by decide +kernel,rfl,by decide +kernel,by decide +kernel⟩,by with_unfolding_all rfl⟩
theorem vX:Tx cs (top 26) ["place","many"] ["place","many"] L22.S dF:=⟨⟨rfl,rfl,rfl,by decide +kernel,rfl,by decide +kernel,by decide +kernel⟩,by with_unfolding_all rfl⟩
theorem uW:Tx cs (top 21) ["row","scale"] ["row","scale"] L23.S cP:=⟨⟨rfl,rfl,rfl,by decide +kernel,rfl,by decide +kernel,by decide +kernel⟩,by with_unfolding_all rfl⟩
theorem rJ:Tx cs (top 22) ["table","scales"] ["table","scales"] L24.S b9:=⟨⟨rfl,rfl,rfl,by decide +kernel,rfl,by decide +kernel,by decide +kernel⟩,by with_unfolding_all rfl⟩
theorem yM:Tx cs (top 24) ["row","pivot_row","k","last","pivot","factor"] ["row","pivot_row","k","last"] L25.S ej:=⟨⟨rfl,rfl,rfl,by decide +kernel,rfl,by decide +kernel,by decide +kernel⟩,by with_unfolding_all rfl⟩
theorem AE:Tx cs (top 25) ["table","many","scales","grid","last","k","at"] ["table"] L26.S fo:=⟨⟨rfl,rfl,rfl,by decide +kernel,rfl,by decide +kernel,by decide +kernel⟩,by with_unfolding_all rfl⟩
theorem B2:Tx cs (top 38) ["_law_table_here","_law_rows_here","_law_all_bottoms","_law_row","_law_factor","_law_number_here"] ["_law_table_here"] L27.S fy:=⟨⟨rfl,rfl,rfl,by decide +kernel,rfl,by decide +kernel,by decide +kernel⟩,by with_unfolding_all rfl⟩
theorem yJ:Tx cs (top 36) ["_law_thing"] ["_law_thing"] L28.S gZ:=⟨⟨rfl,rfl,rfl,by decide +kernel,rfl,by decide +kernel,by decide +kernel⟩,by with_unfolding_all rfl⟩
theorem pL:Tx cs (top 37) ["_law_found","_law_top","_law_bottom"] ["_law_found","_law_top","_law_bottom"] L29.S bN:=⟨⟨rfl,rfl,rfl,by decide +kernel,rfl,by decide +kernel,by decide +kernel⟩,by with_unfolding_all rfl⟩
theorem sI:Tx cs (top 42) ["_law_found","_law_many","_law_row"] ["_law_found","_law_many"] L30.S cb:=⟨⟨rfl,rfl,rfl,by decide +kernel,rfl,by decide +kernel,by decide +kernel⟩,by with_unfolding_all rfl⟩
theorem tN:Tx cs (top 41) ["_law_one","_law_other","_law_many","_law_i","_law_j","_law_top","_law_bottom","_law_k","_law_part","_law_more"] ["_law_one","_law_other"] L31.S cR:=⟨⟨rfl,rfl,rfl,by decide +kernel,rfl,by decide +kernel,by decide +kernel⟩,by with_unfolding_all rfl⟩
noncomputable abbrev zR:Stmt:=top 43
theorem E6:Tx cs (top 43) ["_law_script","_law_k","_law_table_here","_law_kept","_law_found","_law_due"] ["_law_script"] L32.S lX:=⟨⟨rfl,rfl,rfl,by decide +kernel,rfl,by decide +kernel,by decide +kernel⟩,by with_unfolding_all rfl⟩
end K15
namespace K15
open PySem PySem.Spec PyProof.Rows L2 Sv Ev
set_option maxHeartbeats 0 in
theorem Gb {P:Program} {w:World} {K:PySem.W.Frag} {mg:Str->Option Value} {base:Heap} {x qual:Str} {f:Addr} {fd:FuncData} {k:Nat} {cl:Nat->Addr}
   (F:Fun K x qual xW f fd) (hb:∀ x ∈ Sv.aL,mg x=none):i9 P w K mg base CX0 (k + 1) f fd ["_law_rows_here"] (spU ⟨K,cl⟩ oT):=by
 refine F.ok cF (λvs H Q E h=>?_) (λcdv A outer s H vs Q E hr h=>?_)
 · obtain ⟨a,rfl,_⟩:=AD h
   rfl
 · have hu:=Ih hr
   have b1:mg "len" = none:=hb _ (by decide)
   have b2:mg "range" = none:=hb _ (by decide)
   have b3:mg "reversed" = none:=hb _ (by decide)
   obtain ⟨a,rfl,ht⟩:=AD h
   refine ⟨_,eR (j8 (i:=1) cF.nd rfl (.inl rfl) (De (Cj ee ee DN) rfl rfl (by simp) (by decide))) (eR
     (rQ PassesOwn.never rfl (xw (L2.pv 0)) (kP (i:=2) cF.nd rfl (.inl rfl))
       (eR (j8 (i:=3) cF.nd rfl (.inl rfl) zV)
         (eR (rQ PassesOwn.never rfl (DX (L2.pv 1)) (kP (i:=4) cF.nd rfl (.inl rfl))
           (eR (j8 (i:=5) cF.nd rfl (.inl rfl) ee)
             (jB (rQ PassesOwn.never rfl (Hu rfl b3 rfl b2 (bU (eT iM rfl b1 rfl (bU (L2.pv 0) fD)) fD)) (kP (i:=6) cF.nd rfl (.inl rfl))
               (jB (EE (GI (FZ (fW Dv (fW Fm (L2.pv 4) (L2.pv 6)) ee) ee)) (jB (j8 (i:=5) cF.nd rfl (.inl rfl) (fW sJ (L2.pv 5) ee)))
                 (eR (j8 (i:=7) cF.nd rfl (.inl rfl) (fW IY (L2.pv 4) (fW Az ee (L2.pv 6))))
                   (eR (j8 (i:=8) cF.nd rfl (.inl rfl) (fW qJ ee (fW nk ee (fW xo (L2.pv 5) ee))))
                     (jB (DG hu (L2.pv 3) (L2.pv 7) (fW sJ (AQ hu (L2.pv 3) (L2.pv 7) ee ⟨rfl,rfl,rfl,rfl⟩) (fW nk (fW nk (L2.pv 8) (EX yh (L2.pv 2) (L2.pv 6) (λ_ _=>rfl))) (yo hu (L2.pv 1) (L2.pv 4) (λ_ _=>rfl)))) rfl))))))))))
           (jB (j8 (i:=1) cF.nd rfl (.inl rfl) (L2.pv 3))))))
     (jB (AY (yo hu (L2.pv 1) (fW qJ (fW Az ee (eT iM rfl b1 rfl (bU (L2.pv 0) fD))) ee) (λ_ _=>rfl))))),?_⟩
   exact ht _
end K15
namespace K15
open PySem PySem.Spec PyProof.Rows L2 Sv
set_option maxHeartbeats 0 in
theorem all_mk {l:PySem.W.OpenLaw} {w:World} {K:PySem.W.Frag} {h:Heap} {mg:Str->Option Value} {fa f0 f1 f2 f3 f4 f5 f6 f7 f8 f9 f10 f11 f12 f13 f14 f15 f16 f17 f18 f19 f20 f21 f22 f23 f24 f25 f26 f27 f28 f29 f30 f31 f32:Addr} {t0:Tok} (X:K.In h) (G:h.Ns mainGlobals mg) (hfa:mg "law" = some (.ref fa))
   (h0:Dfn K "_law_numbers" (top 30) f0) (h1:Dfn K "_law_divisor" (top 32) f1) (h2:Dfn K "_law_made" (top 33) f2) (h3:Dfn K "_law_number" (top 34) f3) (h4:Dfn K "_law_table" (top 35) f4) (h5:Dfn K "_law_rest" (top 31) f5) (h6:Dfn K "_law_drawn" (top 40) f6) (h7:Dfn K "_law_cell" (top 29) f7) (h8:Dfn K "_law_det" (top 39) f8) (h9:Dfn K "is_short_list" (top 14) f9) (h10:Dfn K "is_whole" (top 7) f10) (h11:Dfn K "common_divisor" (top 9) f11) (h12:Dfn K "is_fraction" (top 8) f12) (h13:Dfn K "is_row" (top 15) f13) (h14:Dfn K "is_table" (top 16) f14) (h15:Dfn K "look_table" (top 17) f15) (h16:Dfn K "look_square" (top 19) f16) (h17:Dfn K "scale_of" (top 20) f17) (h18:Dfn K "pivot_place" (top 23) f18) (h19:Dfn K "in_lowest_terms" (top 10) f19) (h20:G0 K "fraction" (top 11) f20 (1)) (h21:Dfn K "undone_row" (top 27) f21) (h22:Dfn K "unit_row" (top 26) f22) (h23:Dfn K "whole_row" (top 21) f23) (h24:Dfn K "whole_rows" (top 22) f24) (h25:Dfn K "cleared" (top 24) f25) (h26:Dfn K "undone" (top 25) f26) (h27:Dfn K "_law_rows" (top 38) f27) (h28:Dfn K "_law_whole" (top 36) f28) (h29:Dfn K "_law_is_number" (top 37) f29) (h30:Dfn K "_law_is_table" (top 42) f30) (h31:Dfn K "_law_is_unit" (top 41) f31) (h32:Dfn K "law" (top 43) f32) (hz:nsL K aL) (y0:PySem.W.nsIn K mainGlobals "MOST" = some (some (.int 7 t0))) :
   ∃ fd:FuncData,(∀ (s:Shared) (v:Value),BindsTo s fd ⟨[v],[]⟩ [("_law_script",v)])/\∀ base:Heap,K.In base->base.Ns mainGlobals mg->i9 l.prog w K mg base CX0 33 fa fd ["_law_script"] (spU ⟨K,λ_=>0⟩ xq):=by
 have hb:=hz.none X G
 have hc:∀ (x:Str) (i:Int),cs.lookup x=some i->∃ t,mg x=some (.int i t):=by
   intro x i hx
   simp only [cs,List.lookup_cons,List.lookup_nil] at hx
   split at hx
   · rename_i he
     have he:x = "MOST":=by simpa using he
     subst he
     cases hx
     exact ⟨_,PySem.W.mg_of X G y0⟩
   cases hx
 obtain ⟨a,⟨oc,od,kV,dc,pm,an,cd,ct,sl,l0,c⟩,r⟩:=h32
 cases hfa.symm.trans (PySem.W.mg_of X G a)
 refine ⟨PySem.W.fnOf "law" "law" (ff zR) (dB zR) (a5 zR) .none kV dc pm an cd ct,λs v=>.of_eq rfl,λbase _ _=>?_⟩
 have C0:Cc l.prog w K mg base 0 L0:=Cc.zero
 have C1:Cc l.prog w K mg base 1 L1:=h0.nx X G hb hc C0 u7 λ_ _ _ _ _ _=>eK λ_ _=>rfl
 have C2:Cc l.prog w K mg base 2 L2:=h1.nx X G hb hc C1 tH λ_ _ _ _ _ _=>eK λ_ _=>rfl
 have C3:Cc l.prog w K mg base 3 L3:=h2.nx X G hb hc C2 Bm λ_ _ _ _ _ _=>eK λ_ _=>rfl
 have C4:Cc l.prog w K mg base 4 L4:=h3.nx X G hb hc C3 wj λ_ _ _ _ _ _=>eK λ_ _=>rfl
 have C5:Cc l.prog w K mg base 5 L5:=h4.nx X G hb hc C4 y9 λ_ _ _ _ _ _=>ER λ_ _ _ _=>rfl
 have C6:Cc l.prog w K mg base 6 L6:=h5.nx X G hb hc C5 B3 λ_ _ _ _ _ _=>eK λ_ _=>rfl
 have C7:Cc l.prog w K mg base 7 L7:=h6.nx X G hb hc C6 y8 λ_ _ _ _ _ _=>eK λ_ _=>rfl
 have C8:Cc l.prog w K mg base 8 L8:=h7.nx X G hb hc C7 Cq λ_ _ _ _ _ _=>eK λ_ _=>rfl
 have C9:Cc l.prog w K mg base 9 L9:=h8.raw X G C8 (λ_ F=>Gb F hb) λ_ _ _ _ _ _=>fZ λ_=>rfl
 have C10:Cc l.prog w K mg base 10 L10:=h9.nx X G hb hc C9 mM λ_ _ _ _ _ _=>fZ λ_=>rfl
 have C11:Cc l.prog w K mg base 11 L11:=h10.nx X G hb hc C10 vz λ_ _ _ _ _ _=>fZ λ_=>rfl
 have C12:Cc l.prog w K mg base 12 L12:=h11.nx X G hb hc C11 mi λ_ _ _ _ _ _=>eK λ_ _=>rfl
 have C13:Cc l.prog w K mg base 13 L13:=h12.nx X G hb hc C12 pH λ_ _ _ _ _ _=>fZ λ_=>rfl
 have C14:Cc l.prog w K mg base 14 L14:=h13.nx X G hb hc C13 BY λ_ _ _ _ _ _=>fZ λ_=>rfl
 have C15:Cc l.prog w K mg base 15 L15:=h14.nx X G hb hc C14 vg λ_ _ _ _ _ _=>fZ λ_=>rfl
 have C16:Cc l.prog w K mg base 16 L16:=h15.nx X G hb hc C15 rT λ_ _ _ _ _ _=>fZ λ_=>rfl
 have C17:Cc l.prog w K mg base 17 L17:=h16.nx X G hb hc C16 pP λ_ _ _ _ _ _=>fZ λ_=>rfl
 have C18:Cc l.prog w K mg base 18 L18:=h17.nx X G hb hc C17 vE λ_ _ _ _ _ _=>fZ λ_=>rfl
 have C19:Cc l.prog w K mg base 19 L19:=h18.nx X G hb hc C18 pK λ_ _ _ _ _ _=>eK λ_ _=>rfl
 have C20:Cc l.prog w K mg base 20 L20:=h19.nx X G hb hc C19 kr λ_ _ _ _ _ _=>eK λ_ _=>rfl
 have C21:Cc l.prog w K mg base 21 L21:=by
   obtain ⟨a,⟨oc,od,kV,dc,pm,an,cd,ct,sl,T,td,tl,tc,tt,tn,l,c,dt⟩,r⟩:=h20
   have F:=vU (st:=top 11) l c r
   exact C20.snoc (Fu (fnU F oH.1 oH.2 hb hc C20.1) (PySem.W.mg_of X G a) r (F.GP (ps:=["top","bottom"]) rfl dt (eK λ_ _=>⟨_,rfl,rfl⟩)) (F.Gg (p:="top") (ps:=["bottom"]) (d:=.int 1 tt) rfl dt (fZ λ_=>⟨_,rfl,rfl⟩)))
 have C22:Cc l.prog w K mg base 22 L22:=h21.nx X G hb hc C21 rg λ_ _ _ _ _ _=>B4 λ_ _ _=>rfl
 have C23:Cc l.prog w K mg base 23 L23:=h22.nx X G hb hc C22 vX λ_ _ _ _ _ _=>eK λ_ _=>rfl
 have C24:Cc l.prog w K mg base 24 L24:=h23.nx X G hb hc C23 uW λ_ _ _ _ _ _=>eK λ_ _=>rfl
 have C25:Cc l.prog w K mg base 25 L25:=h24.nx X G hb hc C24 rJ λ_ _ _ _ _ _=>eK λ_ _=>rfl
 have C26:Cc l.prog w K mg base 26 L26:=h25.nx X G hb hc C25 yM λ_ _ _ _ _ _=>ER λ_ _ _ _=>rfl
 have C27:Cc l.prog w K mg base 27 L27:=h26.nx X G hb hc C26 AE λ_ _ _ _ _ _=>fZ λ_=>rfl
 have C28:Cc l.prog w K mg base 28 L28:=h27.nx X G hb hc C27 B2 λ_ _ _ _ _ _=>fZ λ_=>rfl
 have C29:Cc l.prog w K mg base 29 L29:=h28.nx X G hb hc C28 yJ λ_ _ _ _ _ _=>fZ λ_=>rfl
 have C30:Cc l.prog w K mg base 30 L30:=h29.nx X G hb hc C29 pL λ_ _ _ _ _ _=>B4 λ_ _ _=>rfl
 have C31:Cc l.prog w K mg base 31 L31:=h30.nx X G hb hc C30 sI λ_ _ _ _ _ _=>eK λ_ _=>rfl
 have C32:Cc l.prog w K mg base 32 L32:=h31.nx X G hb hc C31 tN λ_ _ _ _ _ _=>eK λ_ _=>rfl
 exact fnU (vU l0 c r) E6.1 E6.2 hb hc C32.1
theorem walk {l:PySem.W.OpenLaw} {q:Program} {loose:List Str} {XP:(Str->Option Value)->Heap->Prop} {YP:World->Heap->Prop} {d:DefRec} {K:Params->PySem.W.Frag} (hn:l.most=some 63) (hdf:d.params.defaults=[])
   (hY:∀ (w:World) (h:Heap),YP w h->(K w.params).In h)
   (F:∀ (w:World) (mg:Str->Option Value) (fa:Addr) (h:Heap),(K w.params).In h->h.Ns mainGlobals mg->mg d.name=some (.ref fa) ->
     ∃ fd:FuncData,(∀ (s:Shared) (u:Value),BindsTo s fd ⟨[u],[]⟩ [("_law_script",u)])/\∀ base:Heap,(K w.params).In base->base.Ns mainGlobals mg->i9 l.prog w (K w.params) mg base CX0 33 fa fd ["_law_script"] (spU ⟨K w.params,λ_=>0⟩ xq)) :
   PySem.W.WalkO q loose XP YP l.row.toRowW d [] (λf vs=>PySem.call f vs):=
 L2.Ew (n:=63) (k:=33) (x:="_law_script") (CX:=λ_=>CX0) (sp:=λw=>spU ⟨K w.params,λ_=>0⟩ xq) hn (by decide) hdf ⟨rfl,by decide,by decide⟩ hY F
   (λw H a ns hl hO hS=>FJ ((show gK _ _ _ _ from HF).at.1 32) (λns h=>FR ns h) w H a ns hl hO hS) λ_ _ _ _ _ z=>z
end K15
open PySem PySem.W PyProof.Rows
namespace PySem.W.Fast
theorem tw5490420809272039727:True:=⟨⟩
theorem tw2005497125012413824:True:=⟨⟩
theorem tw4836809254220785454:True:=⟨⟩
theorem tw10048745255202300029:True:=⟨⟩
theorem tw10040744675669820538:True:=⟨⟩
theorem tw18331870972909430412:True:=⟨⟩
theorem tw3633948469407379828:True:=⟨⟩
theorem tw14120533251502387964:True:=⟨⟩
theorem tw10614779058226798611:True:=⟨⟩
theorem tw16853794934365335446:True:=⟨⟩
theorem tw14049329432018836101:True:=⟨⟩
theorem tw10315553439032853919:True:=⟨⟩
theorem tw10895352792841398188:True:=⟨⟩
theorem tw558442126038047060:True:=⟨⟩
theorem tw4278294509828709249:True:=⟨⟩
theorem tw332578778910898125:True:=⟨⟩
theorem tw6499881615572916967:True:=⟨⟩
theorem tw5370869190048944594:True:=⟨⟩
theorem tw15248394146028256215:True:=⟨⟩
theorem tw6086360987570258290:True:=⟨⟩
theorem tw7651446073978125422:True:=⟨⟩
theorem tw608941577107340685:True:=⟨⟩
theorem tw720886908375317530:True:=⟨⟩
theorem tw4609184625298940683:True:=⟨⟩
theorem tw11480230681487480751:True:=⟨⟩
theorem tw1956392289545928094:True:=⟨⟩
theorem tw3755833827253431536:True:=⟨⟩
theorem tw834850485015108573:True:=⟨⟩
theorem tw2012886281582095640:True:=⟨⟩
theorem tw13234383970669178723:True:=⟨⟩
theorem tw4708554551197361738:True:=⟨⟩
theorem tw16866444942952511101:True:=⟨⟩
theorem tw12530756885071359050:True:=⟨⟩
theorem tw2899658233862082999:True:=⟨⟩
theorem tw2021980821827418443:True:=⟨⟩
theorem tw13422857119771838427:True:=⟨⟩
theorem tw7561930764869161224:True:=⟨⟩
theorem tw18438821232906677661:True:=⟨⟩
theorem tw4709209131588697037:True:=⟨⟩
theorem tw2473435206942229540:True:=⟨⟩
theorem tw16218567826379665297:True:=⟨⟩
theorem tw16191710866238502521:True:=⟨⟩
theorem tw17937344560420123799:True:=⟨⟩
theorem tw309024334905825596:True:=⟨⟩
end PySem.W.Fast
set_option maxRecDepth 100000 in
set_option maxHeartbeats 0 in
theorem PySem.Challenge.cw_signsmooth_k15_undone_holds : PySem.Challenge.rw_signsmooth_k15_undone.Holds := by
 w_on; o_law; k_head; (case hw=>w_witness2)
 k_fill
 refine K15.walk (l:=PySem.Challenge.rw_signsmooth_k15_undone) rfl rfl (λw h Y=>PySem.W.kIn_of Y) ?F
 case F=>
   intro w mg fa h KX G hmg
   refine' K15.all_mk KX G hmg (.of ?_ ?_ ?_ ?_) (.of ?_ ?_ ?_ ?_) (.of ?_ ?_ ?_ ?_) (.of ?_ ?_ ?_ ?_) (.of ?_ ?_ ?_ ?_) (.of ?_ ?_ ?_ ?_) (.of ?_ ?_ ?_ ?_) (.of ?_ ?_ ?_ ?_) (.of ?_ ?_ ?_ ?_) (.of ?_ ?_ ?_ ?_) (.of ?_ ?_ ?_ ?_) (.of ?_ ?_ ?_ ?_) (.of ?_ ?_ ?_ ?_) (.of ?_ ?_ ?_ ?_) (.of ?_ ?_ ?_ ?_) (.of ?_ ?_ ?_ ?_) (.of ?_ ?_ ?_ ?_) (.of ?_ ?_ ?_ ?_) (.of ?_ ?_ ?_ ?_) (.of ?_ ?_ ?_ ?_) (.of ?_ ?_ ?_ ?_ ?_) (.of ?_ ?_ ?_ ?_) (.of ?_ ?_ ?_ ?_) (.of ?_ ?_ ?_ ?_) (.of ?_ ?_ ?_ ?_) (.of ?_ ?_ ?_ ?_) (.of ?_ ?_ ?_ ?_) (.of ?_ ?_ ?_ ?_) (.of ?_ ?_ ?_ ?_) (.of ?_ ?_ ?_ ?_) (.of ?_ ?_ ?_ ?_) (.of ?_ ?_ ?_ ?_) (.of ?_ ?_ ?_ ?_) ⟨?_,?_,?_,?_,?_,?_,?_,?_,?_,?_,?_,?_,?_,?_,?_,?_,?_,?_,trivial⟩ ?_
   all_goals try k_is
#print axioms PySem.Challenge.cw_signsmooth_k15_undone_holds
