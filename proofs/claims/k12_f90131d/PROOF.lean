import PyProof.Rows.All
import Wide.All
import OpenK.AllK
import Wide.FinOn
import Lean
import PyProof.EqAt
import PyProof.EqKinds
import PyProof.TupleCall
import PySem.Challenge.RW_signsmooth_k12_products
set_option genSizeOf false
set_option bootstrap.genMatcherCode false
set_option Elab.async false
set_option linter.all false
set_option maxRecDepth 100000
set_option exponentiation.threshold 2000
namespace L2
open PySem PySem.Spec PyProof.Rows
noncomputable abbrev Key:=Sum Int Str
noncomputable def FK : Key → Value → Bool
 | .inl k,v=>Value.isInt k v
 | .inr x,v=>Value.isStrOf x v
noncomputable def Li (w : World) : Key → Int
 | .inl k=>hashInt k
 | .inr x=>hashStr w x
theorem cg : ∀ {k : Key} {v : Value},FK k v = true → (∃ i t,k = Sum.inl i ∧ v = Value.int i t) ∨ (∃ x t,k = Sum.inr x ∧ v = Value.str x t)
 | .inl i,v,h=>by
   obtain ⟨t,e⟩:=Value.isInt_shape (k:=i) (v:=v) h
   exact .inl ⟨i,t,rfl,e⟩
 | .inr x,v,h=>by
   obtain ⟨t,e⟩:=Value.isStrOf_shape (x:=x) (v:=v) h
   exact .inr ⟨x,t,rfl,e⟩
theorem GP (a b : Int) : decide ((Sum.inl a : Key) = Sum.inl b) = (a == b):=by
 by_cases e : a = b
 · subst e; simp
 · have h : ¬ (Sum.inl a : Key) = Sum.inl b:=fun q=>e (Sum.inl.inj q)
   rw [decide_eq_false h]
   exact (beq_eq_false_iff_ne.mpr e).symm
theorem GN (a b : Str) : decide ((Sum.inr a : Key) = Sum.inr b) = decide (a = b):=by
 by_cases e : a = b
 · subst e; simp
 · have h : ¬ (Sum.inr a : Key) = Sum.inr b:=fun q=>e (Sum.inr.inj q)
   rw [decide_eq_false h,decide_eq_false e]
theorem HF (a : Int) (b : Str) : decide ((Sum.inl a : Key) = Sum.inr b) = false:=decide_eq_false (fun q=>nomatch q)
theorem FV (a : Str) (b : Int) : decide ((Sum.inr a : Key) = Sum.inl b) = false:=decide_eq_false (fun q=>nomatch q)
noncomputable def y9 (prog : Program) (w : World) : PySem.KeyKind prog w Key where
 is:=FK
 hash:=Li w
 inj:=fun v a b ha hb=>by
   rcases cg ha with ⟨i,t,rfl,rfl⟩ | ⟨x,t,rfl,rfl⟩
   · rcases cg hb with ⟨j,u,rfl,e⟩ | ⟨y,u,rfl,e⟩
     · injection e with e1 _; rw [e1]
     · exact nomatch e
   · rcases cg hb with ⟨j,u,rfl,e⟩ | ⟨y,u,rfl,e⟩
     · exact nomatch e
     · injection e with e1 _; rw [e1]
 byValue:=fun k v h=>by
   rcases cg h with ⟨i,t,rfl,rfl⟩ | ⟨x,t,rfl,rfl⟩ <;> rfl
 pyHash:=fun hv h=>by
   rcases cg hv with ⟨i,t,rfl,rfl⟩ | ⟨x,t,rfl,rfl⟩
   · exact wpAny_pyHash_int h
   · exact wpAny_pyHash_str h
 eqBool:=fun hu hv h=>by
   rcases cg hu with ⟨i,t,rfl,rfl⟩ | ⟨x,t,rfl,rfl⟩
   · rcases cg hv with ⟨j,u,rfl,rfl⟩ | ⟨y,u,rfl,rfl⟩
     · rw [GP] at h; exact wpAny_eqBool_int h
     · rw [HF] at h; exact SeqAt.EqAt.int_str i t y u _ _ _ _ h
   · rcases cg hv with ⟨j,u,rfl,rfl⟩ | ⟨y,u,rfl,rfl⟩
     · rw [FV] at h; exact SeqAt.EqAt.str_int x t j u _ _ _ _ h
     · rw [GN] at h; exact wpAny_eqBool_str h
 «strs»:=fun k x t v h=>by
   rcases cg h with ⟨i,u,rfl,e⟩ | ⟨y,u,rfl,e⟩
   · exact nomatch e
   · injection e with e1 _
     subst e1
     cases v <;> rfl
end L2
namespace L2
open PySem PySem.Spec PyProof.Rows
inductive V where
 | non | bl (b : Bool) | int (i : Int) | str (x : Str) | byt (b : Array UInt8) | flt (b : UInt64) | ref (a : Addr) | ty (n : String)
 deriving DecidableEq
noncomputable def RelV : V → Value → Prop
 | .non,u=>u = Value.none
 | .bl b,u=>u = Value.bool b
 | .int i,u=>∃ t,u = Value.int i t
 | .str x,u=>∃ t,u = Value.str x t
 | .byt b,u=>∃ t,u = Value.bytes b t
 | .flt b,u=>∃ t,u = Value.float b t
 | .ref a,u=>u = Value.ref a
 | .ty n,u=>u = Value.type n
noncomputable abbrev Vals : List V → List Value → Prop:=Paired RelV
theorem Vals.length {xs : List V} {us : List Value} (r : Vals xs us) : xs.length = us.length:=Paired.length r
theorem Vals.get : ∀ {xs : List V} {us : List Value} {i : Nat} {x : V},Vals xs us → xs[i]? = some x → ∃ u,us[i]? = some u ∧ RelV x u
 | _,_,_,_,.nil,e=>by simp at e
 | _,_,0,_,.cons r _,e=>by simp at e; subst e; exact ⟨_,rfl,r⟩
 | _,_,i + 1,x,.cons _ t,e=>by
   obtain ⟨u,h1,h2⟩:=Vals.get (i:=i) (x:=x) t (by simpa using e)
   exact ⟨u,by simpa using h1,h2⟩
theorem Vals.set {x : V} {u : Value} (r : RelV x u) : ∀ {xs : List V} {us : List Value} (i : Nat),Vals xs us → Vals (xs.set i x) (us.set i u)
 | _,_,_,.nil=>.nil
 | _,_,0,.cons _ t=>.cons r t
 | _,_,i + 1,.cons q t=>.cons q (Vals.set r i t)
theorem Vals.append : ∀ {xs ys : List V} {us ws : List Value},Vals xs us → Vals ys ws → Vals (xs ++ ys) (us ++ ws)
 | _,_,_,_,.nil,s=>s
 | _,_,_,_,.cons r t,s=>.cons r (Vals.append t s)
theorem Vals.take : ∀ {xs : List V} {us : List Value} (n : Nat),Vals xs us → Vals (xs.take n) (us.take n)
 | _,_,0,_=>.nil
 | _,_,_ + 1,.nil=>.nil
 | _,_,n + 1,.cons r t=>.cons r (Vals.take n t)
theorem Vals.drop : ∀ {xs : List V} {us : List Value} (n : Nat),Vals xs us → Vals (xs.drop n) (us.drop n)
 | _,_,0,r=>r
 | _,_,_ + 1,.nil=>.nil
 | _,_,n + 1,.cons _ t=>Vals.drop n t
noncomputable def KC : Option V → Option Value → Prop
 | some v,some u=>RelV v u
 | none,none=>True
 | _,_=>False
noncomputable def KV {κ : Type} : List (κ × V) → List (κ × Value) → Prop:=Paired fun (p : κ × V) (q : κ × Value)=>p.1 = q.1 ∧ RelV p.2 q.2
noncomputable def kV : Key → V
 | .inl i=>.int i
 | .inr x=>.str x
inductive HO where
 | lst (xs : List V)
 | tup (xs : List V)
 | dK (kvs : List (Key × V)) | dT (kvs : List (List Key × V))
 | set (S : Int → Bool) (n : Nat)
 | ins (C dx : Addr) (fs : List (Str × V))
 | own (x : Addr)
 | xd (fs : List (Str × V))
 | met (f x : Addr)
 | rng (lo hi : Int)
 | frz (o : Obj) (u : HO)
 | tbl (ps : Array Value)
 | ext (φ : Heap → Prop)
noncomputable abbrev Hp:=Addr → Option HO
noncomputable def upd (H : Hp) (a : Addr) (o : HO) : Hp:=fun b=>if b = a then some o else H b
theorem cT {H : Hp} {a : Addr} {o : HO} : upd H a o a = some o:=by unfold upd; rw [if_pos rfl]
theorem aD {H : Hp} {a b : Addr} {o : HO} (h : b ≠ a) : upd H a o b = H b:=by unfold upd; rw [if_neg h]
theorem aH {H : Hp} {a b : Addr} {o : HO} (h : H a = some o) (h' : H b = none) : a ≠ b:=by
 intro e; subst e; rw [h] at h'; cases h'
section
variable (P : Program) (w : World)
noncomputable def gH (H : Hp) (h : Heap) (a : Addr) : HO → Prop
 | .lst xs=>xs.length ≤ sizeLine ∧ ∃ (its : List Value) (n : Nat),Vals xs its ∧ h.get? a = some { cls:=.type "list",data:=.seq its.toArray n }
 | .tup xs=>xs.length ≤ sizeLine ∧ ∃ its : List Value,Vals xs its ∧ IsTup h a its.toArray
 | .dK kvs=>kvs.length ≤ sizeLine ∧ (a == sysModules) = false ∧ ∃ vs,KV kvs vs ∧ h.DictOf (y9 P w) a vs
 | .dT kvs=>kvs.length ≤ sizeLine ∧ (a == sysModules) = false ∧ ∃ xs : List (List Key × Addr × Value),
     Paired (fun (p : List Key × V) (q : List Key × Addr × Value)=>p.1 = q.1 ∧ H q.2.1 = some (.tup (p.1.map kV)) ∧ RelV p.2 q.2.2) kvs xs ∧
     ∃ o es ep,h.get? a = some o ∧ o.ExactDict ∧ o.data = .dict es ep ∧ es.toList = xs.map (entryOfKey (tupleKind (y9 P w))) ∧ (xs.map (·.1)).Nodup
 | .set S n=>h.SetOf (intKind P w) a S n
 | .ins C dx fs=>H dx = some (.own a) ∧ fs.length ≤ 1000 ∧ dx ≠ a ∧ h.get? a = some (PySem.W.instObj C dx) ∧
     ∃ mA,h.Ns1 dx mA ∧ (∀ f,KC (fs.lookup f) (mA f)) ∧ PySem.Within mA (fs.map (·.1))
 | .own _=>∃ o,h.get? a = some o
 | .xd fs=>∃ mA,h.Ns1 a mA ∧ ∀ f,KC (fs.lookup f) (mA f)
 | .rng lo hi=>∃ t u v,h.get? a = some { cls:=.type "range",data:=.fields #[.int lo t,.int hi u,.int 1 v] }
 | .frz o u=>h.get? a = some o ∧ gH H h a u
 | .tbl ps=>h.get? a = some { cls:=.none,data:=.fields ps }
 | .met f x=>h.get? a = some (PySem.W.methodObj (.ref f) (.ref x))
 | .ext φ=>φ h ∧ (∃ o,h.get? a = some o) ∧ ∀ h1 h2 : Heap,φ h1 → (∀ o,h1.get? a = some o → h2.get? a = some o) → φ h2
noncomputable def HOk (H : Hp) (h : Heap) : Prop:=∀ a o,H a = some o → gH P w H h a o
end
section
variable {P : Program} {w : World} {H H' : Hp} {h h' : Heap} {a : Addr} {o : HO}
theorem gH.lt (x : gH P w H h a o) : a < h.objs.size:=by
 cases o with
 | lst xs=>obtain ⟨_,_,_,_,e⟩:=x; exact Heap.lt_size e
 | tup xs=>obtain ⟨_,_,_,p⟩:=x; exact p.lt
 | dK kvs=>obtain ⟨_,_,_,_,o,_,_,e,_⟩:=x; exact Heap.lt_size e
 | dT kvs=>obtain ⟨_,_,_,_,o,_,_,e,_⟩:=x; exact Heap.lt_size e
 | set S n=>obtain ⟨o,_,_,_,e,_⟩:=x; exact Heap.lt_size e
 | ins C dx fs=>obtain ⟨_,_,_,e,_⟩:=x; exact Heap.lt_size e
 | own y=>obtain ⟨_,e⟩:=x; exact Heap.lt_size e
 | xd fs=>obtain ⟨_,⟨_,_,_,e,_⟩,_⟩:=x; exact Heap.lt_size e
 | rng lo hi=>obtain ⟨_,_,_,e⟩:=x; exact Heap.lt_size e
 | frz ob u=>obtain ⟨e,_⟩:=x; exact Heap.lt_size e
 | tbl ps=>exact Heap.lt_size (show h.get? a = some _ from x)
 | met f y=>exact Heap.lt_size (show h.get? a = some _ from x)
 | ext φ=>obtain ⟨_,⟨_,e⟩,_⟩:=x; exact Heap.lt_size e
theorem Paired.Kx {α β : Type} {F G : α → β → Prop} : ∀ {l₁ : List α} {l₂ : List β},Paired F l₁ l₂ → (∀ a b,F a b → G a b) → Paired G l₁ l₂
 | _,_,.nil,_=>.nil
 | _,_,.cons r t,f=>.cons (f _ _ r) (Paired.Kx t f)
theorem gH.lW (x : gH P w H h a o) (k : ∀ b u,(b = a ∨ H b = some (.own a)) → h.get? b = some u → h'.get? b = some u)
   (ho : ∀ b,H b = some (.own a) → H' b = some (.own a)) (ht : ∀ b xs,H b = some (.tup xs) → H' b = some (.tup xs)) : gH P w H' h' a o:=by
 induction o with
 | lst xs=>obtain ⟨z,its,n,r,e⟩:=x; exact ⟨z,its,n,r,k _ _ (.inl rfl) e⟩
 | tup xs=>obtain ⟨z,its,r,ob,e,c⟩:=x; exact ⟨z,its,r,ob,k _ _ (.inl rfl) e,c⟩
 | dK kvs=>obtain ⟨z,y,vs,r,ob,es,ep,e,c⟩:=x; exact ⟨z,y,vs,r,ob,es,ep,k _ _ (.inl rfl) e,c⟩
 | dT kvs=>
   obtain ⟨z,y,xs,r,ob,es,ep,e,c⟩:=x
   exact ⟨z,y,xs,Paired.Kx r fun p q z=>⟨z.1,ht _ _ z.2.1,z.2.2⟩,ob,es,ep,k _ _ (.inl rfl) e,c⟩
 | set S n=>obtain ⟨ob,es,ep,t,e,c⟩:=x; exact ⟨ob,es,ep,t,k _ _ (.inl rfl) e,c⟩
 | ins C dx fs=>
   obtain ⟨d,z,ne,e,mA,⟨od,es,ep,e2,c⟩,r⟩:=x
   exact ⟨ho _ d,z,ne,k _ _ (.inl rfl) e,mA,⟨od,es,ep,k _ _ (.inr d) e2,c⟩,r⟩
 | own y=>obtain ⟨ob,e⟩:=x; exact ⟨ob,k _ _ (.inl rfl) e⟩
 | xd fs=>obtain ⟨mA,⟨od,es,ep,e,c⟩,r⟩:=x; exact ⟨mA,⟨od,es,ep,k _ _ (.inl rfl) e,c⟩,r⟩
 | rng lo hi=>obtain ⟨t,u,v,e⟩:=x; exact ⟨t,u,v,k _ _ (.inl rfl) e⟩
 | frz ob u ih=>obtain ⟨e,q⟩:=x; exact ⟨k _ _ (.inl rfl) e,ih q⟩
 | tbl ps=>
   have e : h.get? a = some { cls:=.none,data:=.fields ps }:=x
   show h'.get? a = some { cls:=.none,data:=.fields ps }
   exact k a _ (.inl rfl) e
 | met f y=>
   have e : h.get? a = some (PySem.W.methodObj (.ref f) (.ref y)):=x
   show h'.get? a = some (PySem.W.methodObj (.ref f) (.ref y))
   exact k a _ (.inl rfl) e
 | ext φ=>obtain ⟨p,⟨o,e⟩,st⟩:=x; exact ⟨st _ _ p fun o q=>k _ _ (.inl rfl) q,⟨o,k _ _ (.inl rfl) e⟩,st⟩
theorem HOk.lt (x : HOk P w H h) (e : H a = some o) : a < h.objs.size:=(x a o e).lt
theorem HOk.fresh (x : HOk P w H h) (e : h.objs.size ≤ a) : H a = none:=by
 cases q : H a with
 | none=>rfl
 | some u=>exact absurd (Nat.lt_of_lt_of_le (x.lt q) e) (Nat.lt_irrefl _)
theorem HOk.kept (x : HOk P w H h) (k : ∀ b u,h.get? b = some u → h'.get? b = some u) : HOk P w H h':=fun a o e=>
 (x a o e).lW (fun b u _ q=>k b u q) (fun _ q=>q) fun _ _ q=>q
theorem HOk.laid (x : HOk P w H h) (k : ∀ b u,h.get? b = some u → h'.get? b = some u) (hp : h.objs.size ≤ a) (new : gH P w (upd H a o) h' a o) : HOk P w (upd H a o) h':=fun b u e=>by
 have hn:=x.fresh hp
 by_cases hb : b = a
 · subst hb; rw [cT] at e; cases e; exact new
 · rw [aD hb] at e
   exact (x b u e).lW (fun c v _ q=>k c v q) (fun c q=>by rw [aD (aH q hn)]; exact q) fun c xs q=>by rw [aD (aH q hn)]; exact q
end
noncomputable def Rd (H : Hp) (a : Addr) (u : HO) : Prop:=H a = some u ∨ ∃ o,H a = some (.frz o u)
theorem Rd.ok {P : Program} {w : World} {H : Hp} {h : Heap} {a : Addr} {u : HO} (r : Rd H a u) (x : HOk P w H h) : gH P w H h a u:=by
 rcases r with r | ⟨o,r⟩
 · exact x a u r
 · obtain ⟨_,q⟩:=x a _ r
   exact q
noncomputable def Mut : Option HO → Prop
 | some (.lst _)=>True
 | some (.dK _)=>True
 | some (.dT _)=>True
 | some (.set _ _)=>True
 | some (.ins _ _ _)=>True
 | some (.ext _)=>True
 | _=>False
section
variable {P : Program} {w : World} {H : Hp} {h h' : Heap} {x e : Addr} {o' : HO}
theorem HOk.write (ok : HOk P w H h) (mu : Mut (H x)) (he : e = x ∨ H e = some (.own x)) (k : ∀ b u,b ≠ e → h.get? b = some u → h'.get? b = some u) (heo : ∃ u,h'.get? e = some u)
   (new : gH P w (upd H x o') h' x o') : HOk P w (upd H x o') h':=fun b u q=>by
 have nown : ∀ c y,H c = some (.own y) → c ≠ x:=fun c y r z=>by subst z; rw [r] at mu; exact mu
 have ntup : ∀ c xs,H c = some (.tup xs) → c ≠ x:=fun c xs r z=>by subst z; rw [r] at mu; exact mu
 by_cases hb : b = x
 · subst hb; rw [cT] at q; cases q; exact new
 · rw [aD hb] at q
   by_cases hbe : b = e
   · have q' : H b = some (.own x):=by
       rcases he with z | z
       · exact absurd (hbe.trans z) hb
       · rw [hbe]; exact z
     rw [q] at q'; cases q'
     obtain ⟨v,hv⟩:=heo
     exact ⟨v,by rw [hbe]; exact hv⟩
   · refine (ok b u q).lW (fun c v hc r=>k c v ?_ r) (fun c r=>by rw [aD (nown c b r)]; exact r) fun c xs r=>by rw [aD (ntup c xs r)]; exact r
     rcases hc with rfl | hc
     · exact hbe
     · rintro rfl
       rcases he with z | z
       · exact nown c b hc z
       · rw [hc] at z; cases z; exact hb rfl
end
structure Un (fs ex : List Addr) (H H' : Hp) (h h' : Heap) : Prop where
 keep : ∀ b o,h.get? b = some o → H b = none → b ∉ fs → b ∉ ex → h'.get? b = some o
 slot : ∀ b o,h.get? b = some o → H b = none → b ∈ fs → b ∉ ex → ∃ sl,h'.get? b = some { o with slots:=sl }
 free : ∀ b o,h.get? b = some o → H b = none → b ∉ ex → H' b = none
 there : ∀ b o,h.get? b = some o → b ∉ ex → ∃ o',h'.get? b = some o'
 tups : ∀ b xs,H b = some (.tup xs) → H' b = some (.tup xs)
 frzs : ∀ b o u,H b = some (.frz o u) → H' b = some (.frz o u)
 tbls : ∀ b ps,H b = some (.tbl ps) → ∃ more,H' b = some (.tbl (ps ++ more))
section
variable {fs fs' ex ex' : List Addr} {H H1 H2 : Hp} {h h1 h2 h' : Heap} {a x e : Addr} {o : HO}
theorem Un.any (u : Un fs ex H H1 h h1) {b : Addr} {ob : Obj} (q : h.get? b = some ob) (n : H b = none) (hx : b ∉ ex) : ∃ sl,h1.get? b = some { ob with slots:=sl }:=by
 by_cases hb : b ∈ fs
 · exact u.slot b ob q n hb hx
 · exact ⟨ob.slots,u.keep b ob q n hb hx⟩
theorem Un.kept (k : ∀ b u,h.get? b = some u → h'.get? b = some u) : Un fs ex H H h h':=
 ⟨fun b ob q _ _ _=>k b ob q,fun b ob q _ _ _=>⟨ob.slots,k b ob q⟩,fun _ _ _ n _=>n,fun b ob q _=>⟨ob,k b ob q⟩,fun _ _ q=>q,fun _ _ _ q=>q,fun _ ps q=>⟨#[],by rw [q]; simp⟩⟩
theorem Un.refl : Un fs ex H H h h:=Un.kept fun _ _ q=>q
theorem Un.laid (k : ∀ b u,h.get? b = some u → h'.get? b = some u) (hp : h.objs.size ≤ a) (hn : H a = none) : Un fs ex H (upd H a o) h h' where
 keep:=fun b u q _ _ _=>k b u q
 slot:=fun b u q _ _ _=>⟨u.slots,k b u q⟩
 free:=fun b u q n _=>by rw [aD (Nat.ne_of_lt (Nat.lt_of_lt_of_le (Heap.lt_size q) hp))]; exact n
 there:=fun b u q _=>⟨u,k b u q⟩
 tups:=fun b xs q=>by rw [aD (aH q hn)]; exact q
 frzs:=fun b u xs q=>by rw [aD (aH q hn)]; exact q
 tbls:=fun b ps q=>⟨#[],by rw [aD (aH q hn),q]; simp⟩
theorem Un.write (mu : Mut (H x)) (he : e = x ∨ H e = some (.own x)) (k : ∀ b u,b ≠ e → h.get? b = some u → h'.get? b = some u) (heo : ∃ u,h'.get? e = some u) : Un fs ex H (upd H x o) h h':=by
 have hx : ∀ b,H b = none → b ≠ x:=fun b n z=>by subst z; rw [n] at mu; exact mu
 have hb : ∀ b,H b = none → b ≠ e:=fun b n z=>by
   subst z
   rcases he with r | r
   · exact hx b n r
   · rw [n] at r; cases r
 have hm : ∀ b u,H b = some u → ¬ Mut (some u) → b ≠ x:=fun b u q nm z=>by subst z; rw [q] at mu; exact nm mu
 refine ⟨fun b u q n _ _=>k b u (hb b n) q,fun b u q n _ _=>⟨u.slots,k b u (hb b n) q⟩,fun b u q n _=>by rw [aD (hx b n)]; exact n,fun b u q _=>?_,
   fun b xs q=>by rw [aD (hm b _ q fun z=>z)]; exact q,fun b u xs q=>by rw [aD (hm b _ q fun z=>z)]; exact q,fun b ps q=>⟨#[],by rw [aD (hm b _ q fun z=>z),q]; simp⟩⟩
 by_cases hbe : b = e
 · subst hbe; exact heo
 · exact ⟨u,k b u hbe q⟩
end
noncomputable def trk (h : Heap) (H : Hp) : List Addr:=(List.range h.objs.size).filter fun a=>(H a).isSome
noncomputable def tG (h : Heap) (H : Hp) : Heap:=PySem.W.hideAll h (trk h H)
theorem AK (h : Heap) (H : Hp) : (tG h H).objs.size = h.objs.size:=PySem.W.hideAll_size _ _
theorem Cd {h : Heap} {H : Hp} {b : Addr} {o : Obj} (e : h.get? b = some o) (n : H b = none) : (tG h H).get? b = some o:=
 PySem.W.hideAll_get _ e fun hm=>by
   have q : (H b).isSome = true:=(List.mem_filter.mp hm).2
   rw [n] at q; simp at q
theorem E7 {h : Heap} {H : Hp} {b : Addr} {o : Obj} (e : (tG h H).get? b = some o) : h.get? b = some o ∧ H b = none:=by
 have e' : h.get? b = some o:=PySem.W.of_hideAll (trk h H) e
 refine ⟨e',?_⟩
 cases q : H b with
 | none=>rfl
 | some x=>
   have hm : b ∈ trk h H:=List.mem_filter.mpr ⟨List.mem_range.mpr (Heap.lt_size e'),by simp [q]⟩
   have z : (tG h H).get? b = none:=PySem.W.hideAll_none (trk h H) hm
   rw [z] at e; cases e
noncomputable def DF (g h : Heap) (L : Addr) : List (Addr × Obj):=(List.range h.objs.size).filterMap fun a=>if a = L ∨ (g.get? a).isSome = true then none else (h.get? a).map fun o=>(a,o)
noncomputable def rest (g h : Heap) (L d : Addr) : List (Addr × Obj):=(DF g h L).filter fun p=>decide (p.1 ≠ d)
end L2
namespace L2
open PySem PySem.Spec PyProof.Rows
structure Mod (K : PySem.W.Frag) (mg : Str → Option Value) (base : Heap) : Prop where
 kin : K.In base
 glob : base.Ns mainGlobals mg
 blt : ∃ mb,base.Ns builtinsNs mb ∧ ∀ x : Str,x ≠ "__name__" → mb x = bootBuiltins x
 nolimit : base.NoLimit
structure Cx where
 prog : Program
 w : World
 K : PySem.W.Frag
 mg : Str → Option Value
 base : Heap
 A : Around
 N : List Str
 s₀ : Shared
 H₀ : Hp
 env : Env
 outer : List Env
 stack : List Env
 ex : List Addr
 fn : Str → Bool
 calm : Bool
 pn : List (Addr × Obj)
 xe : Value → Shared → Prop
noncomputable def frs (l : List Env) : List Addr:=l.filterMap (·.frame)
noncomputable abbrev Cx.fs (X : Cx) : List Addr:=frs X.outer
noncomputable def Vis (sc : Scope) (x : Str) : Prop:=sc.names.lookup x = some .local ∨ sc.names.lookup x = some .cell ∨ sc.names.lookup x = some .free
noncomputable def Loc (sc : Scope) (x : Str) : Prop:=sc.names.lookup x = some .local ∨ sc.names.lookup x = some .cell
noncomputable def Look (env : Env) (h : Heap) (m : Str → Option Value) (x : Str) (u : Value) : Prop:=
 (env.kindOf x = some .local ∧ m x = some u) ∨ ((env.kindOf x = some .cell ∨ env.kindOf x = some .free) ∧ ∃ c,env.cells.lookup x = some c ∧ h.IsCell c (some u))
structure Cx.Ok (X : Cx) : Prop where
 mod : Mod X.K X.mg X.base
 kind : X.env.scope.kind = .function
 glob : X.env.globals = mainGlobals
 blt : X.env.builtins = builtinsNs
 above : X.s₀.heap.objs.size ≤ X.env.locals
 inj : ∀ x y c,X.env.cells.lookup x = some c → X.env.cells.lookup y = some c → x = y
 has : ∀ x,(X.env.kindOf x = some .cell ∨ X.env.kindOf x = some .free) → ∃ c,X.env.cells.lookup x = some c
 cab : ∀ x c,X.fn x = true → X.env.cells.lookup x = some c → X.s₀.heap.objs.size ≤ c
 hd : X.calm = true → X.A.handled = none
 frames : X.A.frames = some X.stack
 stk : X.stack = X.outer ∨ (X.stack = X.env :: X.outer ∧ X.env.frame = some X.env.locals)
 exf : ∀ b ∈ X.ex,b ≠ X.env.locals ∧ ∀ x c,X.env.cells.lookup x = some c → c ≠ b
 bs : ∀ b o,X.base.get? b = some o → X.s₀.heap.get? b = some o ∧ X.H₀ b = none
 bsz : X.base.objs.size ≤ X.s₀.heap.objs.size
 noex : ∀ b o,X.base.get? b = some o → b ∉ X.ex
 exfs : ∀ b ∈ X.ex,b ∉ X.fs
 qg : X.s₀.heap.FunFrames X.base X.outer
 frf : ∀ b ∈ X.fs,X.H₀ b = none
structure Inv (X : Cx) (pins : List (Addr × Obj)) (σ : List (Option V)) (H : Hp) (s : Shared) : Prop where
 ok : X.Ok
 os : s.os = X.s₀.os
 bare : AllBare s.gens
 base : Un X.fs X.ex X.H₀ H X.s₀.heap s.heap
 loc : ∃ m,s.heap.Ns X.env.locals m ∧ ∀ (i : Nat) (x : Str) (v : V),X.N[i]? = some x → σ[i]? = some (some v) → Vis X.env.scope x → ∃ u,RelV v u ∧ Look X.env s.heap m x u
 cell : ∀ x c,X.env.cells.lookup x = some c → ∃ v,s.heap.IsCell c v
 free : H X.env.locals = none
 freeC : ∀ x c,X.env.cells.lookup x = some c → H c = none
 pin : ∀ p ∈ X.pn ++ pins,s.heap.get? p.1 = some p.2 ∧ H p.1 = none ∧ p.1 ≠ X.env.locals ∧ p.1 ∉ X.fs ∧ ∀ v,p.2.data ≠ .cell v
 hok : HOk X.prog X.w H s.heap
 len : σ.length = X.N.length
section
variable {X : Cx} {pins : List (Addr × Obj)} {σ : List (Option V)} {H H' : Hp} {s : Shared} {h' : Heap}
theorem Cx.Ok.Lq (ok : X.Ok) {b : Addr} {o : Obj} (e : X.base.get? b = some o) : b ∉ X.fs:=fun hb=>by
 have:=(ok.qg.mem hb).1
 rw [e] at this; cases this
theorem Inv.bs (I : Inv X pins σ H s) : ∀ b o,X.base.get? b = some o → s.heap.get? b = some o ∧ H b = none:=fun b o e=>
 ⟨I.base.keep b o (I.ok.bs b o e).1 (I.ok.bs b o e).2 (I.ok.Lq e) (I.ok.noex b o e),I.base.free b o (I.ok.bs b o e).1 (I.ok.bs b o e).2 (I.ok.noex b o e)⟩
theorem Inv.bk (I : Inv X pins σ H s) : ∀ b o,X.base.get? b = some o → s.heap.get? b = some o:=fun b o e=>(I.bs b o e).1
theorem Inv.mod (I : Inv X pins σ H s) : Mod X.K X.mg X.base:=I.ok.mod
theorem Inv.kIn (I : Inv X pins σ H s) : X.K.In s.heap:=I.ok.mod.kin.keeps I.bk
theorem Inv.lt (I : Inv X pins σ H s) : X.env.locals < s.heap.objs.size:=let ⟨_,hn,_⟩:=I.loc; hn.lt
theorem Inv.sz (I : Inv X pins σ H s) : X.s₀.heap.objs.size ≤ s.heap.objs.size:=Nat.le_trans I.ok.above (Nat.le_of_lt I.lt)
theorem Inv.LD (I : Inv X pins σ H s) {a : Addr} (h : s.heap.objs.size ≤ a) : a ∉ X.fs:=fun hb=>by
 obtain ⟨_,o,ho,_⟩:=I.ok.qg.mem hb
 exact absurd (Nat.lt_of_lt_of_le (Heap.lt_size ho) (Nat.le_trans I.sz h)) (Nat.lt_irrefl _)
theorem Inv.cne (I : Inv X pins σ H s) : ∀ x c,X.env.cells.lookup x = some c → c ≠ X.env.locals:=fun x c e z=>by
 obtain ⟨v,o,ho,hd⟩:=I.cell x c e
 obtain ⟨m,⟨o',es,ep,ho',hd',_⟩,_⟩:=I.loc
 rw [z,ho'] at ho; cases ho; rw [hd'] at hd; cases hd
theorem Inv.qg (I : Inv X pins σ H s) : s.heap.FunFrames X.base X.outer:=by
 have all : ∀ (l : List Env),(∀ b ∈ frs l,b ∈ X.fs) → X.s₀.heap.FunFrames X.base l → s.heap.FunFrames X.base l:=by
   intro l
   induction l with
   | nil=>intro _ _; trivial
   | cons env r ih=>
     intro hs hl
     obtain ⟨hk,⟨L,o,hf,hn,ho,hd⟩,hr⟩:=hl
     have hL : L ∈ X.fs:=hs L (by unfold frs; rw [List.filterMap_cons,hf]; exact List.mem_cons_self)
     obtain ⟨sl,e⟩:=I.base.slot L o ho (I.ok.frf L hL) hL fun z=>I.ok.exfs L z hL
     exact ⟨hk,⟨L,_,hf,hn,e,hd⟩,ih (fun b hb=>hs b (by unfold frs; rw [List.filterMap_cons,hf]; exact List.mem_cons_of_mem _ hb)) hr⟩
 exact all X.outer (fun _ hb=>hb) I.ok.qg
theorem Inv.stack (I : Inv X pins σ H s) : s.heap.FunFrames X.base X.stack:=by
 rcases I.ok.stk with e | ⟨e,hf⟩
 · rw [e]; exact I.qg
 · rw [e]
   obtain ⟨m,hn,_⟩:=I.loc
   refine .cons (by rw [I.ok.kind]; decide) hf hn ?_ I.qg
   exact Heap.get?_none_of_le (Nat.le_trans I.ok.bsz I.ok.above)
theorem Inv.xK (I : Inv X pins σ H s) : ∀ b ∈ frs X.stack,b ∈ X.env.locals :: X.fs:=fun b hb=>by
 rcases I.ok.stk with e | ⟨e,hf⟩
 · rw [e] at hb; exact List.mem_cons_of_mem _ hb
 · rw [e] at hb
   unfold frs at hb
   rw [List.filterMap_cons,hf] at hb
   exact hb
theorem Inv.yO (I : Inv X pins σ H s) : ∀ b ∈ frs X.stack,H b = none:=fun b hb=>by
 rcases List.mem_cons.mp (I.xK b hb) with e | hb
 · rw [e]; exact I.free
 · obtain ⟨_,o,ho,_⟩:=I.ok.qg.mem hb
   exact I.base.free b o ho (I.ok.frf b hb) fun z=>I.ok.exfs b z hb
theorem Inv.step {g' : Array GenState} {t' : Nat} {d' : Drawn} {ch : List Addr} (I : Inv X pins σ H s)
   (hch : ∀ b ∈ ch,(b ∈ X.ex ∨ X.s₀.heap.objs.size ≤ b) ∧ b ≠ X.env.locals ∧ (∀ x c,X.env.cells.lookup x = some c → c ≠ b) ∧ ∀ p ∈ X.pn ++ pins,p.1 ≠ b)
   (keep : ∀ b o,b ≠ X.env.locals → b ∉ X.fs → b ∉ ch → s.heap.get? b = some o → H b = none → h'.get? b = some o)
   (slot : ∀ b o,b ≠ X.env.locals → b ∈ X.fs → b ∉ ch → s.heap.get? b = some o → H b = none → ∃ sl,h'.get? b = some { o with slots:=sl }) (free : ∀ b o,b ∉ ch → s.heap.get? b = some o → H b = none → H' b = none)
   (there : ∀ b o,b ∉ ch → s.heap.get? b = some o → ∃ o',h'.get? b = some o')
   (tups : ∀ b xs,H b = some (.tup xs) → H' b = some (.tup xs)) (frzs : ∀ b o u,H b = some (.frz o u) → H' b = some (.frz o u)) (tbls : ∀ b ps,H b = some (.tbl ps) → ∃ more,H' b = some (.tbl (ps ++ more)))
   (ns : ∀ m,s.heap.Ns X.env.locals m → h'.Ns X.env.locals m) (hok : HOk X.prog X.w H' h') (hg : AllBare g') :
   Inv X pins σ H' { s with heap:=h',gens:=g',drawn:=d',toks:=t' }:=by
 have neL : ∀ b o,X.s₀.heap.get? b = some o → b ≠ X.env.locals:=fun b o e=>Nat.ne_of_lt (Nat.lt_of_lt_of_le (Heap.lt_size e) I.ok.above)
 have neC : ∀ b o,X.s₀.heap.get? b = some o → b ∉ X.ex → b ∉ ch:=fun b o e hx hb=>by
   rcases (hch b hb).1 with z | z
   · exact hx z
   · exact absurd (Nat.lt_of_lt_of_le (Heap.lt_size e) z) (Nat.lt_irrefl _)
 have cellK : ∀ x c,X.env.cells.lookup x = some c → ∀ v,s.heap.IsCell c v → h'.IsCell c v:=fun x c e v ⟨o,ho,hd⟩=>by
   have nch : c ∉ ch:=fun z=>(hch c z).2.2.1 x c e rfl
   by_cases hc : c ∈ X.fs
   · obtain ⟨sl,q⟩:=slot c o (I.cne x c e) hc nch ho (I.freeC x c e)
     exact ⟨_,q,hd⟩
   · exact ⟨o,keep c o (I.cne x c e) hc nch ho (I.freeC x c e),hd⟩
 refine ⟨I.ok,I.os,hg,⟨fun b o e n hb hx=>?_,fun b o e n hb hx=>?_,fun b o e n hx=>?_,fun b o e hx=>?_,fun b xs e=>tups b xs (I.base.tups b xs e),fun b o xs e=>frzs b o xs (I.base.frzs b o xs e),fun b ps e=>?_⟩,?_,fun x c e=>?_,?_,fun x c e=>?_,fun p hp=>?_,hok,I.len⟩
 · exact keep b o (neL b o e) hb (neC b o e hx) (I.base.keep b o e n hb hx) (I.base.free b o e n hx)
 · obtain ⟨sl,e1⟩:=I.base.slot b o e n hb hx
   obtain ⟨sl',e2⟩:=slot b _ (neL b o e) hb (neC b o e hx) e1 (I.base.free b o e n hx)
   exact ⟨sl',e2⟩
 · obtain ⟨o',e1⟩:=I.base.there b o e hx
   exact free b o' (neC b o e hx) e1 (I.base.free b o e n hx)
 · obtain ⟨o',e1⟩:=I.base.there b o e hx
   exact there b o' (neC b o e hx) e1
 · obtain ⟨m1,e1⟩:=I.base.tbls b ps e
   obtain ⟨m2,e2⟩:=tbls b _ e1
   exact ⟨m1 ++ m2,by rw [e2,Array.append_assoc]⟩
 · obtain ⟨m,hn,hl⟩:=I.loc
   refine ⟨m,ns m hn,fun i x v e1 e2 e3=>?_⟩
   obtain ⟨u,r,l⟩:=hl i x v e1 e2 e3
   refine ⟨u,r,?_⟩
   rcases l with l | ⟨k,c,e,z⟩
   · exact .inl l
   · exact .inr ⟨k,c,e,cellK x c e _ z⟩
 · obtain ⟨v,z⟩:=I.cell x c e
   exact ⟨v,cellK x c e v z⟩
 · obtain ⟨m,⟨o,_,_,ho,_⟩,_⟩:=I.loc
   exact free _ o (fun z=>(hch _ z).2.1 rfl) ho I.free
 · obtain ⟨v,o,ho,hd⟩:=I.cell x c e
   exact free c o (fun z=>(hch c z).2.2.1 x c e rfl) ho (I.freeC x c e)
 · obtain ⟨e,n,ne,nf,d⟩:=I.pin p hp
   have nch : p.1 ∉ ch:=fun z=>(hch p.1 z).2.2.2 p hp rfl
   exact ⟨keep p.1 p.2 ne nf nch e n,free p.1 p.2 nch e n,ne,nf,d⟩
theorem Inv.un {t' : Nat} (I : Inv X pins σ H s) (u : Un X.fs [] H H' s.heap h') (hok : HOk X.prog X.w H' h') : Inv X pins σ H' { s with heap:=h',toks:=t' }:=by
 obtain ⟨m,⟨o,es,ep,ho,r⟩,_⟩:=id I.loc
 obtain ⟨sl,hL⟩:=u.any ho I.free (by simp)
 exact I.step (g':=s.gens) (d':=s.drawn) (ch:=[]) (fun _ z=>nomatch z) (fun b o _ hb _ e n=>u.keep b o e n hb (by simp)) (fun b o _ hb _ e n=>u.slot b o e n hb (by simp)) (fun b o _ e n=>u.free b o e n (by simp)) (fun b o _ e=>u.there b o e (by simp)) u.tups u.frzs u.tbls (fun m' hm=>by
   obtain ⟨o',es',ep',ho',r'⟩:=hm
   rw [ho] at ho'; cases ho'
   exact ⟨_,es',ep',hL,r'⟩) hok I.bare
theorem Inv.call {g' : Array GenState} {t' : Nat} {d' : Drawn} {ch : List Addr} (I : Inv X pins σ H s) (u : Un (frs X.stack) ch H H' s.heap h') (hok : HOk X.prog X.w H' h') (hg : AllBare g')
   (hch : ∀ b ∈ ch,(b ∈ X.ex ∨ X.s₀.heap.objs.size ≤ b) ∧ b ≠ X.env.locals ∧ (∀ x c,X.env.cells.lookup x = some c → c ≠ b) ∧ ∀ p ∈ X.pn ++ pins,p.1 ≠ b) :
   Inv X pins σ H' { s with heap:=h',gens:=g',drawn:=d',toks:=t' }:=by
 obtain ⟨m,⟨o,es,ep,ho,r⟩,_⟩:=id I.loc
 obtain ⟨sl,hL⟩:=u.any ho I.free fun z=>(hch _ z).2.1 rfl
 exact I.step (ch:=ch) hch (fun b o hL hb hc e n=>u.keep b o e n (fun z=>(List.mem_cons.mp (I.xK b z)).elim hL hb) hc) (fun b o _ _ hc e n=>u.any e n hc) (fun b o hc e n=>u.free b o e n hc) (fun b o hc e=>u.there b o e hc) u.tups u.frzs u.tbls (fun m' hm=>by
   obtain ⟨o',es',ep',ho',r'⟩:=hm
   rw [ho] at ho'; cases ho'
   exact ⟨_,es',ep',hL,r'⟩) hok hg
theorem Inv.turned {t' : Nat} {it : Addr} (I : Inv X pins σ H s) (k : ∀ b o,b ≠ it → s.heap.get? b = some o → h'.get? b = some o) (hn : H it = none) (hL : it ≠ X.env.locals)
   (h1 : it ∈ X.ex ∨ X.s₀.heap.objs.size ≤ it) (h2 : ∀ x c,X.env.cells.lookup x = some c → c ≠ it) (h3 : ∀ p ∈ X.pn ++ pins,p.1 ≠ it) : Inv X pins σ H { s with heap:=h',toks:=t' }:=by
 have nit : ∀ b u,H b = some u → b ≠ it:=fun b u e z=>by rw [z,hn] at e; cases e
 refine I.step (g':=s.gens) (d':=s.drawn) (ch:=[it]) (fun b hb=>?_) (fun b o _ _ hc e _=>k b o (fun z=>hc (by simp [z])) e) (fun b o _ _ hc e _=>⟨o.slots,k b o (fun z=>hc (by simp [z])) e⟩) (fun _ _ _ _ n=>n)
   (fun b o hc e=>⟨o,k b o (fun z=>hc (by simp [z])) e⟩) (fun _ _ e=>e) (fun _ _ _ e=>e) (fun b ps e=>⟨#[],by rw [e]; simp⟩) (fun m hm=>?_) (fun b u e=>?_) I.bare
 · have e : b = it:=by simpa using hb
   subst e
   exact ⟨h1,hL,h2,h3⟩
 · obtain ⟨o,es,ep,ho,r⟩:=hm
   exact ⟨o,es,ep,k _ o (Ne.symm hL) ho,r⟩
 · refine (I.hok b u e).lW (fun c v hc q=>k c v ?_ q) (fun _ q=>q) fun _ _ q=>q
   rcases hc with z | z
   · rw [z]; exact nit b u e
   · exact nit c _ z
theorem Inv.tok (I : Inv X pins σ H s) (t : Nat) : Inv X pins σ H { s with toks:=t }:=I.un (h':=s.heap) (t':=t) Un.refl I.hok
theorem Inv.kept {t' : Nat} (I : Inv X pins σ H s) (k : ∀ b u,s.heap.get? b = some u → h'.get? b = some u) : Inv X pins σ H { s with heap:=h',toks:=t' }:=I.un (Un.kept k) (I.hok.kept k)
theorem Inv.laid {a : Addr} {o : HO} {t' : Nat} (I : Inv X pins σ H s) (k : ∀ b u,s.heap.get? b = some u → h'.get? b = some u) (hp : s.heap.objs.size ≤ a) (new : gH X.prog X.w (upd H a o) h' a o) :
   Inv X pins σ (upd H a o) { s with heap:=h',toks:=t' }:=I.un (Un.laid k hp (I.hok.fresh hp)) (I.hok.laid k hp new)
theorem Inv.write {x e : Addr} {o : HO} {t' : Nat} (I : Inv X pins σ H s) (mu : Mut (H x)) (he : e = x ∨ H e = some (.own x)) (k : ∀ b u,b ≠ e → s.heap.get? b = some u → h'.get? b = some u) (heo : ∃ u,h'.get? e = some u)
   (new : gH X.prog X.w (upd H x o) h' x o) : Inv X pins σ (upd H x o) { s with heap:=h',toks:=t' }:=I.un (Un.write mu he k heo) (I.hok.write mu he k heo new)
theorem Inv.yz {pins' : List (Addr × Obj)} (I : Inv X pins σ H s) (h : ∀ p ∈ pins',s.heap.get? p.1 = some p.2 ∧ H p.1 = none ∧ p.1 ≠ X.env.locals ∧ p.1 ∉ X.fs ∧ ∀ v,p.2.data ≠ .cell v) : Inv X pins' σ H s:=
 ⟨I.ok,I.os,I.bare,I.base,I.loc,I.cell,I.free,I.freeC,fun p hp=>(List.mem_append.mp hp).elim (fun z=>I.pin p (List.mem_append_left _ z)) (h p),I.hok,I.len⟩
theorem uA {N : List Str} (hN : N.Nodup) {i j : Nat} {x : Str} (a : N[i]? = some x) (b : N[j]? = some x) : i = j:=by
 obtain ⟨h1,e1⟩:=List.getElem?_eq_some_iff.mp a
 obtain ⟨h2,e2⟩:=List.getElem?_eq_some_iff.mp b
 exact (List.getElem_inj hN).mp (e1.trans e2.symm)
theorem AH {M : Model} {A : Around} {E : Value → Shared → Prop} {i : Nat} {x : Str} {v : V} {u : Value} {Q : Unit → Shared → Prop} (I : Inv X pins σ H s) (hN : X.N.Nodup) (hi : X.N[i]? = some x) (hx : Loc X.env.scope x) (r : RelV v u)
   (h : ∀ s',Inv X pins (σ.set i (some v)) H s' → (∃ a,Heap.SameBut a s.heap s'.heap ∧ (a = X.env.locals ∨ X.env.cells.lookup x = some a)) → Q () s') (hf : X.fn x = true ∨ X.env.scope.names.lookup x = some .local:=by first | exact .inl rfl | exact .inr rfl | assumption) : wpAny M A (storeName X.env x u) Q E s:=by
 obtain ⟨m,hn,hl⟩:=id I.loc
 have hcls : (X.env.scope.kind == .class || (X.env.scope.kind == .module && X.env.locals != X.env.globals)) = false:=by rw [I.ok.kind]; rfl
 have hiσ : i < σ.length:=by rw [I.len]; exact (List.getElem?_eq_some_iff.mp hi).1
 have cne:=I.cne
 have tracked : ∀ {a : Addr} {h' : Heap},(∃ o,s.heap.get? a = some o ∧ H a = none) → Heap.SameBut a s.heap h' → HOk X.prog X.w H h':=fun {a h'} ha hs b ob e=>by
   obtain ⟨_,_,hfree⟩:=ha
   refine (I.hok b ob e).lW (fun c w' hc q=>(hs.2 c ?_).trans q) (fun _ q=>q) fun _ _ q=>q
   rintro rfl
   rcases hc with rfl | hc
   · rw [hfree] at e; cases e
   · rw [hfree] at hc; cases hc
 rcases hx with hk | hk
 · refine wpAny_storeName_local hk hn (fun h' hn' hs=>?_) hcls
   obtain ⟨oL,_,_,hoL,_⟩:=id hn
   refine h _ ⟨I.ok,I.os,I.bare,⟨fun b o e n hb hx=>?_,fun b o e n hb hx=>?_,I.base.free,fun b o e hx=>?_,I.base.tups,I.base.frzs,I.base.tbls⟩,⟨_,hn',fun j y v' e1 e2 e3=>?_⟩,fun y c e=>?_,I.free,I.freeC,fun p hp=>?_,tracked ⟨oL,hoL,I.free⟩ hs,by simpa using I.len⟩ ⟨_,hs,.inl rfl⟩
   · exact (hs.2 b (Nat.ne_of_lt (Nat.lt_of_lt_of_le (Heap.lt_size e) I.ok.above))).trans (I.base.keep b o e n hb hx)
   · obtain ⟨sl,e1⟩:=I.base.slot b o e n hb hx
     exact ⟨sl,(hs.2 b (Nat.ne_of_lt (Nat.lt_of_lt_of_le (Heap.lt_size e) I.ok.above))).trans e1⟩
   · obtain ⟨o',e1⟩:=I.base.there b o e hx
     exact ⟨o',(hs.2 b (Nat.ne_of_lt (Nat.lt_of_lt_of_le (Heap.lt_size e) I.ok.above))).trans e1⟩
   · by_cases hj : j = i
     · subst hj
       rw [hi] at e1; cases e1
       rw [List.getElem?_set_self hiσ] at e2
       cases e2
       exact ⟨u,r,.inl ⟨hk,by simp⟩⟩
     · rw [List.getElem?_set_ne (Ne.symm hj)] at e2
       obtain ⟨u',r',q⟩:=hl j y v' e1 e2 e3
       refine ⟨u',r',?_⟩
       rcases q with ⟨k,e⟩ | ⟨k,c,e,z⟩
       · refine .inl ⟨k,?_⟩
         have : y ≠ x:=fun e=>hj (uA hN e1 (e ▸ hi))
         simp [this,e]
       · exact .inr ⟨k,c,e,z.sameBut hs (cne y c e)⟩
   · obtain ⟨w',z⟩:=I.cell y c e
     exact ⟨w',z.sameBut hs (cne y c e)⟩
   · obtain ⟨e,n,ne,nf,d⟩:=I.pin p hp
     exact ⟨(hs.2 p.1 ne).trans e,n,ne,nf,d⟩
 · have hfn : X.fn x = true:=by
     rcases hf with z | z
     · exact z
     · rw [z] at hk; cases hk
   obtain ⟨c,hc⟩:=I.ok.has x (.inl hk)
   obtain ⟨w',z⟩:=I.cell x c hc
   refine wpAny_storeName_cell I.ok.kind hk hc z (fun h' hc' hs=>?_)
   obtain ⟨oc,hoc,hocd⟩:=id z
   refine h { s with heap:=h' } ⟨I.ok,I.os,I.bare,⟨fun b o e n hb hx=>?_,fun b o e n hb hx=>?_,I.base.free,fun b o e hx=>?_,I.base.tups,I.base.frzs,I.base.tbls⟩,⟨m,hn.sameBut hs (Ne.symm (cne x c hc)),fun j y v' e1 e2 e3=>?_⟩,fun y c' e=>?_,I.free,I.freeC,fun p hp=>?_,tracked ⟨oc,hoc,I.freeC x c hc⟩ hs,by simpa using I.len⟩ ⟨c,hs,.inr hc⟩
   · exact (hs.2 b (Nat.ne_of_lt (Nat.lt_of_lt_of_le (Heap.lt_size e) (I.ok.cab x c hfn hc)))).trans (I.base.keep b o e n hb hx)
   · obtain ⟨sl,e1⟩:=I.base.slot b o e n hb hx
     exact ⟨sl,(hs.2 b (Nat.ne_of_lt (Nat.lt_of_lt_of_le (Heap.lt_size e) (I.ok.cab x c hfn hc)))).trans e1⟩
   · obtain ⟨o',e1⟩:=I.base.there b o e hx
     exact ⟨o',(hs.2 b (Nat.ne_of_lt (Nat.lt_of_lt_of_le (Heap.lt_size e) (I.ok.cab x c hfn hc)))).trans e1⟩
   · by_cases hj : j = i
     · subst hj
       rw [hi] at e1; cases e1
       rw [List.getElem?_set_self hiσ] at e2
       cases e2
       exact ⟨u,r,.inr ⟨.inl hk,c,hc,hc'⟩⟩
     · rw [List.getElem?_set_ne (Ne.symm hj)] at e2
       obtain ⟨u',r',q⟩:=hl j y v' e1 e2 e3
       refine ⟨u',r',?_⟩
       rcases q with q | ⟨k,c',e,z'⟩
       · exact .inl q
       · refine .inr ⟨k,c',e,z'.sameBut hs ?_⟩
         rintro rfl
         exact hj (uA hN e1 (I.ok.inj _ _ _ e hc ▸ hi))
   · by_cases hcc : c' = c
     · subst hcc; exact ⟨_,hc'⟩
     · obtain ⟨w2,z2⟩:=I.cell y c' e
       exact ⟨w2,z2.sameBut hs hcc⟩
   · obtain ⟨e,n,ne,nf,d⟩:=I.pin p hp
     refine ⟨(hs.2 p.1 ?_).trans e,n,ne,nf,d⟩
     intro q
     rw [q,hoc] at e
     have q' : oc = p.2:=Option.some.inj e
     exact d w' (by rw [← q']; exact hocd)
theorem Bn {M : Model} {A : Around} {E : Value → Shared → Prop} {i : Nat} {x : Str} {v : V} {u : Value} {Q : Unit → Shared → Prop} (I : Inv X pins σ H s) (hN : X.N.Nodup) (hi : X.N[i]? = some x) (hx : Loc X.env.scope x) (r : RelV v u)
   (h : ∀ s',Inv X pins (σ.set i (some v)) H s' → Q () s') (hf : X.fn x = true ∨ X.env.scope.names.lookup x = some .local:=by first | exact .inl rfl | exact .inr rfl | assumption) : wpAny M A (storeName X.env x u) Q E s:=
 AH I hN hi hx r (fun s' I' _=>h s' I') hf
theorem Inv.FF {s' : Shared} {ch : List Addr} (I : Inv X pins σ H s) (ho : s'.os = s.os) (u : Un (frs X.stack) ch H H' s.heap s'.heap) (hok : HOk X.prog X.w H' s'.heap) (hg : AllBare s'.gens)
   (hch : ∀ b ∈ ch,(b ∈ X.ex ∨ X.s₀.heap.objs.size ≤ b) ∧ b ≠ X.env.locals ∧ (∀ x c,X.env.cells.lookup x = some c → c ≠ b) ∧ ∀ p ∈ X.pn ++ pins,p.1 ≠ b) : Inv X pins σ H' s':=by
 obtain ⟨h',g',d',t',o'⟩:=s'
 have e : o' = s.os:=ho
 subst e
 exact I.call (g':=g') (t':=t') (d':=d') u hok hg hch
end
noncomputable abbrev XK:=Value → Option Addr → Hp → Prop
noncomputable abbrev St:=List (Option V)
noncomputable abbrev VK:=V → Hp → Prop
noncomputable abbrev TE:=St → Hp → VK → Prop
noncomputable abbrev TT:=St → Hp → (Bool → Hp → Prop) → Prop
noncomputable abbrev TA:=St → Hp → (List V → Hp → Prop) → Prop
structure Ends where
 nx : St → Hp → Prop
 rt : VK
 bk : St → Hp → Prop:=fun _ _=>False
 ct : St → Hp → Prop:=fun _ _=>False
noncomputable abbrev TS:=Ends → St → Hp → Prop
noncomputable def EP (X : Cx) (pins : List (Addr × Obj)) (σ : St) (Q : VK) (u : Value) (s' : Shared) : Prop:=∃ v H',Inv X pins σ H' s' ∧ RelV v u ∧ Q v H'
noncomputable def TP (X : Cx) (pins : List (Addr × Obj)) (σ : St) (Q : Bool → Hp → Prop) (b : Bool) (s' : Shared) : Prop:=∃ H',Inv X pins σ H' s' ∧ Q b H'
noncomputable def AP (X : Cx) (pins : List (Addr × Obj)) (σ : St) (Q : List V → Hp → Prop) (us : List Value) (s' : Shared) : Prop:=∃ vs H',Inv X pins σ H' s' ∧ Vals vs us ∧ Q vs H'
noncomputable def SP (X : Cx) (pins : List (Addr × Obj)) (D : Ends) (f : Flow) (s' : Shared) : Prop:=
 match f with
 | .next=>∃ σ' H',Inv X pins σ' H' s' ∧ D.nx σ' H'
 | .brk=>∃ σ' H',Inv X pins σ' H' s' ∧ D.bk σ' H'
 | .cont=>∃ σ' H',Inv X pins σ' H' s' ∧ D.ct σ' H'
 | .ret u=>∃ v σ' H',Inv X pins σ' H' s' ∧ RelV v u ∧ D.rt v H'
noncomputable def PE (X : Cx) (e : Expr) (t : TE) : Prop:=
 ∀ (pins : List (Addr × Obj)) (s : Shared) (σ : St) (H : Hp) (Q : VK),Inv X pins σ H s → t σ H Q → wpAny (model X.prog X.w) X.A (eval e X.env) (EP X pins σ Q) X.xe s
noncomputable def PT (X : Cx) (e : Expr) (t : TT) : Prop:=
 ∀ (pins : List (Addr × Obj)) (s : Shared) (σ : St) (H : Hp) (Q : Bool → Hp → Prop),Inv X pins σ H s → t σ H Q → wpAny (model X.prog X.w) X.A (isTrue e X.env (eval e X.env)) (TP X pins σ Q) X.xe s
noncomputable def PW (X : Cx) (e : Expr) (t : TT) : Prop:=
 ∀ (whole : Sem Value) (pins : List (Addr × Obj)) (s : Shared) (σ : St) (H : Hp) (Q : Bool → Hp → Prop),Inv X pins σ H s → t σ H Q → wpAny (model X.prog X.w) X.A (isTrue e X.env whole) (TP X pins σ Q) X.xe s
theorem PW.pt {X : Cx} {e : Expr} {t : TT} (h : PW X e t) : PT X e t:=h _
noncomputable def PA (X : Cx) (es : List Expr) (t : TA) : Prop:=
 ∀ (pos : Pos) (pins : List (Addr × Obj)) (s : Shared) (σ : St) (H : Hp) (Q : List V → Hp → Prop),Inv X pins σ H s → t σ H Q → wpAny (model X.prog X.w) X.A (spliced (backTo pos (starEach es X.env))) (AP X pins σ Q) X.xe s
noncomputable def PS (X : Cx) (st : Stmt) (t : TS) : Prop:=
 ∀ (pins : List (Addr × Obj)) (s : Shared) (σ : St) (H : Hp) (D : Ends),Inv X pins σ H s → t D σ H → wpAny (model X.prog X.w) X.A (exec st X.env) (SP X pins D) X.xe s
noncomputable def PSs (X : Cx) (st : List Stmt) (t : TS) : Prop:=
 ∀ (pins : List (Addr × Obj)) (s : Shared) (σ : St) (H : Hp) (D : Ends),Inv X pins σ H s → t D σ H → wpAny (model X.prog X.w) X.A (execs st X.env) (SP X pins D) X.xe s
theorem thn {α : Type} {t : Sem α} {Q Q' : α → Shared → Prop} {M : Model} {A : Around} {E : Value → Shared → Prop} {s : Shared} (h : wpAny M A t Q E s) (hQ : ∀ a s,Q a s → Q' a s) : wpAny M A t Q' E s:=wpAny_mono h hQ fun _ _ x=>x
end L2
namespace L2
open PySem PySem.Spec PyProof.Rows
section
variable {X : Cx}
theorem bin {a b : Expr} {ta tb : TE} (ha : PE X a ta) (hb : PE X b tb) {pins : List (Addr × Obj)} {s : Shared} {σ : St} {H : Hp} {R : V → V → Hp → Prop} (I : Inv X pins σ H s) (h : ta σ H fun x H1=>tb σ H1 fun y H2=>R x y H2)
   {α : Type} {Q : α → Shared → Prop} {f : Value → Value → Sem α}
   (hf : ∀ v u s2 x y H2,Inv X pins σ H2 s2 → RelV x v → RelV y u → R x y H2 → wpAny (model X.prog X.w) X.A (f v u) Q X.xe s2) :
   wpAny (model X.prog X.w) X.A (eval a X.env) (fun v s₁=>wpAny (model X.prog X.w) X.A (eval b X.env) (fun u s₂=>wpAny (model X.prog X.w) X.A (f v u) Q X.xe s₂) X.xe s₁) X.xe s:=by
 refine thn (ha pins s σ H _ I h) fun v s1 ⟨x,H1,I1,r1,q1⟩=>?_
 refine thn (hb pins s1 σ H1 _ I1 q1) fun u s2 ⟨y,H2,I2,r2,q2⟩=>?_
 exact hf v u s2 x y H2 I2 r1 r2 q2
noncomputable def Lv (i : Nat) : TE:=fun σ H Q=>∃ v,σ[i]? = some (some v) ∧ Q v H
noncomputable def tC (v : V) : TE:=fun _ H Q=>Q v H
theorem Jr {i : Nat} {x : Str} {pos : Pos} (hN : X.N[i]? = some x) (hv : Vis X.env.scope x) (hd : (x == ("__debug__" : Str)) = false:=by decide) (hcd : (x == ("__classdict__" : Str)) = false:=by decide) : PE X (.Name x pos) (Lv i):=by
 intro pins s σ H Q I h
 obtain ⟨v,e,h⟩:=h
 obtain ⟨m,hn,hl⟩:=I.loc
 obtain ⟨u,r,l⟩:=hl i x v hN e hv
 have fin : EP X pins σ Q u s:=⟨v,H,I,r,h⟩
 rcases l with ⟨hk,hm⟩ | ⟨hk,c,hc,hcell⟩
 · exact wpAny_Name (wpAny_loadName_local I.ok.kind hk hn hm fin) hd
 · rcases hk with hk | hk
   · exact wpAny_Name (wpAny_loadName_cell I.ok.kind hk hc hcell fin) hd
   · exact wpAny_Name (wpAny_loadName_free I.ok.kind hk hc hcell fin hcd) hd
theorem He {i j pos} : PE X (.Constant (.int i) j pos) (tC (.int i)):=fun _ _ _ H _ I h=>wpAny_Constant_int ⟨.int i,H,I.tok _,⟨_,rfl⟩,h⟩
theorem Bl {b j pos} : PE X (.Constant (.bool b) j pos) (tC (.bl b)):=fun _ _ _ H _ I h=>Constant_bool ⟨.bl b,H,I,rfl,h⟩
theorem wN {j pos} : PE X (.Constant .none j pos) (tC .non):=fun _ _ _ H _ I h=>Constant_none ⟨.non,H,I,rfl,h⟩
theorem Hl {x j pos} : PE X (.Constant (.str x) j pos) (tC (.str x)):=fun _ _ _ H _ I h=>Calls.Constant_str ⟨.str x,H,I.tok _,⟨_,rfl⟩,h⟩
noncomputable def Gl (X : Cx) (x : Str) : Prop:=X.env.kindOf x = some .globalImplicit
theorem za {E : Value → Shared → Prop} {pins : List (Addr × Obj)} {s : Shared} {σ : St} {H : Hp} {x : Str} {u : Value} {pos : Pos} {Q : Value → Shared → Prop} (I : Inv X pins σ H s) (hg : Gl X x) (hm : X.mg x = some u) (h : Q u s)
   (hd : (x == ("__debug__" : Str)) = false:=by decide) : wpAny (model X.prog X.w) X.A (eval (.Name x pos) X.env) Q E s:=
 Calls.Name_function_global I.ok.kind hg (Calls.loadGlobal_global (by rw [I.ok.glob]; exact I.mod.glob.keeps I.bk) hm h) hd
theorem jc {E : Value → Shared → Prop} {pins : List (Addr × Obj)} {s : Shared} {σ : St} {H : Hp} {x : Str} {u : Value} {pos : Pos} {Q : Value → Shared → Prop} (I : Inv X pins σ H s) (hg : Gl X x) (hm : X.mg x = none) (hv : bootBuiltins x = some u) (h : Q u s)
   (hn : x ≠ "__name__":=by decide) (hd : (x == ("__debug__" : Str)) = false:=by decide) : wpAny (model X.prog X.w) X.A (eval (.Name x pos) X.env) Q E s:=by
 obtain ⟨mb,h1,h2⟩:=I.mod.blt
 exact Calls.Name_function_global I.ok.kind hg (Calls.loadGlobal_builtin (by rw [I.ok.glob]; exact I.mod.glob.keeps I.bk) hm (by rw [I.ok.blt]; exact h1.keeps I.bk) ((h2 x hn).trans hv) h) hd
theorem ED {x : Str} {v : V} {u : Value} {pos : Pos} (hg : Gl X x) (hm : X.mg x = some u) (r : RelV v u) (hd : (x == ("__debug__" : Str)) = false:=by decide) : PE X (.Name x pos) (tC v):=
 fun _ _ _ H _ I h=>za I hg hm ⟨v,H,I,r,h⟩ hd
theorem mE {x : Str} {v : V} {u : Value} {pos : Pos} (hg : Gl X x) (hm : X.mg x = none) (hv : bootBuiltins x = some u) (r : RelV v u) (hn : x ≠ "__name__":=by decide) (hd : (x == ("__debug__" : Str)) = false:=by decide) : PE X (.Name x pos) (tC v):=
 fun _ _ _ H _ I h=>jc I hg hm hv ⟨v,H,I,r,h⟩ hn hd
variable {a b : Expr} {ta tb : TE} {pos : Pos}
noncomputable def PC (X : Cx) (op : CmpOp) (a b : Expr) (t : TE) : Prop:=
 ∀ (pins : List (Addr × Obj)) (s : Shared) (σ : St) (H : Hp) (Q : VK),Inv X pins σ H s → t σ H Q →
   wpAny (model X.prog X.w) X.A (eval a X.env) (fun v s₁=>wpAny (model X.prog X.w) X.A (eval b X.env) (fun u s₂=>wpAny (model X.prog X.w) X.A (compareOp op v u) (EP X pins σ Q) X.xe s₂) X.xe s₁) X.xe s
theorem Dn (b : Expr) {op : CmpOp} (h : op ≠ .In) (h2 : op ≠ .NotIn) : behindInMarks op b = false:=by
 have e1 : (op == CmpOp.In) = false:=by cases op <;> first | rfl | exact absurd rfl h
 have e2 : (op == CmpOp.NotIn) = false:=by cases op <;> first | rfl | exact absurd rfl h2
 cases b <;> simp [behindInMarks,e1,e2]
noncomputable def tB (t : TE) : TT:=fun σ H Q=>t σ H fun x H1=>∃ c,x = .bl c ∧ Q c H1
theorem LH {op : CmpOp} {t : TE} (h : PC X op a b t) (h1 : behindInMarks op b = false:=by first | exact Dn _ (by decide) (by decide) | rfl) : PT X (.Compare a [op] [b] pos) (tB t):=by
 intro pins s σ H Q I hw
 refine wpAny_isTrue_Compare1 (thn (h pins s σ H _ I hw) fun v s1 h1=>thn h1 fun u s2 h2=>thn h2 fun c s3 ⟨x,H1,I1,r1,q1⟩=>?_) h1
 obtain ⟨d,rfl,q⟩:=q1
 cases r1
 exact wpAny_truthy_bool ⟨H1,I1,q⟩
theorem HI {e : Expr} {t : TE} (h : PE X e t) (he : ∀ whole,isTrue e X.env whole = (do let v ← whole; standAt e.pos; holding [v] (truthy v)):=by intro _; rfl) : PT X e (tB t):=by
 intro pins s σ H Q I hw
 refine isTrue_plain (thn (h pins s σ H _ I hw) fun v s1 ⟨x,H1,I1,r1,q1⟩=>?_) (he _)
 obtain ⟨d,rfl,q⟩:=q1
 cases r1
 exact wpAny_truthy_bool ⟨H1,I1,q⟩
variable {tA tB' : TT} {rest : List Expr}
noncomputable def LN (t u : TT) : TT:=fun σ H Q=>t σ H fun c H1=>if c = true then u σ H1 Q else Q false H1
noncomputable def tOr (t u : TT) : TT:=fun σ H Q=>t σ H fun c H1=>if c = true then Q true H1 else u σ H1 Q
noncomputable def Lx (t : TT) : TT:=fun σ H Q=>t σ H fun c H1=>Q (!c) H1
theorem pw_and1 (ha : PT X a tA) : PW X (.BoolOp .And [a] pos) tA:=by
 intro wh pins s σ H Q I h
 refine isTrue_and (thn (ha pins s σ H Q I h) fun c s1 e=>?_)
 cases c with
 | true=>exact isTrue_and_nil e
 | false=>exact e
theorem pw_or1 (ha : PT X a tA) : PW X (.BoolOp .Or [a] pos) tA:=by
 intro wh pins s σ H Q I h
 refine isTrue_or (thn (ha pins s σ H Q I h) fun c s1 e=>?_)
 cases c with
 | false=>exact isTrue_or_nil e
 | true=>exact e
theorem pw_and (ha : PT X a tA) (hb : PW X (.BoolOp .And (b :: rest) pos) tB') : PW X (.BoolOp .And (a :: b :: rest) pos) (LN tA tB'):=by
 intro wh pins s σ H Q I h
 refine isTrue_and (thn (ha pins s σ H _ I h) fun c s1 ⟨H1,I1,q1⟩=>?_)
 cases c with
 | true=>exact hb wh pins s1 σ H1 Q I1 q1
 | false=>exact ⟨H1,I1,q1⟩
theorem pw_or (ha : PT X a tA) (hb : PW X (.BoolOp .Or (b :: rest) pos) tB') : PW X (.BoolOp .Or (a :: b :: rest) pos) (tOr tA tB'):=by
 intro wh pins s σ H Q I h
 refine isTrue_or (thn (ha pins s σ H _ I h) fun c s1 ⟨H1,I1,q1⟩=>?_)
 cases c with
 | true=>exact ⟨H1,I1,q1⟩
 | false=>exact hb wh pins s1 σ H1 Q I1 q1
theorem Hh (ha : PT X a tA) : PT X (.UnaryOp .Not a pos) (Lx tA):=by
 intro pins s σ H Q I h
 exact isTrue_not (ha pins s σ H (fun c H1=>Q (!c) H1) I h)
noncomputable def JT (ta tb : TE) : TE:=fun σ H Q=>ta σ H fun x H1=>∃ c,x = .bl c ∧ if c = true then tb σ H1 Q else Q (.bl false) H1
noncomputable def LF (ta tb : TE) : TE:=fun σ H Q=>ta σ H fun x H1=>∃ c,x = .bl c ∧ if c = true then Q (.bl true) H1 else tb σ H1 Q
noncomputable def Kv (ta : TE) : TE:=fun σ H Q=>ta σ H fun x H1=>∃ c,x = .bl c ∧ Q (.bl (!c)) H1
theorem Hq {op} {t : TE} (h : PE X a t) : PE X (.BoolOp op [a] pos) t:=fun pins s σ H Q I hw=>BoolOp_one (h pins s σ H Q I hw)
theorem HA (ha : PE X a ta) (hb : PE X (.BoolOp .And (b :: rest) pos) tb) : PE X (.BoolOp .And (a :: b :: rest) pos) (JT ta tb):=by
 intro pins s σ H Q I h
 refine BoolOp_and (thn (ha pins s σ H _ I h) fun v s1 ⟨x,H1,I1,r1,q1⟩=>?_)
 obtain ⟨c,rfl,q1⟩:=q1
 cases r1
 refine wpAny_truthy_bool ?_
 cases c with
 | true=>exact hb pins s1 σ H1 Q I1 q1
 | false=>exact ⟨.bl false,H1,I1,rfl,q1⟩
theorem Kh (ha : PE X a ta) (hb : PE X (.BoolOp .Or (b :: rest) pos) tb) : PE X (.BoolOp .Or (a :: b :: rest) pos) (LF ta tb):=by
 intro pins s σ H Q I h
 refine BoolOp_or (thn (ha pins s σ H _ I h) fun v s1 ⟨x,H1,I1,r1,q1⟩=>?_)
 obtain ⟨c,rfl,q1⟩:=q1
 cases r1
 refine wpAny_truthy_bool ?_
 cases c with
 | false=>exact hb pins s1 σ H1 Q I1 q1
 | true=>exact ⟨.bl true,H1,I1,rfl,q1⟩
theorem Hf (ha : PE X a ta) : PE X (.UnaryOp .Not a pos) (Kv ta):=by
 intro pins s σ H Q I h
 refine UnaryOp_ (thn (ha pins s σ H _ I h) fun v s1 ⟨x,H1,I1,r1,q1⟩=>?_)
 obtain ⟨c,rfl,q1⟩:=q1
 cases r1
 exact not_of (wpAny_truthy_bool ⟨.bl (!c),H1,I1,rfl,q1⟩)
noncomputable def tIf (t : TT) (ta tb : TE) : TE:=fun σ H Q=>t σ H fun c H1=>if c = true then ta σ H1 Q else tb σ H1 Q
theorem Dw {c : Expr} (hc : PT X c tA) (ha : PE X a ta) (hb : PE X b tb) : PE X (.IfExp c a b pos) (tIf tA ta tb):=by
 intro pins s σ H Q I h
 refine wpAny_IfExp (thn (hc pins s σ H _ I h) fun d s1 ⟨H1,I1,q1⟩=>?_)
 cases d with
 | true=>exact ha pins s1 σ H1 Q I1 q1
 | false=>exact hb pins s1 σ H1 Q I1 q1
end
end L2
namespace L2
open PySem PySem.Spec PyProof.Rows
noncomputable def SqL (K : PySem.W.Frag) (H : Hp) (a : Addr) (xs : List V) : Prop:=
 Rd H a (.lst xs) ∨
   ∃ (o : Obj) (its : Array Value) (n : Nat),K.lookup a = some o ∧ o.cls = .type "list" ∧ o.dict = none ∧ o.data = .seq its n ∧ its.size ≤ sizeLine ∧ Vals xs its.toList
noncomputable def SqT (K : PySem.W.Frag) (H : Hp) (a : Addr) (xs : List V) : Prop:=
 Rd H a (.tup xs) ∨
   ∃ (o : Obj) (its : Array Value) (n : Nat),K.lookup a = some o ∧ o.cls = .type "tuple" ∧ o.data = .seq its n ∧ its.size ≤ sizeLine ∧ Vals xs its.toList
noncomputable def Ln : Value → Option V
 | .none=>some .non
 | .bool b=>some (.bl b)
 | .int i _=>some (.int i)
 | .str x _=>some (.str x)
 | .bytes b _=>some (.byt b)
 | .float b _=>some (.flt b)
 | .ref a=>some (.ref a)
 | .type n=>some (.ty n)
 | _=>none
theorem RelV.abs {x : V} {u : Value} (r : RelV x u) : Ln u = some x:=by
 cases x with
 | non=>cases r; rfl
 | bl _=>cases r; rfl
 | int _=>obtain ⟨t,rfl⟩:=r; rfl
 | str _=>obtain ⟨t,rfl⟩:=r; rfl
 | byt _=>obtain ⟨t,rfl⟩:=r; rfl
 | flt _=>obtain ⟨t,rfl⟩:=r; rfl
 | ref _=>cases r; rfl
 | ty _=>cases r; rfl
theorem RelV.inj {x y : V} {u : Value} (r : RelV x u) (q : RelV y u) : x = y:=Option.some.inj (r.abs.symm.trans q.abs)
theorem Vals.inj : ∀ {xs ys : List V} {us : List Value},Vals xs us → Vals ys us → xs = ys
 | _,_,_,.nil,.nil=>rfl
 | _,_,_,.cons r t,.cons r' t'=>by rw [r.inj r',Vals.inj t t']
section
variable {X : Cx} {pins : List (Addr × Obj)} {σ : St} {H : Hp} {s : Shared} {a : Addr} {xs ys : List V}
theorem Inv.list (I : Inv X pins σ H s) (h : SqL X.K H a xs) : ∃ its : List Value,Vals xs its ∧ PlainL s.heap a its.toArray ∧ xs.length ≤ sizeLine:=by
 rcases h with h | ⟨o,its,n,hk,hc,hd,hs,hz,r⟩
 · obtain ⟨z,its,n,r,e⟩:=h.ok I.hok
   exact ⟨its,r,⟨_,n,e,rfl,rfl,rfl⟩,z⟩
 · refine ⟨its.toList,r,⟨o,n,I.kIn a o hk,hc,hd,by simpa using hs⟩,?_⟩
   have e:=r.length
   simp only [Array.length_toList] at e
   omega
theorem Inv.tuple (I : Inv X pins σ H s) (h : SqT X.K H a xs) : ∃ its : List Value,Vals xs its ∧ IsTup s.heap a its.toArray ∧ xs.length ≤ sizeLine:=by
 rcases h with h | ⟨o,its,n,hk,hc,hs,hz,r⟩
 · obtain ⟨z,its,r,p⟩:=h.ok I.hok
   exact ⟨its,r,p,z⟩
 · refine ⟨its.toList,r,⟨o,I.kIn a o hk,hc,n,by simpa using hs⟩,?_⟩
   have e:=r.length
   simp only [Array.length_toList] at e
   omega
theorem Inv.lQ (I : Inv X pins σ H s) (h : SqL X.K H a xs) (h' : SqL X.K H a ys) : xs = ys:=by
 obtain ⟨its,r,⟨o,n,e,_,_,d⟩,_⟩:=I.list h
 obtain ⟨its',r',⟨o',n',e',_,_,d'⟩,_⟩:=I.list h'
 rw [e] at e'; cases e'
 rw [d] at d'
 injection d' with d1 _
 have : its = its':=by simpa using congrArg Array.toList d1
 subst this
 exact r.inj r'
theorem Inv.AF (I : Inv X pins σ H s) (h : SqT X.K H a xs) (h' : SqT X.K H a ys) : xs = ys:=by
 obtain ⟨its,r,⟨o,e,_,n,d⟩,_⟩:=I.tuple h
 obtain ⟨its',r',⟨o',e',_,n',d'⟩,_⟩:=I.tuple h'
 rw [e] at e'; cases e'
 rw [d] at d'
 injection d' with d1 _
 have : its = its':=by simpa using congrArg Array.toList d1
 subst this
 exact r.inj r'
end
noncomputable abbrev Cx.pP (X : Cx) (E : Value → Shared → Prop) : Cx:={ X with xe:=E }
noncomputable abbrev Cx.nox (X : Cx) : Cx:=X.pP fun _ _=>False
theorem Cx.Ok.pP {X : Cx} (ok : X.Ok) (E : Value → Shared → Prop) : (X.pP E).Ok:=
 ⟨ok.mod,ok.kind,ok.glob,ok.blt,ok.above,ok.inj,ok.has,ok.cab,ok.hd,ok.frames,ok.stk,ok.exf,ok.bs,ok.bsz,ok.noex,ok.exfs,ok.qg,ok.frf⟩
theorem Cx.Ok.jb {X : Cx} {E : Value → Shared → Prop} (ok : (X.pP E).Ok) : X.Ok:=
 ⟨ok.mod,ok.kind,ok.glob,ok.blt,ok.above,ok.inj,ok.has,ok.cab,ok.hd,ok.frames,ok.stk,ok.exf,ok.bs,ok.bsz,ok.noex,ok.exfs,ok.qg,ok.frf⟩
section
variable {X : Cx} {pins : List (Addr × Obj)} {σ : St} {H : Hp} {s : Shared} {E : Value → Shared → Prop}
theorem Inv.pP (I : Inv X pins σ H s) (E : Value → Shared → Prop) : Inv (X.pP E) pins σ H s:=⟨I.ok.pP E,I.os,I.bare,I.base,I.loc,I.cell,I.free,I.freeC,I.pin,I.hok,I.len⟩
theorem Inv.jb (I : Inv (X.pP E) pins σ H s) : Inv X pins σ H s:=⟨I.ok.jb,I.os,I.bare,I.base,I.loc,I.cell,I.free,I.freeC,I.pin,I.hok,I.len⟩
theorem SP.jb {D : Ends} {f : Flow} {s' : Shared} (h : SP (X.pP E) pins D f s') : SP X pins D f s':=by
 cases f with
 | next=>obtain ⟨σ',H',I,q⟩:=h; exact ⟨σ',H',I.jb,q⟩
 | brk=>obtain ⟨σ',H',I,q⟩:=h; exact ⟨σ',H',I.jb,q⟩
 | cont=>obtain ⟨σ',H',I,q⟩:=h; exact ⟨σ',H',I.jb,q⟩
 | ret u=>obtain ⟨v,σ',H',I,r,q⟩:=h; exact ⟨v,σ',H',I.jb,r,q⟩
theorem PSs.nox {st : List Stmt} {t : TS} (h : PSs X.nox st t) : PSs X st t:=fun pins s σ H D I hw=>
 wpAny_mono (h pins s σ H D (I.pP _) hw) (fun _ _ q=>q.jb) fun _ _ z=>False.elim z
end
section
variable {X : Cx} {st : Stmt} {rest : List Stmt} {t u : TS} {e : Expr} {te : TE} {pos : Pos}
noncomputable def FP : TS:=fun D σ H=>D.nx σ H
noncomputable def LX (t u : TS) : TS:=fun D σ H=>t { D with nx:=u D } σ H
theorem DL : PSs X [] FP:=fun _ _ σ H _ I h=>wpAny_execs_nil ⟨σ,H,I,h⟩
theorem Dl (h1 : PS X st t) (h2 : PSs X rest u) : PSs X (st :: rest) (LX t u):=by
 intro pins s σ H D I h
 refine wpAny_execs_cons (thn (h1 pins s σ H { D with nx:=u D } I h) fun f s1 q=>?_)
 cases f with
 | next=>
   obtain ⟨σ',H',I',q⟩:=q
   exact h2 pins s1 σ' H' D I' q
 | ret v=>exact q
 | brk=>exact q
 | cont=>exact q
noncomputable def GG : TS:=fun D σ H=>D.bk σ H
noncomputable def KI : TS:=fun D σ H=>D.ct σ H
theorem EM : PS X (.Pass pos) FP:=fun _ _ σ H _ I h=>wpAny_Pass ⟨σ,H,I,h⟩
theorem Bz : PS X (.Break pos) GG:=fun _ _ σ H _ I h=>wpAny_Break ⟨σ,H,I,h⟩
theorem wB : PS X (.Continue pos) KI:=fun _ _ σ H _ I h=>wpAny_Continue ⟨σ,H,I,h⟩
theorem Inv.quiet {pins : List (Addr × Obj)} {σ : St} {H : Hp} {s : Shared} (I : Inv X pins σ H s) : interactive X.env = false:=by simp [interactive,I.ok.kind]
noncomputable def BR (te : TE) : TS:=fun D σ H=>te σ H fun _ H1=>D.nx σ H1
theorem jn (he : PE X e te) (hs : swapsWith e none pos.line X.env = pure false:=by rfl) : PS X (.Expr e pos) (BR te):=by
 intro pins s σ H D I h
 exact wpAny_Expr_any (thn (he pins s σ H _ I h) fun v s1 ⟨x,H1,I1,r1,q1⟩=>⟨σ,H1,I1,q1⟩) I.quiet hs
noncomputable def Lh (te : TE) : TS:=fun D σ H=>te σ H D.rt
theorem IP (he : PE X e te) : PS X (.Return (some e) pos) (Lh te):=by
 intro pins s σ H D I h
 exact wpAny_Return_some (thn (he pins s σ H _ I h) fun v s1 ⟨x,H1,I1,r1,q1⟩=>⟨x,σ,H1,I1,r1,q1⟩)
noncomputable def Kw : TS:=fun D _ H=>D.rt .non H
theorem DA : PS X (.Return none pos) Kw:=fun _ _ σ H _ I h=>wpAny_Return_none ⟨.non,σ,H,I,rfl,h⟩
noncomputable def Lg (c : TT) (t u : TS) : TS:=fun D σ H=>c σ H fun b H1=>if b = true then t D σ H1 else u D σ H1
theorem J2 {c : Expr} {a b : List Stmt} {tc : TT} (hc : PT X c tc) (ha : PSs X a t) (hb : PSs X b u) : PS X (.If c a b pos) (Lg tc t u):=by
 intro pins s σ H D I h
 refine wpAny_If (thn (hc pins s σ H _ I h) fun d s1 ⟨H1,I1,q1⟩=>?_)
 cases d with
 | true=>exact ha pins s1 σ H1 D I1 q1
 | false=>exact hb pins s1 σ H1 D I1 q1
noncomputable def Gw : TS:=fun _ _ _=>False
theorem B6 : PS X st Gw:=fun _ _ _ _ _ _ h=>h.elim
end
noncomputable abbrev TG:=V → St → Hp → (St → Hp → Prop) → Prop
noncomputable abbrev TGs:=List V → St → Hp → (St → Hp → Prop) → Prop
noncomputable def PG (X : Cx) (target : Expr) (t : TG) : Prop:=
 ∀ (pins : List (Addr × Obj)) (s : Shared) (σ : St) (H : Hp) (v : V) (u : Value) (Q : St → Hp → Prop),Inv X pins σ H s → RelV v u → t v σ H Q →
   wpAny (model X.prog X.w) X.A (assign target X.env u) (fun _ s'=>∃ σ' H',Inv X pins σ' H' s' ∧ Q σ' H') X.xe s
noncomputable def PGs (X : Cx) (ts : List Expr) (t : TGs) : Prop:=
 ∀ (pins : List (Addr × Obj)) (s : Shared) (σ : St) (H : Hp) (vs : List V) (us : List Value) (Q : St → Hp → Prop),Inv X pins σ H s → Vals vs us → t vs σ H Q →
   wpAny (model X.prog X.w) X.A (assignInOrder ((assignEach ts X.env).map (·.2)) us) (fun _ s'=>∃ σ' H',Inv X pins σ' H' s' ∧ Q σ' H') X.xe s
noncomputable abbrev IM:=V → V → V → Hp → (Hp → Prop) → Prop
noncomputable def GJ (X : Cx) (t : IM) : Prop:=
 ∀ (pins : List (Addr × Obj)) (s : Shared) (σ : St) (H : Hp) (o i v : V) (ov iv u : Value) (Q : Hp → Prop),Inv X pins σ H s → RelV o ov → RelV i iv → RelV v u → t o i v H Q →
   wpAny (model X.prog X.w) X.A (setItem ov iv u) (fun _ s'=>∃ H',Inv X pins σ H' s' ∧ Q H') X.xe s
section
variable {X : Cx} {pos : Pos}
noncomputable def Km (i : Nat) : TG:=fun v σ H Q=>Q (σ.set i (some v)) H
theorem zc {i : Nat} {x : Str} (hN : X.N.Nodup) (hi : X.N[i]? = some x) (hx : Loc X.env.scope x) (hf : X.fn x = true ∨ X.env.scope.names.lookup x = some .local:=by first | exact .inl rfl | exact .inr rfl | assumption) : PG X (.Name x pos) (Km i):=by
 intro pins s σ H v u Q I r h
 exact wpAny_assign_Name (Bn I hN hi hx r (fun s' I'=>⟨_,H,I',h⟩) hf)
noncomputable def LA : TGs:=fun vs σ H Q=>vs = [] ∧ Q σ H
noncomputable def J7 (t : TG) (u : TGs) : TGs:=fun vs σ H Q=>∃ v r,vs = v :: r ∧ t v σ H fun σ' H'=>u r σ' H' Q
theorem DH : PGs X [] LA:=by
 intro pins s σ H vs us Q I r h
 obtain ⟨e,h⟩:=h
 subst e
 cases r
 exact assignInOrder_nil ⟨σ,H,I,h⟩
theorem Bm {e : Expr} {es : List Expr} {t : TG} {u : TGs} (h1 : PG X e t) (h2 : PGs X es u)
   (hs : (assignEach (e :: es) X.env).map (·.2) = assign e X.env :: (assignEach es X.env).map (·.2):=by rfl) : PGs X (e :: es) (J7 t u):=by
 intro pins s σ H vs us Q I r h
 obtain ⟨v,vr,e1,h⟩:=h
 subst e1
 cases r with
 | cons r rr=>
   rw [hs]
   refine assignInOrder_cons (thn (h1 pins s σ H _ _ _ I r h) fun _ s1 ⟨σ1,H1,I1,q1⟩=>?_)
   exact h2 pins s1 σ1 H1 _ _ Q I1 rr q1
noncomputable def LU (K : PySem.W.Frag) (n : Nat) (t : TGs) : TG:=fun v σ H Q=>∃ a xs,v = .ref a ∧ SqT K H a xs ∧ xs.length = n ∧ t xs σ H Q
theorem IY {es : List Expr} {k : Nat} {t : TGs} {n : Nat} (hc : X.calm = true) (h : PGs X es t)
   (hn : (assignEach es X.env).length = n:=by rfl) (hst : (assignEach es X.env).findIdx? (·.1) = none:=by rfl) : PG X (.Tuple es k pos) (LU X.K n t):=by
 intro pins s σ H v u Q I r hw
 obtain ⟨a,xs,e1,hq,hl,hw⟩:=hw
 subst e1
 cases r
 obtain ⟨its,rv,ht,hz⟩:=I.tuple hq
 refine assign_Tuple_tuple (I.ok.hd hc) ht (by simp [hn,← hl,rv.length]) hst fun h' hx=>?_
 have I1 : Inv X pins σ H { s with heap:=h' }:=I.kept (t':=s.toks) fun b o e=>hx b o (Nat.ne_of_lt (Heap.lt_size e)) e
 exact h pins _ σ H xs _ Q I1 (by simpa using rv) hw
noncomputable def Lj (to ti : TE) (t : IM) : TG:=fun v σ H Q=>to σ H fun o H1=>ti σ H1 fun i H2=>t o i v H2 fun H3=>Q σ H3
theorem Jn {o i : Expr} {to ti : TE} {t : IM} (ho : PE X o to) (hi : PE X i ti) (hs : GJ X t)
   (ha : ∀ v,assign (.Subscript o i pos) X.env v = (do
     let ov ← holding [v] (eval o X.env)
     let iv ← holding [v,ov] (eval i X.env)
     standAt pos
     holding [v,ov,iv] (setItem ov iv v)
     release [v,ov,iv] []):=by intro _; rfl) : PG X (.Subscript o i pos) (Lj to ti t):=by
 intro pins s σ H v u Q I r h
 rw [ha]
 refine wpAny_bind (wpAny_holding (thn (ho pins s σ H _ I h) fun ov s1 ⟨x,H1,I1,r1,q1⟩=>?_))
 refine wpAny_bind (wpAny_holding (thn (hi pins s1 σ H1 _ I1 q1) fun iv s2 ⟨y,H2,I2,r2,q2⟩=>?_))
 refine wpAny_bind (wpAny_standAt (wpAny_bind (wpAny_holding (thn (hs pins s2 σ H2 x y v ov iv u _ I2 r1 r2 r q2) fun _ s3 ⟨H3,I3,q3⟩=>?_))))
 exact wpAny_release ⟨σ,H3,I3,q3⟩
noncomputable def Gg (te : TE) (g : TG) : TS:=fun D σ H=>te σ H fun x H1=>g x σ H1 D.nx
theorem BD {tg e : Expr} {te : TE} {g : TG} (he : PE X e te) (hg : PG X tg g) (hs : swapsWithSole [tg] e pos.line X.env = pure false:=by rfl) (hw : swappedStores [tg] e X.env = pure none:=by rfl)
   (h1 : (assignEach [tg] X.env).map (·.2) = [assign tg X.env]:=by rfl) : PS X (.Assign [tg] e pos) (Gg te g):=by
 intro pins s σ H D I h
 refine wpAny_Assign_stores (thn (he pins s σ H _ I h) fun v s1 ⟨x,H1,I1,r1,q1⟩=>?_) hs hw
 rw [h1]
 exact thn (hg pins s1 σ H1 x v _ I1 r1 q1) fun _ s2 q=>q
end
section
variable {X : Cx} {pos : Pos}
noncomputable def IL (c : TT) (tb : TS) : TS:=fun D σ H=>∃ W : Nat → St → Hp → Prop,(∃ m,W m σ H) ∧ ∀ m σ H,W m σ H →
 c σ H fun b H1=>if b = true then ∃ N : St → Hp → Prop,(∀ σ' H',N σ' H' → ∃ m',m' < m ∧ W m' σ' H') ∧ tb { D with nx:=N,ct:=N,bk:=D.nx } σ H1 else D.nx σ H1
theorem Cw {c : Expr} {body : List Stmt} {tc : TT} {tb : TS} (hp : PassesOwn (model X.prog X.w) X.A X.env X.xe) (hc : PT X c tc) (hb : PSs X body tb) : PS X (.While c body [] pos) (IL tc tb):=by
 intro pins s σ H D I h
 obtain ⟨W,⟨m0,w0⟩,turn⟩:=h
 refine wpAny_While (codeAny_whileLoop (fun n s'=>∃ σ' H',Inv X pins σ' H' s' ∧ W n σ' H') ?_ m0 ⟨σ,H,I,w0⟩)
 rintro n s1 ⟨σ1,H1,I1,w1⟩
 refine wpAny_passesOwn hp (thn (hc pins s1 σ1 H1 _ I1 (turn n σ1 H1 w1)) fun b s2 ⟨H2,I2,q2⟩=>?_)
 cases b with
 | true=>
   obtain ⟨N,hN,q2⟩:=q2
   rw [if_pos rfl]
   refine wpAny_passesOwn hp (thn (hb pins s2 σ1 H2 _ I2 q2) fun f s3 q3=>?_)
   cases f with
   | next=>
     obtain ⟨σ3,H3,I3,n3⟩:=q3
     obtain ⟨m',hm,w3⟩:=hN σ3 H3 n3
     exact ⟨m',hm,σ3,H3,I3,w3⟩
   | cont=>
     obtain ⟨σ3,H3,I3,n3⟩:=q3
     obtain ⟨m',hm,w3⟩:=hN σ3 H3 n3
     exact ⟨m',hm,σ3,H3,I3,w3⟩
   | brk=>exact q3
   | ret v=>exact q3
 | false=>
   rw [if_neg Bool.false_ne_true]
   exact wpAny_execs_nil ⟨σ1,H2,I2,q2⟩
end
structure It where
 go : Nat → Hp → Prop
 yld : Nat → Hp → V → Hp → Prop
 stop : Nat → Hp → Prop
noncomputable def qQ (X : Cx) (pins : List (Addr × Obj)) (H : Hp) (b : Addr) : Prop:=
 H b = none ∧ b ≠ X.env.locals ∧ b ∉ X.fs ∧ (b ∈ X.ex ∨ X.s₀.heap.objs.size ≤ b) ∧ (∀ x c,X.env.cells.lookup x = some c → c ≠ b) ∧ ∀ p ∈ X.pn ++ pins,p.1 ≠ b
theorem Inv.ye {X : Cx} {pins : List (Addr × Obj)} {σ : St} {H H' : Hp} {s : Shared} {b : Addr} (I : Inv X pins σ H s) (hb : s.heap.objs.size ≤ b) (hn : H' b = none) : qQ X pins H' b:=by
 refine ⟨hn,Nat.ne_of_gt (Nat.lt_of_lt_of_le I.lt hb),I.LD hb,.inr (Nat.le_trans I.sz hb),fun x c e z=>?_,fun p hp z=>?_⟩
 · obtain ⟨v,q⟩:=I.cell x c e
   exact absurd (Nat.lt_of_lt_of_le q.lt (by rw [z]; exact hb)) (Nat.lt_irrefl _)
 · exact absurd (Nat.lt_of_lt_of_le (Heap.lt_size (I.pin p hp).1) (by rw [z]; exact hb)) (Nat.lt_irrefl _)
structure Turn (P : Program) (w : World) (K : PySem.W.Frag) (tg : Expr) (J : It) (fp : List Addr) (it : Addr) (tn : Nat → Heap → Prop) : Prop where
 mem : it ∈ fp
 obj : ∀ i h,tn i h → ∀ b ∈ fp,∃ o,h.get? b = some o ∧ ∀ v,o.data ≠ .cell v
 keep : ∀ i h h',tn i h → (∀ b ∈ fp,∀ o,h.get? b = some o → h'.get? b = some o) → tn i h'
 item : ∀ (X : Cx),X.prog = P → X.w = w → X.K = K → X.calm = true → ∀ (i : Nat) (pins : List (Addr × Obj)) (s : Shared) (σ : St) (H : Hp) (E : Value → Shared → Prop),Inv X pins σ H s → (∀ b ∈ fp,qQ X pins H b) → tn i s.heap → J.go i H →
   wpAny (model P w) X.A (pyNext (.ref it)) (fun r s1=>∃ u,r = some u ∧
     wpAny (model P w) X.A (letOwnedTupleGo tg (.ref it) u) (fun _ s2=>∃ x H',Inv X pins σ H' s2 ∧ RelV x u ∧ J.yld i H x H' ∧ tn (i + 1) s2.heap ∧ ∀ b ∈ fp,H' b = none) E s1) E s
 done : ∀ (X : Cx),X.prog = P → X.w = w → X.K = K → X.calm = true → ∀ (i : Nat) (pins : List (Addr × Obj)) (s : Shared) (σ : St) (H : Hp) (E : Value → Shared → Prop),Inv X pins σ H s → (∀ b ∈ fp,qQ X pins H b) → tn i s.heap → J.stop i H →
   wpAny (model P w) X.A (pyNext (.ref it)) (fun r s1=>r = none ∧ Inv X pins σ H s1) E s
 self : ∀ (A : Around) (i : Nat) (s : Shared) (Q : Value → Shared → Prop) (E : Value → Shared → Prop),tn i s.heap → Q (.ref it) s → wpAny (model P w) A (pyIter (.ref it)) Q E s
noncomputable abbrev TI:=St → Hp → (It → Hp → Prop) → Prop
noncomputable def PIE (X : Cx) (pins : List (Addr × Obj)) (σ : St) (tg : Expr) (R : It → Hp → Prop) (itv : Value) (s2 : Shared) : Prop:=
 ∃ (it : Addr) (fp : List Addr) (tn : Nat → Heap → Prop) (J : It) (H' : Hp),itv = .ref it ∧ Inv X pins σ H' s2 ∧ Turn X.prog X.w X.K tg J fp it tn ∧ tn 0 s2.heap ∧ (∀ b ∈ fp,qQ X pins H' b) ∧ R J H'
noncomputable def PI (X : Cx) (tg iter : Expr) (wi : TI) : Prop:=
 ∀ (pins : List (Addr × Obj)) (s : Shared) (σ : St) (H : Hp) (R : It → Hp → Prop),Inv X pins σ H s → wi σ H R →
   wpAny (model X.prog X.w) X.A (eval iter X.env) (fun v s1=>wpAny (model X.prog X.w) X.A (pyIter v) (PIE X pins σ tg R) X.xe s1) X.xe s
theorem Dv {M : Model} {A : Around} {E : Value → Shared → Prop} {s : Shared} {tg : Expr} {it : Addr} {u : Value} {o : Obj} {n : String} {vs : Array Value} {Q : Unit → Shared → Prop} (ho : s.heap.get? it = some o) (hc : o.cls = .type n) (hd : o.data = .fields vs)
   (hn : ["enumerate","zip","dict_itemiterator","dict_reverseitemiterator","odict_iterator","itertools.zip_longest","itertools.pairwise"].contains n = false) (hQ : Q () s) : wpAny M A (letOwnedTupleGo tg (.ref it) u) Q E s:=by
 unfold letOwnedTupleGo
 cases tg <;> first
   | exact wpAny_pure hQ
   | (cases u <;> first
       | exact wpAny_pure hQ
       | (refine wpAny_bind (wpAny_load ho ?_)
          rw [hc,hd]
          show wpAny M A (if (["enumerate","zip","dict_itemiterator","dict_reverseitemiterator","odict_iterator","itertools.zip_longest","itertools.pairwise"].contains n && vs[0]? == some (rawInt _)) = true then _ else _) Q E s
          rw [if_neg (by intro h; rw [hn,Bool.false_and] at h; cases h)]
          exact wpAny_pure hQ))
noncomputable def Itl (K : PySem.W.Frag) (a : Addr) : It:=
 ⟨fun i H=>∃ xs x,SqL K H a xs ∧ xs[i]? = some x,fun i H x H'=>H' = H ∧ ∀ xs,SqL K H a xs → xs[i]? = some x,fun i H=>∃ xs,SqL K H a xs ∧ xs.length ≤ i⟩
noncomputable def Itt (K : PySem.W.Frag) (a : Addr) : It:=
 ⟨fun i H=>∃ xs x,SqT K H a xs ∧ xs[i]? = some x,fun i H x H'=>H' = H ∧ ∀ xs,SqT K H a xs → xs[i]? = some x,fun i H=>∃ xs,SqT K H a xs ∧ xs.length ≤ i⟩
noncomputable def Itr (lo : Int) (n : Nat) : It:=⟨fun i _=>i < n,fun i H x H'=>H' = H ∧ x = .int (lo + i),fun i _=>n ≤ i⟩
theorem zN {P : Program} {w : World} {K : PySem.W.Frag} {tg : Expr} (a it : Addr) : Turn P w K tg (Itl K a) [it] it (fun i h=>h.IsListIter it a i) where
 mem:=by simp
 obj:=fun i h st b hb=>by
   have e : b = it:=by simpa using hb
   subst e
   obtain ⟨o,e,c,d⟩:=st
   exact ⟨o,e,fun v z=>by rw [d] at z; cases z⟩
 keep:=fun i h h' st k=>st.at fun o e=>k it (by simp) o e
 item:=by
   intro X hP hw hK hc i pins s σ H E I hf st hg
   subst hP hw hK
   obtain ⟨xs,x,hq,hx⟩:=hg
   obtain ⟨its,rv,p,hz⟩:=I.list hq
   obtain ⟨u,hu,ru⟩:=rv.get hx
   obtain ⟨f0,f1,f2,f3,f4,f5⟩:=hf it (by simp)
   refine wpAny_pyNext_list_item st p.isList (x:=u) (by simpa using hu) fun h' st' sb=>?_
   have I1 : Inv X pins σ H { s with heap:=h' }:=I.turned (t':=s.toks) (fun b o hb e=>(sb.2 b hb).trans e) f0 f1 f3 f4 f5
   obtain ⟨o,e,c,d⟩:=id st'
   exact ⟨u,rfl,Dv (s:={ s with heap:=h' }) e c d (by decide) ⟨x,H,I1,ru,⟨rfl,fun ys hy=>by rw [I.lQ hy hq]; exact hx⟩,st',fun b hb=>(hf b hb).1⟩⟩
 done:=by
   intro X hP hw hK hc i pins s σ H E I hf st hg
   subst hP hw hK
   obtain ⟨xs,hq,hx⟩:=hg
   obtain ⟨its,rv,p,hz⟩:=I.list hq
   obtain ⟨f0,f1,f2,f3,f4,f5⟩:=hf it (by simp)
   have hl:=rv.length
   exact wpAny_pyNext_list_end (I.ok.hd hc) st p.isList (by simp; omega) fun h' eb=>⟨rfl,I.turned (t':=s.toks) (fun b o hb e=>eb b o hb e) f0 f1 f3 f4 f5⟩
 self:=fun _ _ _ _ _ st h=>wpAny_pyIter_listiter st h
theorem wZ {P : Program} {w : World} {K : PySem.W.Frag} {tg : Expr} (a it : Addr) : Turn P w K tg (Itt K a) [it] it (fun i h=>h.IsTupleIter it a i) where
 mem:=by simp
 obj:=fun i h st b hb=>by
   have e : b = it:=by simpa using hb
   subst e
   obtain ⟨o,e,c,d⟩:=st
   exact ⟨o,e,fun v z=>by rw [d] at z; cases z⟩
 keep:=fun i h h' st k=>st.at fun o e=>k it (by simp) o e
 item:=by
   intro X hP hw hK hc i pins s σ H E I hf st hg
   subst hP hw hK
   obtain ⟨xs,x,hq,hx⟩:=hg
   obtain ⟨its,rv,p,hz⟩:=I.tuple hq
   obtain ⟨u,hu,ru⟩:=rv.get hx
   obtain ⟨f0,f1,f2,f3,f4,f5⟩:=hf it (by simp)
   refine wpAny_pyNext_tuple_item st (show s.heap.IsTuple a its.toArray from p) (x:=u) (by simpa using hu) fun h' st' sb=>?_
   have I1 : Inv X pins σ H { s with heap:=h' }:=I.turned (t':=s.toks) (fun b o hb e=>(sb.2 b hb).trans e) f0 f1 f3 f4 f5
   obtain ⟨o,e,c,d⟩:=id st'
   exact ⟨u,rfl,Dv (s:={ s with heap:=h' }) e c d (by decide) ⟨x,H,I1,ru,⟨rfl,fun ys hy=>by rw [I.AF hy hq]; exact hx⟩,st',fun b hb=>(hf b hb).1⟩⟩
 done:=by
   intro X hP hw hK hc i pins s σ H E I hf st hg
   subst hP hw hK
   obtain ⟨xs,hq,hx⟩:=hg
   obtain ⟨its,rv,p,hz⟩:=I.tuple hq
   obtain ⟨f0,f1,f2,f3,f4,f5⟩:=hf it (by simp)
   have hl:=rv.length
   exact wpAny_pyNext_tuple_end (I.ok.hd hc) st (show s.heap.IsTuple a its.toArray from p) (by simp; omega) fun h' eb=>⟨rfl,I.turned (t':=s.toks) (fun b o hb e=>eb b o hb e) f0 f1 f3 f4 f5⟩
 self:=fun _ _ _ _ _ st h=>wpAny_pyIter_tupleiter st h
theorem xC {P : Program} {w : World} {K : PySem.W.Frag} {tg : Expr} (it : Addr) (lo : Int) (n : Nat) : Turn P w K tg (Itr lo n) [it] it (fun i h=>IsRangeIter h it (lo + (i : Nat) * 1) ((n : Int) - (i : Nat)) 1) where
 mem:=by simp
 obj:=fun i h st b hb=>by
   have e : b = it:=by simpa using hb
   subst e
   exact ⟨_,st,fun v z=>by
     have z' : Data.fields _ = Data.cell v:=z
     cases z'⟩
 keep:=fun i h h' st k=>k it (by simp) _ st
 item:=by
   intro X hP hw hK hc i pins s σ H E I hf st hg
   subst hP hw hK
   obtain ⟨f0,f1,f2,f3,f4,f5⟩:=hf it (by simp)
   have W:=Walks.range (prog:=X.prog) (w:=X.w) (I.ok.hd hc) it lo 1 n
   refine W.item i s _ _ hg st fun v h' tk hv st' kk=>?_
   obtain ⟨t,rfl⟩:=hv
   have I1 : Inv X pins σ H { s with heap:=h',toks:=tk }:=I.turned (fun b o hb e=>kk b o (by simpa using hb) e) f0 f1 f3 f4 f5
   refine ⟨_,rfl,Dv (s:={ s with heap:=h',toks:=tk }) (n:="range_iterator") st' rfl rfl (by decide) ⟨.int (lo + i),H,I1,⟨t,?_⟩,⟨rfl,rfl⟩,st',fun b hb=>(hf b hb).1⟩⟩
   rw [Int.mul_one]
 done:=by
   intro X hP hw hK hc i pins s σ H E I hf st hg
   subst hP hw hK
   obtain ⟨f0,f1,f2,f3,f4,f5⟩:=hf it (by simp)
   exact wpAny_pyNext_range_end (I.ok.hd hc) st (by have : n ≤ i:=hg; omega) fun h' eb=>⟨rfl,I.turned (t':=s.toks) (fun b o hb e=>eb b o hb e) f0 f1 f3 f4 f5⟩
 self:=fun _ _ _ _ _ st h=>wpAny_pyIter_rangeiter st h
end L2
namespace L2
open PySem PySem.Spec PyProof.Rows
section
variable {X : Cx} {tg : Expr}
noncomputable def KW (K : PySem.W.Frag) (tl : TE) : TI:=fun σ H R=>tl σ H fun x H1=>∃ a,x = .ref a ∧ (∃ xs,SqL K H1 a xs) ∧ R (Itl K a) H1
noncomputable def LB (K : PySem.W.Frag) (tl : TE) : TI:=fun σ H R=>tl σ H fun x H1=>∃ a,x = .ref a ∧ (∃ xs,SqT K H1 a xs) ∧ R (Itt K a) H1
theorem Eb {l : Expr} {tl : TE} (hl : PE X l tl) : PI X tg l (KW X.K tl):=by
 intro pins s σ H R I h
 refine thn (hl pins s σ H _ I h) fun v s1 ⟨x,H1,I1,r1,q1⟩=>?_
 obtain ⟨a,e,⟨xs,hq⟩,q⟩:=q1
 subst e
 cases r1
 obtain ⟨its,rv,p,hz⟩:=I1.list hq
 refine wpAny_pyIter_list p.isList ?_
 refine ⟨s1.heap.objs.size,[s1.heap.objs.size],_,_,H1,rfl,I1.kept (t':=s1.toks) fun b o e=>Heap.get?_push_of_some _ e,zN a _,⟨_,Heap.get?_push_size _ rfl,rfl,rfl⟩,fun b hb=>?_,q⟩
 have e : b = s1.heap.objs.size:=by simpa using hb
 subst e
 exact I1.ye (Nat.le_refl _) (I1.hok.fresh (Nat.le_refl _))
theorem Gz {l : Expr} {tl : TE} (hl : PE X l tl) : PI X tg l (LB X.K tl):=by
 intro pins s σ H R I h
 refine thn (hl pins s σ H _ I h) fun v s1 ⟨x,H1,I1,r1,q1⟩=>?_
 obtain ⟨a,e,⟨xs,hq⟩,q⟩:=q1
 subst e
 cases r1
 obtain ⟨its,rv,p,hz⟩:=I1.tuple hq
 refine wpAny_pyIter_tuple (show s1.heap.IsTuple a its.toArray from p) ?_
 refine ⟨s1.heap.objs.size,[s1.heap.objs.size],_,_,H1,rfl,I1.kept (t':=s1.toks) fun b o e=>Heap.get?_push_of_some _ e,wZ a _,⟨_,Heap.get?_push_size _ rfl,rfl,rfl⟩,fun b hb=>?_,q⟩
 have e : b = s1.heap.objs.size:=by simpa using hb
 subst e
 exact I1.ye (Nat.le_refl _) (I1.hok.fresh (Nat.le_refl _))
theorem uv {pins : List (Addr × Obj)} {σ : St} {H : Hp} {s : Shared} {R : It → Hp → Prop} {E : Value → Shared → Prop} {lo hi : Int} {t u v : Tok} {tk : Nat} (I : Inv X pins σ H s) (h1 : -(2 ^ 62) ≤ lo) (h2 : lo < 2 ^ 62) (h3 : -(2 ^ 62) ≤ hi) (h4 : hi < 2 ^ 62)
   (q : R (Itr lo (hi - lo).toNat) H) : wpAny (model X.prog X.w) X.A (pyIter (.ref s.heap.objs.size)) (PIE X pins σ tg R) E { s with heap:=s.heap.push { cls:=.type "range",data:=.fields #[.int lo t,.int hi u,.int 1 v] },toks:=tk }:=by
 refine wpAny_pyIter_range (IsRange.new ..) (small_one h1 h2 h3 h4) ?_
 have I1 : Inv X pins σ H { s with heap:=s.heap.push { cls:=.type "range",data:=.fields #[.int lo t,.int hi u,.int 1 v] },toks:=tk }:=I.kept fun b o e=>Heap.get?_push_of_some _ e
 refine ⟨(s.heap.push { cls:=.type "range",data:=.fields #[.int lo t,.int hi u,.int 1 v] }).objs.size,[(s.heap.push { cls:=.type "range",data:=.fields #[.int lo t,.int hi u,.int 1 v] }).objs.size],_,_,H,rfl,
   I1.kept (t':=tk) fun b o e=>Heap.get?_push_of_some _ e,xC _ lo (hi - lo).toNat,?_,fun b hb=>?_,q⟩
 · have e1 : lo + ((0 : Nat) : Int) * 1 = lo:=by simp
   have e2 : (((hi - lo).toNat : Nat) : Int) - ((0 : Nat) : Int) = Builtin.Range.rangeSize lo hi 1:=by rw [rangeSize_one]; split <;> omega
   show IsRangeIter _ _ (lo + ((0 : Nat) : Int) * 1) ((((hi - lo).toNat : Nat) : Int) - ((0 : Nat) : Int)) 1
   rw [e1,e2]
   exact Heap.get?_push_size _ rfl
 · have e : b = (s.heap.push { cls:=.type "range",data:=.fields #[.int lo t,.int hi u,.int 1 v] }).objs.size:=by simpa using hb
   subst e
   exact I1.ye (Nat.le_refl _) (I1.hok.fresh (Nat.le_refl _))
noncomputable def Ki (ta : TA) : TI:=fun σ H R=>ta σ H fun vs H1=>∃ j : Int,vs = [.int j] ∧ -(2 ^ 62) ≤ j ∧ j < 2 ^ 62 ∧ R (Itr 0 j.toNat) H1
noncomputable def JX (ta : TA) : TI:=fun σ H R=>ta σ H fun vs H1=>∃ i j : Int,vs = [.int i,.int j] ∧ (-(2 ^ 62) ≤ i ∧ i < 2 ^ 62 ∧ -(2 ^ 62) ≤ j ∧ j < 2 ^ 62) ∧ R (Itr i (j - i).toNat) H1
theorem AG {a : Expr} {ta : TA} {p pos : Pos} (hg : Gl X "range") (hm : X.mg "range" = none) (ha : PA X [a] ta) (hs : starEach [a] X.env = [(false,eval a X.env)]:=by rfl) : PI X tg (.Call (.Name "range" p) [a] [] pos) (Ki ta):=by
 intro pins s σ H R I h
 refine Call_ (jc I hg hm boot_range (PyProof.Rows.callWith_type1 (thn (ha pos pins s σ H _ I h) fun us s1 ⟨vs,H1,I1,r1,q1⟩=>?_) hs rfl))
 obtain ⟨j,e,q1,q2,q⟩:=q1
 subst e
 cases r1 with
 | cons r rr=>
   cases rr
   obtain ⟨t,rfl⟩:=r
   exact call_range_1 (uv I1 (by omega) (by omega) q1 q2 (by simpa using q))
theorem zX {a b : Expr} {ta : TA} {p pos : Pos} (hg : Gl X "range") (hm : X.mg "range" = none) (ha : PA X [a,b] ta) (hs : starEach [a,b] X.env = [(false,eval a X.env),(false,eval b X.env)]:=by rfl) (hs2 : starEach [b] X.env = [(false,eval b X.env)]:=by rfl) :
   PI X tg (.Call (.Name "range" p) [a,b] [] pos) (JX ta):=by
 intro pins s σ H R I h
 refine Call_ (jc I hg hm boot_range (PyProof.Rows.callWith_type1 (thn (ha pos pins s σ H _ I h) fun us s1 ⟨vs,H1,I1,r1,q1⟩=>?_) (by rw [hs,hs2]) (by rw [hs2]; rfl)))
 obtain ⟨i,j,e,⟨q1,q2,q3,q4⟩,q⟩:=q1
 subst e
 cases r1 with
 | cons r rr=>
   cases rr with
   | cons r' rr=>
     cases rr
     obtain ⟨t,rfl⟩:=r
     obtain ⟨t',rfl⟩:=r'
     exact call_range_2 (uv I1 q1 q2 q3 q4 q)
noncomputable def LQ (wi : TI) (g : TG) (tb : TS) : TS:=fun D σ H=>wi σ H fun J H1=>∃ W : Nat → Nat → St → Hp → Prop,(∃ m,W 0 m σ H1) ∧ ∀ i m σ H,W i m σ H →
 (J.stop i H ∧ D.nx σ H) ∨ (J.go i H ∧ ∃ N : St → Hp → Prop,(∀ σ' H',N σ' H' → ∃ m',m' < m ∧ W (i + 1) m' σ' H') ∧ ∀ x H',J.yld i H x H' → g x σ H' fun σ2 H2=>tb { D with nx:=N,ct:=N,bk:=D.nx } σ2 H2)
noncomputable def kX (fp : List Addr) (h : Heap) : List (Addr × Obj):=fp.filterMap fun b=>(h.get? b).map fun o=>(b,o)
theorem eH {fp : List Addr} {h : Heap} {b : Addr} {o : Obj} (hb : b ∈ fp) (e : h.get? b = some o) : (b,o) ∈ kX fp h:=List.mem_filterMap.mpr ⟨b,hb,by rw [e]; rfl⟩
theorem AO {fp : List Addr} {h : Heap} {p : Addr × Obj} (hp : p ∈ kX fp h) : p.1 ∈ fp ∧ h.get? p.1 = some p.2:=by
 obtain ⟨b,hb,e⟩:=List.mem_filterMap.mp hp
 cases q : h.get? b with
 | none=>rw [q] at e; cases e
 | some o=>
   rw [q] at e
   have e' : (b,o) = p:=Option.some.inj e
   subst e'
   exact ⟨hb,q⟩
theorem Inv.pinned {pins : List (Addr × Obj)} {σ : St} {H : Hp} {s : Shared} {fp : List Addr} (I : Inv X pins σ H s) (hf : ∀ b ∈ fp,qQ X pins H b) (ho : ∀ b ∈ fp,∃ o,s.heap.get? b = some o ∧ ∀ v,o.data ≠ .cell v) : Inv X (pins ++ kX fp s.heap) σ H s:=
 I.yz fun p hp=>(List.mem_append.mp hp).elim (fun z=>I.pin p (List.mem_append_right _ z)) fun z=>by
   obtain ⟨hb,e⟩:=AO z
   obtain ⟨f0,f1,f2,_⟩:=hf p.1 hb
   obtain ⟨o,e',d⟩:=ho p.1 hb
   rw [e] at e'; cases e'
   exact ⟨e,f0,f1,f2,d⟩
theorem Inv.iS {pins pl : List (Addr × Obj)} {σ : St} {H : Hp} {s : Shared} (I : Inv X (pins ++ pl) σ H s) : Inv X pins σ H s:=I.yz fun p hp=>I.pin p (List.mem_append_right _ (List.mem_append_left _ hp))
theorem Hz {iter : Expr} {body : List Stmt} {wi : TI} {g : TG} {tb : TS} {pos : Pos} (hp : PassesOwn (model X.prog X.w) X.A X.env X.xe) (hc : X.calm = true) (hi : PI X tg iter wi) (hg : PG X tg g) (hb : PSs X body tb)
   (hs : ∀ x,foldedSetIterable iter X.env x = pure x:=by intro _; rfl) : PS X (.For tg iter body [] pos) (LQ wi g tb):=by
 intro pins s σ H D I h
 refine wpAny_For (thn (hi pins s σ H _ I h) fun v s1 h1=>thn h1 fun itv s2 h2=>?_) hs
 obtain ⟨it,fp,tn,J,H2,e,I2,T,st2,f2,W,⟨m0,w0⟩,turn⟩:=h2
 subst e
 have stat : ∀ {H' : Hp},(∀ b ∈ fp,H' b = none) → ∀ b ∈ fp,qQ X pins H' b:=fun hn b hb=>⟨hn b hb,(f2 b hb).2⟩
 refine codeAny_forLoop_any (fun n s'=>∃ i σ' H',Inv X pins σ' H' s' ∧ tn i s'.heap ∧ (∀ b ∈ fp,H' b = none) ∧ W i n σ' H') ?_ m0 ⟨0,σ,H2,I2,st2,fun b hb=>(f2 b hb).1,w0⟩
 rintro n s3 ⟨i,σ3,H3,I3,st3,fr3,w3⟩
 rcases turn i n σ3 H3 w3 with ⟨stop,qn⟩ | ⟨go,N,hN,step⟩
 · refine wpAny_passesOwn hp (thn (T.done X rfl rfl rfl hc i pins s3 σ3 H3 X.xe I3 (stat fr3) st3 stop) fun r s4 ⟨hr,I4⟩=>?_)
   subst hr
   exact wpAny_execs_nil ⟨σ3,H3,I4,qn⟩
 · refine wpAny_passesOwn hp (thn (T.item X rfl rfl rfl hc i pins s3 σ3 H3 X.xe I3 (stat fr3) st3 go) fun r s4 ⟨u,hr,h4⟩=>?_)
   subst hr
   refine wpAny_passesOwn hp (thn h4 fun _ s5 ⟨x,H5,I5,r5,y5,st5,fr5⟩=>?_)
   have I5':=I5.pinned (stat fr5) (T.obj _ _ st5)
   refine wpAny_passesOwn hp (thn (hg _ s5 σ3 H5 x u _ I5' r5 (step x H5 y5)) fun _ s6 ⟨σ6,H6,I6,q6⟩=>?_)
   refine wpAny_passesOwn hp (thn (hb _ s6 σ6 H6 _ I6 q6) fun f s7 q7=>?_)
   have again : ∀ {σ7 : St} {H7 : Hp},Inv X (pins ++ kX fp s5.heap) σ7 H7 s7 → N σ7 H7 → ∃ m,m < n ∧ ∃ i σ' H',Inv X pins σ' H' s7 ∧ tn i s7.heap ∧ (∀ b ∈ fp,H' b = none) ∧ W i m σ' H':=fun {σ7 H7} I7 n7=>by
     obtain ⟨m',hm,w7⟩:=hN σ7 H7 n7
     refine ⟨m',hm,i + 1,σ7,H7,I7.iS,T.keep _ _ _ st5 fun b hb o e=>(I7.pin (b,o) (List.mem_append_right _ (List.mem_append_right _ (eH hb e)))).1,fun b hb=>?_,w7⟩
     obtain ⟨o,e,d⟩:=T.obj _ _ st5 b hb
     exact (I7.pin (b,o) (List.mem_append_right _ (List.mem_append_right _ (eH hb e)))).2.1
   cases f with
   | next=>obtain ⟨σ7,H7,I7,n7⟩:=q7; exact again I7 n7
   | cont=>obtain ⟨σ7,H7,I7,n7⟩:=q7; exact again I7 n7
   | brk=>obtain ⟨σ7,H7,I7,q7⟩:=q7; exact ⟨σ7,H7,I7.iS,q7⟩
   | ret v=>obtain ⟨x7,σ7,H7,I7,r7,q7⟩:=q7; exact ⟨x7,σ7,H7,I7.iS,r7,q7⟩
end
end L2
namespace L2
open PySem PySem.Spec PyProof.Rows
noncomputable abbrev R2:=V → V → Hp → VK → Prop
noncomputable def OpR (X : Cx) (f : Value → Value → Sem Value) (r : R2) : Prop:=
 ∀ (pins : List (Addr × Obj)) (s : Shared) (σ : St) (H : Hp) (x y : V) (v u : Value) (Q : VK),Inv X pins σ H s → RelV x v → RelV y u → r x y H Q →
   wpAny (model X.prog X.w) X.A (f v u) (EP X pins σ Q) X.xe s
noncomputable def UnR (X : Cx) (f : Value → Sem Value) (r : V → Hp → VK → Prop) : Prop:=
 ∀ (pins : List (Addr × Obj)) (s : Shared) (σ : St) (H : Hp) (x : V) (v : Value) (Q : VK),Inv X pins σ H s → RelV x v → r x H Q →
   wpAny (model X.prog X.w) X.A (f v) (EP X pins σ Q) X.xe s
noncomputable def e6 (X : Cx) (f : Value) (r : List V → Hp → VK → Prop) : Prop:=
 ∀ (pins : List (Addr × Obj)) (s : Shared) (σ : St) (H : Hp) (xs : List V) (us : List Value) (Q : VK),Inv X pins σ H s → Vals xs us → r xs H Q →
   wpAny (model X.prog X.w) X.A (call f us) (EP X pins σ Q) X.xe s
noncomputable def tOp (r : R2) (ta tb : TE) : TE:=fun σ H Q=>ta σ H fun x H1=>tb σ H1 fun y H2=>r x y H2 Q
noncomputable def tUn (r : V → Hp → VK → Prop) (ta : TE) : TE:=fun σ H Q=>ta σ H fun x H1=>r x H1 Q
noncomputable def rI (C : Int → Int → Prop) (g : Int → Int → V) : R2:=fun x y H Q=>∃ i j,x = .int i ∧ y = .int j ∧ C i j ∧ Q (g i j) H
noncomputable def rI0 (g : Int → Int → V) : R2:=fun x y H Q=>∃ i j,x = .int i ∧ y = .int j ∧ Q (g i j) H
noncomputable def rU (g : Int → V) : V → Hp → VK → Prop:=fun x H Q=>∃ i,x = .int i ∧ Q (g i) H
section
variable {X : Cx} {a b c : Expr} {ta tb tc : TE} {pos : Pos}
theorem HQ (ha : PE X a ta) (hb : PE X b tb) {pins : List (Addr × Obj)} {s : Shared} {σ : St} {H : Hp} {R : V → V → Hp → Prop} (I : Inv X pins σ H s)
   (h : ta σ H fun x H1=>tb σ H1 fun y H2=>R x y H2) {Q : Value → Shared → Prop} {f : Value → Value → Sem Value}
   (hf : ∀ v u s2 x y H2,Inv X pins σ H2 s2 → RelV x v → RelV y u → R x y H2 → wpAny (model X.prog X.w) X.A (f v u) Q X.xe s2) :
   wpAny (model X.prog X.w) X.A (eval a X.env) (fun v s₁=>wpAny (model X.prog X.w) X.A (eval b X.env) (fun u s₂=>wpAny (model X.prog X.w) X.A (f v u) Q X.xe s₂) X.xe s₁) X.xe s:=by
 refine thn (ha pins s σ H _ I h) fun v s1 ⟨x,H1,I1,r1,q1⟩=>?_
 refine thn (hb pins s1 σ H1 _ I1 q1) fun u s2 ⟨y,H2,I2,r2,q2⟩=>?_
 exact hf v u s2 x y H2 I2 r1 r2 q2
theorem Lb {op : Operator} {r : R2} (ho : OpR X (binaryOp op) r) (ha : PE X a ta) (hb : PE X b tb) : PE X (.BinOp a op b pos) (tOp r ta tb):=by
 intro pins s σ H Q I h
 exact wpAny_BinOp (HQ ha hb I h fun v u s2 x y H2 I2 rx ry q=>ho pins s2 σ H2 x y v u Q I2 rx ry q)
theorem JQ {op : UnaryOp} {r : V → Hp → VK → Prop} (ho : UnR X (unaryOp op) r) (ha : PE X a ta) : PE X (.UnaryOp op a pos) (tUn r ta):=by
 intro pins s σ H Q I h
 exact UnaryOp_ (thn (ha pins s σ H _ I h) fun v s1 ⟨x,H1,I1,r1,q1⟩=>ho pins s1 σ H1 x v Q I1 r1 q1)
theorem opI {f : Value → Value → Sem Value} {C : Int → Int → Prop} {g : Int → Int → Int}
   (rule : ∀ (i j : Int) (t u : Tok) (s : Shared) (Q : Value → Shared → Prop) (E : Value → Shared → Prop),C i j → Q (.int (g i j) s.toks) { s with toks:=s.toks + 1 } → wpAny (model X.prog X.w) X.A (f (.int i t) (.int j u)) Q E s) :
   OpR X f (rI C fun i j=>.int (g i j)):=by
 intro pins s σ H x y v u Q I rx ry h
 obtain ⟨i,j,rfl,rfl,hc,q⟩:=h
 obtain ⟨t,rfl⟩:=rx
 obtain ⟨t',rfl⟩:=ry
 exact rule i j t t' s _ _ hc ⟨.int (g i j),H,I.tok _,⟨_,rfl⟩,q⟩
theorem LL {f : Value → Value → Sem Value} {g : Int → Int → Int}
   (rule : ∀ (i j : Int) (t u : Tok) (s : Shared) (Q : Value → Shared → Prop) (E : Value → Shared → Prop),Q (.int (g i j) s.toks) { s with toks:=s.toks + 1 } → wpAny (model X.prog X.w) X.A (f (.int i t) (.int j u)) Q E s) :
   OpR X f (rI0 fun i j=>.int (g i j)):=by
 intro pins s σ H x y v u Q I rx ry h
 obtain ⟨i,j,rfl,rfl,q⟩:=h
 obtain ⟨t,rfl⟩:=rx
 obtain ⟨t',rfl⟩:=ry
 exact rule i j t t' s _ _ ⟨.int (g i j),H,I.tok _,⟨_,rfl⟩,q⟩
theorem E5 {f : Value → Value → Sem Value} {g : Int → Int → Bool}
   (rule : ∀ (i j : Int) (t u : Tok) (s : Shared) (Q : Value → Shared → Prop) (E : Value → Shared → Prop),Q (.bool (g i j)) s → wpAny (model X.prog X.w) X.A (f (.int i t) (.int j u)) Q E s) :
   OpR X f (rI0 fun i j=>.bl (g i j)):=by
 intro pins s σ H x y v u Q I rx ry h
 obtain ⟨i,j,rfl,rfl,q⟩:=h
 obtain ⟨t,rfl⟩:=rx
 obtain ⟨t',rfl⟩:=ry
 exact rule i j t t' s _ _ ⟨.bl (g i j),H,I,rfl,q⟩
noncomputable def J9 (i j : Int) : Prop:=0 ≤ j ∧ j ≤ 1000000 ∧ i.natAbs < 2 ^ 64
theorem xG (k : Nat) : (0 : Int) ≤ 2 ^ k:=by
 rw [two_pow_cast]
 exact Int.natCast_nonneg _
theorem Ff : OpR X (binaryOp .Mod) (rI (fun _ j=>j ≠ 0) fun i j=>.int (i.fmod j)):=opI fun _ _ _ _ _ _ _ hc q=>mod_int' hc q
theorem Jk : OpR X (binaryOp .Pow) (rI J9 fun i j=>.int (i ^ j.toNat)):=opI fun _ _ _ _ _ _ _ hc q=>pow_int_small hc.1 hc.2.1 hc.2.2 q
theorem Hk : OpR X (binaryOp .LShift) (rI J9 fun i j=>.int (i * 2 ^ j.toNat)):=opI fun _ _ _ _ _ _ _ hc q=>lshift_int_small hc.1 hc.2.1 hc.2.2 q
theorem GR : OpR X (binaryOp .RShift) (rI (fun _ j=>0 ≤ j) fun i j=>.int (i / 2 ^ j.toNat)):=opI fun i j _ _ _ _ _ hc q=>
 rshift_int hc (by rw [Int.fdiv_eq_ediv_of_nonneg i (xG _)]; exact q)
theorem JZ : OpR X (binaryOp .BitOr) (rI0 fun i j=>.int (Builtin.bitOr i j)):=LL fun _ _ _ _ _ _ _ q=>or_int q
theorem unI {f : Value → Sem Value} {g : Int → Int}
   (rule : ∀ (i : Int) (t : Tok) (s : Shared) (Q : Value → Shared → Prop) (E : Value → Shared → Prop),Q (.int (g i) s.toks) { s with toks:=s.toks + 1 } → wpAny (model X.prog X.w) X.A (f (.int i t)) Q E s) :
   UnR X f (rU fun i=>.int (g i)):=by
 intro pins s σ H x v Q I rx h
 obtain ⟨i,rfl,q⟩:=h
 obtain ⟨t,rfl⟩:=rx
 exact rule i t s _ _ ⟨.int (g i),H,I.tok _,⟨_,rfl⟩,q⟩
theorem HS : UnR X (unaryOp .USub) (rU fun i=>.int (-i)):=unI fun _ _ _ _ _ q=>neg_int q
end
section
variable {X : Cx} {a b c : Expr} {ta tb tc : TE} {pos : Pos}
theorem CS {pins : List (Addr × Obj)} {σ : St} {H : Hp} {s : Shared} {Q : VK} {k k' : Bool} (I : Inv X pins σ H s) (q : Q (.bl k) H) (e : k = k') : EP X pins σ Q (.bool k') s:=by
 subst e
 exact ⟨.bl k,H,I,rfl,q⟩
theorem J8 : OpR X (compareOp .Lt) (rI0 fun i j=>.bl (decide (i < j))):=E5 fun _ _ _ _ _ _ _ q=>lt_int q
theorem KA : OpR X (compareOp .LtE) (rI0 fun i j=>.bl (decide (i ≤ j))):=E5 fun _ _ _ _ _ _ _ q=>le_int q
theorem JW : OpR X (compareOp .Gt) (rI0 fun i j=>.bl (decide (j < i))):=E5 fun _ _ _ _ _ _ _ q=>gt_int q
theorem KZ : OpR X (compareOp .GtE) (rI0 fun i j=>.bl (decide (j ≤ i))):=E5 fun _ _ _ _ _ _ _ q=>ge_int q
theorem Gb : OpR X (compareOp .Is) (fun x y H Q=>y = .non ∧ Q (.bl (decide (x = .non))) H):=by
 intro pins s σ H x y v u Q I rx ry h
 obtain ⟨rfl,q⟩:=h
 cases ry
 refine is_none_gen (CS I q ?_)
 cases x <;> first
   | (cases rx; rfl)
   | (obtain ⟨t,rfl⟩:=rx; rfl)
theorem Eu : OpR X (compareOp .IsNot) (fun x y H Q=>y = .non ∧ Q (.bl (!decide (x = .non))) H):=by
 intro pins s σ H x y v u Q I rx ry h
 obtain ⟨rfl,q⟩:=h
 cases ry
 refine isnot_none_gen (CS I q ?_)
 cases x <;> first
   | (cases rx; rfl)
   | (obtain ⟨t,rfl⟩:=rx; rfl)
theorem uo {op : CmpOp} {r : R2} (ho : OpR X (compareOp op) r) (ha : PE X a ta) (hb : PE X b tb) (hm : behindInMarks op b = false) : PE X (.Compare a [op] [b] pos) (tOp r ta tb):=by
 intro pins s σ H Q I h
 exact wpAny_Compare1 (HQ ha hb I h fun v u s2 x y H2 I2 rx ry q=>ho pins s2 σ H2 x y v u Q I2 rx ry q) hm
noncomputable def FN (t : TE) : TT:=fun σ H Q=>t σ H fun x H'=>∃ k,x = .bl k ∧ Q k H'
theorem tD {op : CmpOp} {r : R2} (ho : OpR X (compareOp op) r) (ha : PE X a ta) (hb : PE X b tb) (hm : behindInMarks op b = false) : PT X (.Compare a [op] [b] pos) (FN (tOp r ta tb)):=by
 intro pins s σ H Q I h
 refine wpAny_isTrue_Compare1 (thn (ha pins s σ H _ I h) fun v s1 ⟨x,H1,I1,r1,q1⟩=>thn (hb pins s1 σ H1 _ I1 q1) fun u s2 ⟨y,H2,I2,r2,q2⟩=>
   thn (ho pins s2 σ H2 x y v u _ I2 r1 r2 q2) fun c s3 ⟨z,H3,I3,r3,k,e,q3⟩=>?_) hm
 subst e
 cases r3
 exact wpAny_truthy_bool ⟨H3,I3,q3⟩
noncomputable def xi (r r' : R2) (ta tb tc : TE) : TE:=fun σ H Q=>ta σ H fun x H1=>tb σ H1 fun y H2=>r x y H2 fun z H3=>∃ k,z = .bl k ∧
 (if k = true then tc σ H3 fun w' H4=>r' y w' H4 Q else Q (.bl false) H3)
theorem Cv {op op' : CmpOp} {r r' : R2} (ho : OpR X (compareOp op) r) (ho' : OpR X (compareOp op') r') (ha : PE X a ta) (hb : PE X b tb) (hc : PE X c tc)
   (hm : lastMarks [op,op'] [b,c] = false:=by with_unfolding_all rfl) : PE X (.Compare a [op,op'] [b,c] pos) (xi r r' ta tb tc):=by
 intro pins s σ H Q I h
 refine Compare_chain (thn (ha pins s σ H _ I h) fun v s1 ⟨x,H1,I1,r1,q1⟩=>chain_link (thn (hb pins s1 σ H1 _ I1 q1) fun u s2 ⟨y,H2,I2,r2,q2⟩=>
   thn (ho pins s2 σ H2 x y v u _ I2 r1 r2 q2) fun d s3 ⟨z,H3,I3,r3,k,e,q3⟩=>?_)) hm
 subst e
 cases r3
 refine wpAny_truthy_bool ?_
 cases k with
 | false=>exact ite_ff ⟨.bl false,H3,I3,rfl,q3⟩
 | true=>exact ite_tt (chain_last (thn (hc pins s3 σ H3 _ I3 q3) fun w' s4 ⟨z',H4,I4,r4,q4⟩=>ho' pins s4 σ H4 y z' u w' Q I4 r2 r4 q4))
theorem Cu {op op' : CmpOp} {r r' : R2} (ho : OpR X (compareOp op) r) (ho' : OpR X (compareOp op') r') (ha : PE X a ta) (hb : PE X b tb) (hc : PE X c tc)
   (hm : lastMarks [op,op'] [b,c] = false:=by with_unfolding_all rfl) : PT X (.Compare a [op,op'] [b,c] pos) (FN (xi r r' ta tb tc)):=by
 intro pins s σ H Q I h
 refine isTrue_chain (thn (ha pins s σ H _ I h) fun v s1 ⟨x,H1,I1,r1,q1⟩=>test_link (thn (hb pins s1 σ H1 _ I1 q1) fun u s2 ⟨y,H2,I2,r2,q2⟩=>
   thn (ho pins s2 σ H2 x y v u _ I2 r1 r2 q2) fun d s3 ⟨z,H3,I3,r3,k,e,q3⟩=>?_)) hm
 subst e
 cases r3
 refine wpAny_truthy_bool ?_
 cases k with
 | false=>
   obtain ⟨k',e',q'⟩:=q3
   cases e'
   exact ite_ff ⟨H3,I3,q'⟩
 | true=>
   refine ite_tt (test_last (thn (hc pins s3 σ H3 _ I3 q3) fun w' s4 ⟨z',H4,I4,r4,q4⟩=>thn (ho' pins s4 σ H4 y z' u w' _ I4 r2 r4 q4) fun d' s5 ⟨z2,H5,I5,r5,k2,e2,q5⟩=>?_))
   subst e2
   cases r5
   exact wpAny_truthy_bool ⟨H5,I5,q5⟩
theorem sG : (sizeLine : Nat) < 2 ^ 63:=by rw [sizeLine_eq]; decide
theorem wW : OpR X (binaryOp .Add) (fun x y H Q=>∃ i j,x = .str i ∧ y = .str j ∧ i.length + j.length ≤ sizeLine ∧ Q (.str (i ++ j)) H):=by
 intro pins s σ H x y v u Q I rx ry h
 obtain ⟨i,j,rfl,rfl,hz,q⟩:=h
 obtain ⟨t,rfl⟩:=rx
 obtain ⟨t',rfl⟩:=ry
 exact add_str (fun t' tk=>⟨.str (i ++ j),H,I.tok _,⟨_,rfl⟩,q⟩) hz
theorem vals1 {x : V} {us : List Value} (r : Vals [x] us) : ∃ u,us = [u] ∧ RelV x u:=by
 cases r with
 | cons r1 r2=>cases r2; exact ⟨_,rfl,r1⟩
theorem vals2 {x y : V} {us : List Value} (r : Vals [x,y] us) : ∃ u w',us = [u,w'] ∧ RelV x u ∧ RelV y w':=by
 cases r with
 | cons r1 r2=>
   cases r2 with
   | cons r3 r4=>cases r4; exact ⟨_,_,rfl,r1,r3⟩
theorem A6 : e6 X (.builtin "abs") (fun xs H Q=>∃ i,xs = [.int i] ∧ Q (.int (if i < 0 then -i else i)) H):=by
 intro pins s σ H xs us Q I r h
 obtain ⟨i,rfl,q⟩:=h
 obtain ⟨u,rfl,t,rfl⟩:=vals1 r
 exact call_abs_int fun u tk=>⟨.int (if i < 0 then -i else i),H,I.tok _,⟨_,rfl⟩,q⟩
theorem Aa (hc : X.calm = true) : e6 X (.builtin "max") (fun xs H Q=>∃ i j,xs = [.int i,.int j] ∧ Q (.int (if j > i then j else i)) H):=by
 intro pins s σ H xs us Q I r h
 obtain ⟨i,j,rfl,q⟩:=h
 obtain ⟨u,w',rfl,⟨t,rfl⟩,⟨t',rfl⟩⟩:=vals2 r
 refine max_two_ints (I.ok.hd hc) fun h' tk k=>⟨_,H,I.kept k,?_,q⟩
 by_cases hj : j > i
 · rw [if_pos hj,if_pos hj]; exact ⟨_,rfl⟩
 · rw [if_neg hj,if_neg hj]; exact ⟨_,rfl⟩
theorem Ar (hc : X.calm = true) : e6 X (.builtin "min") (fun xs H Q=>∃ i j,xs = [.int i,.int j] ∧ Q (.int (if j < i then j else i)) H):=by
 intro pins s σ H xs us Q I r h
 obtain ⟨i,j,rfl,q⟩:=h
 obtain ⟨u,w',rfl,⟨t,rfl⟩,⟨t',rfl⟩⟩:=vals2 r
 refine min_two_ints (I.ok.hd hc) fun h' tk k=>⟨_,H,I.kept k,?_,q⟩
 by_cases hj : j < i
 · rw [if_pos hj,if_pos hj]; exact ⟨_,rfl⟩
 · rw [if_neg hj,if_neg hj]; exact ⟨_,rfl⟩
theorem rV : e6 X (.type "int") (fun xs H Q=>(∃ i,xs = [.int i] ∧ Q (.int i) H) ∨ ∃ k,xs = [.bl k] ∧ Q (.int (if k then 1 else 0)) H):=by
 intro pins s σ H xs us Q I r h
 rcases h with ⟨i,rfl,q⟩ | ⟨k,rfl,q⟩
 · obtain ⟨u,rfl,t,rfl⟩:=vals1 r
   exact call_int_int ⟨.int i,H,I,⟨_,rfl⟩,q⟩
 · obtain ⟨u,rfl,r1⟩:=vals1 r
   cases r1
   exact call_int_bool ⟨.int (if k then 1 else 0),H,I.tok _,⟨_,rfl⟩,q⟩
end
end L2
namespace L2
open PySem PySem.Spec PyProof.Rows
section
variable {prog : Program} {w : World} {A : Around} {E : Value → Shared → Prop} {s : Shared} {K : PySem.W.Frag} {x dx C f : Addr} {mA : Str → Option Value} {name : Str} {v : Value}
end
section
variable {P : Program} {w : World} {H H' : Hp} {h h' : Heap} {a C dx : Addr} {fs fs' : List (Str × V)}
end
section
variable {X : Cx} {pins : List (Addr × Obj)} {σ : St} {H : Hp} {s : Shared} {a C dx : Addr} {fs : List (Str × V)} {f : Str} {v : V} {A : Around} {E : Value → Shared → Prop}
end
section
variable {X : Cx} {o e value : Expr} {f : Str} {pos pos' tpos : Pos} {ta tv : TE}
end
section
variable {X : Cx} {pins : List (Addr × Obj)} {σ : St} {H : Hp} {s : Shared} {A : Around} {E : Value → Shared → Prop} {Q : Value → Shared → Prop} {c : Value} {b : Bool}
end
end L2
namespace L2
open PySem PySem.Spec PyProof.Rows
structure jF (k : Nat) (A : Around) : Prop where
 hd : A.handled = none
 dp : A.depth + 3 * k + 5 < recursionLimit
 un : A.units + 16 * k + 200 < cLine
theorem jF.mono {j k : Nat} {A : Around} (r : jF k A) (h : j ≤ k) : jF j A:=⟨r.hd,by have:=r.dp; omega,by have:=r.un; omega⟩
theorem jF.deeper {k : Nat} {A : Around} (r : jF (k + 1) A) (env : Env) : jF k (A.deeper env):=
 ⟨r.hd,by have:=r.dp; show A.depth + 1 + 3 * k + 5 < _; omega,by have:=r.un; show A.units + 3 + 16 * k + 200 < _; omega⟩
theorem jF.depth {k : Nat} {A : Around} (r : jF k A) : A.depth < recursionLimit:=by have:=r.dp; omega
theorem jF.units {k : Nat} {A : Around} (r : jF k A) : A.units + 64 < cLine:=by have:=r.un; omega
noncomputable def Ll : TA:=fun _ H Q=>Q [] H
noncomputable def JU (ta : TE) (tr : TA) : TA:=fun σ H Q=>ta σ H fun x H1=>tr σ H1 fun xs H2=>Q (x :: xs) H2
section
variable {X : Cx} {e : Expr} {es : List Expr} {te : TE} {t : TA} {pos : Pos}
theorem mU : PA X [] Ll:=fun _ _ _ _ H Q I h=>Calls.spliced_nil ⟨[],H,I,.nil,h⟩
theorem gw (ha : PE X e te) (hr : PA X es t) (hs : starEach (e :: es) X.env = (false,eval e X.env) :: starEach es X.env:=by rfl) : PA X (e :: es) (JU te t):=by
 intro pos pins s σ H Q I h
 rw [hs]
 show wpAny _ _ (spliced ((false,eval e X.env) :: backTo pos (starEach es X.env))) _ _ s
 refine Calls.spliced_cons (thn (ha pins s σ H _ I h) fun u s1 ⟨x,H1,I1,r1,q1⟩=>?_)
 exact thn (hr pos pins s1 σ H1 _ I1 q1) fun us s2 ⟨xs,H2,I2,r2,q2⟩=>⟨x :: xs,H2,I2,.cons r1 r2,q2⟩
noncomputable def Ls (t : TA) : TE:=fun σ H Q=>t σ H fun xs H1=>xs.length ≤ sizeLine ∧ ∀ p,H1 p = none → Q (.ref p) (upd H1 p (.tup xs))
noncomputable def Lk (t : TA) : TE:=fun σ H Q=>t σ H fun xs H1=>xs.length ≤ sizeLine ∧ ∀ p,H1 p = none → Q (.ref p) (upd H1 p (.lst xs))
theorem IG {x1} (h : PA X es t) : PE X (.Tuple es x1 pos) (Ls t):=by
 intro pins s σ H Q I hq
 refine wpAny_Tuple_spliced (thn (h pos pins s σ H _ I hq) fun us s1 ⟨xs,H1,I1,r,z,q⟩=>⟨by rw [← r.length]; exact z,?_⟩)
 have hf : H1 s1.heap.objs.size = none:=I1.hok.fresh (Nat.le_refl _)
 refine ⟨.ref s1.heap.objs.size,upd H1 s1.heap.objs.size (.tup xs),I1.laid (t':=s1.toks) (fun b u e=>Heap.get?_push_of_some _ e) (Nat.le_refl _) ?_,rfl,q _ hf⟩
 exact ⟨z,us,r,⟨_,Heap.get?_push_size _ rfl,rfl,_,rfl⟩⟩
theorem HL (h : PA X es t) : PE X (.List es pos) (Lk t):=by
 intro pins s σ H Q I hq
 refine wpAny_List_spliced (thn (h pos pins s σ H _ I hq) fun us s1 ⟨xs,H1,I1,r,z,q⟩=>⟨by rw [← r.length]; exact z,?_⟩)
 have hf : H1 s1.heap.objs.size = none:=I1.hok.fresh (Nat.le_refl _)
 refine ⟨.ref s1.heap.objs.size,upd H1 s1.heap.objs.size (.lst xs),I1.laid (t':=s1.toks) (fun b u e=>Heap.get?_push_of_some _ e) (Nat.le_refl _) ?_,rfl,q _ hf⟩
 exact ⟨z,us,0,r,Heap.get?_push_size _ rfl⟩
end
noncomputable abbrev Sp:=List V → Hp → VK → XK → Prop
noncomputable abbrev CXT:=List Env → Hp → Shared → XK → Value → Shared → Prop
structure E2 (P : Program) (w : World) (K : PySem.W.Frag) (mg : Str → Option Value) (base : Heap) (A : Around) (outer : List Env) (s : Shared) (H : Hp) : Prop where
 frames : A.frames = some outer
 mod : Mod K mg base
 bs : ∀ b o,base.get? b = some o → s.heap.get? b = some o ∧ H b = none
 bsz : base.objs.size ≤ s.heap.objs.size
 qg : s.heap.FunFrames base outer
 frf : ∀ b ∈ frs outer,H b = none
 hok : HOk P w H s.heap
 bare : AllBare s.gens
noncomputable def CE (outer : List Env) (P : Program) (w : World) (H : Hp) (s : Shared) (Q : VK) (u : Value) (s' : Shared) : Prop:=
 ∃ v H',s'.os = s.os ∧ AllBare s'.gens ∧ Un (frs outer) [] H H' s.heap s'.heap ∧ HOk P w H' s'.heap ∧ RelV v u ∧ Q v H'
noncomputable def CR (CX : CXT) (outer : List Env) (P : Program) (w : World) (H : Hp) (s : Shared) (Q : VK) (E : XK) (r : Result) (s' : Shared) : Prop:=
 match r with
 | .ok (.ret u)=>CE outer P w H s Q u s'
 | .ok _=>False
 | .error e=>CX outer H s E e s'
structure bW (P : Program) (w : World) (K : PySem.W.Frag) (mg : Str → Option Value) (base : Heap) (CX : CXT) (k : Nat) (f : Addr) (fd : FuncData) (ps : List Str) (sp : Sp) : Prop where
 len : ∀ vs H Q E,sp vs H Q E → vs.length = ps.length
 run : ∀ (A : Around) (outer : List Env) (s : Shared) (H : Hp) (args : Args) (us : List Value) (vs : List V) (Q : VK) (E : XK),jF k A → E2 P w K mg base A outer s H → BindsTo s fd args (ps.zip us) → Vals vs us → sp vs H Q E →
   codeAny (model P w) A (.call (.ref f) args) (CR CX outer P w H s Q E) s
theorem bW.mono {P : Program} {w : World} {K : PySem.W.Frag} {mg : Str → Option Value} {base : Heap} {CX : CXT} {j k : Nat} {f : Addr} {fd : FuncData} {ps : List Str} {sp : Sp} (F : bW P w K mg base CX j f fd ps sp) (h : j ≤ k) :
   bW P w K mg base CX k f fd ps sp:=⟨F.len,fun A outer s H args us vs Q E hr=>F.run A outer s H args us vs Q E (hr.mono h)⟩
section
variable {X : Cx} {pins : List (Addr × Obj)} {σ : St} {H : Hp} {s s' : Shared}
theorem Inv.LW (I : Inv X pins σ H s) : E2 X.prog X.w X.K X.mg X.base X.A X.stack s H:=
 ⟨I.ok.frames,I.ok.mod,I.bs,Nat.le_trans I.ok.bsz I.sz,I.stack,I.yO,I.hok,I.bare⟩
theorem Inv.after {Q : VK} {u : Value} (I : Inv X pins σ H s) (h : CE X.stack X.prog X.w H s Q u s') : EP X pins σ Q u s':=by
 obtain ⟨v,H',os,bare,un,hok,r,q⟩:=h
 obtain ⟨hh,g,d,t,os'⟩:=s'
 obtain rfl : os' = s.os:=os
 exact ⟨v,H',I.call (h':=hh) (g':=g) (d':=d) (t':=t) (ch:=[]) un hok bare (fun b z=>absurd z (by simp)),r,q⟩
end
noncomputable def K2 (sp : Sp) (dvs : List V) (E : XK) (t : TA) : TE:=fun σ H Q=>t σ H fun vs H1=>sp (vs ++ dvs) H1 Q E
noncomputable def Binds (K : PySem.W.Frag) (fd : FuncData) (ps : List Str) (ds : List Value) : Prop:=
 ∀ (s : Shared) (us : List Value),K.In s.heap → (us ++ ds).length = ps.length → BindsTo s fd ⟨us,[]⟩ (ps.zip (us ++ ds))
theorem Binds.all {K : PySem.W.Frag} {fd : FuncData} {ps : List Str} (h : ∀ us : List Value,us.length = ps.length → bindArgs fd ⟨us,[]⟩ = pure (ps.zip us)) : Binds K fd ps []:=fun s us _ hl=>by
 rw [List.append_nil] at hl ⊢
 exact .of_eq (h us hl)
noncomputable def Passes (CX : CXT) (X : Cx) (E : XK) : Prop:=∀ (pins : List (Addr × Obj)) (σ : St) (H : Hp) (s : Shared) (e : Value) (s' : Shared),Inv X pins σ H s → CX X.stack H s E e s' → X.xe e s'
section
variable {X : Cx} {CX : CXT} {k : Nat} {f C : Addr} {fd : FuncData} {ps : List Str} {sp : Sp} {dvs : List V} {ds : List Value} {E : XK} {x m : Str} {p pos apos : Pos} {e o : Expr} {es : List Expr} {ta : TE} {t : TA}
theorem Gh {pins : List (Addr × Obj)} {σ : St} {H : Hp} {s : Shared} {Q : VK} {us : List Value} {vs : List V} (F : bW X.prog X.w X.K X.mg X.base CX k f fd ps sp) (hr : jF k X.A) (hb : Binds X.K fd ps ds) (hd : Vals dvs ds) (hx : Passes CX X E)
   (I : Inv X pins σ H s) (r : Vals vs us) (h : sp (vs ++ dvs) H Q E) : wpAny (model X.prog X.w) X.A (call (.ref f) us) (EP X pins σ Q) X.xe s:=by
 have r2 : Vals (vs ++ dvs) (us ++ ds):=r.append hd
 have hl : (us ++ ds).length = ps.length:=by rw [← r2.length]; exact F.len _ _ _ _ h
 refine wpAny_call (codeAny_mono (F.run X.A X.stack s H ⟨us,[]⟩ (us ++ ds) (vs ++ dvs) Q E hr I.LW (hb s us I.kIn hl) r2 h) fun r s' hq=>?_)
 cases r with
 | error e=>exact hx pins σ H s e s' I hq
 | ok fl=>
   cases fl with
   | ret u=>exact I.after hq
   | next=>exact False.elim hq
   | brk=>exact False.elim hq
   | cont=>exact False.elim hq
theorem Dy (F : bW X.prog X.w X.K X.mg X.base CX k f fd ps sp) (hr : jF k X.A) (hg : Gl X x) (hm : X.mg x = some (.ref f)) (hk : PySem.W.keepIn X.K (.ref f) = true) (hb : Binds X.K fd ps ds) (hd : Vals dvs ds) (hx : Passes CX X E)
   (ha : PA X (e :: es) t) (hdb : (x == ("__debug__" : Str)) = false:=by decide) (he : starEach (e :: es) X.env = (false,eval e X.env) :: starEach es X.env:=by rfl) (hpl : (backTo pos (starEach es X.env)).any (·.1) = false:=by rfl) :
   PE X (.Call (.Name x p) (e :: es) [] pos) (K2 sp dvs E t):=by
 intro pins s σ H Q I h
 refine wpAny_Call_Name_kw (za I hg hm ?_ hdb)
 refine PySem.W.callWith_K (h₀:=X.base) I.ok.mod.kin hk (thn (ha pos pins s σ H _ I h) fun us s1 ⟨vs,H1,I1,r,q⟩=>⟨I1.kIn,?_⟩) he hpl
 exact Gh F hr hb hd hx I1 r q
end
section
variable {X : Cx} {CX : CXT} {k : Nat} {f C : Addr} {fd : FuncData} {ps ks : List Str} {sp : Sp} {E : XK} {x m : Str} {p pos apos kpos : Pos} {e o : Expr} {es : List Expr} {kws : List Keyword} {te ta : TE} {t tk : TA} {nm : Option Str}
variable {g : List Value → List Value → List Value} {gV : List V → List V → List V}
end
structure aI (N P : List Str) (sc : Scope) : Prop where
 kind : sc.kind = .function
 co : sc.isCoroutine = false
 gen : sc.isGenerator = false
 nd : N.Nodup
 pre : N.take P.length = P
 par : ∀ x ∈ P,sc.names.lookup x = some .local ∨ sc.names.lookup x = some .cell
 nofree : ∀ y ∈ sc.names,y.2 ≠ .free
theorem rJ {kindOf : Str → Option NameKind} {x : Str} : ∀ {binds : List (Str × Value)} {m : Str → Option Value},(∀ v,(x,v) ∉ binds) → bindL kindOf binds m x = m x
 | [],_,_=>rfl
 | (n,v) :: r,m,h=>by
   unfold bindL
   rw [rJ fun w hw=>h w (List.mem_cons_of_mem _ hw)]
   split
   · have : x ≠ n:=by rintro rfl; exact h v List.mem_cons_self
     simp [this]
   · rfl
theorem si {kindOf : Str → Option NameKind} {x : Str} : ∀ {binds : List (Str × Value)} {m : Str → Option Value},(∀ v,(x,v) ∉ binds) → bindC kindOf binds m x = m x
 | [],_,_=>rfl
 | (n,v) :: r,m,h=>by
   unfold bindC
   rw [si fun w hw=>h w (List.mem_cons_of_mem _ hw)]
   split
   · rfl
   · have : x ≠ n:=by rintro rfl; exact h v List.mem_cons_self
     simp [this]
theorem rQ {kindOf : Str → Option NameKind} {x : Str} {v : Value} : ∀ {P : List Str} {vs : List Value} {i : Nat} {m : Str → Option Value},P.Nodup → P[i]? = some x → vs[i]? = some v → kindOf x = some .local →
   bindL kindOf (P.zip vs) m x = some v
 | [],_,_,_,_,h,_,_=>by simp at h
 | _ :: _,[],_,_,_,_,h,_=>by simp at h
 | p :: P,w :: vs,0,m,nd,h1,h2,hk=>by
   simp at h1 h2; subst h1; subst h2
   show bindL kindOf ((p,w) :: P.zip vs) m p = _
   unfold bindL
   rw [rJ fun v hv=>(List.nodup_cons.mp nd).1 (List.of_mem_zip hv).1,if_pos hk]
   simp
 | p :: P,w :: vs,i + 1,m,nd,h1,h2,hk=>by
   show bindL kindOf ((p,w) :: P.zip vs) m x = _
   unfold bindL
   exact rQ (i:=i) (List.nodup_cons.mp nd).2 (by simpa using h1) (by simpa using h2) hk
theorem rT {kindOf : Str → Option NameKind} {x : Str} {v : Value} : ∀ {P : List Str} {vs : List Value} {i : Nat} {m : Str → Option Value},P.Nodup → P[i]? = some x → vs[i]? = some v → kindOf x ≠ some .local →
   bindC kindOf (P.zip vs) m x = some v
 | [],_,_,_,_,h,_,_=>by simp at h
 | _ :: _,[],_,_,_,_,h,_=>by simp at h
 | p :: P,w :: vs,0,m,nd,h1,h2,hk=>by
   simp at h1 h2; subst h1; subst h2
   show bindC kindOf ((p,w) :: P.zip vs) m p = _
   unfold bindC
   rw [si fun v hv=>(List.nodup_cons.mp nd).1 (List.of_mem_zip hv).1,if_neg hk]
   simp
 | p :: P,w :: vs,i + 1,m,nd,h1,h2,hk=>by
   show bindC kindOf ((p,w) :: P.zip vs) m x = _
   unfold bindC
   exact rT (i:=i) (List.nodup_cons.mp nd).2 (by simpa using h1) (by simpa using h2) hk
noncomputable def start (N : List Str) (vs : List V) : St:=vs.map some ++ List.replicate (N.length - vs.length) none
noncomputable def xr (CX : CXT) (P : Program) (w : World) (K : PySem.W.Frag) (mg : Str → Option Value) (base : Heap) (N : List Str) (qual : Str) (scope : Scope) (f : Addr) (cd : Value) (A : Around) (outer : List Env) (s : Shared) (H : Hp) (E : XK) : Cx where
 prog:=P
 w:=w
 K:=K
 mg:=mg
 base:=base
 A:=A.deeper (envOfC qual scope s.heap.objs.size f cd)
 N:=N
 s₀:=s
 H₀:=H
 env:=envOfC qual scope s.heap.objs.size f cd
 outer:=outer
 stack:=envOfC qual scope s.heap.objs.size f cd :: outer
 ex:=[]
 calm:=true
 fn:=fun _=>true
 pn:=[]
 xe:=fun e s'=>wpAny (model P w) (A.deeper (envOfC qual scope s.heap.objs.size f cd)) (leaving (envOfC qual scope s.heap.objs.size f cd) e) (fun _ s''=>CX outer H s E e s'') (fun e' s''=>CX outer H s E e' s'') s'
theorem vF {sc : Scope} {n : Nat} {x : Str} (h : sc.names.lookup x = some .cell) : ∃ c,(cellsFrom n sc.names []).lookup x = some c:=by
 have q:=PySem.W.cellsFrom_some sc.names n [] (.inl h)
 exact Option.isSome_iff_exists.mp q
theorem AU {CX : CXT} {P : Program} {w : World} {K : PySem.W.Frag} {mg : Str → Option Value} {base : Heap} {N ps : List Str} {qual : Str} {scope : Scope} {f : Addr} {cd : Value} {A : Around} {outer : List Env} {s s1 : Shared} {H : Hp} {E : XK} {us : List Value} {vs : List V}
   (S : aI N ps scope) (hd : A.handled = none) (e0 : E2 P w K mg base A outer s H) (hl : vs.length = ps.length) (r : Vals vs us)
   (x : InCallC s s.heap.objs.size (bindL (envOfC qual scope s.heap.objs.size f cd).kindOf (ps.zip us) fun _=>none) (cellsFrom (s.heap.objs.size + 1) scope.names []) (bindC (envOfC qual scope s.heap.objs.size f cd).kindOf (ps.zip us) fun _=>none) s1) :
   Inv (xr CX P w K mg base N qual scope f cd A outer s H E) [] (start N vs) H s1:=by
 have hpl : ps.length ≤ N.length:=by have:=congrArg List.length S.pre; rw [List.length_take] at this; omega
 obtain ⟨h1,tk,rfl,hk⟩:=x.done
 have noA : ∀ b : Addr,b ∉ (xr CX P w K mg base N qual scope f cd A outer s H E).ex:=fun b z=>absurd (show b ∈ ([] : List Addr) from z) (by simp)
 refine ⟨⟨e0.mod,S.kind,rfl,rfl,Nat.le_refl _,fun y z c h1 h2=>?_,fun y hy=>?_,fun y c _ h=>?_,fun _=>hd,Around.frames_deeper e0.frames,.inr ⟨rfl,rfl⟩,fun b z=>absurd z (noA b),e0.bs,e0.bsz,fun b _ _=>noA b,fun b z=>absurd z (noA b),e0.qg,e0.frf⟩,
   rfl,e0.bare,Un.kept hk,⟨_,x.toInCall.ns,fun i y v h1 h2 h3=>?_⟩,fun y c h=>⟨_,x.cell y c h⟩,e0.hok.fresh (Nat.le_refl _),fun y c h=>?_,fun p hp=>absurd (show p ∈ ([] : List (Addr × Obj)) from hp) (by simp),e0.hok.kept hk,?_⟩
 · exact name_of_addr x.apart (PySem.mem_of_lookup h1) (PySem.mem_of_lookup h2)
 · have hy : scope.names.lookup y = some .cell ∨ scope.names.lookup y = some .free:=hy
   rcases hy with hy | hy
   · exact vF hy
   · exact absurd rfl (S.nofree _ (PySem.mem_of_lookup hy))
 · exact Nat.le_of_lt (x.above y c (PySem.mem_of_lookup h))
 · have hi : i < vs.length:=by
     unfold start at h2
     by_cases hi : i < vs.length
     · exact hi
     · rw [List.getElem?_append_right (by simpa using hi)] at h2
       rw [List.getElem?_replicate] at h2
       split at h2 <;> cases h2
   have ha : vs[i]? = some v:=by
     unfold start at h2
     rw [List.getElem?_append_left (by simpa using hi),List.getElem?_map] at h2
     cases e : vs[i]? with
     | none=>rw [e] at h2; cases h2
     | some a=>rw [e] at h2; cases h2; rfl
   obtain ⟨u,hu,rv⟩:=r.get ha
   have hp : ps[i]? = some y:=by
     rw [← S.pre,List.getElem?_take_of_lt (by omega)]; exact h1
   have ndP : ps.Nodup:=by rw [← S.pre]; exact S.nd.sublist (List.take_sublist _ _)
   refine ⟨u,rv,?_⟩
   rcases S.par y (List.mem_of_getElem? hp) with k | k
   · exact .inl ⟨k,rQ ndP hp hu k⟩
   · obtain ⟨c,e⟩:=vF (n:=s.heap.objs.size + 1) k
     refine .inr ⟨.inl k,c,e,?_⟩
     have q:=x.cell y c e
     rw [rT ndP hp hu (by show scope.names.lookup y ≠ _; rw [k]; decide)] at q
     exact q
 · exact e0.hok.fresh (Nat.le_of_lt (x.above y c (PySem.mem_of_lookup h)))
 · unfold start
   show _ = N.length
   rw [List.length_append,List.length_map,List.length_replicate]
   omega
theorem K4 {CX : CXT} {P : Program} {w : World} {K : PySem.W.Frag} {mg : Str → Option Value} {base : Heap} {k : Nat} {f : Addr} {name qual : Str} {params : Arguments} {body : List Stmt} {scope : Scope} {dV kV doc pm cdv ct oc : Value} {an od : Option Addr}
   {osl : Array (Option Value)} {N ps : List Str} {sp : Sp} (lk : K.lookup f = some ⟨oc,od,.func (PySem.W.fnOf name qual params body scope dV kV doc pm an cdv ct),osl⟩) (hcd : PySem.W.codeIn K cdv qual = true) (S : aI N ps scope)
   (len : ∀ vs H Q E,sp vs H Q E → vs.length = ps.length)
   (hbody : ∀ (A : Around) (outer : List Env) (s : Shared) (H : Hp) (vs : List V) (Q : VK) (E : XK),jF k (A.deeper (envOfC qual scope s.heap.objs.size f cdv)) → sp vs H Q E →
     ∃ t,PSs (xr CX P w K mg base N qual scope f cdv A outer s H E) body t ∧ t { nx:=fun _ H'=>Q .non H',rt:=Q } (start N vs) H) :
   bW P w K mg base CX (k + 1) f (PySem.W.fnOf name qual params body scope dV kV doc pm an cdv ct) ps sp:=by
 refine ⟨len,fun A outer s H args us vs Q E hr e0 hb r hsp=>?_⟩
 have hl:=len _ _ _ _ hsp
 have KX : K.In s.heap:=e0.mod.kin.keeps fun b o e=>(e0.bs b o e).1
 have lim : s.heap.NoLimit:=e0.mod.nolimit.keeps fun b o e=>(e0.bs b o e).1
 have hkind : ∀ y ∈ ps.zip us,scope.names.lookup y.1 = some .local ∨ (scope.names.lookup y.1 = some .cell ∧ ((cellsFrom (s.heap.objs.size + 1) scope.names []).lookup y.1).isSome = true):=fun ⟨n,v⟩ hy=>by
   rcases S.par n (List.of_mem_zip hy).1 with q | q
   · exact .inl q
   · exact .inr ⟨q,PySem.W.cellsFrom_some _ _ _ (.inl q)⟩
 refine codeAny_call_function hr.depth (KX _ _ lk) rfl S.co S.gen rfl (PySem.W.codeRec_of KX hcd) (hb _ _ _ _ ?_)
 refine wpAny_newFunctionEnv_cells S.kind hkind fun env he s1 x=>?_
 subst he
 refine ⟨lim.keeps x.toInCall.keep,codeAny_func ?_⟩
 obtain ⟨t,ht,hq⟩:=hbody A outer s H vs Q E (hr.deeper _) hsp
 have I : Inv (xr CX P w K mg base N qual scope f cdv A outer s H E) [] (start N vs) H s1:=AU S hr.hd e0 hl r x
 refine wpAny_mono (ht [] s1 (start N vs) H _ I hq) (fun fl s' hs=>?_) fun e s' hs=>hs
 have fin : ∀ {σ' : St} {H' : Hp} {v : V} {u : Value},Inv (xr CX P w K mg base N qual scope f cdv A outer s H E) [] σ' H' s' → RelV v u → Q v H' → CE outer P w H s Q u s':=
   fun {σ' H' v u} J rv q=>⟨v,H',J.os,J.bare,J.base,J.hok,rv,q⟩
 cases fl with
 | ret u=>
   obtain ⟨v,σ',H',J,rv,q⟩:=hs
   exact fin J rv q
 | next=>
   obtain ⟨σ',H',J,q⟩:=hs
   exact fin (v:=V.non) (u:=Value.none) J rfl q
 | brk=>
   obtain ⟨_,_,_,q⟩:=hs
   exact False.elim q
 | cont=>
   obtain ⟨_,_,_,q⟩:=hs
   exact False.elim q
end L2
namespace L2
open PySem PySem.Spec PyProof.Rows
section
variable {X : Cx} {x : Str} {p pos : Pos} {e : Expr} {es : List Expr} {t : TA} {id T : String} {r : List V → Hp → VK → Prop}
noncomputable def tCB (r : List V → Hp → VK → Prop) (t : TA) : TE:=fun σ H Q=>t σ H fun vs H1=>r vs H1 Q
theorem gO (hc : e6 X (.builtin id) r) (hg : Gl X x) (hm : X.mg x = none) (hv : bootBuiltins x = some (.builtin id)) (ha : PA X (e :: es) t) (hn : x ≠ "__name__":=by decide) (hdb : (x == ("__debug__" : Str)) = false:=by decide)
   (he : starEach (e :: es) X.env = (false,eval e X.env) :: starEach es X.env:=by rfl) (hpl : (backTo pos (starEach es X.env)).any (·.1) = false:=by rfl) : PE X (.Call (.Name x p) (e :: es) [] pos) (tCB r t):=by
 intro pins s σ H Q I h
 refine wpAny_Call_Name_kw (jc I hg hm hv ?_ hn hdb)
 exact PyProof.Rows.callWith_builtin1 (thn (ha pos pins s σ H _ I h) fun us s1 ⟨vs,H1,I1,r1,q1⟩=>hc pins s1 σ H1 vs us Q I1 r1 q1) he hpl
theorem nM (hc : e6 X (.type T) r) (hg : Gl X x) (hm : X.mg x = none) (hv : bootBuiltins x = some (.type T)) (ha : PA X (e :: es) t) (hn : x ≠ "__name__":=by decide) (hdb : (x == ("__debug__" : Str)) = false:=by decide)
   (he : starEach (e :: es) X.env = (false,eval e X.env) :: starEach es X.env:=by rfl) (hpl : (backTo pos (starEach es X.env)).any (·.1) = false:=by rfl) : PE X (.Call (.Name x p) (e :: es) [] pos) (tCB r t):=by
 intro pins s σ H Q I h
 refine wpAny_Call_Name_kw (jc I hg hm hv ?_ hn hdb)
 exact PyProof.Rows.callWith_type1 (thn (ha pos pins s σ H _ I h) fun us s1 ⟨vs,H1,I1,r1,q1⟩=>hc pins s1 σ H1 vs us Q I1 r1 q1) he hpl
end
end L2
namespace HT
open PySem PyProof.Rows
section
open PySem.SeqAt
open PySem.AutoSeq1 (wpAny_loadPart')
open PySem.MeetsSeq PySem.MeetsSeq2 PySem.MeetsSeq3
end
section
variable {prog : Program} {w : World} {A : Around} {E : Value → Shared → Prop} {s : Shared}
theorem D3 {t b : Addr} {vs ws : List Value} {Q : Value → Shared → Prop} (ht : IsTup s.heap t vs.toArray) (hb : IsTup s.heap b ws.toArray) (hv : vs ≠ [])
   (h1 : ws = [] → Q (.ref t) s) (h2 : ws ≠ [] → Q (.ref s.heap.objs.size) { s with heap:=s.heap.push { cls:=.type "tuple",data:=.seq (vs ++ ws).toArray } })
   (hsz : vs.length + ws.length ≤ sizeLine) : wpAny (model prog w) A (binaryOp .Add (.ref t) (.ref b)) Q E s:=by
 obtain ⟨⟨cls,dd,data,sl⟩,ho,hc,n,hd⟩:=id ht
 obtain ⟨⟨cls2,dd2,data2,sl2⟩,ho2,hc2,n2,hd2⟩:=id hb
 simp only at hc hd hc2 hd2
 subst hc hd hc2 hd2
 have e : vs.toArray ++ ws.toArray = (vs ++ ws).toArray:=by simp
 by_cases hw : ws = []
 · exact concat_meets ⟨_,ho,rfl⟩ ⟨_,ho2,rfl⟩ noFill_tuple_add seq_tuple_add PySem.F.slot_tuple_add PySem.F.entry_tuple_add (PySem.F.args_tuple_add_2 _ _)
     (tuple_addW1 t b vs.toArray ws.toArray n n2 dd dd2 sl sl2 (by simpa using hv) (by simp [hw])) ⟨ho,ho2,h1 hw⟩
 · refine concat_meets ⟨_,ho,rfl⟩ ⟨_,ho2,rfl⟩ noFill_tuple_add seq_tuple_add PySem.F.slot_tuple_add PySem.F.entry_tuple_add (PySem.F.args_tuple_add_2 _ _)
     (tuple_addW2 t b vs.toArray ws.toArray n n2 dd dd2 sl sl2 (by simpa using hv) (by simpa using hw) (by rw [List.size_toArray,List.size_toArray]; exact hsz)) ⟨ho,ho2,?_⟩
   rw [e]
   exact h2 hw
noncomputable def sIx (n d : Nat) : Option Int → Nat
 | none=>d
 | some v=>if v < 0 then (v + (n : Int)).toNat else min v.toNat n
end
end HT
namespace L2
open PySem PySem.Spec PyProof.Rows
noncomputable abbrev TO:=St → Hp → (Option Int → Hp → Prop) → Prop
noncomputable def PO (X : Cx) (e : Option Expr) (t : TO) : Prop:=
 ∀ (pins : List (Addr × Obj)) (s : Shared) (σ : St) (H : Hp) (Q : Option Int → Hp → Prop),Inv X pins σ H s → t σ H Q →
   wpAny (model X.prog X.w) X.A (evalPart e X.env) (fun u s'=>∃ o H',Inv X pins σ H' s' ∧ IsPart u o ∧ Q o H') X.xe s
noncomputable def DD : TO:=fun _ H Q=>Q none H
noncomputable def Kj (t : TE) : TO:=fun σ H Q=>t σ H fun x H1=>∃ i,x = .int i ∧ Q (some i) H1
section
variable {X : Cx} {e : Expr} {te : TE} {lo hi : Option Expr} {tl th : TO} {pos p2 : Pos}
theorem Dz : PO X none DD:=by
 intro pins s σ H Q I h
 rw [evalPart_none]
 exact wpAny_pure ⟨none,H,I,.none,h⟩
theorem Ei (h : PE X e te) : PO X (some e) (Kj te):=by
 intro pins s σ H Q I hw
 rw [evalPart_some]
 refine thn (h pins s σ H _ I hw) fun u s1 ⟨x,H1,I1,r1,q1⟩=>?_
 obtain ⟨i,rfl,q⟩:=q1
 obtain ⟨t,rfl⟩:=r1
 exact ⟨some i,H1,I1,.int i t,q⟩
noncomputable def SlR (X : Cx) (r : V → Option Int → Option Int → Hp → VK → Prop) : Prop:=
 ∀ (pins : List (Addr × Obj)) (s : Shared) (σ : St) (H : Hp) (x : V) (v vl vu : Value) (lo hi : Option Int) (sl : Addr) (Q : VK),Inv X pins σ H s → RelV x v → s.heap.IsSliceOf sl vl vu .none → IsPart vl lo → IsPart vu hi → r x lo hi H Q →
   ∃ T id,typeLookup (.type T) "__getitem__" = pure (some (.builtin id)) ∧ s.TypeIs v T ∧ wpAny (model X.prog X.w) X.A (getItem v (.ref sl)) (EP X pins σ Q) X.xe s
noncomputable def tSl (r : V → Option Int → Option Int → Hp → VK → Prop) (te : TE) (tl th : TO) : TE:=fun σ H Q=>te σ H fun x H1=>tl σ H1 fun l H2=>th σ H2 fun u H3=>r x l u H3 Q
theorem Cg {r : V → Option Int → Option Int → Hp → VK → Prop} (hr : SlR X r) (he : PE X e te) (hl : PO X lo tl) (hu : PO X hi th) : PE X (.Subscript e (.Slice lo hi none p2) pos) (tSl r te tl th):=by
 intro pins s σ H Q I h
 refine Subscript_ (thn (he pins s σ H _ I h) fun v s1 ⟨x,H1,I1,r1,q1⟩=>?_)
 refine wpAny_Slice (thn (hl pins s1 σ H1 _ I1 q1) fun vl s2 ⟨l,H2,I2,pl,q2⟩=>thn (hu pins s2 σ H2 _ I2 q2) fun vu s3 ⟨u,H3,I3,pu,q3⟩=>?_)
 rw [evalPart_none]
 refine wpAny_pure ?_
 have I4 : Inv X pins σ H3 { s3 with heap:=s3.heap.push { cls:=.type "slice",data:=.fields #[vl,vu,.none] } }:=I3.kept (t':=s3.toks) fun b ob q=>Heap.get?_push_of_some _ q
 obtain ⟨T,id,hT,ht,hg⟩:=hr pins { s3 with heap:=s3.heap.push { cls:=.type "slice",data:=.fields #[vl,vu,.none] } } σ H3 x v vl vu l u s3.heap.objs.size Q I4 r1 (Heap.IsSliceOf.new ..) pl pu q3
 show wpAny (model X.prog X.w) X.A (subscriptTail e (.Slice lo hi none p2) v (.ref s3.heap.objs.size)) (EP X pins σ Q) X.xe { s3 with heap:=s3.heap.push { cls:=.type "slice",data:=.fields #[vl,vu,.none] } }
 exact tail_any (ops:=[.ref s3.heap.objs.size,v]) ht hT hg (by with_unfolding_all rfl)
noncomputable def AD (xs : List V) (lo hi : Option Int) : List V:=(xs.drop (HT.sIx xs.length 0 lo)).take (HT.sIx xs.length xs.length hi - HT.sIx xs.length 0 lo)
theorem uF (xs : List V) (lo hi : Option Int) : (AD xs lo hi).length ≤ xs.length:=by
 unfold AD
 rw [List.length_take,List.length_drop]
 omega
noncomputable def Kz (K : PySem.W.Frag) : R2:=fun x y H Q=>∃ a b xs ys,x = .ref a ∧ y = .ref b ∧ SqT K H a xs ∧ SqT K H b ys ∧ xs ≠ [] ∧ xs.length + ys.length ≤ sizeLine ∧
 (ys = [] → Q (.ref a) H) ∧ (ys ≠ [] → ∀ p,H p = none → Q (.ref p) (upd H p (.tup (xs ++ ys))))
theorem Vals.tS {xs : List V} {us : List Value} (r : Vals xs us) : us = [] ↔ xs = []:=by
 cases r with
 | nil=>simp
 | cons _ _=>simp
theorem EU : OpR X (binaryOp .Add) (Kz X.K):=by
 intro pins s σ H x y v u Q I rx ry h
 obtain ⟨a,b,xs,ys,rfl,rfl,ha,hb,hx,hz,q1,q2⟩:=h
 cases rx
 cases ry
 obtain ⟨its,r1,p1,_⟩:=I.tuple ha
 obtain ⟨its2,r2,p2,_⟩:=I.tuple hb
 refine HT.D3 p1 p2 (fun z=>hx (r1.tS.mp z)) (fun z=>⟨.ref a,H,I,rfl,q1 (r2.tS.mp z)⟩) (fun z=>?_) (by rw [← r1.length,← r2.length]; exact hz)
 refine ⟨.ref s.heap.objs.size,_,I.laid (t':=s.toks) (o:=.tup (xs ++ ys)) (fun b ob q=>Heap.get?_push_of_some _ q) (Nat.le_refl _) ?_,rfl,q2 (fun w=>z (r2.tS.mpr w)) _ (I.hok.fresh (Nat.le_refl _))⟩
 exact ⟨by rw [List.length_append]; exact hz,_,r1.append r2,IsTup.new _ _⟩
end
end L2
namespace L2
open PySem PySem.Spec PyProof.Rows
noncomputable def ixN (n : Nat) (i : Int) : Option Nat:=if 0 ≤ i then (if i < n then some i.toNat else none) else if -(n : Int) ≤ i then some (i + n).toNat else none
noncomputable def atI {α : Type} (xs : List α) (i : Int) : Option α:=(ixN xs.length i).bind fun j=>xs[j]?
theorem ue {n : Nat} {i : Int} {j : Nat} (h : ixN n i = some j) : seqIndex? i n = some j ∧ j < n ∧ -(n : Int) ≤ i ∧ i < n:=by
 unfold ixN at h
 by_cases h0 : 0 ≤ i
 · rw [if_pos h0] at h
   by_cases h1 : i < n
   · rw [if_pos h1] at h
     have e : i.toNat = j:=Option.some.inj h
     exact ⟨by rw [seqIndex_of h0 h1,e],by omega,by omega,h1⟩
   · rw [if_neg h1] at h; cases h
 · rw [if_neg h0] at h
   by_cases h1 : -(n : Int) ≤ i
   · rw [if_pos h1] at h
     have e : (i + n).toNat = j:=Option.some.inj h
     exact ⟨by rw [seqIndex_neg (by omega) h1,e],by omega,h1,by omega⟩
   · rw [if_neg h1] at h; cases h
theorem yD {α : Type} {xs : List α} {i : Int} {v : α} (h : atI xs i = some v) : ∃ j,seqIndex? i xs.length = some j ∧ xs[j]? = some v ∧ j < xs.length ∧ -(xs.length : Int) ≤ i ∧ i < xs.length:=by
 unfold atI at h
 cases e : ixN xs.length i with
 | none=>rw [e] at h; cases h
 | some j=>
   rw [e] at h
   obtain ⟨h1,h2,h3,h4⟩:=ue e
   exact ⟨j,h1,h,h2,h3,h4⟩
noncomputable def zq (b : Expr) : Prop:=∀ o i,subscripted b false o i = operate [o,i] (getItem o i)
noncomputable def IxR (X : Cx) (r : R2) : Prop:=
 ∀ (value slice : Expr) (pins : List (Addr × Obj)) (s : Shared) (σ : St) (H : Hp) (x y : V) (v u : Value) (Q : VK),Inv X pins σ H s → RelV x v → RelV y u → r x y H Q →
   subscripted slice false v u = operate [v,u] (getItem v u) → wpAny (model X.prog X.w) X.A (subscriptTail value slice v u) (EP X pins σ Q) X.xe s
noncomputable def MtR (X : Cx) (id : String) (r : V → List V → Hp → VK → Prop) : Prop:=
 ∀ (pins : List (Addr × Obj)) (s : Shared) (σ : St) (H : Hp) (x : V) (xs : List V) (v : Value) (us : List Value) (Q : VK),Inv X pins σ H s → RelV x v → Vals xs us → r x xs H Q →
   wpAny (model X.prog X.w) X.A (call (.builtin id) (v :: us)) (EP X pins σ Q) X.xe s
section
variable {X : Cx} {a b : Expr} {ta tb : TE} {pos : Pos}
theorem KP {r : R2} (hr : IxR X r) (ha : PE X a ta) (hb : PE X b tb) (hs : zq b) : PE X (.Subscript a b pos) (tOp r ta tb):=by
 intro pins s σ H Q I h
 exact Subscript_ (HQ ha hb I h fun v u s2 x y H2 I2 rx ry q=>hr a b pins s2 σ H2 x y v u Q I2 rx ry q (hs _ _))
noncomputable def LY (K : PySem.W.Frag) : R2:=fun x y H Q=>∃ p xs i v,x = .ref p ∧ y = .int i ∧ SqL K H p xs ∧ atI xs i = some v ∧ Q v H
noncomputable def Lw (K : PySem.W.Frag) : R2:=fun x y H Q=>∃ p xs i v,x = .ref p ∧ y = .int i ∧ SqT K H p xs ∧ atI xs i = some v ∧ Q v H
theorem DM : IxR X (LY X.K):=by
 intro value slice pins s σ H x y v u Q I rx ry h hs
 obtain ⟨p,xs,i,z,rfl,rfl,hq,he,q⟩:=h
 cases rx
 obtain ⟨t,rfl⟩:=ry
 obtain ⟨its,r,pl,hz⟩:=I.list hq
 obtain ⟨j,h1,h2,h3,h4,h5⟩:=yD he
 obtain ⟨w,ew,rw'⟩:=r.get h2
 have hl:=r.length
 have hn:=sG
 have fin : EP X pins σ Q w s:=⟨z,H,I,rw',q⟩
 by_cases h0 : 0 ≤ i
 · have hj : i.toNat = j:=by
     rw [seqIndex_of h0 h5] at h1
     exact Option.some.inj h1
   exact item_listR pl.isList h0 (by omega) (by rw [hj]; simpa using ew) fin hs
 · have hj : (i + (its.toArray.size : Int)).toNat = j:=by
     rw [seqIndex_neg (by omega) h4] at h1
     rw [List.size_toArray,← hl]
     exact Option.some.inj h1
   exact subscriptTail_builtinR (x:=w) pl.isList.typeIs slot_list_getitem.lookup
     (wpAny_getItem_list_neg (Q:=fun r s'=>r = w ∧ EP X pins σ Q r s') pl.isList (by omega) (by rw [List.size_toArray] <;> omega) (by omega) (by rw [hj]; simpa using ew) ⟨rfl,fin⟩) hs
theorem GI : IxR X (Lw X.K):=by
 intro value slice pins s σ H x y v u Q I rx ry h hs
 obtain ⟨p,xs,i,z,rfl,rfl,hq,he,q⟩:=h
 cases rx
 obtain ⟨t,rfl⟩:=ry
 obtain ⟨its,r,pl,hz⟩:=I.tuple hq
 obtain ⟨j,h1,h2,h3,h4,h5⟩:=yD he
 obtain ⟨w,ew,rw'⟩:=r.get h2
 have hl:=r.length
 have hn:=sG
 have fin : EP X pins σ Q w s:=⟨z,H,I,rw',q⟩
 exact subscriptTail_builtinR (x:=w) pl.typeIs slot_tuple_getitem.lookup
   (getItem_tuple (j:=j) (Q:=fun r s'=>r = w ∧ EP X pins σ Q r s') pl (by omega) (by omega) (by rw [List.size_toArray,← hl]; exact h1) (by simpa using ew) ⟨rfl,fin⟩) hs
theorem xh (its : List Value) (n j : Nat) (u : Value) : Obj.mapSeq (·.setIfInBounds j u) { cls:=.type "list",data:=.seq its.toArray n } = { cls:=.type "list",data:=.seq (its.set j u).toArray n }:=by
 simp [Obj.mapSeq]
theorem Inv.lst {pins : List (Addr × Obj)} {σ : St} {H : Hp} {s : Shared} {p : Addr} {xs : List V} (I : Inv X pins σ H s) (h : H p = some (.lst xs)) :
   ∃ (its : List Value) (n : Nat),Vals xs its ∧ s.heap.get? p = some { cls:=.type "list",data:=.seq its.toArray n } ∧ xs.length ≤ sizeLine:=by
 obtain ⟨z,its,n,r,e⟩:=I.hok p _ h
 exact ⟨its,n,r,e,z⟩
theorem Inv.Gi {pins : List (Addr × Obj)} {σ : St} {H : Hp} {s : Shared} {p : Addr} {xs ys : List V} {its its' : List Value} {n n' : Nat} {f : Obj → Obj} (I : Inv X pins σ H s) (h : H p = some (.lst xs))
   (ho : s.heap.get? p = some { cls:=.type "list",data:=.seq its.toArray n }) (hf : f { cls:=.type "list",data:=.seq its.toArray n } = { cls:=.type "list",data:=.seq its'.toArray n' }) (r : Vals ys its') (hz : ys.length ≤ sizeLine) (t : Nat) :
   Inv X pins σ (upd H p (.lst ys)) { s with heap:=s.heap.update p f,toks:=t }:=by
 have e : (s.heap.update p f).get? p = some { cls:=.type "list",data:=.seq its'.toArray n' }:=by
   rw [Heap.get?_update_self f ho (by rw [hf] <;> rfl),hf]
 refine I.write (x:=p) (e:=p) (by rw [h]; trivial) (.inl rfl) (fun b u hb q=>(Heap.get?_update_other _ _ (Ne.symm hb)).trans q) ⟨_,e⟩ ?_
 exact ⟨hz,its',n',r,e⟩
noncomputable def Ku : V → V → V → Hp → (Hp → Prop) → Prop:=fun o i v H Q=>∃ p xs k j,o = .ref p ∧ i = .int k ∧ H p = some (.lst xs) ∧ ixN xs.length k = some j ∧ Q (upd H p (.lst (xs.set j v)))
theorem set_list : GJ X Ku:=by
 intro pins s σ H o i v ov iv u Q I ro ri rv h
 obtain ⟨p,xs,k,j,rfl,rfl,hp,hj,q⟩:=h
 cases ro
 obtain ⟨t,rfl⟩:=ri
 obtain ⟨its,n,r,ho,hz⟩:=I.lst hp
 obtain ⟨h1,h2,h3,h4⟩:=ue hj
 have hl:=r.length
 have hn:=sG
 have I' : Inv X pins σ (upd H p (.lst (xs.set j v))) { s with heap:=s.heap.update p (Obj.mapSeq (·.setIfInBounds j u)) }:=
   I.Gi hp ho (xh its n j u) (r.set rv j) (by rw [List.length_set]; exact hz) s.toks
 by_cases h0 : 0 ≤ k
 · have hk : k.toNat = j:=by
     rw [seqIndex_of h0 h4] at h1
     exact Option.some.inj h1
   exact PySem.W.ki_setAt ho h0 (by omega) (by rw [List.size_toArray,← hl]; exact h4) (by rw [hk]; exact ⟨_,I',q⟩)
 · have hk : (k + (its.toArray.size : Int)).toNat = j:=by
     rw [seqIndex_neg (by omega) h3] at h1
     rw [List.size_toArray,← hl]
     exact Option.some.inj h1
   exact PySem.W.ki_setBack ho (by omega) (by rw [List.size_toArray,← hl]; exact h3) (by omega) (by rw [hk]; exact ⟨_,I',q⟩)
theorem ui (lo hi : Option Int) (n : Nat) : (sliceBounds lo hi none n).1 = ((HT.sIx n 0 lo : Nat) : Int) ∧ (sliceBounds lo hi none n).2.1 = ((HT.sIx n n hi : Nat) : Int) ∧ (sliceBounds lo hi none n).2.2 = 1:=by
 refine ⟨?_,?_,rfl⟩
 · cases lo with
   | none=>simp [sliceBounds,HT.sIx]
   | some i=>
     simp only [sliceBounds,HT.sIx,Option.getD_none,show (1 : Int) > 0 by decide,if_true]
     by_cases h : i < 0
     · simp only [h,if_true] <;> omega
     · simp only [h,if_false] <;> omega
 · cases hi with
   | none=>simp [sliceBounds,HT.sIx]
   | some i=>
     simp only [sliceBounds,HT.sIx,Option.getD_none,show (1 : Int) > 0 by decide,if_true]
     by_cases h : i < 0
     · simp only [h,if_true] <;> omega
     · simp only [h,if_false] <;> omega
theorem qu (its : List Value) (lo hi : Option Int) : slicePick its.toArray lo hi none = ((its.drop (HT.sIx its.length 0 lo)).take (HT.sIx its.length its.length hi - HT.sIx its.length 0 lo)).toArray:=by
 obtain ⟨h1,h2,h3⟩:=ui lo hi its.toArray.size
 unfold slicePick
 rw [h1,h2,h3]
 simp only [sliceRange_one,pick_run,List.size_toArray] <;> rfl
noncomputable def LV (K : PySem.W.Frag) : V → Option Int → Option Int → Hp → VK → Prop:=fun x lo hi H Q=>∃ a xs,x = .ref a ∧ SqL K H a xs ∧ ∀ p,H p = none → Q (.ref p) (upd H p (.lst (AD xs lo hi)))
theorem DI : SlR X (LV X.K):=by
 intro pins s σ H x v vl vu lo hi sl Q I rx hs pl pu h
 obtain ⟨a,xs,rfl,hx,q⟩:=h
 cases rx
 obtain ⟨its,r,ht,hz⟩:=I.list hx
 have hlen:=r.length
 refine ⟨"list",_,slot_list_getitem.lookup,ht.isList.typeIs,?_⟩
 refine wpAny_getItem_list_slice ht.isList hs pl pu .none (by simp) ?_ (by rw [List.size_toArray] <;> omega)
 rw [qu,← hlen]
 refine ⟨.ref s.heap.objs.size,_,I.laid (t':=s.toks) (o:=.lst (AD xs lo hi)) (fun b ob q=>Heap.get?_push_of_some _ q) (Nat.le_refl _) ?_,rfl,q _ (I.hok.fresh (Nat.le_refl _))⟩
 exact ⟨Nat.le_trans (uF xs lo hi) hz,_,0,(r.drop (HT.sIx xs.length 0 lo)).take (HT.sIx xs.length xs.length hi - HT.sIx xs.length 0 lo),Heap.get?_push_size _ rfl⟩
theorem sP : e6 X (.builtin "len") (fun xs H Q=>∃ p ys,xs = [.ref p] ∧ (SqL X.K H p ys ∨ SqT X.K H p ys) ∧ Q (.int ys.length) H):=by
 intro pins s σ H xs us Q I r h
 obtain ⟨p,ys,rfl,hq,q⟩:=h
 obtain ⟨u,rfl,rx⟩:=vals1 r
 cases rx
 have hn:=sG
 rcases hq with hq | hq
 · obtain ⟨its,r',pl,hz⟩:=I.list hq
   have hlen:=r'.length
   exact Calls.call_len_list pl.isList (by simp only [List.size_toArray] <;> omega) ⟨.int ys.length,H,I.tok _,⟨s.toks + 1,by rw [List.size_toArray,hlen]⟩,q⟩
 · obtain ⟨its,r',pl,hz⟩:=I.tuple hq
   have hlen:=r'.length
   exact len_tuple pl (by simp only [List.size_toArray] <;> omega) ⟨.int ys.length,H,I.tok _,⟨s.toks + 1,by rw [List.size_toArray,hlen]⟩,q⟩
theorem tU : e6 X (.type "list") (fun xs H Q=>∃ p ys,xs = [.ref p] ∧ (SqL X.K H p ys ∨ SqT X.K H p ys) ∧ ∀ l,H l = none → Q (.ref l) (upd H l (.lst ys))):=by
 intro pins s σ H xs us Q I r h
 obtain ⟨p,ys,rfl,hq,q⟩:=h
 obtain ⟨u,rfl,rx⟩:=vals1 r
 cases rx
 have fin : ∀ (its : List Value),Vals ys its → ys.length ≤ sizeLine → ∀ (h' : Heap) (c' : Nat),(∀ b o',s.heap.get? b = some o' → h'.get? b = some o') →
     h'.get? s.heap.objs.size = some { cls:=.type "list",dict:=none,data:=.seq its.toArray c',slots:=#[] } → EP X pins σ Q (.ref s.heap.objs.size) { s with heap:=h' }:=fun its r' hz h' c' kp e=>
   ⟨.ref s.heap.objs.size,_,I.laid (t':=s.toks) kp (Nat.le_refl _) (show gH X.prog X.w _ h' _ (.lst ys) from ⟨hz,its,c',r',e⟩),rfl,q _ (I.hok.fresh (Nat.le_refl _))⟩
 rcases hq with hq | hq
 · obtain ⟨its,r',pl,hz⟩:=I.list hq
   have hlen:=r'.length
   obtain ⟨o,ho,hc,n,hd⟩:=pl.isList
   exact call_list_seq p (.inl rfl) ho hc hd (fun h' c' kp e=>fin its r' hz h' c' kp e) (by simp only [List.size_toArray] <;> omega)
 · obtain ⟨its,r',pl,hz⟩:=I.tuple hq
   have hlen:=r'.length
   obtain ⟨o,ho,hc,n,hd⟩:=pl
   exact call_list_seq p (.inr rfl) ho hc hd (fun h' c' kp e=>fin its r' hz h' c' kp e) (by simp only [List.size_toArray] <;> omega)
theorem ku : e6 X (.type "tuple") (fun xs H Q=>∃ p ys,xs = [.ref p] ∧ ((SqL X.K H p ys ∧ ∀ l,H l = none → Q (.ref l) (upd H l (.tup ys))) ∨ (SqT X.K H p ys ∧ Q (.ref p) H))):=by
 intro pins s σ H xs us Q I r h
 obtain ⟨p,ys,rfl,h⟩:=h
 obtain ⟨u,rfl,rx⟩:=vals1 r
 cases rx
 rcases h with ⟨hq,q⟩ | ⟨hq,q⟩
 · obtain ⟨its,r',pl,hz⟩:=I.list hq
   have hlen:=r'.length
   refine call_tuple_list pl.isList (fun h' kp=>?_) (by simp only [List.size_toArray] <;> omega)
   have I1 : Inv X pins σ H { s with heap:=h' }:=I.kept (t':=s.toks) kp
   have I2 : Inv X pins σ (upd H h'.objs.size (.tup ys)) { s with heap:=h'.push { cls:=.type "tuple",data:=.seq its.toArray } }:=
     I1.laid (t':=s.toks) (fun b o e=>Heap.get?_push_of_some _ e) (Nat.le_refl _) (show gH X.prog X.w _ _ _ (.tup ys) from ⟨hz,its,r',IsTup.new _ _⟩)
   exact ⟨.ref h'.objs.size,_,I2,rfl,q _ (I1.hok.fresh (Nat.le_refl _))⟩
 · obtain ⟨its,r',pl,hz⟩:=I.tuple hq
   exact call_tuple_same pl ⟨.ref p,H,I,rfl,q⟩
noncomputable def tyV (K : PySem.W.Frag) (T : String) (x : V) (H : Hp) : Prop:=match x with
 | .str _=>T = "str"
 | .int _=>T = "int"
 | .ref p=>(T = "list" ∧ ∃ xs,SqL K H p xs) ∨ (T = "tuple" ∧ ∃ o,K.lookup p = some o ∧ o.cls = .type "tuple" ∧ o.dict = none) ∨
     (T = "dict" ∧ ((∃ kvs,H p = some (.dK kvs)) ∨ ∃ kvs,H p = some (.dT kvs))) ∨ (T = "set" ∧ ∃ S n,H p = some (.set S n))
 | _=>False
theorem Cb {pins : List (Addr × Obj)} {σ : St} {H : Hp} {s : Shared} {T : String} {x : V} {v : Value} (I : Inv X pins σ H s) (r : RelV x v) (ty : tyV X.K T x H) :
   s.TypeIs v T ∧ ∀ a,v = .ref a → ∃ ob,s.heap.get? a = some ob ∧ ob.dict = none:=by
 cases x with
 | str z=>
   obtain ⟨t,rfl⟩:=r
   cases (show T = "str" from ty)
   exact ⟨typeIs_str s z t,fun _ e=>nomatch e⟩
 | int i=>
   obtain ⟨t,rfl⟩:=r
   cases (show T = "int" from ty)
   exact ⟨typeIs_int s i t,fun _ e=>nomatch e⟩
 | ref p=>
   cases r
   rcases ty with ⟨rfl,xs,hq⟩ | ⟨rfl,o,hk,hc,hd⟩ | ⟨rfl,hk⟩ | ⟨rfl,S,n,hk⟩
   · obtain ⟨its,_,pl,_⟩:=I.list hq
     refine ⟨pl.isList.typeIs,fun a e=>?_⟩
     cases e
     obtain ⟨o,n,e,c,hd,_⟩:=pl
     exact ⟨o,e,hd⟩
   · refine ⟨⟨o,I.kIn p o hk,hc⟩,fun a e=>?_⟩
     cases e
     exact ⟨o,I.kIn _ o hk,hd⟩
   · have z : ∃ o,s.heap.get? p = some o ∧ o.ExactDict:=by
       rcases hk with ⟨kvs,hk⟩ | ⟨kvs,hk⟩
       · obtain ⟨_,_,_,_,o,_,_,e,ex,_⟩:=I.hok p _ hk
         exact ⟨o,e,ex⟩
       · obtain ⟨_,_,_,_,o,_,_,e,ex,_⟩:=I.hok p _ hk
         exact ⟨o,e,ex⟩
     obtain ⟨o,e,ex⟩:=z
     refine ⟨⟨o,e,ex.1⟩,fun a e2=>?_⟩
     cases e2
     exact ⟨o,e,ex.2.1⟩
   · obtain ⟨o,_,_,_,e,ex,_⟩:=I.hok p _ hk
     refine ⟨⟨o,e,ex.1⟩,fun a e2=>?_⟩
     cases e2
     exact ⟨o,e,ex.2.1⟩
 | _=>exact False.elim ty
noncomputable def Ks (K : PySem.W.Frag) (T : String) (r : V → List V → Hp → VK → Prop) (to : TE) : TE:=fun σ H Q=>to σ H fun x H1=>tyV K T x H1 ∧ r x [] H1 Q
noncomputable def tBM (K : PySem.W.Frag) (T : String) (r : V → List V → Hp → VK → Prop) (to : TE) (t : TA) : TE:=fun σ H Q=>to σ H fun x H1=>tyV K T x H1 ∧ t σ H1 fun xs H2=>r x xs H2 Q
variable {o e : Expr} {es : List Expr} {to : TE} {t : TA} {name : Str} {apos cpos : Pos} {T id : String} {r : V → List V → Hp → VK → Prop}
theorem CM (pa : PlainAttrs T) (slot : Slot T name id) (hty : typeOf (.builtin id) = pure (.type "method_descriptor")) (hm : MtR X id r) (ho : PE X o to)
   (hbase : attributeBase o name X.env (eval o X.env) = eval o X.env:=by rfl) (hline : (apos.endLine == cpos.line) = true:=by rfl) : PE X (.Call (.Attribute o name apos) [] [] cpos) (Ks X.K T r to):=by
 intro pins s σ H Q I h
 refine wpAny_Call_method0_late hbase hline (thn (ho pins s σ H _ I h) fun v s1 ⟨x,H1,I1,r1,ty,q1⟩=>?_)
 obtain ⟨h1,h2⟩:=Cb I1 r1 ty
 exact ⟨T,id,pa,slot,hty,h1,h2,Calls.callWith_builtin rfl (PySem.evalArgs_none (hm pins s1 σ H1 x [] v [] Q I1 r1 .nil q1))⟩
theorem yw (pa : PlainAttrs T) (slot : Slot T name id) (hty : typeOf (.builtin id) = pure (.type "method_descriptor")) (hm : MtR X id r) (ho : PE X o to) (ha : PA X (e :: es) t)
   (hbase : attributeBase o name X.env (eval o X.env) = eval o X.env:=by rfl)
   (hfew : ((backTo cpos (starEach (e :: es) X.env)).all (fun x=>!x.1) && (backToKw cpos (keywordEach [] X.env)).all (fun x=>x.1.isSome)
     && decide ((e :: es).length + ([] : List Keyword).length + (if ([] : List Keyword).isEmpty then 0 else 1) < 30)) = true:=by rfl)
   (hline : (apos.endLine == cpos.line) = true:=by rfl) (hs : starEach (e :: es) X.env = (false,eval e X.env) :: starEach es X.env:=by rfl) (hplain : (backTo cpos (starEach es X.env)).any (·.1) = false:=by rfl) :
   PE X (.Call (.Attribute o name apos) (e :: es) [] cpos) (tBM X.K T r to t):=by
 intro pins s σ H Q I h
 refine wpAny_Call_method_late hbase hfew hline rfl (thn (ho pins s σ H _ I h) fun v s1 ⟨x,H1,I1,r1,ty,q1⟩=>?_)
 obtain ⟨h1,h2⟩:=Cb I1 r1 ty
 refine ⟨T,id,pa,slot,hty,h1,h2,?_⟩
 have hA:=ha cpos pins s1 σ H1 _ I1 q1
 rw [hs] at hA ⊢
 refine Calls.callWith_builtin (by show (false || (backTo cpos (starEach es X.env)).any (·.1)) = false; rw [hplain] <;> rfl) (Calls.evalArgs_plain ?_)
 exact thn hA fun us s2 ⟨vs,H2,I2,r2,q2⟩=>hm pins s2 σ H2 x vs v us Q I2 r1 r2 q2
end
end L2
namespace L2
open PySem PySem.Spec PyProof.Rows
noncomputable def MtM (X : Cx) (id : String) (r : V → List V → Hp → VK → Prop) : Prop:=
 ∀ (pins : List (Addr × Obj)) (s : Shared) (σ : St) (H : Hp) (x : V) (xs : List V) (v : Value) (us : List Value) (Q : VK),Inv X pins σ H s → RelV x v → Vals xs us → r x xs H Q →
   wpAny (model X.prog X.w) X.A (call (.builtin id) (v :: us)) (EP X pins σ Q) X.xe s
theorem Vals.one {x : V} {us : List Value} (r : Vals [x] us) : ∃ u,us = [u] ∧ RelV x u:=vals1 r
theorem Vals.two {x y : V} {us : List Value} (r : Vals [x,y] us) : ∃ u v,us = [u,v] ∧ RelV x u ∧ RelV y v:=vals2 r
theorem Vals.zero : ∀ {us : List Value},Vals [] us → us = []
 | _,.nil=>rfl
theorem Vals.dropLast {xs : List V} {us : List Value} (h : Vals xs us) : Vals xs.dropLast us.dropLast:=by
 induction h with
 | nil=>exact .nil
 | cons r t ih=>
   cases t with
   | nil=>exact .nil
   | cons q t'=>exact .cons r ih
theorem Vals.eraseIdx : ∀ {xs : List V} {us : List Value} (i : Nat),Vals xs us → Vals (xs.eraseIdx i) (us.eraseIdx i)
 | _,_,_,.nil=>.nil
 | _,_,0,.cons _ t=>t
 | _,_,i + 1,.cons r t=>.cons r (Vals.eraseIdx i t)
theorem Vals.reverse {xs : List V} {us : List Value} (h : Vals xs us) : Vals xs.reverse us.reverse:=by
 induction h with
 | nil=>exact .nil
 | cons r t ih=>rw [List.reverse_cons,List.reverse_cons]; exact Vals.append ih (.cons r .nil)
theorem xM {α : Type} (l : List α) : l.eraseIdx (l.length - 1) = l.dropLast:=by
 induction l with
 | nil=>rfl
 | cons a r ih=>
   cases r with
   | nil=>rfl
   | cons b r=>
     have e : (a :: b :: r).length - 1 = ((b :: r).length - 1) + 1:=by
       have h1 : (a :: b :: r).length = r.length + 2:=rfl
       have h2 : (b :: r).length = r.length + 1:=rfl
       omega
     rw [e,List.eraseIdx_cons_succ,ih]
     all_goals rfl
theorem rz {α : Type} : ∀ (l : List α) (i : Nat),(l.eraseIdx i).length ≤ l.length
 | [],_=>Nat.le_refl _
 | _ :: _,0=>Nat.le_succ _
 | _ :: r,i + 1=>Nat.succ_le_succ (rz r i)
section
variable {X : Cx} {pins : List (Addr × Obj)} {σ : St} {H : Hp} {s : Shared} {l b : Addr} {xs ys zs : List V}
theorem Inv.zS {its its' : List Value} {n : Nat} {f : Array Value → Array Value} {t' : Nat} (I : Inv X pins σ H s) (hH : H l = some (.lst xs))
   (e : s.heap.get? l = some { cls:=.type "list",data:=.seq its.toArray n }) (hf : f its.toArray = its'.toArray) (hv : Vals ys its') (hz : ys.length ≤ sizeLine) :
   Inv X pins σ (upd H l (.lst ys)) { s with heap:=s.heap.update l (Obj.mapSeq f),toks:=t' }:=by
 have q:=PySem.IsL.update e f
 rw [hf] at q
 refine I.write (x:=l) (e:=l) (by rw [hH]; exact trivial) (.inl rfl) (fun b' u hb hu=>(Heap.get?_update_other s.heap (Obj.mapSeq f) (Ne.symm hb)).trans hu) ⟨_,q⟩ ?_
 exact ⟨hz,its',_,hv,q⟩
theorem Inv.Lu {its : List Value} {t' : Nat} (I : Inv X pins σ H s) (hv : Vals ys its) (hz : ys.length ≤ sizeLine) :
   Inv X pins σ (upd H s.heap.objs.size (.lst ys)) { s with heap:=s.heap.push { cls:=.type "list",data:=.seq its.toArray },toks:=t' }:=
 I.laid (fun _ _ q=>Heap.get?_push_of_some _ q) (Nat.le_refl _) ⟨hz,its,0,hv,Heap.get?_push_size _ rfl⟩
theorem Inv.fresh (I : Inv X pins σ H s) : H s.heap.objs.size = none:=I.hok.fresh (Nat.le_refl _)
theorem Inv.xI (I : Inv X pins σ H s) (hH : H l = some (.lst xs)) : xs.length ≤ sizeLine ∧ ∃ (its : List Value) (n : Nat),Vals xs its ∧ xs.length = its.length ∧ s.heap.get? l = some { cls:=.type "list",data:=.seq its.toArray n }:=by
 obtain ⟨z,its,n,r,e⟩:=I.hok l _ hH
 exact ⟨z,its,n,r,r.length,e⟩
theorem CY {n : Nat} (h : n ≤ sizeLine) : Builtin.List.listTooLong n = false:=by
 unfold Builtin.List.listTooLong
 exact decide_eq_false (by omega)
end
section
variable {X : Cx}
noncomputable def E1 : V → List V → Hp → VK → Prop:=fun x vs H Q=>∃ l xs y,x = .ref l ∧ vs = [y] ∧ H l = some (.lst xs) ∧ xs.length < sizeLine ∧ Q .non (upd H l (.lst (xs ++ [y])))
theorem nK : MtM X "list.append" E1:=by
 intro pins s σ H x vs v us Q I rx rv h
 obtain ⟨l,xs,y,rfl,rfl,hH,hz,q⟩:=h
 cases rx
 obtain ⟨u,rfl,ru⟩:=rv.one
 obtain ⟨z,its,n,r,hl,e⟩:=I.xI hH
 refine call_meets F.slot_list_append ⟨_,e,rfl⟩ F.entry_list_append (F.args_list_append_2 _ _) (PySem.list_append l its.toArray n u (by rw [List.size_toArray]; omega)) ⟨e,?_⟩
 refine ⟨.non,_,I.zS (its':=its ++ [u]) hH e (by simp) (r.append (.cons ru .nil)) ?_,rfl,q⟩
 rw [List.length_append,List.length_singleton]
 omega
noncomputable def Fp : V → List V → Hp → VK → Prop:=fun x vs H Q=>∃ l b xs zs,x = .ref l ∧ vs = [.ref b] ∧ H l = some (.lst xs) ∧ H b = some (.lst zs) ∧ xs.length + zs.length ≤ sizeLine ∧ Q .non (upd H l (.lst (xs ++ zs)))
theorem AI : MtM X "list.extend" Fp:=by
 intro pins s σ H x vs v us Q I rx rv h
 obtain ⟨l,b,xs,zs,rfl,rfl,hH,hB,hz,q⟩:=h
 cases rx
 obtain ⟨u,rfl,ru⟩:=rv.one
 cases ru
 obtain ⟨z,its,n,r,hl,e⟩:=I.xI hH
 obtain ⟨z2,its2,n2,r2,hl2,e2⟩:=I.xI hB
 have hsz : its.toArray.size + its2.toArray.size ≤ sizeLine:=by rw [List.size_toArray,List.size_toArray]; omega
 have hlong : ¬ (!its.toArray.isEmpty && Builtin.List.listTooLong (its.toArray.size + its2.toArray.size)) = true:=by
   rw [CY hsz,Bool.and_false]
   exact Bool.false_ne_true
 refine call_meets F.slot_list_extend ⟨_,e,rfl⟩ F.entry_list_extend (F.args_list_extend_2 _ _)
   (AutoSeq1.list_extend_list_list_0 l its.toArray n b its2.toArray n2 hlong (by rw [List.size_toArray]; omega) (by omega)) ⟨e,e2,?_⟩
 refine ⟨.non,_,I.zS (its':=its ++ its2) hH e (by simp) (r.append r2) ?_,rfl,q⟩
 rw [List.length_append]
 omega
noncomputable def Lp : V → List V → Hp → VK → Prop:=fun x vs H Q=>∃ l xs y,x = .ref l ∧ vs = [] ∧ H l = some (.lst xs) ∧ xs[xs.length - 1]? = some y ∧ Q y (upd H l (.lst xs.dropLast))
theorem Ja : MtM X "list.pop" Lp:=by
 intro pins s σ H x vs v us Q I rx rv h
 obtain ⟨l,xs,y,rfl,rfl,hH,hy,q⟩:=h
 cases rx
 have hus:=rv.zero
 subst hus
 obtain ⟨z,its,n,r,hl,e⟩:=I.xI hH
 obtain ⟨u,hu,ru⟩:=r.get hy
 have hy' : its.toArray[its.toArray.size - 1]? = some u:=by
   show its.toArray[its.length - 1]? = some u
   rw [← Array.getElem?_toList,← hl]
   exact hu
 refine call_meets F.slot_list_pop ⟨_,e,rfl⟩ F.entry_list_pop (F.args_list_pop_1 _) (MeetsSeq.list_pop_last l its.toArray n u hy' (by rw [List.size_toArray]; omega)) ⟨e,?_⟩
 refine ⟨y,_,I.zS (its':=its.dropLast) hH e ?_ r.dropLast ?_,ru,q⟩
 · show its.toArray.eraseIdxIfInBounds (its.toArray.size - 1) = its.dropLast.toArray
   rw [List.size_toArray,List.eraseIdxIfInBounds_toArray,xM]
 · rw [List.length_dropLast]
   omega
noncomputable def Ir : V → List V → Hp → VK → Prop:=fun x vs H Q=>∃ l xs i k y,x = .ref l ∧ vs = [.int i] ∧ H l = some (.lst xs) ∧ -(2 ^ 63) ≤ i ∧ i < 2 ^ 63 ∧ seqIndex? i xs.length = some k ∧ xs[k]? = some y ∧ Q y (upd H l (.lst (xs.eraseIdx k)))
theorem Bq : MtM X "list.pop" Ir:=by
 intro pins s σ H x vs v us Q I rx rv h
 obtain ⟨l,xs,i,k,y,rfl,rfl,hH,h1,h2,hk,hy,q⟩:=h
 cases rx
 obtain ⟨u,rfl,ru⟩:=rv.one
 obtain ⟨t,rfl⟩:=ru
 obtain ⟨z,its,n,r,hl,e⟩:=I.xI hH
 obtain ⟨w,hw,rw'⟩:=r.get hy
 refine call_meets F.slot_list_pop ⟨_,e,rfl⟩ F.entry_list_pop (F.args_list_pop_2 _ _)
   (MeetsSeq.list_pop_at l its.toArray n i t k w (fitsIndex_both h1 h2) (by rw [List.size_toArray,← hl]; exact hk) (by rw [← Array.getElem?_toList]; exact hw) (by rw [List.size_toArray]; omega)) ⟨e,?_⟩
 refine ⟨y,_,I.zS (its':=its.eraseIdx k) hH e ?_ (r.eraseIdx k) ?_,rw',q⟩
 · show its.toArray.eraseIdxIfInBounds k = (its.eraseIdx k).toArray
   rw [List.eraseIdxIfInBounds_toArray]
 · have:=rz xs k
   omega
noncomputable def Hm : V → List V → Hp → VK → Prop:=fun x vs H Q=>∃ l xs,x = .ref l ∧ vs = [] ∧ H l = some (.lst xs) ∧ Q .non (upd H l (.lst []))
theorem CN : MtM X "list.clear" Hm:=by
 intro pins s σ H x vs v us Q I rx rv h
 obtain ⟨l,xs,rfl,rfl,hH,q⟩:=h
 cases rx
 have hus:=rv.zero
 subst hus
 obtain ⟨z,its,n,r,hl,e⟩:=I.xI hH
 refine call_meets F.slot_list_clear ⟨_,e,rfl⟩ F.entry_list_clear (F.args_list_clear_1 _) (AutoSeq1.list_clear_list_0 l its.toArray n (by rw [List.size_toArray]; omega)) ⟨e,?_⟩
 exact ⟨.non,_,I.zS (its':=[]) (ys:=[]) hH e rfl .nil (Nat.zero_le _),rfl,q⟩
end
section
variable {prog : Program} {w : World} {A : Around} {E : Value → Shared → Prop} {s : Shared}
end
section
variable {X : Cx}
end
end L2
namespace Att
open PySem PySem.W PySem.Calls PyProof.Rows
theorem oH {P : Params} {h : Heap} : ∀ (ns : List Int) (vs : List Value),WellAll P h vs (ns.map WData.int) → IntsAre vs ns:=by
 intro ns
 induction ns with
 | nil=>
   intro vs w
   rw [List.map_nil] at w
   cases w
   exact .nil
 | cons n ns ih=>
   intro vs w
   rw [List.map_cons] at w
   cases w with
   | cons a b=>
     cases a
     exact .cons _ _ (ih _ b)
theorem AQ {l : OpenLaw} {n : Nat} (hn : l.most = some n) {P : Params} {h : Heap} {args : List WData} {vals : List Value}
   (hpre : l.row.toRowW.claim.pre args = true) (hwl : WellAll P h vals args) :
   ∃ a vs ns,vals = [Value.ref a] ∧ args = [WData.list (ns.map WData.int)] ∧ h.get? a = some { cls:=.type "list",data:=.seq vs.toArray } ∧ IntsAre vs ns ∧ ns.length ≤ n:=by
 have hsh : WShape.hasAll [] args [.list .int] = true:=(pre_splitW hpre).1
 have hc : l.pre.holds [] { args:=args } = true:=(pre_splitW hpre).2
 obtain ⟨d,r,rfl,h1,h2⟩:=hasAllW_cons hsh
 obtain rfl:=hasAllW_nil h2
 obtain ⟨xs,rfl,h3⟩:=hasW_list h1
 obtain ⟨ns,rfl⟩:=items_int h3
 have hlen : ns.length ≤ n:=by
   unfold OpenLaw.pre at hc
   have h4 : (WTm.not (.lt (.lit (.int (n : Int))) (.len (.arg 0)))).holds [] { args:=[.list (ns.map .int)] } = true:=by
     have h4:=(holds_andW hc).1
     rw [hn] at h4
     exact h4
   have h5:=condW_of h4 (w_not (w_lt w_lit (w_len_list (w_arg rfl))))
   rw [List.length_map] at h5
   refine Nat.le_of_not_lt fun q=>?_
   have q' : (n : Int) < ((ns.length : Nat) : Int):=by omega
   first
     | (rw [decide_eq_true q'] at h5; exact absurd h5 (by decide))
     | (simp at h5; omega)
 cases hwl with
 | cons w1 w2=>
   cases w2
   cases w1 with
   | list ho hall=>exact ⟨_,_,ns,rfl,rfl,ho,oH ns _ hall,hlen⟩
theorem zP (l : OpenLaw) (args : List WData) : l.row.toRowW.claim.post args (.bool true) args = true:=
 postW_of (r:=l.row.toRowW) (X:=(true == true))
   (show WShape.has [] (.bool true) .bool = true by first | rfl | decide | simp [WShape.has,WShape.arms,WShape.armsAll])
   (show (WTm.eq .res (.lit (.bool true))).value [] { args:=args,res:=some (.bool true),after:=args } = some (.bool (true == true)) from w_eq_bool (w_res rfl) w_lit) rfl
theorem vm {l : OpenLaw} {n : Nat} {q : Program} {loose : List Str} {XP : (Str → Option Value) → Heap → Prop} {YP : World → Heap → Prop} {d : DefRec}
   (hn : l.most = some n) (hdf : d.params.defaults = [])
   (call : ∀ (w : World) (s₀ s₁ : Shared) (mg mb : Str → Option Value) (fa : Addr) (o : Obj) (pm cd doc : Value) (a : Addr) (vs : List Value) (ns : List Int),
     Ground q loose [] XP w s₀ mg mb s₁.heap → YP w s₁.heap →
     s₁.heap.get? fa = some o → o.data = .func (docDef d.name d.params d.body d.scope pm cd doc) → s₁.heap.CodeRec cd d.name → mg d.name = some (.ref fa) →
     s₁.heap.get? a = some { cls:=.type "list",data:=.seq vs.toArray } → IntsAre vs ns → ns.length ≤ n → s₁.gens = #[] →
     codeAny (model l.prog w) callerA (.call (.ref fa) ⟨[.ref a],[]⟩) (fun r s'=>r = .ok (.ret (.bool true)) ∧ OldK s₁.heap s'.heap ∧ s'.os = s₁.os ∧ AllBare s'.gens) s₁) :
   WalkO q loose XP YP l.row.toRowW d [] (fun f vs=>PySem.call f vs):=by
 intro w s₀ s₁ mg mb G Y fa o pm cd doc dV kV ho hd hcd hD hmg hg args vals as hpre hlay hrd hwl hlo
 obtain rfl : dV = .none:=Dflts.none hD hdf
 obtain rfl : kV = .none:=Dflts.noKw hD
 obtain ⟨a,vs,ns,rfl,rfl,hobj,hints,hlen⟩:=AQ hn hpre hwl
 refine enter_call (codeAny_mono (call w s₀ s₁ mg mb fa o pm cd doc a vs ns G Y ho (fd_plain hd) hcd hmg hobj hints hlen hg) fun r s' hq=>?_)
 obtain ⟨rfl,h2,h3,h4⟩:=hq
 exact ⟨.inl ⟨.bool true,.bool true,[],rfl,fun _=>rfl,.bool true,zP l _,fun _=>⟨List.Pairwise.nil,fun _ hm=>(nomatch hm)⟩⟩,h2,h3,h4⟩
section
variable {prog : Program} {w : World} {A : Around} {E : Value → Shared → Prop} {s : Shared} {K : Frag}
end
end Att
namespace L2
open PySem PySem.Spec PyProof.Rows
theorem rW : ∀ {vs : List Value} {ns : List Int},IntsAre vs ns → Vals (ns.map V.int) vs
 | _,_,.nil=>.nil
 | _,_,.cons n t h=>.cons ⟨t,rfl⟩ (rW h)
noncomputable def Fe (H : Hp) : Prop:=∀ b,H b = none ∨ ∃ o xs,H b = some (.frz o (.lst xs))
theorem CI {P : Program} {w : World} {K : PySem.W.Frag} {mg mb : Str → Option Value} {CX : CXT} {k : Nat} {fa a : Addr} {fd : FuncData} {x : Str} {sp : Sp} {s₁ : Shared} {vs : List Value} {ns : List Int}
   (KX : K.In s₁.heap) (hns : s₁.heap.Ns mainGlobals mg) (hb : s₁.heap.Ns builtinsNs mb) (hbb : ∀ x : Str,x ≠ "__name__" → mb x = bootBuiltins x) (hlim : s₁.heap.NoLimit) (hg : s₁.gens = #[])
   (ha : s₁.heap.get? a = some { cls:=.type "list",data:=.seq vs.toArray }) (hi : IntsAre vs ns) (hl : ns.length ≤ sizeLine) (hr : jF k callerA)
   (F : ∀ base : Heap,K.In base → base.Ns mainGlobals mg → bW P w K mg base CX k fa fd [x] sp) (hbind : ∀ (s : Shared) (u : Value),BindsTo s fd ⟨[u],[]⟩ [(x,u)])
   (hsp : ∀ H : Hp,Fe H → SqL K H a (ns.map V.int) → sp [.ref a] H (fun v _=>v = .bl true) fun _ _ _=>False)
   (hCX : ∀ H e s',CX [] H s₁ (fun _ _ _=>False) e s' → False) :
   codeAny (model P w) callerA (.call (.ref fa) ⟨[.ref a],[]⟩) (fun r s'=>r = .ok (.ret (.bool true)) ∧ OldK s₁.heap s'.heap ∧ s'.os = s₁.os ∧ AllBare s'.gens) s₁:=by
 have rv:=rW hi
 have lenV:=hi.length
 have core : ∀ H : Hp,Fe H → SqL K H a (ns.map V.int) → HOk P w H s₁.heap → (∀ b,H b ≠ none → b = a) → (H a ≠ none → K.lookup a = none) →
     codeAny (model P w) callerA (.call (.ref fa) ⟨[.ref a],[]⟩) (fun r s'=>r = .ok (.ret (.bool true)) ∧ OldK s₁.heap s'.heap ∧ s'.os = s₁.os ∧ AllBare s'.gens) s₁:=by
   intro H hO hS hok hA hK
   have oY : ∀ {b : Addr} {o : Obj},s₁.heap.get? b = some o → H b = none → (tG s₁.heap H).get? b = some o:=fun e n=>Cd e n
   have noA : ∀ {b : Addr} {o : Obj} {es : Array DictEntry} {ep : Nat},s₁.heap.get? b = some o → o.data = .dict es ep → H b = none:=fun {b o es ep} e d=>by
     cases q : H b with
     | none=>rfl
     | some u=>
       have e' : b = a:=hA b (by rw [q]; simp)
       subst e'
       rw [ha] at e; cases e
       have d' : Data.seq vs.toArray _ = Data.dict es ep:=d
       cases d'
   have nsK : ∀ {b : Addr} {m : Str → Option Value},s₁.heap.Ns b m → (tG s₁.heap H).Ns b m:=fun {b m} ⟨o,es,ep,e,d,r⟩=>⟨o,es,ep,oY e (noA e d),d,r⟩
   have hKb : K.In (tG s₁.heap H):=fun b o e=>oY (KX b o e) (by
     cases q : H b with
     | none=>rfl
     | some u=>
       have e' : b = a:=hA b (by rw [q]; simp)
       subst e'
       rw [hK (by rw [q]; simp)] at e; cases e)
   have hM : Mod K mg (tG s₁.heap H):=⟨hKb,nsK hns,⟨mb,nsK hb,hbb⟩,let ⟨mc,h1,h2⟩:=hlim; ⟨mc,nsK h1,h2⟩⟩
   have e0 : E2 P w K mg (tG s₁.heap H) callerA [] s₁ H:=⟨rfl,hM,fun b o e=>E7 e,Nat.le_of_eq (AK _ _),trivial,fun b hb=>absurd (show b ∈ ([] : List Addr) from hb) (by simp),hok,.of_eq hg⟩
   refine codeAny_mono ((F _ hKb (nsK hns)).run callerA [] s₁ H ⟨[.ref a],[]⟩ [.ref a] [.ref a] _ _ hr e0 (hbind s₁ (.ref a)) (.cons rfl .nil) (hsp H hO hS)) fun r s' h=>?_
   cases r with
   | error e=>exact (hCX H e s' h).elim
   | ok fl=>
     cases fl with
     | next=>exact False.elim h
     | brk=>exact False.elim h
     | cont=>exact False.elim h
     | ret u=>
       obtain ⟨v,H',os,bare,un,hok',r',q⟩:=h
       have q' : v = .bl true:=q
       subst q'
       obtain rfl : u = Value.bool true:=r'
       refine ⟨rfl,OldK.of_keep fun b o e=>?_,os,bare⟩
       cases q : H b with
       | none=>exact un.keep b o e q (by intro z; exact absurd (show b ∈ ([] : List Addr) from z) (by simp)) (by simp)
       | some u=>
         rcases hO b with z | ⟨ob,xs,z⟩
         · rw [q] at z; cases z
         · have z2:=un.frzs b ob _ z
           obtain ⟨e1,_⟩:=hok b _ z
           obtain ⟨e2,_⟩:=hok' b _ z2
           rw [e] at e1; cases e1
           exact e2
 cases hk : K.lookup a with
 | some o=>
   have e:=KX a o hk
   rw [ha] at e
   cases e
   refine core (fun _=>none) (fun _=>.inl rfl) (.inr ⟨_,vs.toArray,_,hk,rfl,rfl,rfl,by rw [List.size_toArray,lenV]; exact hl,by simpa using rv⟩) (fun b u z=>by have z' : (none : Option HO) = some u:=z; cases z') (fun b z=>absurd rfl z) fun z=>absurd rfl z
 | none=>
   refine core (fun b=>if b = a then some (.frz { cls:=.type "list",data:=.seq vs.toArray } (.lst (ns.map V.int))) else none) (fun b=>?_) (.inl (.inr ⟨{ cls:=.type "list",data:=.seq vs.toArray },if_pos rfl⟩)) (fun b u z=>?_) (fun b z=>?_) fun _=>hk
   · by_cases hb : b = a
     · exact .inr ⟨_,_,if_pos hb⟩
     · exact .inl (if_neg hb)
   · by_cases hb : b = a
     · have z':=(if_pos hb).symm.trans z
       cases z'
       subst hb
       exact ⟨ha,by rw [List.length_map]; exact hl,vs,_,rv,ha⟩
     · have z':=(if_neg hb).symm.trans z
       cases z'
   · by_cases hb : b = a
     · exact hb
     · exact absurd (if_neg hb) z
end L2
namespace L2
open PySem PySem.Spec PyProof.Rows
theorem DC {l : PySem.W.OpenLaw} {n k : Nat} {q : Program} {loose : List Str} {XP : (Str → Option Value) → Heap → Prop} {YP : World → Heap → Prop} {d : DefRec} {K : Params → PySem.W.Frag} {CX : World → CXT} {sp : World → Sp} {x : Str}
   (hn : l.most = some n) (hn2 : n ≤ sizeLine) (hdf : d.params.defaults = []) (hr : jF k callerA)
   (hY : ∀ (w : World) (h : Heap),YP w h → (K w.params).In h)
   (F : ∀ (w : World) (mg : Str → Option Value) (fa : Addr) (h : Heap),(K w.params).In h → h.Ns mainGlobals mg → mg d.name = some (.ref fa) →
     ∃ fd : FuncData,(∀ (s : Shared) (u : Value),BindsTo s fd ⟨[u],[]⟩ [(x,u)]) ∧
       ∀ base : Heap,(K w.params).In base → base.Ns mainGlobals mg → bW l.prog w (K w.params) mg base (CX w) k fa fd [x] (sp w))
   (hsp : ∀ (w : World) (H : Hp) (a : Addr) (ns : List Int),ns.length ≤ n → Fe H → SqL (K w.params) H a (ns.map V.int) → sp w [.ref a] H (fun v _=>v = .bl true) fun _ _ _=>False)
   (hCX : ∀ (w : World) (H : Hp) (s : Shared) (e : Value) (s' : Shared),CX w [] H s (fun _ _ _=>False) e s' → False) :
   PySem.W.WalkO q loose XP YP l.row.toRowW d [] (fun f vs=>PySem.call f vs):=by
 refine Att.vm hn hdf fun w s₀ s₁ mg mb fa o pm cd doc a vs ns G Y ho hd hcd hmg hobj hints hlen hg=>?_
 have KX:=hY w _ Y
 obtain ⟨fd,hb,hF⟩:=F w mg fa _ KX G.T.g hmg
 exact CI KX G.T.g G.T.b G.T.builtins G.T.nolimit hg hobj hints (Nat.le_trans hlen hn2) hr hF hb (fun H hO hS=>hsp w H a ns hlen hO hS) fun H e s'=>hCX w H s₁ e s'
end L2
namespace L2
open PySem PySem.Spec PyProof.Rows
noncomputable def aJ (s : Stmt) : Arguments:=match s with
 | .FunctionDef _ a _ _ _ _ _ _ _ _=>a
 | _=>{ posonlyargs:=[],args:=[],vararg:=none,kwonlyargs:=[],kw_defaults:=[],kwarg:=none,defaults:=[] }
noncomputable def aj (s : Stmt) : List Stmt:=match s with
 | .FunctionDef _ _ b _ _ _ _ _ _ _=>b
 | _=>[]
noncomputable def ab (s : Stmt) : Scope:=match s with
 | .FunctionDef _ _ _ _ _ _ sc _ _ _=>sc
 | _=>{ kind:=.function,names:=[],isGenerator:=false,isCoroutine:=false }
noncomputable abbrev CX0 : CXT:=fun _ _ _ _ _ _=>False
structure Fun (K : PySem.W.Frag) (x qual : Str) (st : Stmt) (f : Addr) (fd : FuncData) : Prop where
 ex : ∃ (oc : Value) (od : Option Addr) (dV kV doc pm : Value) (an : Option Addr) (cdv ct : Value) (osl : Array (Option Value)),
   fd = PySem.W.fnOf x qual (aJ st) (aj st) (ab st) dV kV doc pm an cdv ct ∧ K.lookup f = some ⟨oc,od,.func fd,osl⟩ ∧ PySem.W.codeIn K cdv qual = true
 kp : PySem.W.keepIn K (.ref f) = true
section
variable {P : Program} {w : World} {K : PySem.W.Frag} {mg : Str → Option Value} {base : Heap}
theorem Fun.ok {x qual : Str} {st : Stmt} {f : Addr} {fd : FuncData} {N ps : List Str} {k : Nat} {sp : Sp} (F : Fun K x qual st f fd) (S : aI N ps (ab st)) (len : ∀ vs H Q E,sp vs H Q E → vs.length = ps.length)
   (hbody : ∀ (cdv : Value) (A : Around) (outer : List Env) (s : Shared) (H : Hp) (vs : List V) (Q : VK) (E : XK),jF k (A.deeper (envOfC qual (ab st) s.heap.objs.size f cdv)) → sp vs H Q E →
     ∃ t,PSs (xr CX0 P w K mg base N qual (ab st) f cdv A outer s H E).nox (aj st) t ∧ t { nx:=fun _ H'=>Q .non H',rt:=Q } (start N vs) H) : bW P w K mg base CX0 (k + 1) f fd ps sp:=by
 obtain ⟨oc,od,dV,kV,doc,pm,an,cdv,ct,osl,rfl,lk,hcd⟩:=F.ex
 refine K4 lk hcd S len fun A outer s H vs Q E hr hsp=>?_
 obtain ⟨t,h,q⟩:=hbody cdv A outer s H vs Q E hr hsp
 exact ⟨t,h.nox,q⟩
theorem Fun.binds {x qual : Str} {st : Stmt} {f : Addr} {fd : FuncData} {ps : List Str} (_ : Fun K x qual st f fd) (h : ∀ us : List Value,us.length = ps.length → bindArgs fd ⟨us,[]⟩ = pure (ps.zip us)) : Binds K fd ps []:=.all h
theorem aZ {x qual : Str} {st : Stmt} {f : Addr} {oc : Value} {od an : Option Addr} {osl : Array (Option Value)} {dV kV doc pm cdv ct : Value} (l : K.lookup f = some ⟨oc,od,.func (PySem.W.fnOf x qual (aJ st) (aj st) (ab st) dV kV doc pm an cdv ct),osl⟩)
   (c : PySem.W.codeIn K cdv qual = true) (k : PySem.W.keepIn K (.ref f) = true) : Fun K x qual st f (PySem.W.fnOf x qual (aJ st) (aj st) (ab st) dV kV doc pm an cdv ct):=⟨⟨oc,od,dV,kV,doc,pm,an,cdv,ct,osl,rfl,l,c⟩,k⟩
end
section
variable {X : Cx}
end
theorem qO {A B : Prop} (h : B) : if false = true then A else B:=by
 rw [if_neg Bool.false_ne_true]
 exact h
theorem qw {A B : Prop} (h : A) : if true = true then A else B:=by
 rw [if_pos rfl]
 exact h
noncomputable def nJ (H H' : Hp) : Prop:=∀ b o,H b = some o → H' b = some o
theorem nJ.refl (H : Hp) : nJ H H:=fun _ _ h=>h
theorem nJ.seq {K : PySem.W.Frag} {H H' : Hp} {a : Addr} {xs : List V} (e : nJ H H') (h : SqL K H a xs) : SqL K H' a xs:=by
 rcases h with (h | ⟨o,h⟩) | h
 · exact .inl (.inl (e _ _ h))
 · exact .inl (.inr ⟨o,e _ _ h⟩)
 · exact .inr h
end L2
set_option linter.all false
set_option maxRecDepth 100000
namespace Ev
open PySem PySem.Spec PyProof.Rows L2
inductive D where
 | non | bl (b : Bool) | int (i : Int) | str (x : Str) | tup (xs : List D) | lst (xs : List D)
 deriving Inhabited
mutual
inductive Den (K : PySem.W.Frag) (H : Hp) : V → D → Prop where
 | non : Den K H .non .non
 | bl {b : Bool} : Den K H (.bl b) (.bl b)
 | int {i : Int} : Den K H (.int i) (.int i)
 | str {x : Str} : Den K H (.str x) (.str x)
 | tup {a : Addr} {vs : List V} {ds : List D} (h : SqT K H a vs) (r : xZ K H vs ds) : Den K H (.ref a) (.tup ds)
 | lst {a : Addr} {vs : List V} {ds : List D} (h : SqL K H a vs) (r : xZ K H vs ds) : Den K H (.ref a) (.lst ds)
inductive xZ (K : PySem.W.Frag) (H : Hp) : List V → List D → Prop where
 | nil : xZ K H [] []
 | cons {v : V} {d : D} {vs : List V} {ds : List D} (h : Den K H v d) (r : xZ K H vs ds) : xZ K H (v :: vs) (d :: ds)
end
section
variable {K : PySem.W.Frag} {H H' : Hp}
theorem jM (e : nJ H H') {a : Addr} {xs : List V} (h : SqT K H a xs) : SqT K H' a xs:=by
 rcases h with (h | ⟨o,h⟩) | h
 · exact .inl (.inl (e _ _ h))
 · exact .inl (.inr ⟨o,e _ _ h⟩)
 · exact .inr h
theorem j1 (e : nJ H H') {a : Addr} {xs : List V} (h : SqL K H a xs) : SqL K H' a xs:=e.seq h
end
noncomputable def aQ (i j : Int) : Prop:=i.natAbs.log2 < 64 ∨ j.natAbs.log2 < 64 ∨ (i.natAbs.log2 < 1000000 ∧ j.natAbs.log2 < 1000000)
noncomputable instance (i j : Int) : Decidable (aQ i j):=inferInstanceAs (Decidable (_ ∨ _ ∨ (_ ∧ _)))
noncomputable def aU (j : Int) : Prop:=j ≠ 0 ∧ j.natAbs.log2 < 9000
noncomputable instance (j : Int) : Decidable (aU j):=inferInstanceAs (Decidable (_ ∧ _))
noncomputable def ai : Nat:=1000000
mutual
noncomputable def eqD : D → D → Bool
 | .non,.non=>true
 | .bl a,.bl b=>a == b
 | .bl a,.int j=>(if a then 1 else 0) == j
 | .int i,.bl b=>i == (if b then 1 else 0)
 | .int a,.int b=>a == b
 | .str a,.str b=>a == b
 | .tup xs,.tup ys=>nB xs ys
 | .lst xs,.lst ys=>nB xs ys
 | .non,.bl _ | .non,.int _ | .non,.str _ | .non,.tup _ | .non,.lst _=>false
 | .bl _,.non | .bl _,.str _ | .bl _,.tup _ | .bl _,.lst _=>false
 | .int _,.non | .int _,.str _ | .int _,.tup _ | .int _,.lst _=>false
 | .str _,.non | .str _,.bl _ | .str _,.int _ | .str _,.tup _ | .str _,.lst _=>false
 | .tup _,.non | .tup _,.bl _ | .tup _,.int _ | .tup _,.str _ | .tup _,.lst _=>false
 | .lst _,.non | .lst _,.bl _ | .lst _,.int _ | .lst _,.str _ | .lst _,.tup _=>false
noncomputable def nB : List D → List D → Bool
 | [],[]=>true
 | x :: xs,y :: ys=>eqD x y && nB xs ys
 | [],_ :: _=>false
 | _ :: _,[]=>false
end
mutual
noncomputable def toP : D → PyData
 | .non=>.none
 | .bl b=>.bool b
 | .int i=>.int i
 | .str x=>.str x
 | .tup xs=>.tuple (kj xs)
 | .lst xs=>.list (kj xs)
noncomputable def kj : List D → List PyData
 | []=>[]
 | x :: xs=>toP x :: kj xs
end
mutual
noncomputable def cln : D → Bool
 | .str x=>PyData.strOk x
 | .tup xs=>vY xs
 | .lst xs=>vY xs
 | .non | .bl _ | .int _=>true
noncomputable def vY : List D → Bool
 | []=>true
 | x :: xs=>cln x && vY xs
end
mutual
noncomputable def dep : D → Nat
 | .tup xs=>vf xs + 1
 | .lst xs=>vf xs + 1
 | .non | .bl _ | .int _ | .str _=>0
noncomputable def vf : List D → Nat
 | []=>0
 | x :: xs=>max (dep x) (vf xs)
end
noncomputable def xo (x : D) : Prop:=cln x = true ∧ dep x ≤ 64
noncomputable instance (x : D) : Decidable (xo x):=inferInstanceAs (Decidable (_ ∧ _))
end Ev
namespace Ev
open PySem PySem.Spec PyProof.Rows L2
mutual
theorem sj : ∀ x y : D,PyData.eqv (toP x) (toP y) = eqD x y
 | .non,y=>by cases y <;> simp [toP,PyData.eqv,eqD]
 | .bl a,y=>by cases y <;> simp [toP,PyData.eqv,eqD]
 | .int a,y=>by cases y <;> simp [toP,PyData.eqv,eqD]
 | .str a,y=>by cases y <;> simp [toP,PyData.eqv,eqD]
 | .tup xs,.tup ys=>by simp only [toP,PyData.eqv,eqD]; exact pf xs ys
 | .lst xs,.lst ys=>by simp only [toP,PyData.eqv,eqD]; exact pf xs ys
 | .tup xs,.non=>by simp [toP,PyData.eqv,eqD]
 | .tup xs,.bl _=>by simp [toP,PyData.eqv,eqD]
 | .tup xs,.int _=>by simp [toP,PyData.eqv,eqD]
 | .tup xs,.str _=>by simp [toP,PyData.eqv,eqD]
 | .tup xs,.lst _=>by simp [toP,PyData.eqv,eqD]
 | .lst xs,.non=>by simp [toP,PyData.eqv,eqD]
 | .lst xs,.bl _=>by simp [toP,PyData.eqv,eqD]
 | .lst xs,.int _=>by simp [toP,PyData.eqv,eqD]
 | .lst xs,.str _=>by simp [toP,PyData.eqv,eqD]
 | .lst xs,.tup _=>by simp [toP,PyData.eqv,eqD]
theorem pf : ∀ xs ys : List D,PyData.eqvAll (kj xs) (kj ys) = nB xs ys
 | [],[]=>by simp [kj,PyData.eqvAll,nB]
 | [],_ :: _=>by simp [kj,PyData.eqvAll,nB]
 | _ :: _,[]=>by simp [kj,PyData.eqvAll,nB]
 | x :: xs,y :: ys=>by simp only [kj,PyData.eqvAll,nB]; rw [sj x y,pf xs ys]
end
mutual
theorem zw : ∀ x : D,(toP x).canLay0 = cln x
 | .non=>by simp [toP,PyData.canLay0,cln]
 | .bl _=>by simp [toP,PyData.canLay0,cln]
 | .int _=>by simp [toP,PyData.canLay0,cln]
 | .str _=>by simp [toP,PyData.canLay0,cln]
 | .tup xs=>by simp only [toP,PyData.canLay0,cln]; exact pH xs
 | .lst xs=>by simp only [toP,PyData.canLay0,cln]; exact pH xs
theorem pH : ∀ xs : List D,PyData.canLayAll0 (kj xs) = vY xs
 | []=>by simp [kj,PyData.canLayAll0,vY]
 | x :: xs=>by simp only [kj,PyData.canLayAll0,vY]; rw [zw x,pH xs]
end
mutual
theorem zm : ∀ x : D,(toP x).depth = dep x
 | .non=>by simp [toP,PyData.depth,dep]
 | .bl _=>by simp [toP,PyData.depth,dep]
 | .int _=>by simp [toP,PyData.depth,dep]
 | .str _=>by simp [toP,PyData.depth,dep]
 | .tup xs=>by simp only [toP,PyData.depth,dep]; rw [qc xs]
 | .lst xs=>by simp only [toP,PyData.depth,dep]; rw [qc xs]
theorem qc : ∀ xs : List D,PyData.depthAll (kj xs) = vf xs
 | []=>by simp [kj,PyData.depthAll,vf]
 | x :: xs=>by simp only [kj,PyData.depthAll,vf]; rw [zm x,qc xs]
end
theorem iY {x : D} (h : xo x) : SeqAt.shaped (toP x) = true:=by
 unfold SeqAt.shaped
 rw [zw,zm,h.1,Bool.true_and]
 exact decide_eq_true h.2
section
variable {X : Cx} {pins : List (Addr × Obj)} {σ : L2.St} {H G : Hp} {s : Shared}
mutual
theorem jU (I : Inv X pins σ H s) (e : nJ G H) : ∀ {v : V} {d : D} {u : Value},Den X.K G v d → RelV v u → ∃ as,Reads s.heap u (toP d) as
 | _,_,_,.non,r=>by cases r; exact ⟨_,.none⟩
 | _,_,_,.bl,r=>by cases r; exact ⟨_,.bool _⟩
 | _,_,_,.int,r=>by obtain ⟨t,rfl⟩:=r; exact ⟨_,.int _ _⟩
 | _,_,_,.str,r=>by obtain ⟨t,rfl⟩:=r; exact ⟨_,.str _ _⟩
 | _,_,_,.tup h q,r=>by
   cases r
   obtain ⟨its,rv,⟨o,h1,h2,n,h3⟩,_⟩:=I.tuple (jM e h)
   obtain ⟨as,z⟩:=ny I e q rv
   exact ⟨_,.tuple h1 h2 h3 (by simpa using z)⟩
 | _,_,_,.lst h q,r=>by
   cases r
   obtain ⟨its,rv,⟨o,n,h1,h2,_,h3⟩,_⟩:=I.list (j1 e h)
   obtain ⟨as,z⟩:=ny I e q rv
   exact ⟨_,.list h1 h2 h3 (by simpa using z)⟩
theorem ny (I : Inv X pins σ H s) (e : nJ G H) : ∀ {vs : List V} {ds : List D} {us : List Value},xZ X.K G vs ds → Vals vs us → ∃ as,ReadsAll s.heap us (kj ds) as
 | _,_,_,.nil,.nil=>⟨_,.nil⟩
 | _,_,_,.cons h q,.cons r rs=>by
   obtain ⟨as,z⟩:=jU I e h r
   obtain ⟨bs,z'⟩:=ny I e q rs
   exact ⟨_,.cons z z'⟩
end
end
section
variable {K : PySem.W.Frag} {H₀ H H' : Hp} {W : Hp → Hp} {acc : List Nat} {A : List (Option Addr)} {σ : L2.St} {ρ : Env}
theorem eu {H : Hp} {p : Addr} (h : H p = none) (o : HO) : nJ H (upd H p o):=fun b u q=>by rw [aD (aH q h)]; exact q
end
end Ev
namespace Ev
open PySem PySem.Spec PyProof.Rows L2
noncomputable def Ite (K : PySem.W.Frag) (a : Addr) : L2.It:=
 ⟨fun i H=>∃ xs x,SqL K H a xs ∧ xs[i]? = some x,fun i H v H'=>∃ p x,H p = none ∧ v = .ref p ∧ H' = upd H p (.tup [.int (i : Nat),x]) ∧ ∀ xs,SqL K H a xs → xs[i]? = some x,fun i H=>∃ xs,SqL K H a xs ∧ xs.length ≤ i⟩
theorem Ax {P : Program} {w : World} {K : PySem.W.Frag} {ts : List Expr} {q : Nat} {tp : Pos} (a e it : Addr) (hne : e ≠ it) :
   Turn P w K (.Tuple ts q tp) (Ite K a) [e,it] e (fun i h=>(∃ old,IsEnum h e it (i : Nat) old) ∧ h.IsListIter it a i) where
 mem:=by simp
 obj:=fun i h st b hb=>by
   obtain ⟨⟨old,h1⟩,o,h2,h3,h4⟩:=st
   rcases List.mem_cons.mp hb with rfl | hb
   · exact ⟨_,h1,fun v z=>nomatch z⟩
   · have z : b = it:=by simpa using hb
     subst z
     exact ⟨o,h2,fun v z=>by rw [h4] at z; cases z⟩
 keep:=fun i h h' st k=>by
   obtain ⟨⟨old,h1⟩,o,h2,h3,h4⟩:=st
   exact ⟨⟨old,k e (by simp) _ h1⟩,o,k it (by simp) o h2,h3,h4⟩
 item:=by
   intro X hP hw hK hc i pins s σ H E I hf st hg
   subst hP hw hK
   obtain ⟨xs,x,hq,hx⟩:=hg
   obtain ⟨its,rv,p,hz⟩:=I.list hq
   obtain ⟨u,hu,ru⟩:=rv.get hx
   obtain ⟨⟨old,h1⟩,h2⟩:=st
   have fe:=hf e (by simp)
   have fi:=hf it (by simp)
   refine wpAny_pyNext_enum_item h1 h2 p.isList (x:=u) (by simpa using hu) hne fun h' g1 g2 g3 g4 g5=>⟨_,rfl,?_⟩
   refine wpAny_letOwnedTupleGo_enum (s:={ s with heap:=h',toks:=s.toks + 1 }) g1 fun h2' k1 k2=>?_
   have hn : H s.heap.objs.size = none:=I.hok.fresh (Nat.le_refl _)
   have le1 : e < s.heap.objs.size:=Heap.lt_size h1
   have le2 : it < s.heap.objs.size:=by obtain ⟨o,z,_⟩:=h2; exact Heap.lt_size z
   have kp : ∀ b o,b ≠ e → b ≠ it → s.heap.get? b = some o → h2'.get? b = some o:=fun b o b1 b2 z=>(k2.2 b b1).trans (g5 b o b1 b2 z)
   have nt : h2'.get? s.heap.objs.size = some { cls:=.type "tuple",data:=.seq #[.int (i : Nat) s.toks,u] }:=(k2.2 _ (Nat.ne_of_gt le1)).trans g3
   have ne1 : ∀ b v,H b = some v → b ≠ e:=fun b v z q=>by rw [q,fe.1] at z; cases z
   have ne2 : ∀ b v,H b = some v → b ≠ it:=fun b v z q=>by rw [q,fi.1] at z; cases z
   have hok0 : HOk X.prog X.w H h2':=fun b v z=>(I.hok b v z).lW (fun c v' hc' q=>kp c v' (by
       rcases hc' with hc' | hc'
       · rw [hc']; exact ne1 b v z
       · exact ne1 c _ hc') (by
       rcases hc' with hc' | hc'
       · rw [hc']; exact ne2 b v z
       · exact ne2 c _ hc') q) (fun _ q=>q) fun _ _ q=>q
   have hok1 : HOk X.prog X.w (upd H s.heap.objs.size (.tup [.int (i : Nat),x])) h2':=fun b v z=>by
     by_cases hb : b = s.heap.objs.size
     · subst hb
       rw [cT] at z; cases z
       exact ⟨(by show 2 ≤ sizeLine; decide),[.int (i : Nat) s.toks,u],.cons ⟨_,rfl⟩ (.cons ru .nil),_,nt,rfl,_,rfl⟩
     · rw [aD hb] at z
       exact (hok0 b v z).lW (fun c v' _ q=>q) (fun c q=>by rw [aD (aH q hn)]; exact q) fun c ys q=>by rw [aD (aH q hn)]; exact q
   have I1 : Inv X pins σ (upd H s.heap.objs.size (.tup [.int (i : Nat),x])) { s with heap:=h2',toks:=s.toks + 1 }:=by
     refine I.step (g':=s.gens) (d':=s.drawn) (ch:=[e,it]) (fun b hb=>?_) (fun b o _ _ hc' z _=>kp b o (fun q=>hc' (by simp [q])) (fun q=>hc' (by simp [q])) z)
       (fun b o _ _ hc' z _=>⟨o.slots,kp b o (fun q=>hc' (by simp [q])) (fun q=>hc' (by simp [q])) z⟩)
       (fun b o hc' z n=>by rw [aD (Nat.ne_of_lt (Heap.lt_size z))]; exact n) (fun b o hc' z=>⟨o,kp b o (fun q=>hc' (by simp [q])) (fun q=>hc' (by simp [q])) z⟩)
       (fun b ys z=>by rw [aD (aH z hn)]; exact z) (fun b o u z=>by rw [aD (aH z hn)]; exact z) (fun b ps z=>⟨#[],by rw [aD (aH z hn),z]; simp⟩) (fun m hm=>?_) hok1 I.bare
     · rcases List.mem_cons.mp hb with rfl | hb
       · exact ⟨fe.2.2.2.1,fe.2.1,fe.2.2.2.2.1,fe.2.2.2.2.2⟩
       · have z : b = it:=by simpa using hb
         subst z
         exact ⟨fi.2.2.2.1,fi.2.1,fi.2.2.2.2.1,fi.2.2.2.2.2⟩
     · obtain ⟨o,es,ep,ho,r⟩:=hm
       exact ⟨o,es,ep,kp _ o (Ne.symm fe.2.1) (Ne.symm fi.2.1) ho,r⟩
   refine ⟨.ref s.heap.objs.size,_,I1,rfl,⟨s.heap.objs.size,x,hn,rfl,rfl,fun ys hy=>by rw [I.lQ hy hq]; exact hx⟩,⟨⟨_,k1⟩,?_⟩,fun b hb=>?_⟩
   · obtain ⟨o,z1,z2,z3⟩:=g2
     exact ⟨o,(k2.2 it (Ne.symm hne)).trans z1,z2,z3⟩
   · rcases List.mem_cons.mp hb with rfl | hb
     · rw [aD (Nat.ne_of_lt le1)]; exact fe.1
     · have z : b = it:=by simpa using hb
       subst z
       rw [aD (Nat.ne_of_lt le2)]; exact fi.1
 done:=by
   intro X hP hw hK hc i pins s σ H E I hf st hg
   subst hP hw hK
   obtain ⟨xs,hq,hx⟩:=hg
   obtain ⟨its,rv,p,hz⟩:=I.list hq
   obtain ⟨⟨old,h1⟩,h2⟩:=st
   obtain ⟨f0,f1,f2,f3,f4,f5⟩:=hf it (by simp)
   have hl:=rv.length
   exact wpAny_pyNext_enum_end (I.ok.hd hc) h1 h2 p.isList (by simp; omega) fun h' eb=>⟨rfl,I.turned (t':=s.toks) (fun b o hb z=>eb b o hb z) f0 f1 f3 f4 f5⟩
 self:=fun _ _ _ _ _ st h=>by
   obtain ⟨⟨old,h1⟩,_⟩:=st
   exact wpAny_pyIter_enum h1 h
section
variable {X : Cx}
noncomputable def Be (K : PySem.W.Frag) (ta : TA) : TI:=fun σ H R=>ta σ H fun vs H1=>∃ a,vs = [.ref a] ∧ (∃ xs,SqL K H1 a xs) ∧ R (Ite K a) H1
theorem AW : bootBuiltins "enumerate" = some (.type "enumerate"):=by decide +kernel
theorem tR {ts : List Expr} {q : Nat} {tp : Pos} {a : Expr} {ta : TA} {p pos : Pos} (hg : Gl X "enumerate") (hm : X.mg "enumerate" = none) (ha : PA X [a] ta) (hs : starEach [a] X.env = [(false,eval a X.env)]) :
   PI X (.Tuple ts q tp) (.Call (.Name "enumerate" p) [a] [] pos) (Be X.K ta):=by
 intro pins s σ H R I h
 refine Call_ (jc I hg hm AW (PyProof.Rows.callWith_type1 (thn (ha pos pins s σ H _ I h) fun us s1 ⟨vs,H1,I1,r1,q1⟩=>?_) hs rfl))
 obtain ⟨l,e,⟨xs,hq⟩,q⟩:=q1
 subst e
 obtain ⟨u,rfl,ru⟩:=vals1 r1
 cases ru
 obtain ⟨its,rv,pl,hz⟩:=I1.list hq
 refine call_enumerate_list pl.isList fun h' g1 g2 g3 g4=>?_
 refine wpAny_pyIter_enum (s:={ s1 with heap:=h' }) g1 ?_
 have I2 : Inv X pins σ H1 { s1 with heap:=h' }:=I1.kept (t':=s1.toks) g4
 have n1 : H1 (s1.heap.objs.size + 1) = none:=I1.hok.fresh (by omega)
 have n2 : H1 s1.heap.objs.size = none:=I1.hok.fresh (Nat.le_refl _)
 refine ⟨s1.heap.objs.size + 1,[s1.heap.objs.size + 1,s1.heap.objs.size],_,_,H1,rfl,I2,Ax l (s1.heap.objs.size + 1) s1.heap.objs.size (Nat.succ_ne_self _),⟨⟨_,g1⟩,g2⟩,fun b hb=>?_,q⟩
 rcases List.mem_cons.mp hb with rfl | hb
 · exact I1.ye (by omega) n1
 · have z : b = s1.heap.objs.size:=by simpa using hb
   subst z
   exact I1.ye (Nat.le_refl _) n2
end
end Ev
namespace Ev
open PySem PySem.Spec PyProof.Rows L2
noncomputable def Itz (K : PySem.W.Frag) (a b : Addr) : L2.It:=
 ⟨fun i H=>∃ xs ys x y,SqL K H a xs ∧ SqL K H b ys ∧ xs[i]? = some x ∧ ys[i]? = some y,
  fun i H v H'=>∃ p x y,H p = none ∧ v = .ref p ∧ H' = upd H p (.tup [x,y]) ∧ (∀ xs,SqL K H a xs → xs[i]? = some x) ∧ ∀ ys,SqL K H b ys → ys[i]? = some y,
  fun i H=>∃ xs ys,SqL K H a xs ∧ SqL K H b ys ∧ (xs.length ≤ i ∨ ys.length ≤ i)⟩
noncomputable def zSt (a b z TI TO i1 i2 : Addr) (i : Nat) (h : Heap) : Prop:=
 IsZip h z TI TO .none ∧ IsPair h TI (.ref i1) (.ref i2) ∧ (∃ u v,IsPair h TO u v) ∧ h.IsListIter i1 a i ∧ h.IsListIter i2 b i
theorem rl {h : Heap} {a b z TI TO i1 i2 : Addr} {i : Nat} {xs ys : Array Value} (n : TI ≠ TO) (m : i1 ≠ i2) (s : zSt a b z TI TO i1 i2 i h) (l1 : h.IsList a xs) (l2 : h.IsList b ys) : ZipApart z TI TO i1 i2 a b:=by
 obtain ⟨h1,h2,⟨u,v,h3⟩,⟨o4,h4,c4,d4⟩,⟨o5,h5,c5,d5⟩⟩:=s
 obtain ⟨o6,h6,c6,n6,d6⟩:=l1
 obtain ⟨o7,h7,c7,n7,d7⟩:=l2
 have kk : ∀ {x y : Addr} {o p : Obj},h.get? x = some o → h.get? y = some p → o.cls ≠ p.cls → x ≠ y:=fun e1 e2 c q=>by subst q; rw [e1] at e2; cases e2; exact c rfl
 have cz : ∀ {s t : String},s ≠ t → Value.type s ≠ Value.type t:=fun n q=>n (by cases q; rfl)
 refine ⟨kk h2 h1 (cz (by decide)),kk h3 h1 (cz (by decide)),kk h4 h1 ?_,kk h5 h1 ?_,n,kk h2 h4 ?_,kk h2 h5 ?_,kk h3 h4 ?_,kk h3 h5 ?_,m,kk h6 h1 ?_,kk h6 h3 ?_,kk h6 h4 ?_,kk h6 h5 ?_,kk h7 h1 ?_,kk h7 h3 ?_,kk h7 h4 ?_,kk h7 h5 ?_⟩
 all_goals first | (rw [c4]; exact cz (by decide)) | (rw [c5]; exact cz (by decide)) | (rw [c6]; exact cz (by decide)) | (rw [c7]; exact cz (by decide)) | (rw [c6,c4]; exact cz (by decide)) | (rw [c6,c5]; exact cz (by decide)) | (rw [c7,c4]; exact cz (by decide)) | (rw [c7,c5]; exact cz (by decide))
theorem CV {P : Program} {w : World} {K : PySem.W.Frag} {ts : List Expr} {q : Nat} {tp : Pos} (a b z TI TO i1 i2 : Addr) (nT : TI ≠ TO) (nI : i1 ≠ i2) :
   Turn P w K (.Tuple ts q tp) (Itz K a b) [z,TI,TO,i1,i2] z (zSt a b z TI TO i1 i2) where
 mem:=by simp
 obj:=fun i h st c hb=>by
   obtain ⟨h1,h2,⟨u,v,h3⟩,⟨o4,h4,c4,d4⟩,⟨o5,h5,c5,d5⟩⟩:=st
   simp only [List.mem_cons,List.not_mem_nil,or_false] at hb
   rcases hb with rfl | rfl | rfl | rfl | rfl
   · exact ⟨_,h1,fun v z=>nomatch z⟩
   · exact ⟨_,h2,fun v z=>nomatch z⟩
   · exact ⟨_,h3,fun v z=>nomatch z⟩
   · exact ⟨_,h4,fun v z=>by rw [d4] at z; cases z⟩
   · exact ⟨_,h5,fun v z=>by rw [d5] at z; cases z⟩
 keep:=fun i h h' st k=>by
   obtain ⟨h1,h2,⟨u,v,h3⟩,⟨o4,h4,c4,d4⟩,⟨o5,h5,c5,d5⟩⟩:=st
   exact ⟨k z (by simp) _ h1,k TI (by simp) _ h2,⟨u,v,k TO (by simp) _ h3⟩,⟨o4,k i1 (by simp) _ h4,c4,d4⟩,⟨o5,k i2 (by simp) _ h5,c5,d5⟩⟩
 item:=by
   intro X hP hw hK hc i pins s σ H E I hf st hg
   subst hP hw hK
   obtain ⟨xs,ys,x,y,hq1,hq2,hx,hy⟩:=hg
   obtain ⟨its1,rv1,p1,hz1⟩:=I.list hq1
   obtain ⟨its2,rv2,p2,hz2⟩:=I.list hq2
   obtain ⟨u1,hu1,ru1⟩:=rv1.get hx
   obtain ⟨u2,hu2,ru2⟩:=rv2.get hy
   have D:=rl nT nI st p1.isList p2.isList
   obtain ⟨h1,h2,⟨u,v,h3⟩,h4,h5⟩:=st
   refine wpAny_pyNext_zip_item D h1 h2 h3 h4 h5 p1.isList p2.isList (x:=u1) (y:=u2) (by simpa using hu1) (by simpa using hu2) fun h' g1 g2 g3 g4 g5 g6 g7=>⟨_,rfl,?_⟩
   refine wpAny_letOwnedTupleGo_zip (s:={ s with heap:=h' }) g1 fun h2' k1 k2=>?_
   have hn : H s.heap.objs.size = none:=I.hok.fresh (Nat.le_refl _)
   have le1 : z < s.heap.objs.size:=Heap.lt_size h1
   have lt2 : TI < s.heap.objs.size:=Heap.lt_size h2
   have lt3 : TO < s.heap.objs.size:=Heap.lt_size h3
   have lt4 : i1 < s.heap.objs.size:=by obtain ⟨o,z,_⟩:=h4; exact Heap.lt_size z
   have lt5 : i2 < s.heap.objs.size:=by obtain ⟨o,z,_⟩:=h5; exact Heap.lt_size z
   have kp : ∀ c o,c ≠ z → c ≠ TO → c ≠ i1 → c ≠ i2 → s.heap.get? c = some o → h2'.get? c = some o:=fun c o b1 b2 b3 b4 e=>(k2.2 c b1).trans (g7 c o b1 b2 b3 b4 e)
   have nt : IsPair h2' s.heap.objs.size u1 u2:=(k2.2 _ (Nat.ne_of_gt le1)).trans g5
   have ne : ∀ c,c ∈ [z,TI,TO,i1,i2] → ∀ d v,H d = some v → d ≠ c:=fun c hc d v e q=>by
     have:=(hf c hc).1
     rw [q,this] at e; cases e
   have hok0 : HOk X.prog X.w H h2':=fun d v e=>(I.hok d v e).lW (fun c v' hc' q=>kp c v'
       (by rcases hc' with hc' | hc'
           · rw [hc']; exact ne z (by simp) d v e
           · exact ne z (by simp) c _ hc')
       (by rcases hc' with hc' | hc'
           · rw [hc']; exact ne TO (by simp) d v e
           · exact ne TO (by simp) c _ hc')
       (by rcases hc' with hc' | hc'
           · rw [hc']; exact ne i1 (by simp) d v e
           · exact ne i1 (by simp) c _ hc')
       (by rcases hc' with hc' | hc'
           · rw [hc']; exact ne i2 (by simp) d v e
           · exact ne i2 (by simp) c _ hc') q) (fun _ q=>q) fun _ _ q=>q
   have hok1 : HOk X.prog X.w (upd H s.heap.objs.size (.tup [x,y])) h2':=fun d v e=>by
     by_cases hb : d = s.heap.objs.size
     · subst hb
       rw [cT] at e; cases e
       exact ⟨(by show 2 ≤ sizeLine; decide),[u1,u2],.cons ru1 (.cons ru2 .nil),_,nt,rfl,_,rfl⟩
     · rw [aD hb] at e
       exact (hok0 d v e).lW (fun c v' _ q=>q) (fun c q=>by rw [aD (aH q hn)]; exact q) fun c ys q=>by rw [aD (aH q hn)]; exact q
   have I1 : Inv X pins σ (upd H s.heap.objs.size (.tup [x,y])) { s with heap:=h2' }:=by
     refine I.step (t':=s.toks) (g':=s.gens) (d':=s.drawn) (ch:=[z,TO,i1,i2]) (fun c hb=>?_) (fun c o _ _ hc' e _=>kp c o (fun q=>hc' (by simp [q])) (fun q=>hc' (by simp [q])) (fun q=>hc' (by simp [q])) (fun q=>hc' (by simp [q])) e)
       (fun c o _ _ hc' e _=>⟨o.slots,kp c o (fun q=>hc' (by simp [q])) (fun q=>hc' (by simp [q])) (fun q=>hc' (by simp [q])) (fun q=>hc' (by simp [q])) e⟩)
       (fun c o hc' e n=>by rw [aD (Nat.ne_of_lt (Heap.lt_size e))]; exact n) (fun c o hc' e=>⟨o,kp c o (fun q=>hc' (by simp [q])) (fun q=>hc' (by simp [q])) (fun q=>hc' (by simp [q])) (fun q=>hc' (by simp [q])) e⟩)
       (fun c ys e=>by rw [aD (aH e hn)]; exact e) (fun c o u e=>by rw [aD (aH e hn)]; exact e) (fun c ps e=>⟨#[],by rw [aD (aH e hn),e]; simp⟩) (fun m hm=>?_) hok1 I.bare
     · have hb' : c ∈ [z,TI,TO,i1,i2]:=by
         simp only [List.mem_cons,List.not_mem_nil,or_false] at hb ⊢
         rcases hb with h | h | h | h <;> simp [h]
       have fe:=hf c hb'
       exact ⟨fe.2.2.2.1,fe.2.1,fe.2.2.2.2.1,fe.2.2.2.2.2⟩
     · obtain ⟨o,es,ep,ho,r⟩:=hm
       exact ⟨o,es,ep,kp _ o (Ne.symm (hf z (by simp)).2.1) (Ne.symm (hf TO (by simp)).2.1) (Ne.symm (hf i1 (by simp)).2.1) (Ne.symm (hf i2 (by simp)).2.1) ho,r⟩
   refine ⟨.ref s.heap.objs.size,_,I1,rfl,⟨s.heap.objs.size,x,y,hn,rfl,rfl,fun zs hy'=>by rw [I.lQ hy' hq1]; exact hx,fun zs hy'=>by rw [I.lQ hy' hq2]; exact hy⟩,⟨k1,?_,⟨u1,u2,(k2.2 TO D.TOz).trans g2⟩,?_,?_⟩,fun c hb=>?_⟩
   · exact kp TI _ D.TIz D.TITO D.TIi1 D.TIi2 h2
   · obtain ⟨o,z1,z2,z3⟩:=g3
     exact ⟨o,(k2.2 i1 D.i1z).trans z1,z2,z3⟩
   · obtain ⟨o,z1,z2,z3⟩:=g4
     exact ⟨o,(k2.2 i2 D.i2z).trans z1,z2,z3⟩
   · have fc:=(hf c hb).1
     have lt : c < s.heap.objs.size:=by
       simp only [List.mem_cons,List.not_mem_nil,or_false] at hb
       rcases hb with rfl | rfl | rfl | rfl | rfl <;> assumption
     rw [aD (Nat.ne_of_lt lt)]
     exact fc
 done:=by
   intro X hP hw hK hc i pins s σ H E I hf st hg
   subst hP hw hK
   obtain ⟨xs,ys,hq1,hq2,hx⟩:=hg
   obtain ⟨its1,rv1,p1,hz1⟩:=I.list hq1
   obtain ⟨its2,rv2,p2,hz2⟩:=I.list hq2
   have D:=rl nT nI st p1.isList p2.isList
   obtain ⟨h1,h2,⟨u,v,h3⟩,h4,h5⟩:=st
   have hl1:=rv1.length
   have hl2:=rv2.length
   refine wpAny_pyNext_zip_end (I.ok.hd hc) D h1 h2 h3 h4 h5 p1.isList p2.isList (by
     rcases hx with hx | hx
     · left; simp; omega
     · right; simp; omega) fun h' eb=>⟨rfl,?_⟩
   have ne : ∀ c,c ∈ [z,TI,TO,i1,i2] → ∀ d v,H d = some v → d ≠ c:=fun c hc d v e q=>by
     have:=(hf c hc).1
     rw [q,this] at e; cases e
   have hok0 : HOk X.prog X.w H h':=fun d v e=>(I.hok d v e).lW (fun c v' hc' q=>eb c v'
       (by rcases hc' with hc' | hc'
           · rw [hc']; exact ne z (by simp) d v e
           · exact ne z (by simp) c _ hc')
       (by rcases hc' with hc' | hc'
           · rw [hc']; exact ne TO (by simp) d v e
           · exact ne TO (by simp) c _ hc')
       (by rcases hc' with hc' | hc'
           · rw [hc']; exact ne i1 (by simp) d v e
           · exact ne i1 (by simp) c _ hc')
       (by rcases hc' with hc' | hc'
           · rw [hc']; exact ne i2 (by simp) d v e
           · exact ne i2 (by simp) c _ hc') q) (fun _ q=>q) fun _ _ q=>q
   refine I.step (t':=s.toks) (g':=s.gens) (d':=s.drawn) (ch:=[z,TO,i1,i2]) (fun c hb=>?_) (fun c o _ _ hc' e _=>eb c o (fun q=>hc' (by simp [q])) (fun q=>hc' (by simp [q])) (fun q=>hc' (by simp [q])) (fun q=>hc' (by simp [q])) e)
       (fun c o _ _ hc' e _=>⟨o.slots,eb c o (fun q=>hc' (by simp [q])) (fun q=>hc' (by simp [q])) (fun q=>hc' (by simp [q])) (fun q=>hc' (by simp [q])) e⟩)
       (fun c o hc' e n=>n) (fun c o hc' e=>⟨o,eb c o (fun q=>hc' (by simp [q])) (fun q=>hc' (by simp [q])) (fun q=>hc' (by simp [q])) (fun q=>hc' (by simp [q])) e⟩)
       (fun c ys e=>e) (fun c o u e=>e) (fun c ps e=>⟨#[],by rw [e]; simp⟩) (fun m hm=>?_) hok0 I.bare
   · have hb' : c ∈ [z,TI,TO,i1,i2]:=by
       simp only [List.mem_cons,List.not_mem_nil,or_false] at hb ⊢
       rcases hb with h | h | h | h <;> simp [h]
     have fe:=hf c hb'
     exact ⟨fe.2.2.2.1,fe.2.1,fe.2.2.2.2.1,fe.2.2.2.2.2⟩
   · obtain ⟨o,es,ep,ho,r⟩:=hm
     exact ⟨o,es,ep,eb _ o (Ne.symm (hf z (by simp)).2.1) (Ne.symm (hf TO (by simp)).2.1) (Ne.symm (hf i1 (by simp)).2.1) (Ne.symm (hf i2 (by simp)).2.1) ho,r⟩
 self:=fun _ _ _ _ _ st h=>wpAny_pyIter_zip st.1 h
section
variable {X : Cx}
noncomputable def LJ (K : PySem.W.Frag) (ta : TA) : TI:=fun σ H R=>ta σ H fun vs H1=>∃ a b,vs = [.ref a,.ref b] ∧ (∃ xs,SqL K H1 a xs) ∧ (∃ ys,SqL K H1 b ys) ∧ R (Itz K a b) H1
theorem JM {ts : List Expr} {q : Nat} {tp : Pos} {a b : Expr} {ta : TA} {p pos : Pos} (hg : Gl X "zip") (hm : X.mg "zip" = none) (ha : PA X [a,b] ta) (hs : starEach [a,b] X.env = (false,eval a X.env) :: starEach [b] X.env) (hs2 : starEach [b] X.env = [(false,eval b X.env)]) :
   PI X (.Tuple ts q tp) (.Call (.Name "zip" p) [a,b] [] pos) (LJ X.K ta):=by
 intro pins s σ H R I h
 refine Call_ (jc I hg hm boot_zip (PyProof.Rows.callWith_type1 (thn (ha pos pins s σ H _ I h) fun us s1 ⟨vs,H1,I1,r1,q1⟩=>?_) hs (by rw [hs2]; rfl)))
 obtain ⟨l,l',e,⟨xs,hq1⟩,⟨ys,hq2⟩,q⟩:=q1
 subst e
 obtain ⟨u,u',rfl,ru,ru'⟩:=vals2 r1
 cases ru
 cases ru'
 obtain ⟨its1,rv1,pl1,hz1⟩:=I1.list hq1
 obtain ⟨its2,rv2,pl2,hz2⟩:=I1.list hq2
 refine call_zip_2 pl1.isList pl2.isList fun h' g1 g2 g3 g4 g5 g6 g7=>?_
 refine wpAny_pyIter_zip (s:={ s1 with heap:=h' }) g1 ?_
 have I2 : Inv X pins σ H1 { s1 with heap:=h' }:=I1.kept (t':=s1.toks) g7
 have nn : ∀ j,H1 (s1.heap.objs.size + j) = none:=fun j=>I1.hok.fresh (by omega)
 refine ⟨s1.heap.objs.size + 4,[s1.heap.objs.size + 4,s1.heap.objs.size + 2,s1.heap.objs.size + 3,s1.heap.objs.size,s1.heap.objs.size + 1],_,_,H1,rfl,I2,CV l l' (s1.heap.objs.size + 4) (s1.heap.objs.size + 2) (s1.heap.objs.size + 3) s1.heap.objs.size (s1.heap.objs.size + 1) (by simp) (Ne.symm (Nat.succ_ne_self _)),⟨g1,g2,⟨_,_,g3⟩,g4,g5⟩,fun c hb=>?_,q⟩
 have hb' : ∃ j,c = s1.heap.objs.size + j:=by
   simp only [List.mem_cons,List.not_mem_nil,or_false] at hb
   rcases hb with h | h | h | h | h
   · exact ⟨_,h⟩
   · exact ⟨_,h⟩
   · exact ⟨_,h⟩
   · exact ⟨0,h⟩
   · exact ⟨_,h⟩
 obtain ⟨j,rfl⟩:=hb'
 exact I1.ye (Nat.le_add_right _ _) (nn j)
end
end Ev
namespace Ev
open PySem PySem.Spec PyProof.Rows L2
theorem Cs : ∀ (names : List (Str × NameKind)) (n : Nat) (acc : List (Str × Addr)) (x : Str) (c : Addr),(cellsFrom n names acc).lookup x = some c → n ≤ c ∨ acc.lookup x = some c
 | [],_,_,_,_,h=>.inr h
 | (y,k) :: r,n,acc,x,c,h=>by
   unfold cellsFrom at h
   split at h
   · rcases Cs r (n + 1) _ x c h with q | q
     · exact .inl (by omega)
     · rw [List.lookup_cons] at q
       split at q
       · cases q; exact .inl (Nat.le_refl _)
       · exact .inr q
   · exact Cs r n acc x c h
theorem p9 : ∀ (names : List (Str × NameKind)) (n : Nat) (acc : List (Str × Addr)) (x : Str),(x,NameKind.cell) ∉ names → (cellsFrom n names acc).lookup x = acc.lookup x
 | [],_,_,_,_=>rfl
 | (y,k) :: r,n,acc,x,h=>by
   have h1 : (x,NameKind.cell) ∉ r:=fun z=>h (List.mem_cons_of_mem _ z)
   unfold cellsFrom
   split
   · rename_i hk
     rw [p9 r _ _ x h1,List.lookup_cons]
     have : (x == y) = false:=by
       rw [beq_eq_false_iff_ne]
       rintro rfl
       exact h (by rw [eq_of_beq hk]; exact List.mem_cons_self)
     rw [this]
   · exact p9 r n acc x h1
theorem uc : ∀ (names : List (Str × NameKind)) (n : Nat) (acc : List (Str × Addr)) (x : Str),(x,NameKind.cell) ∈ names → ∃ c,(cellsFrom n names acc).lookup x = some c ∧ n ≤ c
 | (y,k) :: r,n,acc,x,h=>by
   unfold cellsFrom
   by_cases hr : (x,NameKind.cell) ∈ r
   · split
     · obtain ⟨c,e,l⟩:=uc r (n + 1) ((y,n) :: acc) x hr
       exact ⟨c,e,by omega⟩
     · exact uc r n acc x hr
   · rcases List.mem_cons.mp h with q | q
     · cases q
       rw [if_pos (by rfl),p9 r _ _ _ hr]
       exact ⟨n,by simp [List.lookup_cons],Nat.le_refl _⟩
     · exact absurd q hr
theorem xF : ∀ (names : List (Str × NameKind)) (n : Nat) (acc : List (Str × Addr)),(∀ x c,acc.lookup x = some c → c < n) → (∀ x y c,acc.lookup x = some c → acc.lookup y = some c → x = y) →
   ∀ x y c,(cellsFrom n names acc).lookup x = some c → (cellsFrom n names acc).lookup y = some c → x = y
 | [],_,_,_,h=>h
 | (z,k) :: r,n,acc,hl,h=>by
   unfold cellsFrom
   split
   · refine xF r (n + 1) _ (fun x c e=>?_) (fun x y c e1 e2=>?_)
     · rw [List.lookup_cons] at e
       split at e
       · cases e; exact Nat.lt_succ_self _
       · exact Nat.lt_succ_of_lt (hl x c e)
     · rw [List.lookup_cons] at e1 e2
       split at e1
       · rename_i q1
         cases e1
         split at e2
         · rename_i q2
           exact (eq_of_beq q1).trans (eq_of_beq q2).symm
         · exact absurd (hl y _ e2) (Nat.lt_irrefl _)
       · split at e2
         · cases e2
           exact absurd (hl x _ e1) (Nat.lt_irrefl _)
         · exact h x y c e1 e2
   · exact xF r n acc hl h
theorem tK : ∀ (names : List (Str × NameKind)) (h : Heap) (acc : List (Str × Addr)),(∀ x c,acc.lookup x = some c → ∃ v,h.IsCell c v) → ∀ x c,(cellsFrom h.objs.size names acc).lookup x = some c → ∃ v,(pushCells h names).IsCell c v
 | [],_,_,ha,x,c,e=>ha x c e
 | (z,k) :: r,h,acc,ha,x,c,e=>by
   unfold cellsFrom at e
   unfold pushCells
   split at e
   · rename_i hk
     rw [if_pos hk]
     refine tK r _ ((z,h.objs.size) :: acc) (fun y d q=>?_) x c (by rw [Heap.size_push]; exact e)
     rw [List.lookup_cons] at q
     split at q
     · cases q
       exact ⟨none,_,Heap.get?_push_size _ rfl,rfl⟩
     · obtain ⟨v,o,ho,hd⟩:=ha y d q
       exact ⟨v,o,Heap.get?_push_of_some _ ho,hd⟩
   · rename_i hk
     rw [if_neg hk]
     exact tK r h acc ha x c e
noncomputable def gh (env : PySem.Env) : List (Str × NameKind) → List (Str × Addr) → List (Str × Addr)
 | [],acc=>acc
 | (n,k) :: r,acc=>if k == .free then (match env.cells.lookup n with | some c=>gh env r ((n,c) :: acc) | none=>gh env r acc) else gh env r acc
theorem pX (env : PySem.Env) : ∀ (names : List (Str × NameKind)) (acc : List (Str × Addr)),(∀ x ∈ names,x.2 = .free → ∃ c,env.cells.lookup x.1 = some c) →
   (forIn (m:=Sem) names acc fun x cs=>do
     let (name,kind):=x
     if kind == .free then do
       let c ← cellOf env name
       pure (ForInStep.yield ((name,c) :: cs))
     else pure (ForInStep.yield cs)) = pure (gh env names acc)
 | [],acc,_=>rfl
 | (n,k) :: r,acc,h=>by
   rw [List.forIn_cons]
   unfold gh
   by_cases hk : (k == .free) = true
   · obtain ⟨c,hc⟩:=h (n,k) List.mem_cons_self (eq_of_beq hk)
     simp only [hk,if_true,cellOf,hc,pure_bind]
     exact pX env r _ fun x hx=>h x (List.mem_cons_of_mem _ hx)
   · simp only [hk,Bool.false_eq_true,if_false,pure_bind]
     exact pX env r _ fun x hx=>h x (List.mem_cons_of_mem _ hx)
theorem yZ {env : PySem.Env} {scope : Scope} (h : ∀ x ∈ scope.names,x.2 = .free → ∃ c,env.cells.lookup x.1 = some c) : closureFor scope env = pure (gh env scope.names []):=by
 unfold closureFor
 have:=pX env scope.names [] h
 simp only [bind_pure]
 exact this
theorem iZ (env : PySem.Env) : ∀ (names : List (Str × NameKind)) (acc : List (Str × Addr)) (x : Str) (c : Addr),(∀ y d,acc.lookup y = some d → env.cells.lookup y = some d) → (gh env names acc).lookup x = some c → env.cells.lookup x = some c
 | [],_,x,c,ha,h=>ha x c h
 | (n,k) :: r,acc,x,c,ha,h=>by
   unfold gh at h
   split at h
   · split at h
     · rename_i c' hc
       refine iZ env r _ x c (fun y d q=>?_) h
       rw [List.lookup_cons] at q
       split at q
       · rename_i qq
         cases q
         rw [eq_of_beq qq]; exact hc
       · exact ha y d q
     · exact iZ env r acc x c ha h
   · exact iZ env r acc x c ha h
theorem hJ (env : PySem.Env) : ∀ (names : List (Str × NameKind)) (acc : List (Str × Addr)) (x : Str) (c : Addr),(∀ y d,acc.lookup y = some d → env.cells.lookup y = some d) → env.cells.lookup x = some c → ((x,NameKind.free) ∈ names ∨ acc.lookup x = some c) → (gh env names acc).lookup x = some c
 | [],_,x,c,_,_,h=>h.elim (fun z=>absurd z (by simp)) id
 | (n,k) :: r,acc,x,c,ha,hc,h=>by
   unfold gh
   split
   · split
     · rename_i c' hc'
       refine hJ env r _ x c (fun y d q=>?_) hc ?_
       · rw [List.lookup_cons] at q
         split at q
         · rename_i qq
           cases q
           rw [eq_of_beq qq]; exact hc'
         · exact ha y d q
       · by_cases q : x = n
         · subst q
           rw [hc] at hc'; cases hc'
           exact .inr (by simp [List.lookup_cons])
         · rcases h with h | h
           · rcases List.mem_cons.mp h with z | z
             · cases z; exact absurd rfl q
             · exact .inl z
           · refine .inr ?_
             rw [List.lookup_cons,beq_eq_false_iff_ne.mpr q]
             exact h
     · rename_i hc'
       refine hJ env r acc x c ha hc ?_
       rcases h with h | h
       · rcases List.mem_cons.mp h with z | z
         · cases z; rw [hc] at hc'; cases hc'
         · exact .inl z
       · exact .inr h
   · rename_i hk
     refine hJ env r acc x c ha hc ?_
     rcases h with h | h
     · rcases List.mem_cons.mp h with z | z
       · cases z; exact absurd rfl hk
       · exact .inl z
     · exact .inr h
theorem rk {M : Model} {A : Around} {E : Value → Shared → Prop} {s : Shared} {scope : Scope} {cl : List (Str × Addr)} {env : PySem.Env} {Q : PySem.Env → Shared → Prop}
   (h : Q (newEnv scope s.heap.objs.size env.globals (cellsFrom (s.heap.objs.size + 1) scope.names cl) env.qual none .none (some env) builtinsNs) { s with heap:=pushCells (s.heap.push { cls:=.type "dict",data:=.dict #[] }) scope.names }) :
   wpAny M A (newFunctionEnv scope env.globals cl [] env.qual none .none (some env)) Q E s:=by
 simp only [newFunctionEnv,Option.isSome_some,if_true]
 refine wpAny_bind (wpAny_alloc ?_)
 refine wpAny_bind (wpAny_layCells _ (fun name kind cells=>by cases hkc : kind == NameKind.cell <;> simp [hkc]) _ _ _ _ ?_)
 rw [show ({ s with heap:=s.heap.push { cls:=.type "dict",data:=.dict #[] } } : Shared).heap.objs.size = s.heap.objs.size + 1 from Heap.size_push ..]
 exact wpAny_bind (wpAny_pure (wpAny_pure h))
end Ev
namespace Ev
open PySem PySem.Spec PyProof.Rows L2
noncomputable def aS (X : Cx) (s : Shared) (H : Hp) (scope : Scope) (N : List Str) (fp : List Addr) : Cx:=
 { prog:=X.prog,w:=X.w,K:=X.K,mg:=X.mg,base:=X.base,A:=X.A,N:=N,s₀:=s,H₀:=H
   env:=compEnvC scope (cellsFrom (s.heap.objs.size + 1 + 1) scope.names (gh X.env scope.names [])) (s.heap.objs.size + 1) X.env
   outer:=X.stack,stack:=X.stack,ex:=fp,fn:=fun x=>decide ((x,NameKind.cell) ∈ scope.names),calm:=X.calm,pn:=[],xe:=fun _ _=>False }
noncomputable def nE (σ : L2.St) (caps : List (Option Nat)) : L2.St:=caps.map fun o=>o.bind fun i=>(σ[i]?).join
structure lH (X : Cx) (scope : Scope) (N : List Str) (caps : List (Option Nat)) : Prop where
 kind : scope.kind = .function
 loc : ∀ x ∈ scope.names,x.2 = .local → scope.names.lookup x.1 = some .local
 fre : ∀ x ∈ scope.names,x.2 = .free → X.env.kindOf x.1 = some .cell
 one : ∀ x,(x,NameKind.free) ∈ scope.names → (x,NameKind.cell) ∉ scope.names
 noboth : ∀ x,(x,NameKind.free) ∈ scope.names → (x,NameKind.local) ∉ scope.names
 len : N.length = caps.length + 1
 cap : ∀ (j i : Nat),caps[j]? = some (some i) → ∃ x,N[j]? = some x ∧ X.N[i]? = some x ∧ (x,NameKind.free) ∈ scope.names
 acc : ∃ z,N[caps.length]? = some z ∧ ¬ Vis (relabel scope X.env) z
section
variable {X : Cx} {pins : List (Addr × Obj)} {σ : L2.St} {H : Hp} {s : Shared} {scope : Scope} {N : List Str} {caps : List (Option Nat)} {fp : List Addr}
theorem cK {env : PySem.Env} {x : Str} {names : List (Str × NameKind)} (h : ∀ y,(y,NameKind.free) ∈ names → env.kindOf y = some .cell) (hk : env.scope.kind = .function) {k : NameKind}
   (e : (names.map fun (n,k)=>if (k == NameKind.free && env.scope.kind == .function && env.kindOf n == some .cell) then (n,NameKind.cell) else (n,k)).lookup x = some k) :
   (x,k) ∈ names ∨ ((x,NameKind.free) ∈ names ∧ k = .cell):=by
 induction names with
 | nil=>cases e
 | cons p r ih=>
   obtain ⟨n,q⟩:=p
   rw [List.map_cons] at e
   have hr : ∀ y,(y,NameKind.free) ∈ r → env.kindOf y = some .cell:=fun y hy=>h y (List.mem_cons_of_mem _ hy)
   have sub : ((x,k) ∈ r ∨ ((x,NameKind.free) ∈ r ∧ k = .cell)) → (x,k) ∈ (n,q) :: r ∨ ((x,NameKind.free) ∈ (n,q) :: r ∧ k = .cell):=fun z=>
     z.elim (fun y=>.inl (List.mem_cons_of_mem _ y)) fun y=>.inr ⟨List.mem_cons_of_mem _ y.1,y.2⟩
   dsimp only at e
   split at e
   · rename_i c
     rw [List.lookup_cons] at e
     split at e
     · rename_i qq
       cases e
       rw [Bool.and_eq_true,Bool.and_eq_true] at c
       rw [eq_of_beq qq,eq_of_beq c.1.1]
       exact .inr ⟨List.mem_cons_self,rfl⟩
     · exact sub (ih hr e)
   · rename_i c
     rw [List.lookup_cons] at e
     split at e
     · rename_i qq
       cases e
       rw [eq_of_beq qq]
       exact .inl List.mem_cons_self
     · exact sub (ih hr e)
theorem kS (I : Inv X pins σ H s) (c : lH X scope N caps) : ∀ x ∈ scope.names,x.2 = .free → ∃ d,X.env.cells.lookup x.1 = some d:=fun x hx hf=>I.ok.has x.1 (.inl (c.fre x hx hf))
theorem vq (I : Inv X pins σ H s) (hf : ∀ b ∈ fp,qQ X pins H b) (ho : ∀ b ∈ fp,∃ o,s.heap.get? b = some o) (c : lH X scope N caps) :
   Inv (aS X s H scope N fp) [] (nE σ caps ++ [some (.ref s.heap.objs.size)]) (upd H s.heap.objs.size (.lst []))
     { s with heap:=pushCells ((s.heap.push { cls:=.type "list",data:=.seq ([] : List Value).toArray }).push { cls:=.type "dict",data:=.dict #[] }) scope.names }:=by
 have hcl : ∀ x d,(gh X.env scope.names []).lookup x = some d → X.env.cells.lookup x = some d:=fun x d=>iZ X.env scope.names [] x d (fun y d z=>by simp at z)
 have kp : ∀ b o,s.heap.get? b = some o → (pushCells ((s.heap.push { cls:=.type "list",data:=.seq ([] : List Value).toArray }).push { cls:=.type "dict",data:=.dict #[] }) scope.names).get? b = some o:=fun b o e=>
   pushCells_keeps _ _ b o (Heap.get?_push_of_some _ (Heap.get?_push_of_some _ e))
 have sz2 : ((s.heap.push { cls:=.type "list",data:=.seq ([] : List Value).toArray }).push { cls:=.type "dict",data:=.dict #[] }).objs.size = s.heap.objs.size + 1 + 1:=by rw [Heap.size_push,Heap.size_push]
 have oldc : ∀ x d,X.env.cells.lookup x = some d → d < s.heap.objs.size:=fun x d e=>by
   obtain ⟨v,o,q,_⟩:=I.cell x d e
   exact Heap.lt_size q
 have cel : ∀ x d,(aS X s H scope N fp).env.cells.lookup x = some d → s.heap.objs.size + 1 + 1 ≤ d ∨ X.env.cells.lookup x = some d:=fun x d e=>by
   rcases Cs _ _ _ x d e with q | q
   · exact .inl q
   · exact .inr (hcl x d q)
 have ok : (aS X s H scope N fp).Ok:=by
   refine ⟨I.ok.mod,c.kind,I.ok.glob,I.ok.blt,Nat.le_succ _,?_,?_,?_,I.ok.hd,I.ok.frames,.inl rfl,?_,I.bs,Nat.le_trans I.ok.bsz I.sz,?_,?_,I.stack,I.yO⟩
   · exact xF _ _ _ (fun x d e=>Nat.lt_of_lt_of_le (oldc x d (hcl x d e)) (by omega)) fun x y d e1 e2=>I.ok.inj x y d (hcl x d e1) (hcl y d e2)
   · intro x hx
     have hfk : ∀ y,(y,NameKind.free) ∈ scope.names → X.env.kindOf y = some .cell:=fun y hy=>c.fre _ hy rfl
     have fre : (x,NameKind.free) ∈ scope.names → ∃ d,(aS X s H scope N fp).env.cells.lookup x = some d:=fun hm=>by
       obtain ⟨d,hd⟩:=kS I c _ hm rfl
       exact ⟨d,by
         show (cellsFrom _ scope.names _).lookup x = _
         rw [p9 _ _ _ x (c.one x hm)]
         exact hJ X.env scope.names [] x d (fun y e z=>by simp at z) hd (.inl hm)⟩
     have own : (x,NameKind.cell) ∈ scope.names → ∃ d,(aS X s H scope N fp).env.cells.lookup x = some d:=fun hm=>by
       obtain ⟨d,e,_⟩:=uc scope.names (s.heap.objs.size + 1 + 1) (gh X.env scope.names []) x hm
       exact ⟨d,e⟩
     rcases hx with hx | hx
     · rcases cK hfk I.ok.kind (show (scope.names.map _).lookup x = some .cell from hx) with q | q
       · exact own q
       · exact fre q.1
     · rcases cK hfk I.ok.kind (show (scope.names.map _).lookup x = some .free from hx) with q | q
       · exact fre q
       · exact fre q.1
   · intro x d hfn e
     have hm : (x,NameKind.cell) ∈ scope.names:=of_decide_eq_true hfn
     obtain ⟨d',e',l⟩:=uc scope.names (s.heap.objs.size + 1 + 1) (gh X.env scope.names []) x hm
     have e2 : (cellsFrom (s.heap.objs.size + 1 + 1) scope.names (gh X.env scope.names [])).lookup x = some d:=e
     rw [e'] at e2; cases e2
     exact Nat.le_trans (Nat.le_trans (Nat.le_succ _) (Nat.le_succ _)) l
   · intro b hb
     obtain ⟨o,q⟩:=ho b hb
     have bl:=Heap.lt_size q
     refine ⟨fun z=>?_,fun x d e z=>?_⟩
     · have z' : b = s.heap.objs.size + 1:=z
       rw [z'] at bl
       exact absurd bl (Nat.not_lt.mpr (Nat.le_succ _))
     · subst z
       rcases cel x d e with q | q
       · exact absurd (Nat.lt_of_lt_of_le bl (Nat.le_trans (Nat.le_trans (Nat.le_succ _) (Nat.le_succ _)) q)) (Nat.lt_irrefl _)
       · exact (hf d hb).2.2.2.2.1 x d q rfl
   · intro b o e hb
     rcases (hf b hb).2.2.2.1 with q | q
     · exact I.ok.noex b o e q
     · have:=Nat.lt_of_lt_of_le (Heap.lt_size e) I.ok.bsz
       exact absurd (Nat.lt_of_lt_of_le this q) (Nat.lt_irrefl _)
   · intro b hb hm
     rcases List.mem_cons.mp (I.xK b hm) with q | q
     · exact (hf b hb).2.1 q
     · exact (hf b hb).2.2.1 q
 have hD : (pushCells ((s.heap.push { cls:=.type "list",data:=.seq ([] : List Value).toArray }).push { cls:=.type "dict",data:=.dict #[] }) scope.names).get? s.heap.objs.size = some { cls:=.type "list",data:=.seq ([] : List Value).toArray }:=
   pushCells_keeps _ _ _ _ (Heap.get?_push_of_some _ (Heap.get?_push_size _ rfl))
 have fr : ∀ a,s.heap.objs.size ≤ a → a ≠ s.heap.objs.size → (upd H s.heap.objs.size (.lst [])) a = none:=fun a h1 h2=>by rw [aD h2]; exact I.hok.fresh h1
 refine ⟨ok,rfl,I.bare,Un.laid kp (Nat.le_refl _) (I.hok.fresh (Nat.le_refl _)),⟨fun _=>none,?_,fun i x v e1 e2 e3=>?_⟩,fun x d e=>?_,?_,fun x d e=>?_,fun p hp=>absurd (show p ∈ ([] : List (Addr × Obj)) from hp) (by simp),?_,?_⟩
 · have:=Heap.Ns.new (s.heap.push { cls:=.type "list",data:=.seq ([] : List Value).toArray }) (.type "dict")
   rw [Heap.size_push] at this
   exact this.keeps (pushCells_keeps _ _)
 · by_cases hi : i < caps.length
   · rw [List.getElem?_append_left (by unfold nE; rw [List.length_map]; exact hi)] at e2
     unfold nE at e2
     rw [List.getElem?_map] at e2
     cases hc : caps[i]? with
     | none=>rw [hc] at e2; cases e2
     | some o=>
       rw [hc] at e2
       cases o with
       | none=>cases e2
       | some j=>
         have e2' : (σ[j]?).join = some v:=Option.some.inj e2
         have e4 : σ[j]? = some (some v):=by
           cases q : σ[j]? with
           | none=>rw [q] at e2'; cases e2'
           | some y=>rw [q] at e2'; exact congrArg some e2'
         obtain ⟨x',g1,g2,g3⟩:=c.cap i j hc
         rw [show (aS X s H scope N fp).N = N from rfl,g1] at e1
         cases e1
         have hkc:=c.fre _ g3 rfl
         obtain ⟨m,_,hl⟩:=I.loc
         obtain ⟨u,ru,look⟩:=hl j x v g2 e4 (.inr (.inl hkc))
         refine ⟨u,ru,?_⟩
         rcases look with ⟨k,_⟩ | ⟨k,d,hd,hcell⟩
         · rw [hkc] at k; cases k
         · have e5 : (aS X s H scope N fp).env.cells.lookup x = some d:=by
             show (cellsFrom _ scope.names _).lookup x = _
             rw [p9 _ _ _ x (c.one x g3)]
             exact hJ X.env scope.names [] x d (fun y e z=>by simp at z) hd (.inl g3)
           have hcell' : Heap.IsCell (pushCells ((s.heap.push { cls:=.type "list",data:=.seq ([] : List Value).toArray }).push { cls:=.type "dict",data:=.dict #[] }) scope.names) d (some u):=by
             obtain ⟨o,q1,q2⟩:=hcell
             exact ⟨o,kp _ _ q1,q2⟩
           refine .inr ⟨?_,d,e5,hcell'⟩
           rcases e3 with e3 | e3 | e3
           · exfalso
             rcases cK (fun y hy=>c.fre _ hy rfl) I.ok.kind (show (scope.names.map _).lookup x = some .local from e3) with q | q
             · have q1:=c.loc _ q rfl
               exact c.noboth x g3 q
             · cases q.2
           · exact .inl e3
           · exact .inr e3
   · exfalso
     obtain ⟨z,z1,z2⟩:=c.acc
     have hl : i < N.length:=(List.getElem?_eq_some_iff.mp e1).1
     have : i = caps.length:=by have:=c.len; omega
     subst this
     rw [show (aS X s H scope N fp).N = N from rfl,z1] at e1
     cases e1
     exact z2 e3
 · rw [show (aS X s H scope N fp).env.cells = cellsFrom (s.heap.objs.size + 1 + 1) scope.names (gh X.env scope.names []) from rfl,← sz2] at e
   refine tK scope.names _ _ (fun y d' q=>?_) x d e
   obtain ⟨v,o,q1,q2⟩:=I.cell y d' (hcl y d' q)
   exact ⟨v,o,Heap.get?_push_of_some _ (Heap.get?_push_of_some _ q1),q2⟩
 · exact fr _ (Nat.le_succ _) (Nat.succ_ne_self _)
 · rcases cel x d e with q | q
   · exact fr d (by omega) (by intro z; omega)
   · rw [aD (Nat.ne_of_lt (oldc x d q))]; exact I.freeC x d q
 · exact I.hok.laid kp (Nat.le_refl _) ⟨Nat.zero_le _,[],0,.nil,hD⟩
 · rw [List.length_append]
   unfold nE
   rw [List.length_map,show (aS X s H scope N fp).N = N from rfl,c.len]
   rfl
end
end Ev
namespace Ev
open PySem PySem.Spec PyProof.Rows L2
noncomputable def PTs (X : Cx) (ifs : List Expr) (t : TT) : Prop:=
 ∀ (pins : List (Addr × Obj)) (s : Shared) (σ : L2.St) (H : Hp) (Q : Bool → Hp → Prop),Inv X pins σ H s → t σ H Q →
   wpAny (model X.prog X.w) X.A (forIn ifs true fun c r=>if r = true then do let ok ← isTrue c X.env (eval c X.env); pure (ForInStep.yield ok) else pure (ForInStep.yield r)) (TP X pins σ Q) X.xe s
section
variable {prog : Program} {w : World} {A : Around} {R : Result → Shared → Prop} {s : Shared}
theorem pY {elt target iter : Expr} {ifs : List Expr} {scope : Scope} {pos : Pos} {it acc : Value} {env : PySem.Env} (Iv : Nat → Shared → Prop)
   (step : ∀ n s,Iv n s → wpAny (model prog w) A (pyNext it) (fun r s₁=>match r with
     | none=>R (.ok .next) s₁
     | some v=>wpAny (model prog w) A (letOwnedTupleGo target it v) (fun _ s₀=>wpAny (model prog w) A (assign target env v) (fun _ s₂=>
         wpAny (model prog w) A (forIn ifs true fun c r=>if r = true then do let ok ← isTrue c env (eval c env); pure (ForInStep.yield ok) else pure (ForInStep.yield r)) (fun ok s₃=>
           if ok = true then wpAny (model prog w) A (eval elt env) (fun x s₄=>
             wpAny (model prog w) A (call (.builtin "list.append") [acc,x]) (fun _ s₅=>∃ m,m < n ∧ Iv m s₅) (fun _ _=>False) s₄) (fun _ _=>False) s₃
           else ∃ m,m < n ∧ Iv m s₃) (fun _ _=>False) s₂) (fun _ _=>False) s₀) (fun _ _=>False) s₁) (fun _ _=>False) s)
   (n : Nat) (h : Iv n s) : codeAny (model prog w) A (.compLoop (.ListComp elt [⟨target,iter,ifs,0⟩] scope pos) 0 it acc env) R s:=by
 have no : ∀ {α : Type} {t : Sem α} {Q : α → Shared → Prop} {s : Shared} {E : Value → Shared → Prop},wpAny (model prog w) A t Q (fun _ _=>False) s → wpAny (model prog w) A t Q E s:=fun h=>wpAny_mono h (fun _ _ q=>q) fun _ _ q=>q.elim
 refine codeAny_loop rfl Iv (fun n s hI=>?_) n h
 show wpAny _ A (Sem.onRaise (compTurn (.ListComp elt [⟨target,iter,ifs,0⟩] scope pos) 0 it acc env) (fun x=>do noteFrame x env; theTreesLotGoes x)) _ _ s
 refine wpAny_noted ?_
 rw [compTurn_list]
 refine wpAny_bind (wpAny_standAt (wpAny_bind (thn (no (step n s hI)) fun r s₁ h₁=>?_)))
 cases r with
 | none=>exact wpAny_pure h₁
 | some v=>
   refine wpAny_bind (thn (no h₁) fun _ s₀ h₀=>wpAny_bind (thn (no h₀) fun _ s₂ h₂=>wpAny_bind (thn (no h₂) fun ok s₃ h₃=>?_)))
   cases ok with
   | false=>exact wpAny_pure ⟨rfl,h₃⟩
   | true=>exact wpAny_bind (wpAny_bind (thn (no h₃) fun x s₄ h₄=>wpAny_bind (thn (no h₄) fun _ s₅ h₅=>wpAny_pure (wpAny_pure ⟨rfl,h₅⟩))))
end
noncomputable def ou (In : TG → TT → TE → Prop) (caps : List (Option Nat)) (wi : TI) : TE:=fun σ H Q=>wi σ H fun J H1=>∃ g tt te,In g tt te ∧ ∀ D,H1 D = none →
 ∃ Z : Nat → Nat → L2.St → Hp → Prop,(∃ m,Z 0 m (nE σ caps ++ [some (.ref D)]) (upd H1 D (.lst []))) ∧ ∀ i m σ' H',Z i m σ' H' →
   (J.stop i H' ∧ Q (.ref D) H') ∨ (J.go i H' ∧ ∀ x H2,J.yld i H' x H2 → g x σ' H2 fun σ2 H3=>tt σ2 H3 fun b H4=>
     if b = true then te σ2 H4 fun v H5=>∃ vs m',H5 D = some (.lst vs) ∧ vs.length < sizeLine ∧ m' < m ∧ Z (i + 1) m' σ2 (upd H5 D (.lst (vs ++ [v]))) else ∃ m',m' < m ∧ Z (i + 1) m' σ2 H4)
theorem mr {X : Cx} {elt tg iter : Expr} {ifs : List Expr} {scope : Scope} {N : List Str} {caps : List (Option Nat)} {pos : Pos} {wi : TI} {In : TG → TT → TE → Prop} (hc : X.calm = true) (c : lH X scope N caps) (hi : PI X tg iter wi)
   (hs : ∀ x,foldedSetIterable iter X.env x = pure x)
   (hin : ∀ g tt te,In g tt te → ∀ s H fp,PG (aS X s H scope N fp) tg g ∧ PTs (aS X s H scope N fp) ifs tt ∧ PE (aS X s H scope N fp) elt te) :
   PE X (.ListComp elt [⟨tg,iter,ifs,0⟩] scope pos) (ou In caps wi):=by
 intro pins s σ H Q I h
 rw [eval_ListComp]
 have hcl:=yZ (kS I c)
 refine wpAny_comprehension_free (use:=none) (g:=⟨tg,iter,ifs,0⟩) (gs:=[]) rfl hs hcl c.kind c.loc ?_
 show wpAny _ _ (eval iter X.env) _ _ s
 refine thn (hi pins s σ H _ I h) fun v s1 h1=>thn h1 fun itv s2 h2=>?_
 obtain ⟨it,fp,tn,J,H2,e,I2,T,st2,f2,g,tt,te,hI,q⟩:=h2
 subst e
 obtain ⟨Z,⟨m0,z0⟩,turn⟩:=q s2.heap.objs.size (I2.hok.fresh (Nat.le_refl _))
 have ho : ∀ b ∈ fp,∃ o,s2.heap.get? b = some o:=fun b hb=>let ⟨o,e,_⟩:=T.obj _ _ st2 b hb; ⟨o,e⟩
 have I4:=vq (scope:=scope) (N:=N) (caps:=caps) I2 f2 ho c
 obtain ⟨hg,ht,he⟩:=hin g tt te hI s2 H2 fp
 refine wpAny_newObj_type (rk ?_) (by show 0 ≤ sizeLine; decide)
 have hC : (s2.heap.push { cls:=.type "list",dict:=none,data:=.seq ([] : List Value).toArray }).objs.size = s2.heap.objs.size + 1:=Heap.size_push ..
 dsimp only
 rw [hC]
 have kp : ∀ b o,s2.heap.get? b = some o → (pushCells ((s2.heap.push { cls:=.type "list",data:=.seq ([] : List Value).toArray }).push { cls:=.type "dict",data:=.dict #[] }) scope.names).get? b = some o:=fun b o e=>
   pushCells_keeps _ _ b o (Heap.get?_push_of_some _ (Heap.get?_push_of_some _ e))
 have st4 : tn 0 (pushCells ((s2.heap.push { cls:=.type "list",data:=.seq ([] : List Value).toArray }).push { cls:=.type "dict",data:=.dict #[] }) scope.names):=T.keep _ _ _ st2 fun b _ o e=>kp b o e
 have stat : ∀ {H' : Hp},(∀ b ∈ fp,H' b = none) → ∀ b ∈ fp,qQ (aS X s2 H2 scope N fp) [] H' b:=fun hn b hb=>
   ⟨hn b hb,(I4.ok.exf b hb).1,I4.ok.exfs b hb,.inl hb,(I4.ok.exf b hb).2,fun p hp=>absurd (show p ∈ ([] : List (Addr × Obj)) from hp) (by simp)⟩
 have fr4 : ∀ b ∈ fp,(upd H2 s2.heap.objs.size (.lst [])) b = none:=fun b hb=>by
   obtain ⟨o,e⟩:=ho b hb
   rw [aD (Nat.ne_of_lt (Heap.lt_size e))]; exact (f2 b hb).1
 have loop : codeAny (model X.prog X.w) X.A (.compLoop (.ListComp elt [⟨tg,iter,ifs,0⟩] scope pos) 0 (.ref it) (.ref s2.heap.objs.size) (aS X s2 H2 scope N fp).env)
     (compPost (model X.prog X.w) X.A X.xe none (EP X pins σ Q) (.ref s2.heap.objs.size) (s2.heap.objs.size + 1))
     { s2 with heap:=pushCells ((s2.heap.push { cls:=.type "list",data:=.seq ([] : List Value).toArray }).push { cls:=.type "dict",data:=.dict #[] }) scope.names }:=by
   refine pY (fun n s'=>∃ i σ' H',Inv (aS X s2 H2 scope N fp) [] σ' H' s' ∧ tn i s'.heap ∧ (∀ b ∈ fp,H' b = none) ∧ Z i n σ' H') ?_ m0 ⟨0,_,_,I4,st4,fr4,z0⟩
   rintro n s3 ⟨i,σ3,H3,I3,st3,fr3,w3⟩
   rcases turn i n σ3 H3 w3 with ⟨stop,qn⟩ | ⟨go,step⟩
   · refine thn (T.done (aS X s2 H2 scope N fp) rfl rfl rfl hc i [] s3 σ3 H3 _ I3 (stat fr3) st3 stop) fun r s5 ⟨hr,I5⟩=>?_
     subst hr
     obtain ⟨m,hn,_⟩:=id I5.loc
     refine ⟨m,hn,fun h' sb=>⟨.ref s2.heap.objs.size,H3,?_,rfl,qn⟩⟩
     have lt : ∀ b o,s2.heap.get? b = some o → b ≠ s2.heap.objs.size + 1:=fun b o e=>Nat.ne_of_lt (Nat.lt_succ_of_lt (Heap.lt_size e))
     have u:=I5.base
     have u' : Un (frs X.stack) fp H2 H3 s2.heap h':=⟨fun b o e n1 n2 n3=>(sb.2 b (lt b o e)).trans (u.keep b o e n1 n2 n3),fun b o e n1 n2 n3=>let ⟨sl,z⟩:=u.slot b o e n1 n2 n3; ⟨sl,(sb.2 b (lt b o e)).trans z⟩,
       u.free,fun b o e n1=>let ⟨o',z⟩:=u.there b o e n1; ⟨o',(sb.2 b (lt b o e)).trans z⟩,u.tups,u.frzs,u.tbls⟩
     have fC : H3 (s2.heap.objs.size + 1) = none:=I5.free
     refine I2.FF (s':={ s5 with heap:=h' }) I5.os u' (fun b o e=>(I5.hok b o e).lW (fun d v hd z=>(sb.2 d ?_).trans z) (fun _ z=>z) fun _ _ z=>z) I5.bare fun b hb=>⟨(f2 b hb).2.2.2.1,(f2 b hb).2.1,(f2 b hb).2.2.2.2.1,(f2 b hb).2.2.2.2.2⟩
     rcases hd with hd | hd
     · rw [hd]; exact aH e fC
     · exact aH hd fC
   · refine thn (T.item (aS X s2 H2 scope N fp) rfl rfl rfl hc i [] s3 σ3 H3 _ I3 (stat fr3) st3 go) fun r s4 ⟨u,hr,h4⟩=>?_
     subst hr
     refine thn h4 fun _ s5 ⟨x,H5,I5,r5,y5,st5,fr5⟩=>?_
     have I5':=I5.pinned (stat fr5) (T.obj _ _ st5)
     refine thn (hg _ s5 σ3 H5 x u _ I5' r5 (step x H5 y5)) fun _ s6 ⟨σ6,H6,I6,q6⟩=>?_
     have again : ∀ {s7 : Shared} {σ7 : L2.St} {H7 : Hp} {m' : Nat},Inv (aS X s2 H2 scope N fp) ([] ++ kX fp s5.heap) σ7 H7 s7 → m' < n → Z (i + 1) m' σ7 H7 →
         ∃ m,m < n ∧ ∃ i σ' H',Inv (aS X s2 H2 scope N fp) [] σ' H' s7 ∧ tn i s7.heap ∧ (∀ b ∈ fp,H' b = none) ∧ Z i m σ' H':=fun {s7 σ7 H7 m'} I7 hm z7=>by
       refine ⟨m',hm,i + 1,σ7,H7,I7.iS,T.keep _ _ _ st5 fun b hb o e=>(I7.pin (b,o) (List.mem_append_right _ (List.mem_append_right _ (eH hb e)))).1,fun b hb=>?_,z7⟩
       obtain ⟨o,e,d⟩:=T.obj _ _ st5 b hb
       exact (I7.pin (b,o) (List.mem_append_right _ (List.mem_append_right _ (eH hb e)))).2.1
     refine thn (ht _ s6 σ6 H6 _ I6 q6) fun ok s7 ⟨H7,I7,q7⟩=>?_
     cases ok with
     | false=>
       rw [if_neg (by decide)] at q7
       obtain ⟨m',hm,z7⟩:=q7
       exact again I7 hm z7
     | true=>
       rw [if_pos rfl] at q7
       refine thn (he _ s7 σ6 H7 _ I7 q7) fun v' s8 ⟨v,H8,I8,r8,vs,m',q8,l8,hm,z8⟩=>?_
       refine thn (nK (X:=aS X s2 H2 scope N fp) _ s8 σ6 H8 (.ref s2.heap.objs.size) [v] (.ref s2.heap.objs.size) [v'] (fun _ H9=>H9 = upd H8 s2.heap.objs.size (.lst (vs ++ [v]))) I8 rfl (.cons r8 .nil) ⟨_,vs,v,rfl,rfl,q8,l8,rfl⟩) fun _ s9 ⟨_,H9,I9,_,e9⟩=>?_
       subst e9
       exact again I9 hm z8
 exact codeAny_compStart_list loop (T.self _ 0 _ _ _ st4 loop)
end Ev
namespace Ev
open PySem PySem.Spec PyProof.Rows L2
noncomputable def slot : List Str → Str → Option Nat
 | [],_=>none
 | y :: r,x=>if y = x then some 0 else (slot r x).map (· + 1)
theorem slot_get : ∀ {N : List Str} {x : Str} {i : Nat},slot N x = some i → N[i]? = some x
 | [],_,_,h=>by cases h
 | y :: r,x,i,h=>by
   unfold slot at h
   split at h
   · rename_i e; cases h; rw [e]; rfl
   · cases q : slot r x with
     | none=>rw [q] at h; cases h
     | some j=>
       rw [q] at h; cases h
       show (y :: r)[j + 1]? = some x
       rw [List.getElem?_cons_succ]; exact slot_get q
noncomputable def iO (sc : Scope) (x : Str) : Bool:=match sc.names.lookup x with
 | some .local=>true
 | some .cell=>true
 | _=>false
noncomputable def jC (sc : Scope) (x : Str) : Bool:=match sc.names.lookup x with
 | some .globalImplicit=>true
 | _=>false
theorem jN {sc : Scope} {x : Str} (h : iO sc x = true) : sc.names.lookup x = some .local ∨ sc.names.lookup x = some .cell:=by
 unfold iO at h
 split at h
 · exact .inl (by assumption)
 · exact .inr (by assumption)
 · cases h
theorem lR {sc : Scope} {x : Str} (h : jC sc x = true) : sc.names.lookup x = some .globalImplicit:=by
 unfold jC at h
 split at h
 · assumption
 · cases h
noncomputable def jk (scope sc : Scope) : Scope:={ scope with names:=scope.names.map fun (n,k)=>if (k == .free && sc.kind == .function && sc.names.lookup n == some .cell) then (n,.cell) else (n,k) }
theorem fI {scope sc : Scope} {env : PySem.Env} (h : env.scope = sc) : relabel scope env = jk scope sc:=by
 subst h; rfl
noncomputable def jK (scope : Scope) : List Str:=(scope.names.filter fun p=>(p.2 == .local || p.2 == .cell || p.2 == .free) && p.1 != (".0" : Str)).map (·.1)
section
variable {X : Cx} {k : Nat} {H₀ : Hp}
theorem nG {sc : Scope} {x : Str} (h : sc.names.lookup x = some .local ∨ sc.names.lookup x = some .cell) : Vis sc x:=h.elim .inl fun z=>.inr (.inl z)
theorem aQ.ok {i j : Int} (h : aQ i j) : IntMulOk i j:=by
 have b : ∀ {k : Int} {n : Nat},k.natAbs.log2 < n → Builtin.Int.intBits k ≤ n:=fun {k n} q=>by
   unfold Builtin.Int.intBits
   split
   · exact Nat.zero_le _
   · exact q
 rcases h with h | h | ⟨h1,h2⟩
 · exact .of_left (b h)
 · exact .of_right (b h)
 · exact .of_bits (Nat.le_trans (b h1) (by decide)) (Nat.le_trans (b h2) (by decide))
theorem CZ : OpR X (binaryOp .FloorDiv) (rI (fun _ j=>aU j) fun i j=>.int (i.fdiv j)):=opI fun _ _ _ _ _ _ _ hc q=>floordiv_int hc.1 q (.inl (PyProof.noPylong_of_log2 hc.2))
theorem DZ : OpR X (binaryOp .Mult) (rI aQ fun i j=>.int (i * j)):=opI fun _ _ _ _ _ _ _ hc q=>mul_int q hc.ok
theorem D4 : OpR X (binaryOp .Add) (rI (fun _ _=>True) fun i j=>.int (i + j)):=opI fun _ _ _ _ _ _ _ _ q=>add_int q
theorem Ed : OpR X (binaryOp .Sub) (rI (fun _ _=>True) fun i j=>.int (i - j)):=opI fun _ _ _ _ _ _ _ _ q=>sub_int q
theorem Er : OpR X (binaryOp .BitAnd) (rI (fun _ _=>True) fun i j=>.int (Builtin.bitAnd i j)):=opI fun _ _ _ _ _ _ _ _ q=>and_int q
theorem oR : OpR X (binaryOp .Add) (fun x y H Q=>∃ l b xs zs,x = .ref l ∧ y = .ref b ∧ SqL X.K H l xs ∧ SqL X.K H b zs ∧ xs.length + zs.length ≤ sizeLine ∧ ∀ p,H p = none → Q (.ref p) (upd H p (.lst (xs ++ zs)))):=by
 intro pins s σ H x y v u Q I rx ry h
 obtain ⟨l,b,xs,zs,rfl,rfl,hH,hB,hz,q⟩:=h
 cases rx
 cases ry
 obtain ⟨its,r,pl,_⟩:=I.list hH
 obtain ⟨its2,r2,pl2,_⟩:=I.list hB
 have hl:=r.length
 have hl2:=r2.length
 obtain ⟨⟨cls,dd,data,sl⟩,ho,hc,n,hd⟩:=pl.isList
 obtain ⟨⟨cls2,dd2,data2,sl2⟩,ho2,hc2,n2,hd2⟩:=pl2.isList
 simp only at hc hd hc2 hd2
 subst hc hd hc2 hd2
 have e : its.toArray ++ its2.toArray = (its ++ its2).toArray:=by simp
 refine concat_meets ⟨_,ho,rfl⟩ ⟨_,ho2,rfl⟩ noFill_list_add seq_list_add PySem.F.slot_list_add PySem.F.entry_list_add (PySem.F.args_list_add_2 _ _) (list_addW l b its.toArray its2.toArray n n2 dd dd2 sl sl2 (by rw [List.size_toArray,List.size_toArray]; omega)) ⟨ho,ho2,?_⟩
 rw [e]
 exact ⟨.ref _,_,I.Lu (t':=s.toks) (r.append r2) (by rw [List.length_append]; omega),rfl,q _ I.fresh⟩
theorem bZ : ai < sizeLine:=by decide
end
end Ev
namespace Ev
open PySem PySem.Spec PyProof.Rows L2
section
variable {X : Cx} {k : Nat} {H₀ : Hp}
end
end Ev
namespace Ev
open PySem PySem.Spec PyProof.Rows L2
section
variable {X : Cx} {k : Nat} {H₀ : Hp}
end
end Ev
namespace Sv
open PySem PySem.Spec PyProof.Rows L2
open Ev (D aQ aU ai)
inductive U where
 | non | bl (b : Bool) | int (i : Int) | str (x : Str) | tup (xs : List U) | loc (l : Nat) | exo (c : Nat) | kl (xs : List U)
 deriving Inhabited
noncomputable abbrev Sto:=List (Bool × List U)
noncomputable abbrev Env:=List (Option U)
inductive Rs (α : Type) where
 | ok (a : α) (st : Sto) | exc (c : Nat) (st : Sto) | bad
noncomputable def Rs.bind {α β : Type} : Rs α → (α → Sto → Rs β) → Rs β
 | .ok a st,f=>f a st
 | .exc c st,_=>.exc c st
 | .bad,_=>.bad
noncomputable def Rs.noX {α : Type} : Rs α → Rs α
 | .exc _ _=>.bad
 | x=>x
theorem Rs.aa {α β : Type} (a : α) (st : Sto) (f : α → Sto → Rs β) : (Rs.ok a st).bind f = f a st:=rfl
theorem bK {α : Type} {x : α} {p : Prop} (h : (none : Option α) = some x) : p:=by cases h
noncomputable def uC {α β : Type} (f : α → Option β) : List α → Option (List β)
 | []=>some []
 | x :: xs=>(f x).bind fun y=>(uC f xs).map (y :: ·)
noncomputable def rsv (st : Sto) : Nat → U → Option D
 | _,.non=>some .non
 | _,.bl b=>some (.bl b)
 | _,.int i=>some (.int i)
 | _,.str x=>some (.str x)
 | n + 1,.tup xs=>(uC (rsv st n) xs).map .tup
 | n + 1,.kl xs=>(uC (rsv st n) xs).map .lst
 | n + 1,.loc l=>match st[l]? with | some (_,xs)=>(uC (rsv st n) xs).map .lst | none=>none
 | _,_=>none
inductive Op2 where
 | add | sub | mul | fdiv | mod | pow | shr | shl | band | bor
inductive Cm where
 | eq | ne | lt | le | gt | ge | isin
inductive Ty where
 | int | bool | tuple | list | str
inductive Bi where
 | len | abs | max | min | int | list | tuple | all | rev | sum
inductive Tg where
 | nm (i : Nat) | tp (is : List Nat)
mutual
inductive E where
 | var (i : Nat)
 | cN | cB (b : Bool) | cI (i : Int) | cS (x : Str)
 | op (o : Op2) (a b : E)
 | neg (a : E) | not (a : E)
 | cmp (o : Cm) (a b : E)
 | chain (o o' : Cm) (a b c : E)
 | and (a b : E) | or (a b : E)
 | ite (c a b : E)
 | tup (es : List E) | lst (es : List E)
 | ix (a i : E)
 | sl (a lo hi : E)
 | call (f : Nat) (es : List E)
 | bi (b : Bi) (es : List E)
 | isi (a : E) (t : Ty)
 | isB (neg : Bool) (a : E) (b : Bool)
 | isN (neg : Bool) (a : E)
 | comp (caps : List (Option Nat)) (t : Tg) (it : It) (ifs : List E) (elt : E)
inductive It where
 | seq (e : E) | rng (e : E) | rng2 (a b : E) | enu (e : E) | zip (a b : E)
end
instance : Inhabited E:=⟨.cN⟩
noncomputable def new (st : Sto) (xs : List U) : Rs U:=.ok (.loc st.length) (st ++ [(false,xs)])
noncomputable def ur (st : Sto) : U → Option (List U)
 | .loc l=>(st[l]?).map (·.2)
 | .kl xs=>some xs
 | _=>none
noncomputable def seq? (st : Sto) : U → Option (List U)
 | .loc l=>(st[l]?).map (·.2)
 | .kl xs=>some xs
 | .tup xs=>some xs
 | _=>none
noncomputable def ev2 : Op2 → U → U → Sto → Rs U
 | .add,.int i,.int j,st=>.ok (.int (i + j)) st
 | .add,.tup xs,.tup ys,st=>if xs ≠ [] ∧ xs.length + ys.length < ai then .ok (.tup (xs ++ ys)) st else .bad
 | .add,.str x,.str y,st=>if x.length + y.length < ai then .ok (.str (x ++ y)) st else .bad
 | .add,.loc a,.loc b,st=>match st[a]?,st[b]? with
   | some (_,xs),some (_,ys)=>if xs.length + ys.length < ai then new st (xs ++ ys) else .bad
   | _,_=>.bad
 | .add,.kl xs,.loc b,st=>match st[b]? with
   | some (_,ys)=>if xs.length + ys.length < ai then new st (xs ++ ys) else .bad
   | _=>.bad
 | .add,.loc a,.kl ys,st=>match st[a]? with
   | some (_,xs)=>if xs.length + ys.length < ai then new st (xs ++ ys) else .bad
   | _=>.bad
 | .add,.kl xs,.kl ys,st=>if xs.length + ys.length < ai then new st (xs ++ ys) else .bad
 | .sub,.int i,.int j,st=>.ok (.int (i - j)) st
 | .mul,.int i,.int j,st=>if aQ i j then .ok (.int (i * j)) st else .bad
 | .fdiv,.int i,.int j,st=>if aU j then .ok (.int (i.fdiv j)) st else .bad
 | .mod,.int i,.int j,st=>if j ≠ 0 then .ok (.int (i.fmod j)) st else .bad
 | .pow,.int i,.int j,st=>if 0 ≤ j ∧ j ≤ 1000000 ∧ i.natAbs < 2 ^ 64 then .ok (.int (i ^ j.toNat)) st else .bad
 | .shr,.int i,.int j,st=>if 0 ≤ j then .ok (.int (i / 2 ^ j.toNat)) st else .bad
 | .shl,.int i,.int j,st=>if 0 ≤ j ∧ j ≤ 1000000 ∧ i.natAbs < 2 ^ 64 then .ok (.int (i * 2 ^ j.toNat)) st else .bad
 | .band,.int i,.int j,st=>.ok (.int (Builtin.bitAnd i j)) st
 | .bor,.int i,.int j,st=>.ok (.int (Builtin.bitOr i j)) st
 | _,_,_,_=>.bad
noncomputable def n9 : List U → Option (List Str)
 | []=>some []
 | .str x :: r=>(n9 r).map (x :: ·)
 | _=>none
noncomputable def evC : Cm → U → U → Sto → Option Bool
 | .eq,x,y,st=>match rsv st 64 x,rsv st 64 y with | some a,some b=>if Ev.xo a ∧ Ev.xo b then some (Ev.eqD a b) else none | _,_=>none
 | .ne,x,y,st=>match rsv st 64 x,rsv st 64 y with | some a,some b=>if Ev.xo a ∧ Ev.xo b then some (!Ev.eqD a b) else none | _,_=>none
 | .lt,.int i,.int j,_=>some (decide (i < j))
 | .le,.int i,.int j,_=>some (decide (i ≤ j))
 | .gt,.int i,.int j,_=>some (decide (j < i))
 | .ge,.int i,.int j,_=>some (decide (j ≤ i))
 | .isin,.str x,.tup ys,_=>(n9 ys).map fun l=>l.any (· == x)
 | _,_,_,_=>none
noncomputable def ofO : Option Bool → Sto → Rs U
 | some b,st=>.ok (.bl b) st
 | none,_=>.bad
noncomputable def Az : Ty → U → Bool
 | .int,.int _=>true
 | .int,.bl _=>true
 | .bool,.bl _=>true
 | .tuple,.tup _=>true
 | .list,.loc _=>true
 | .list,.kl _=>true
 | .str,.str _=>true
 | _,_=>false
noncomputable def allB : List U → Option Bool
 | []=>some true
 | .bl b :: r=>(allB r).map (b && ·)
 | _=>none
noncomputable def CD (xs : List U) (lo hi : Option Int) : List U:=(xs.drop (HT.sIx xs.length 0 lo)).take (HT.sIx xs.length xs.length hi - HT.sIx xs.length 0 lo)
noncomputable def xj : E → U → Option (Option Int)
 | .cN,_=>some none
 | _,.int i=>some (some i)
 | _,_=>none
noncomputable def E4 (x : U) (lo hi : Option Int) (st : Sto) : Rs U:=match ur st x with
 | some xs=>new st (CD xs lo hi)
 | none=>.bad
noncomputable def An (b : Bool) : U → Bool
 | .bl c=>c == b
 | _=>false
noncomputable def Ai : U → Bool
 | .non=>true
 | _=>false
noncomputable def mi : List U → Option (List Int)
 | []=>some []
 | .int i :: r=>(mi r).map (i :: ·)
 | _=>none
noncomputable def tP (a : Int) (as : List Int) : Int:=as.foldl (fun m x=>if m < x then x else m) a
noncomputable def ofM : Option (List Int) → Sto → Rs U
 | some (a :: as),st=>.ok (.int (tP a as)) st
 | _,_=>.bad
noncomputable def ofZ : Option (List Int) → Sto → Rs U
 | some ns,st=>.ok (.int ns.sum) st
 | _,_=>.bad
noncomputable def evB : Bi → List U → Sto → Rs U
 | .len,[x],st=>match seq? st x with | some xs=>.ok (.int xs.length) st | none=>.bad
 | .abs,[.int i],st=>.ok (.int (if i < 0 then -i else i)) st
 | .max,[.int i,.int j],st=>.ok (.int (if j > i then j else i)) st
 | .max,[x],st=>match ur st x with | some xs=>ofM (mi xs) st | none=>.bad
 | .min,[.int i,.int j],st=>.ok (.int (if j < i then j else i)) st
 | .int,[.int i],st=>.ok (.int i) st
 | .int,[.bl b],st=>.ok (.int (if b then 1 else 0)) st
 | .list,[x],st=>match seq? st x with | some xs=>new st xs | none=>.bad
 | .tuple,[x],st=>match seq? st x with | some xs=>.ok (.tup xs) st | none=>.bad
 | .all,[x],st=>match ur st x with | some xs=>ofO (allB xs) st | none=>.bad
 | .rev,[x],st=>match ur st x with | some xs=>new st xs.reverse | none=>.bad
 | .sum,[x],st=>match ur st x with | some xs=>ofZ (mi xs) st | none=>.bad
 | _,_,_=>.bad
noncomputable def evI (x y : U) (st : Sto) : Rs U:=match seq? st x,y with
 | some xs,.int i=>match atI xs i with | some d=>.ok d st | none=>.bad
 | _,_=>.bad
noncomputable def su (ρ : Env) (i : Nat) (st : Sto) : Rs U:=match ρ[i]? with | some (some d)=>.ok d st | _=>.bad
noncomputable def lb : List Nat → List U → Env → Option Env
 | [],[],ρ=>some ρ
 | i :: is,x :: xs,ρ=>lb is xs (ρ.set i (some x))
 | _,_,_=>none
noncomputable def hZ : Tg → U → Env → Option Env
 | .nm i,d,ρ=>some (ρ.set i (some d))
 | .tp is,.tup xs,ρ=>lb is xs ρ
 | _,_,_=>none
inductive Sq where
 | vals (xs : List U) | lst (l : Nat) | enu (l : Nat) | zip (p q : Sq)
noncomputable def K6 : Option U → Option U → Option U
 | some x,some y=>some (.tup [x,y])
 | _,_=>none
noncomputable def Sq.at : Sq → Sto → Nat → Option (Option U)
 | .vals xs,_,i=>some xs[i]?
 | .lst l,st,i=>(st[l]?).map fun o=>o.2[i]?
 | .enu l,st,i=>(st[l]?).map fun o=>(o.2[i]?).map fun x=>.tup [.int (i : Nat),x]
 | .zip p q,st,i=>(p.at st i).bind fun o=>(q.at st i).map fun o'=>K6 o o'
noncomputable def Sq.len : Sq → Sto → Nat
 | .vals xs,_=>xs.length
 | .lst l,st=>((st[l]?).map fun o=>o.2.length).getD 0
 | .enu l,st=>((st[l]?).map fun o=>o.2.length).getD 0
 | .zip p q,st=>min (p.len st) (q.len st)
noncomputable def src (st : Sto) : U → Option Sq
 | .loc l=>if l < st.length then some (.lst l) else none
 | .kl xs=>some (.vals xs)
 | _=>none
noncomputable def LO : Option Sq → Option Sq → Sto → Rs Sq
 | some p,some q,st=>.ok (.zip p q) st
 | _,_,_=>.bad
noncomputable def uP (k : Nat) : List U → List U
 | []=>[]
 | x :: xs=>.tup [.int (k : Nat),x] :: uP (k + 1) xs
noncomputable def kJ (lo : Int) (n : Nat) : List U:=(List.range n).map fun k=>U.int (lo + (k : Nat))
noncomputable def ki (ρ : Env) (caps : List (Option Nat)) : Env:=caps.map fun o=>o.bind fun i=>(ρ[i]?).join
noncomputable def lL (f : U → Sto → Rs (Option U)) (q : Sq) : Nat → Nat → Sto → Rs (List U)
 | 0,_,_=>.bad
 | n + 1,i,st=>match q.at st i with
   | none=>.bad
   | some none=>.ok [] st
   | some (some x)=>(f x st).bind fun o st1=>(lL f q n (i + 1) st1).bind fun ys st2=>.ok (match o with | some y=>y :: ys | none=>ys) st2
noncomputable abbrev Fn:=Nat → List U → Sto → Rs U
mutual
noncomputable def xE (Φ : Fn) : E → Env → Sto → Rs U
 | .var i,ρ,st=>su ρ i st
 | .cN,_,st=>.ok .non st
 | .cB b,_,st=>.ok (.bl b) st
 | .cI i,_,st=>.ok (.int i) st
 | .cS x,_,st=>.ok (.str x) st
 | .op o a b,ρ,st=>(xE Φ a ρ st).bind fun x st1=>(xE Φ b ρ st1).bind fun y st2=>ev2 o x y st2
 | .neg a,ρ,st=>(xE Φ a ρ st).bind fun x st1=>match x with | .int i=>.ok (.int (-i)) st1 | _=>.bad
 | .not a,ρ,st=>(xE Φ a ρ st).bind fun x st1=>match x with | .bl b=>.ok (.bl (!b)) st1 | _=>.bad
 | .cmp o a b,ρ,st=>(xE Φ a ρ st).bind fun x st1=>(xE Φ b ρ st1).bind fun y st2=>ofO (evC o x y st2) st2
 | .chain o o' a b c,ρ,st=>(xE Φ a ρ st).bind fun x st1=>(xE Φ b ρ st1).bind fun y st2=>match evC o x y st2 with
   | some true=>(xE Φ c ρ st2).bind fun u st3=>ofO (evC o' y u st3) st3
   | some false=>.ok (.bl false) st2
   | none=>.bad
 | .and a b,ρ,st=>(xE Φ a ρ st).bind fun x st1=>match x with | .bl true=>xE Φ b ρ st1 | .bl false=>.ok (.bl false) st1 | _=>.bad
 | .or a b,ρ,st=>(xE Φ a ρ st).bind fun x st1=>match x with | .bl true=>.ok (.bl true) st1 | .bl false=>xE Φ b ρ st1 | _=>.bad
 | .ite c a b,ρ,st=>(xE Φ c ρ st).bind fun x st1=>match x with | .bl true=>xE Φ a ρ st1 | .bl false=>xE Φ b ρ st1 | _=>.bad
 | .tup es,ρ,st=>(xEs Φ es ρ st).bind fun xs st1=>if xs.length < ai then .ok (.tup xs) st1 else .bad
 | .lst es,ρ,st=>(xEs Φ es ρ st).bind fun xs st1=>if xs.length < ai then new st1 xs else .bad
 | .ix a i,ρ,st=>(xE Φ a ρ st).bind fun x st1=>(xE Φ i ρ st1).bind fun y st2=>evI x y st2
 | .sl a l h,ρ,st=>(xE Φ a ρ st).bind fun x st1=>(xE Φ l ρ st1).bind fun y st2=>match xj l y with
   | none=>.bad
   | some lo=>(xE Φ h ρ st2).bind fun z st3=>match xj h z with | none=>.bad | some hi=>E4 x lo hi st3
 | .call f es,ρ,st=>(xEs Φ es ρ st).bind fun xs st1=>Φ f xs st1
 | .bi b es,ρ,st=>(xEs Φ es ρ st).bind fun xs st1=>evB b xs st1
 | .isi a t,ρ,st=>(xE Φ a ρ st).bind fun x st1=>match x with | .exo _=>.bad | x=>.ok (.bl (Az t x)) st1
 | .isB n a b,ρ,st=>(xE Φ a ρ st).bind fun x st1=>.ok (.bl (n ^^ An b x)) st1
 | .isN n a,ρ,st=>(xE Φ a ρ st).bind fun x st1=>.ok (.bl (n ^^ Ai x)) st1
 | .comp caps t it ifs elt,ρ,st=>(xIt Φ it ρ st).bind fun q st1=>if q.len st1 < ai then
     ((lL (fun x st=>match hZ t x (ki ρ caps ++ [none]) with
         | none=>.bad
         | some ρ1=>(xIf Φ ifs ρ1 st).bind fun b st2=>if b then (xE Φ elt ρ1 st2).bind fun y st3=>.ok (some y) st3 else .ok none st2) q (q.len st1 + 1) 0 st1).bind fun ys st2=>new st2 ys).noX
   else .bad
noncomputable def xEs (Φ : Fn) : List E → Env → Sto → Rs (List U)
 | [],_,st=>.ok [] st
 | e :: es,ρ,st=>(xE Φ e ρ st).bind fun x st1=>(xEs Φ es ρ st1).bind fun xs st2=>.ok (x :: xs) st2
noncomputable def xIf (Φ : Fn) : List E → Env → Sto → Rs Bool
 | [],_,st=>.ok true st
 | c :: cs,ρ,st=>(xE Φ c ρ st).bind fun x st1=>match x with | .bl true=>xIf Φ cs ρ st1 | .bl false=>.ok false st1 | _=>.bad
noncomputable def xIt (Φ : Fn) : It → Env → Sto → Rs Sq
 | .seq e,ρ,st=>(xE Φ e ρ st).bind fun x st1=>match x with | .loc l=>(if l < st1.length then .ok (.lst l) st1 else .bad) | .tup xs=>.ok (.vals xs) st1 | .kl xs=>.ok (.vals xs) st1 | _=>.bad
 | .rng e,ρ,st=>(xE Φ e ρ st).bind fun x st1=>match x with | .int j=>if -(2 ^ 62) ≤ j ∧ j < 2 ^ 62 then .ok (.vals (kJ 0 j.toNat)) st1 else .bad | _=>.bad
 | .rng2 a b,ρ,st=>(xE Φ a ρ st).bind fun x st1=>(xE Φ b ρ st1).bind fun y st2=>match x,y with
   | .int i,.int j=>if (-(2 ^ 62) ≤ i ∧ i < 2 ^ 62) ∧ -(2 ^ 62) ≤ j ∧ j < 2 ^ 62 then .ok (.vals (kJ i (j - i).toNat)) st2 else .bad
   | _,_=>.bad
 | .enu e,ρ,st=>(xE Φ e ρ st).bind fun x st1=>match x with | .loc l=>(if l < st1.length then .ok (.enu l) st1 else .bad) | .kl xs=>.ok (.vals (uP 0 xs)) st1 | _=>.bad
 | .zip a b,ρ,st=>(xE Φ a ρ st).bind fun x st1=>(xE Φ b ρ st1).bind fun y st2=>LO (src st2 x) (src st2 y) st2
end
inductive Lm where
 | append | extend | insert | pop | popAt | clear
inductive S where
 | set (t : Tg) (e : E)
 | put (a i e : E)
 | mth (m : Lm) (a : E) (es : List E)
 | ret (e : E) | retN
 | ite (c : E) (a b : List S)
 | for (t : Tg) (it : It) (body : List S)
 | while (c : E) (body : List S)
 | expr (e : E)
 | raise (c : Nat)
 | brk | cont | pas | nev
 deriving Inhabited
inductive Fl where
 | nx (ρ : Env) | rt (d : U) | bk (ρ : Env) | ct (ρ : Env)
noncomputable def evM : Lm → U → List U → Sto → Option Sto
 | .append,.loc l,[x],st=>match st[l]? with | some (false,xs)=>if xs.length < ai then some (st.set l (false,xs ++ [x])) else none | _=>none
 | .extend,.loc l,[.loc k],st=>match st[l]?,st[k]? with
   | some (false,xs),some (false,ys)=>if xs.length + ys.length < ai then some (st.set l (false,xs ++ ys)) else none
   | _,_=>none
 | .insert,.loc l,[.int i,x],st=>match st[l]? with
   | some (false,xs)=>if xs.length < ai ∧ 0 ≤ i ∧ i.toNat ≤ xs.length then some (st.set l (false,xs.insertIdx i.toNat x)) else none
   | _=>none
 | .pop,.loc l,[],st=>match st[l]? with | some (false,xs)=>if xs = [] then none else some (st.set l (false,xs.dropLast)) | _=>none
 | .popAt,.loc l,[.int i],st=>match st[l]? with
   | some (false,xs)=>if xs.length < ai then (L2.ixN xs.length i).map fun j=>st.set l (false,xs.eraseIdx j) else none
   | _=>none
 | .clear,.loc l,[],st=>match st[l]? with | some (false,_)=>some (st.set l (false,[])) | _=>none
 | _,_,_,_=>none
noncomputable def evP (x y z : U) (st : Sto) : Option Sto:=match x,y with
 | .loc l,.int i=>match st[l]? with
   | some (false,xs)=>(L2.ixN xs.length i).map fun j=>st.set l (false,xs.set j z)
   | _=>none
 | _,_=>none
noncomputable def ofS : Option Sto → Env → Rs Fl
 | some st,ρ=>.ok (.nx ρ) st
 | none,_=>.bad
noncomputable def loop (f : U → Env → Sto → Rs Fl) (q : Sq) : Nat → Nat → Env → Sto → Rs Fl
 | 0,_,_,_=>.bad
 | n + 1,i,ρ,st=>match q.at st i with
   | none=>.bad
   | some none=>.ok (.nx ρ) st
   | some (some x)=>(f x ρ st).bind fun r st1=>match r with
     | .nx ρ'=>loop f q n (i + 1) ρ' st1
     | .ct ρ'=>loop f q n (i + 1) ρ' st1
     | .bk ρ'=>.ok (.nx ρ') st1
     | .rt d=>.ok (.rt d) st1
noncomputable def nX (c : Env → Sto → Rs U) (f : Env → Sto → Rs Fl) : Nat → Env → Sto → Rs Fl
 | 0,_,_=>.bad
 | n + 1,ρ,st=>(c ρ st).bind fun x st1=>match x with
   | .bl true=>(f ρ st1).bind fun r st2=>match r with
     | .nx ρ'=>nX c f n ρ' st2
     | .ct ρ'=>nX c f n ρ' st2
     | .bk ρ'=>.ok (.nx ρ') st2
     | .rt d=>.ok (.rt d) st2
   | .bl false=>.ok (.nx ρ) st1
   | _=>.bad
mutual
noncomputable def xS (Φ : Fn) (n : Nat) : S → Env → Sto → Rs Fl
 | .set t e,ρ,st=>(xE Φ e ρ st).bind fun x st1=>match hZ t x ρ with | some ρ'=>.ok (.nx ρ') st1 | none=>.bad
 | .put a i e,ρ,st=>(xE Φ e ρ st).bind fun z st1=>(xE Φ a ρ st1).bind fun x st2=>(xE Φ i ρ st2).bind fun y st3=>ofS (evP x y z st3) ρ
 | .mth m a es,ρ,st=>(xE Φ a ρ st).bind fun x st1=>match x with
   | .loc l=>if l < st1.length then (xEs Φ es ρ st1).bind fun xs st2=>ofS (evM m (.loc l) xs st2) ρ else .bad
   | _=>.bad
 | .ret e,ρ,st=>(xE Φ e ρ st).bind fun x st1=>.ok (.rt x) st1
 | .retN,_,st=>.ok (.rt .non) st
 | .ite c a b,ρ,st=>(xE Φ c ρ st).bind fun x st1=>match x with | .bl true=>xSs Φ n a ρ st1 | .bl false=>xSs Φ n b ρ st1 | _=>.bad
 | .for t it body,ρ,st=>((xIt Φ it ρ st).bind fun q st1=>loop (fun x ρ' st'=>match hZ t x ρ' with | some ρ2=>xSs Φ n body ρ2 st' | none=>.bad) q (q.len st1 + 1) 0 ρ st1).noX
 | .while c body,ρ,st=>(nX (fun ρ' st'=>xE Φ c ρ' st') (fun ρ' st'=>xSs Φ n body ρ' st') n ρ st).noX
 | .expr e,ρ,st=>(xE Φ e ρ st).bind fun _ st1=>.ok (.nx ρ) st1
 | .raise c,_,st=>.exc c st
 | .brk,ρ,st=>.ok (.bk ρ) st
 | .cont,ρ,st=>.ok (.ct ρ) st
 | .pas,ρ,st=>.ok (.nx ρ) st
 | .nev,_,_=>.bad
noncomputable def xSs (Φ : Fn) (n : Nat) : List S → Env → Sto → Rs Fl
 | [],ρ,st=>.ok (.nx ρ) st
 | s :: ss,ρ,st=>(xS Φ n s ρ st).bind fun r st1=>match r with | .nx ρ'=>xSs Φ n ss ρ' st1 | r=>.ok r st1
end
noncomputable def run : Rs Fl → Rs U
 | .ok (.rt d) st=>.ok d st
 | .ok (.nx _) st=>.ok .non st
 | _=>.bad
noncomputable def J6 : U → Nat
 | .int i=>i.natAbs
 | _=>0
noncomputable def fuel : List U → Nat
 | []=>1
 | d :: r=>J6 d + fuel r
noncomputable def mk (Φ : Fn) (ir : List S) (np nl : Nat) (ds : List U) (st : Sto) : Rs U:=
 if ds.length = np then run (xSs Φ (fuel ds) ir (ds.map some ++ List.replicate (nl - np) none) st) else .bad
noncomputable def tab (fs : List (List U → Sto → Rs U)) (i : Nat) : List U → Sto → Rs U:=fs.getD i fun _ _=>.bad
end Sv
namespace Sv
open PySem PySem.Spec PyProof.Rows L2
open Ev (D aQ aU ai jM j1 eu)
structure Zt where
 K : PySem.W.Frag
 cl : Nat → Addr
noncomputable def LK (C a : Addr) (h : Heap) : Prop:=∃ o vs,h.get? a = some o ∧ o.cls = .ref C ∧ o.data = .fields vs ∧ vs[2]? = some .none
noncomputable def SqF (K : PySem.W.Frag) (H : Hp) (a : Addr) (vs : List V) : Prop:=(∃ o,H a = some (.frz o (.lst vs))) ∨ SqL K (fun _=>none) a vs
theorem SqF.sq {K : PySem.W.Frag} {H : Hp} {a : Addr} {vs : List V} (h : SqF K H a vs) : SqL K H a vs:=by
 rcases h with ⟨o,h⟩ | ((h | ⟨o,h⟩) | h)
 · exact .inl (.inr ⟨o,h⟩)
 · cases h
 · cases h
 · exact .inr h
mutual
inductive bf (Z : Zt) (m : List Addr) (H : Hp) : V → U → Prop where
 | non : bf Z m H .non .non
 | bl {b : Bool} : bf Z m H (.bl b) (.bl b)
 | int {i : Int} : bf Z m H (.int i) (.int i)
 | str {x : Str} : bf Z m H (.str x) (.str x)
 | tup {a : Addr} {vs : List V} {ds : List U} (h : SqT Z.K H a vs) (r : ak Z m H vs ds) : bf Z m H (.ref a) (.tup ds)
 | loc {a : Addr} {l : Nat} (h : m[l]? = some a) : bf Z m H (.ref a) (.loc l)
 | exo {a : Addr} {c : Nat} (h : H a = some (.ext (LK (Z.cl c) a))) : bf Z m H (.ref a) (.exo c)
 | kl {a : Addr} {vs : List V} {ds : List U} (h : SqF Z.K H a vs) (r : ak Z m H vs ds) : bf Z m H (.ref a) (.kl ds)
inductive ak (Z : Zt) (m : List Addr) (H : Hp) : List V → List U → Prop where
 | nil : ak Z m H [] []
 | cons {v : V} {d : U} {vs : List V} {ds : List U} (h : bf Z m H v d) (r : ak Z m H vs ds) : ak Z m H (v :: vs) (d :: ds)
end
structure Go (m : List Addr) (H : Hp) (m' : List Addr) (H' : Hp) : Prop where
 pre : m <+: m'
 kp : ∀ b o,H b = some o → (b ∉ m ∨ ∀ xs,o ≠ .lst xs) → H' b = some o
 tr : ∀ b,H' b = none → H b = none
 fr : ∀ (l : Nat) a,m.length ≤ l → m'[l]? = some a → H a = none
theorem Go.refl (m : List Addr) (H : Hp) : Go m H m H:=⟨List.prefix_refl m,fun _ _ h _=>h,fun _ h=>h,fun l a hl e=>by rw [List.getElem?_eq_none hl] at e; cases e⟩
theorem j5 {m m' : List Addr} (h : m <+: m') {l : Nat} {a : Addr} (e : m[l]? = some a) : m'[l]? = some a:=by
 obtain ⟨r,rfl⟩:=h
 rw [List.getElem?_append_left (List.getElem?_eq_some_iff.mp e).1]; exact e
theorem xW {m m' : List Addr} (h : m <+: m') {l : Nat} {a : Addr} (q : l < m.length) (e : m'[l]? = some a) : m[l]? = some a:=by
 have:=j5 h (List.getElem?_eq_getElem q)
 rw [e] at this
 rw [List.getElem?_eq_getElem q]; exact this.symm
theorem Go.trans {m m1 m2 : List Addr} {H H1 H2 : Hp} (g : Go m H m1 H1) (g' : Go m1 H1 m2 H2) : Go m H m2 H2:=by
 refine ⟨g.pre.trans g'.pre,fun b o h hn=>?_,fun b h=>g.tr b (g'.tr b h),fun l a hl e=>?_⟩
 · refine g'.kp b o (g.kp b o h hn) ?_
   rcases hn with hn | hn
   · refine .inl fun hm=>?_
     obtain ⟨l,hl⟩:=List.getElem?_of_mem hm
     rcases Nat.lt_or_ge l m.length with q | q
     · exact hn (List.mem_of_getElem? (xW g.pre q hl))
     · rw [g.fr l b q hl] at h; cases h
   · exact .inr hn
 · rcases Nat.lt_or_ge l m1.length with q | q
   · exact g.fr l a hl (xW g'.pre q e)
   · exact g.tr a (g'.fr l a q e)
section
variable {Z : Zt} {m m' : List Addr} {H H' : Hp}
theorem goT (g : Go m H m' H') {a : Addr} {xs : List V} (h : SqT Z.K H a xs) : SqT Z.K H' a xs:=by
 rcases h with (h | ⟨o,h⟩) | h
 · exact .inl (.inl (g.kp _ _ h (.inr fun _ z=>nomatch z)))
 · exact .inl (.inr ⟨o,g.kp _ _ h (.inr fun _ z=>nomatch z)⟩)
 · exact .inr h
theorem goF (g : Go m H m' H') {a : Addr} {xs : List V} (h : SqF Z.K H a xs) : SqF Z.K H' a xs:=by
 rcases h with ⟨o,h⟩ | h
 · exact .inl ⟨o,g.kp _ _ h (.inr fun _ z=>nomatch z)⟩
 · exact .inr h
mutual
theorem bf.mono (g : Go m H m' H') : ∀ {v : V} {d : U},bf Z m H v d → bf Z m' H' v d
 | _,_,.non=>.non
 | _,_,.bl=>.bl
 | _,_,.int=>.int
 | _,_,.str=>.str
 | _,_,.tup h r=>.tup (goT g h) (ak.mono g r)
 | _,_,.loc h=>.loc (j5 g.pre h)
 | _,_,.exo h=>.exo (g.kp _ _ h (.inr fun _ z=>nomatch z))
 | _,_,.kl h r=>.kl (goF g h) (ak.mono g r)
theorem ak.mono (g : Go m H m' H') : ∀ {vs : List V} {ds : List U},ak Z m H vs ds → ak Z m' H' vs ds
 | _,_,.nil=>.nil
 | _,_,.cons h r=>.cons (bf.mono g h) (ak.mono g r)
end
theorem ak.length : ∀ {vs : List V} {ds : List U},ak Z m H vs ds → vs.length = ds.length
 | _,_,.nil=>rfl
 | _,_,.cons _ r=>congrArg (· + 1) r.length
theorem ak.get : ∀ {vs : List V} {ds : List U} {i : Nat} {d : U},ak Z m H vs ds → ds[i]? = some d → ∃ v,vs[i]? = some v ∧ bf Z m H v d
 | _,_,_,_,.nil,e=>by simp at e
 | _,_,0,_,.cons h _,e=>by simp at e; subst e; exact ⟨_,rfl,h⟩
 | _,_,i + 1,d,.cons _ r,e=>by
   obtain ⟨v,h1,h2⟩:=ak.get (i:=i) (d:=d) r (by simpa using e)
   exact ⟨v,by simpa using h1,h2⟩
theorem ak.append : ∀ {xs ys : List V} {ds es : List U},ak Z m H xs ds → ak Z m H ys es → ak Z m H (xs ++ ys) (ds ++ es)
 | _,_,_,_,.nil,s=>s
 | _,_,_,_,.cons h r,s=>.cons h (ak.append r s)
theorem ak.take : ∀ {xs : List V} {ds : List U} (n : Nat),ak Z m H xs ds → ak Z m H (xs.take n) (ds.take n)
 | _,_,0,_=>.nil
 | _,_,_ + 1,.nil=>.nil
 | _,_,n + 1,.cons h r=>.cons h (ak.take n r)
theorem ak.drop : ∀ {xs : List V} {ds : List U} (n : Nat),ak Z m H xs ds → ak Z m H (xs.drop n) (ds.drop n)
 | _,_,0,r=>r
 | _,_,_ + 1,.nil=>.nil
 | _,_,n + 1,.cons _ r=>ak.drop n r
theorem ak.set : ∀ {xs : List V} {ds : List U} (n : Nat) {v : V} {d : U},ak Z m H xs ds → bf Z m H v d → ak Z m H (xs.set n v) (ds.set n d)
 | _,_,_,_,_,.nil,_=>.nil
 | _,_,0,_,_,.cons _ r,h=>.cons h r
 | _,_,n + 1,_,_,.cons h r,h'=>.cons h (ak.set n r h')
theorem ak.erase : ∀ {xs : List V} {ds : List U} (n : Nat),ak Z m H xs ds → ak Z m H (xs.eraseIdx n) (ds.eraseIdx n)
 | _,_,_,.nil=>.nil
 | _,_,0,.cons _ r=>r
 | _,_,n + 1,.cons h r=>.cons h (ak.erase n r)
theorem ak.dropLast : ∀ {xs : List V} {ds : List U},ak Z m H xs ds → ak Z m H xs.dropLast ds.dropLast
 | _,_,.nil=>.nil
 | _,_,.cons _ .nil=>.nil
 | _,_,.cons h (.cons h' r)=>.cons h (ak.dropLast (.cons h' r))
theorem ak.insert : ∀ {xs : List V} {ds : List U} (n : Nat) {v : V} {d : U},ak Z m H xs ds → bf Z m H v d → ak Z m H (xs.insertIdx n v) (ds.insertIdx n d)
 | _,_,0,_,_,r,h=>.cons h r
 | _,_,_ + 1,_,_,.nil,_=>.nil
 | _,_,n + 1,_,_,.cons h r,h'=>.cons h (ak.insert n r h')
theorem mM {xs : List V} {d : U} (h : ak Z m H xs [d]) : ∃ x,xs = [x] ∧ bf Z m H x d:=by
 cases h with
 | cons a r=>cases r; exact ⟨_,rfl,a⟩
theorem I0 {xs : List V} {d e : U} (h : ak Z m H xs [d,e]) : ∃ x y,xs = [x,y] ∧ bf Z m H x d ∧ bf Z m H y e:=by
 cases h with
 | cons a r=>
   obtain ⟨y,rfl,b⟩:=mM r
   exact ⟨_,_,rfl,a,b⟩
theorem oO {v : V} {i : Int} (h : bf Z m H v (.int i)) : v = .int i:=by cases h; rfl
theorem jq {v : V} {b : Bool} (h : bf Z m H v (.bl b)) : v = .bl b:=by cases h; rfl
theorem lY {v : V} {l : Nat} (h : bf Z m H v (.loc l)) : ∃ a,v = .ref a ∧ m[l]? = some a:=by cases h; exact ⟨_,rfl,by assumption⟩
end
noncomputable def Lay (Z : Zt) (H : Hp) (a : Addr) (fz : Bool) (vs : List V) : Prop:=if fz = true then SqL Z.K H a vs ∧ ∃ o,H a = some o else H a = some (.lst vs)
structure R (Z : Zt) (m : List Addr) (st : Sto) (H : Hp) : Prop where
 len : m.length = st.length
 inj : ∀ (i j : Nat) a,m[i]? = some a → m[j]? = some a → i = j
 obj : ∀ (l : Nat) a fz ds,m[l]? = some a → st[l]? = some (fz,ds) → ∃ vs,Lay Z H a fz vs ∧ ak Z m H vs ds
theorem Lay.sq {Z : Zt} {H : Hp} {a : Addr} {fz : Bool} {vs : List V} (h : Lay Z H a fz vs) : SqL Z.K H a vs:=by
 unfold Lay at h
 split at h
 · exact h.1
 · exact .inl (.inl h)
theorem Lay.tr {Z : Zt} {H : Hp} {a : Addr} {fz : Bool} {vs : List V} (h : Lay Z H a fz vs) : ∃ o,H a = some o:=by
 unfold Lay at h
 split at h
 · exact h.2
 · exact ⟨_,h⟩
theorem Lay.upd {Z : Zt} {H : Hp} {a p : Addr} {fz : Bool} {vs : List V} {o : HO} (h : Lay Z H a fz vs) (hn : a ≠ p) : Lay Z (upd H p o) a fz vs:=by
 unfold Lay at h ⊢
 split at h
 · rename_i q
   rw [if_pos q]
   refine ⟨?_,by rw [aD hn]; exact h.2⟩
   rcases h.1 with (h | ⟨o,h⟩) | h
   · exact .inl (.inl (by rw [aD hn]; exact h))
   · exact .inl (.inr ⟨o,by rw [aD hn]; exact h⟩)
   · exact .inr h
 · rename_i q
   rw [if_neg q,aD hn]; exact h
section
variable {Z : Zt} {m m' : List Addr} {H H' : Hp} {st : Sto}
theorem R.at (r : R Z m st H) {l : Nat} {fz : Bool} {ds : List U} (e : st[l]? = some (fz,ds)) : ∃ a vs,m[l]? = some a ∧ Lay Z H a fz vs ∧ ak Z m H vs ds:=by
 have hl:=(List.getElem?_eq_some_iff.mp e).1
 have hm : l < m.length:=by rw [r.len]; exact hl
 obtain ⟨vs,h1,h2⟩:=r.obj l _ fz ds (List.getElem?_eq_getElem hm) e
 exact ⟨_,vs,List.getElem?_eq_getElem hm,h1,h2⟩
theorem R.loc (r : R Z m st H) {l : Nat} {a : Addr} (e : m[l]? = some a) : ∃ fz ds vs,st[l]? = some (fz,ds) ∧ Lay Z H a fz vs ∧ ak Z m H vs ds:=by
 have hl:=(List.getElem?_eq_some_iff.mp e).1
 have hs : l < st.length:=by rw [← r.len]; exact hl
 obtain ⟨vs,h1,h2⟩:=r.obj l a st[l].1 st[l].2 e (List.getElem?_eq_getElem hs)
 exact ⟨_,_,vs,List.getElem?_eq_getElem hs,h1,h2⟩
theorem R.in (r : R Z m st H) {a : Addr} (e : a ∈ m) : ∃ o,H a = some o:=by
 obtain ⟨l,hl⟩:=List.getElem?_of_mem e
 obtain ⟨_,_,_,_,h,_⟩:=r.loc hl
 exact h.tr
theorem R.out (r : R Z m st H) {p : Addr} (h : H p = none) : p ∉ m:=fun z=>by
 obtain ⟨o,q⟩:=r.in z
 rw [h] at q; cases q
theorem Go.new (r : R Z m st H) {p : Addr} {o : HO} (h : H p = none) : Go m H m (upd H p o):=by
 refine ⟨List.prefix_refl m,fun b u e _=>?_,fun b e=>?_,fun l a hl e=>by rw [List.getElem?_eq_none hl] at e; cases e⟩
 · rw [aD (aH e h)]; exact e
 · unfold L2.upd at e
   split at e
   · cases e
   · exact e
theorem R.upd (r : R Z m st H) {p : Addr} {o : HO} (h : H p = none) : R Z m st (upd H p o):=by
 refine ⟨r.len,r.inj,fun l a fz ds e1 e2=>?_⟩
 obtain ⟨vs,h1,h2⟩:=r.obj l a fz ds e1 e2
 obtain ⟨o,ho⟩:=h1.tr
 exact ⟨vs,h1.upd (aH ho h),h2.mono (Go.new r h)⟩
theorem R.new (r : R Z m st H) {p : Addr} {vs : List V} {ds : List U} (h : H p = none) (hv : ak Z m H vs ds) :
   Go m H (m ++ [p]) (L2.upd H p (.lst vs)) ∧ R Z (m ++ [p]) (st ++ [(false,ds)]) (L2.upd H p (.lst vs)) ∧ bf Z (m ++ [p]) (L2.upd H p (.lst vs)) (.ref p) (.loc st.length):=by
 have hp:=r.out h
 have g : Go m H (m ++ [p]) (L2.upd H p (.lst vs)):=by
   have g0:=Go.new r (o:=.lst vs) h
   refine ⟨List.prefix_append m [p],g0.kp,g0.tr,fun l a hl e=>?_⟩
   rw [List.getElem?_append_right hl] at e
   have:=List.mem_of_getElem? e
   rw [List.mem_singleton] at this
   rw [this]; exact h
 have hl : (m ++ [p])[st.length]? = some p:=by rw [← r.len,List.getElem?_append_right (Nat.le_refl _),Nat.sub_self]; rfl
 refine ⟨g,⟨by rw [List.length_append,List.length_append,r.len]; rfl,fun i j a e1 e2=>?_,fun l a fz es e1 e2=>?_⟩,.loc hl⟩
 · have key : ∀ (i : Nat) a,(m ++ [p])[i]? = some a → (m[i]? = some a ∧ a ≠ p) ∨ (i = m.length ∧ a = p):=fun i a e=>by
     rcases Nat.lt_or_ge i m.length with q | q
     · rw [List.getElem?_append_left q] at e
       exact .inl ⟨e,fun z=>hp (z ▸ List.mem_of_getElem? e)⟩
     · have hi:=(List.getElem?_eq_some_iff.mp e).1
       rw [List.length_append,List.length_singleton] at hi
       rw [List.getElem?_append_right q] at e
       have:=List.mem_of_getElem? e
       rw [List.mem_singleton] at this
       exact .inr ⟨by omega,this⟩
   rcases key i a e1 with ⟨q1,q2⟩ | ⟨q1,q2⟩ <;> rcases key j a e2 with ⟨w1,w2⟩ | ⟨w1,w2⟩
   · exact r.inj i j a q1 w1
   · exact absurd w2 q2
   · exact absurd q2 w2
   · rw [q1,w1]
 · rcases Nat.lt_or_ge l m.length with q | q
   · rw [List.getElem?_append_left q] at e1
     rw [List.getElem?_append_left (by rw [← r.len]; exact q)] at e2
     obtain ⟨ws,h1,h2⟩:=r.obj l a fz es e1 e2
     obtain ⟨o,ho⟩:=h1.tr
     exact ⟨ws,h1.upd (aH ho h),h2.mono g⟩
   · have hi:=(List.getElem?_eq_some_iff.mp e1).1
     rw [List.length_append,List.length_singleton] at hi
     obtain rfl : l = m.length:=by omega
     rw [List.getElem?_append_right (Nat.le_refl _),Nat.sub_self] at e1
     rw [r.len,List.getElem?_append_right (Nat.le_refl _),Nat.sub_self] at e2
     cases e1; cases e2
     exact ⟨vs,by unfold Lay; rw [if_neg (by decide)]; exact cT,hv.mono g⟩
theorem R.put (r : R Z m st H) {l : Nat} {a : Addr} {vs : List V} {es ds : List U} (e : m[l]? = some a) (hs : st[l]? = some (false,es)) (hv : ak Z m H vs ds) :
   Go m H m (L2.upd H a (.lst vs)) ∧ R Z m (st.set l (false,ds)) (L2.upd H a (.lst vs)):=by
 obtain ⟨us,hu,_⟩:=r.obj l a false es e hs
 have ha : H a = some (.lst us):=by unfold Lay at hu; rw [if_neg (by decide)] at hu; exact hu
 have g : Go m H m (L2.upd H a (.lst vs)):=by
   refine ⟨List.prefix_refl m,fun b u q hn=>?_,fun b q=>?_,fun l a hl e=>by rw [List.getElem?_eq_none hl] at e; cases e⟩
   · by_cases hb : b = a
     · subst hb
       rcases hn with hn | hn
       · exact absurd (List.mem_of_getElem? e) hn
       · rw [ha] at q; cases q; exact absurd rfl (hn us)
     · rw [aD hb]; exact q
   · unfold L2.upd at q
     split at q
     · cases q
     · exact q
 refine ⟨g,⟨by rw [List.length_set]; exact r.len,r.inj,fun k b fz xs e1 e2=>?_⟩⟩
 by_cases hk : k = l
 · subst hk
   rw [e] at e1; cases e1
   rw [List.getElem?_set_self (List.getElem?_eq_some_iff.mp hs).1] at e2
   cases e2
   exact ⟨vs,by unfold Lay; rw [if_neg (by decide)]; exact cT,hv.mono g⟩
 · rw [List.getElem?_set_ne (Ne.symm hk)] at e2
   obtain ⟨ws,h1,h2⟩:=r.obj k b fz xs e1 e2
   exact ⟨ws,h1.upd (fun z=>hk (r.inj k l b e1 (z ▸ e))),h2.mono g⟩
theorem R.side (r : R Z m st H) {p : Addr} {us vs : List V} (h : H p = some (.lst us)) (hp : p ∉ m) : R Z m st (L2.upd H p (.lst vs)) ∧ ∀ {v : V} {d : U},bf Z m H v d → bf Z m (L2.upd H p (.lst vs)) v d:=by
 have kT : ∀ {a : Addr} {xs : List V},SqT Z.K H a xs → SqT Z.K (L2.upd H p (.lst vs)) a xs:=fun {a xs} q=>by
   have ne : ∀ {o : HO},H a = some o → (∀ xs,o ≠ .lst xs) → a ≠ p:=fun ho hn z=>by subst z; rw [h] at ho; cases ho; exact hn us rfl
   rcases q with (q | ⟨o,q⟩) | q
   · exact .inl (.inl (by rw [aD (ne q fun _ z=>nomatch z)]; exact q))
   · exact .inl (.inr ⟨o,by rw [aD (ne q fun _ z=>nomatch z)]; exact q⟩)
   · exact .inr q
 have kF : ∀ {a : Addr} {xs : List V},SqF Z.K H a xs → SqF Z.K (L2.upd H p (.lst vs)) a xs:=fun {a xs} q=>by
   rcases q with ⟨o,q⟩ | q
   · exact .inl ⟨o,by rw [aD (fun z=>by subst z; rw [h] at q; cases q)]; exact q⟩
   · exact .inr q
 have key : (∀ {v : V} {d : U},bf Z m H v d → bf Z m (L2.upd H p (.lst vs)) v d):=by
   intro v d hd
   refine bf.rec (motive_1:=fun v d _=>bf Z m (L2.upd H p (.lst vs)) v d) (motive_2:=fun ws es _=>ak Z m (L2.upd H p (.lst vs)) ws es) .non .bl .int .str (fun h _ ih=>.tup (kT h) ih) (fun h=>.loc h) (fun {a c} q=>.exo ?_) (fun h _ ih=>.kl (kF h) ih) .nil (fun _ _ i1 i2=>.cons i1 i2) hd
   rw [aD (fun z=>by subst z; rw [h] at q; cases q)]; exact q
 have keys : ∀ {ws : List V} {es : List U},ak Z m H ws es → ak Z m (L2.upd H p (.lst vs)) ws es:=by
   intro ws es hd
   refine ak.rec (motive_1:=fun v d _=>bf Z m (L2.upd H p (.lst vs)) v d) (motive_2:=fun ws es _=>ak Z m (L2.upd H p (.lst vs)) ws es) .non .bl .int .str (fun h _ ih=>.tup (kT h) ih) (fun h=>.loc h) (fun {a c} q=>.exo ?_) (fun h _ ih=>.kl (kF h) ih) .nil (fun _ _ i1 i2=>.cons i1 i2) hd
   rw [aD (fun z=>by subst z; rw [h] at q; cases q)]; exact q
 refine ⟨⟨r.len,r.inj,fun l a fz ds e1 e2=>?_⟩,key⟩
 obtain ⟨ws,h1,h2⟩:=r.obj l a fz ds e1 e2
 exact ⟨ws,h1.upd (fun z=>hp (z ▸ List.mem_of_getElem? e1)),keys h2⟩
end
structure bX (Z : Zt) (m : List Addr) (H : Hp) (σ : L2.St) (ρ : Env) : Prop where
 len : σ.length = ρ.length
 get : ∀ (i : Nat) (d : U),ρ[i]? = some (some d) → ∃ v,σ[i]? = some (some v) ∧ bf Z m H v d
theorem bX.mono {Z : Zt} {m m' : List Addr} {H H' : Hp} {σ : L2.St} {ρ : Env} (e : bX Z m H σ ρ) (g : Go m H m' H') : bX Z m' H' σ ρ:=
 ⟨e.len,fun i d h=>let ⟨v,h1,h2⟩:=e.get i d h; ⟨v,h1,h2.mono g⟩⟩
theorem bX.set {Z : Zt} {m : List Addr} {H : Hp} {σ : L2.St} {ρ : Env} (e : bX Z m H σ ρ) {i : Nat} {v : V} {d : U} (h : bf Z m H v d) : bX Z m H (σ.set i (some v)) (ρ.set i (some d)):=by
 refine ⟨by rw [List.length_set,List.length_set]; exact e.len,fun j x hx=>?_⟩
 by_cases q : i = j
 · subst q
   by_cases hl : i < ρ.length
   · rw [List.getElem?_set_self hl] at hx
     cases hx
     exact ⟨v,List.getElem?_set_self (by rw [e.len]; exact hl),h⟩
   · rw [List.getElem?_eq_none (by rw [List.length_set]; omega)] at hx; cases hx
 · rw [List.getElem?_set_ne q] at hx
   rw [List.getElem?_set_ne q]
   exact e.get j x hx
noncomputable def post {α : Type} (ex : Nat → Sto → Prop) (k : α → Sto → Prop) : Rs α → Prop
 | .ok a st=>k a st
 | .exc c st=>ex c st
 | .bad=>False
theorem az {α β : Type} {ex : Nat → Sto → Prop} {k : β → Sto → Prop} {x : Rs α} {f : α → Sto → Rs β} (h : post ex k (x.bind f)) : post ex (fun a st=>post ex k (f a st)) x:=by
 cases x with
 | ok a st=>exact h
 | exc c st=>exact h
 | bad=>exact h
theorem ao {α : Type} {ex ex' : Nat → Sto → Prop} {k k' : α → Sto → Prop} {x : Rs α} (h : post ex k x) (he : ∀ c st,ex c st → ex' c st) (hk : ∀ a st,x = .ok a st → k a st → k' a st) : post ex' k' x:=by
 cases x with
 | ok a st=>exact hk a st rfl h
 | exc c st=>exact he c st h
 | bad=>exact h
theorem pJ {α : Type} {ex : Nat → Sto → Prop} {k : α → Sto → Prop} {x : Rs α} (h : post ex k x.noX) : post (fun _ _=>False) k x:=by
 cases x with
 | ok a st=>exact h
 | exc c st=>exact h
 | bad=>exact h
end Sv
namespace Sv
open PySem PySem.Spec PyProof.Rows L2
open Ev (D aQ aU ai jM j1 eu)
section
variable {Z : Zt} {m : List Addr} {H : Hp} {st : Sto}
theorem lV {f : U → Option D} (ih : ∀ {v : V} {d : U} {x : D},bf Z m H v d → f d = some x → Ev.Den Z.K H v x) : ∀ {vs : List V} {ds : List U} {xs : List D},ak Z m H vs ds → uC f ds = some xs → Ev.xZ Z.K H vs xs
 | _,_,_,.nil,h=>by cases h; exact .nil
 | _,_,_,.cons a r,h=>by
   rw [uC] at h
   obtain ⟨y,h1,h⟩:=Option.bind_eq_some_iff.mp h
   obtain ⟨ys,h2,rfl⟩:=Option.map_eq_some_iff.mp h
   exact .cons (ih a h1) (lV ih r h2)
theorem jo (r : R Z m st H) : ∀ (n : Nat) {v : V} {d : U} {x : D},bf Z m H v d → rsv st n d = some x → Ev.Den Z.K H v x
 | n,_,_,_,.non,h=>by cases n <;> (rw [rsv] at h; cases h; exact .non)
 | n,_,_,_,.bl,h=>by cases n <;> (rw [rsv] at h; cases h; exact .bl)
 | n,_,_,_,.int,h=>by cases n <;> (rw [rsv] at h; cases h; exact .int)
 | n,_,_,_,.str,h=>by cases n <;> (rw [rsv] at h; cases h; exact .str)
 | 0,_,_,_,.tup _ _,h=>by rw [rsv] at h <;> first | cases h | (intros; simp_all)
 | n + 1,_,_,_,.tup q rr,h=>by
   rw [rsv] at h
   obtain ⟨xs,h1,rfl⟩:=Option.map_eq_some_iff.mp h
   exact .tup q (lV (fun a b=>jo r n a b) rr h1)
 | 0,_,_,_,.kl _ _,h=>by rw [rsv] at h <;> first | cases h | (intros; simp_all)
 | n + 1,_,_,_,.kl q rr,h=>by
   rw [rsv] at h
   obtain ⟨xs,h1,rfl⟩:=Option.map_eq_some_iff.mp h
   exact .lst q.sq (lV (fun a b=>jo r n a b) rr h1)
 | 0,_,_,_,.loc _,h=>by rw [rsv] at h <;> first | cases h | (intros; simp_all)
 | n + 1,_,_,_,.loc q,h=>by
   rw [rsv] at h
   split at h
   · rename_i xs e
     obtain ⟨ys,h1,rfl⟩:=Option.map_eq_some_iff.mp h
     obtain ⟨a,vs,e1,l1,d1⟩:=r.at e
     rw [q] at e1; cases e1
     exact .lst l1.sq (lV (fun a b=>jo r n a b) d1 h1)
   · cases h
 | n,_,_,_,.exo _,h=>by cases n <;> (rw [rsv] at h <;> first | cases h | (intros; simp_all))
end
noncomputable def kE (Z : Zt) (Ex : Nat → Hp → Prop) (m : List Addr) (H : Hp) : Nat → Sto → Prop:=fun c st'=>∀ m' H',Go m H m' H' → R Z m' st' H' → Ex c H'
noncomputable def kV (Z : Zt) (m : List Addr) (H : Hp) (Q : VK) : U → Sto → Prop:=fun d st'=>∀ m' H' v,Go m H m' H' → R Z m' st' H' → bf Z m' H' v d → Q v H'
noncomputable def kB (Z : Zt) (m : List Addr) (H : Hp) (Q : Bool → Hp → Prop) : Bool → Sto → Prop:=fun b st'=>∀ m' H',Go m H m' H' → R Z m' st' H' → Q b H'
noncomputable def kT (Z : Zt) (m : List Addr) (H : Hp) (Q : Bool → Hp → Prop) : U → Sto → Prop:=fun d st'=>∃ b,d = .bl b ∧ ∀ m' H',Go m H m' H' → R Z m' st' H' → Q b H'
noncomputable def kA (Z : Zt) (m : List Addr) (H : Hp) (Q : List V → Hp → Prop) : List U → Sto → Prop:=fun ds st'=>∀ m' H' vs,Go m H m' H' → R Z m' st' H' → ak Z m' H' vs ds → Q vs H'
theorem kE.sh {Z : Zt} {Ex : Nat → Hp → Prop} {m m1 : List Addr} {H H1 : Hp} (g : Go m H m1 H1) : ∀ c st,kE Z Ex m H c st → kE Z Ex m1 H1 c st:=fun _ _ h m' H' g'=>h m' H' (g.trans g')
theorem kV.sh {Z : Zt} {m m1 : List Addr} {H H1 : Hp} {Q : VK} (g : Go m H m1 H1) : ∀ d st,kV Z m H Q d st → kV Z m1 H1 Q d st:=fun _ _ h m' H' v g'=>h m' H' v (g.trans g')
theorem kT.sh {Z : Zt} {m m1 : List Addr} {H H1 : Hp} {Q : Bool → Hp → Prop} (g : Go m H m1 H1) : ∀ d st,kT Z m H Q d st → kT Z m1 H1 Q d st:=fun _ _ ⟨b,e,h⟩=>⟨b,e,fun m' H' g'=>h m' H' (g.trans g')⟩
noncomputable abbrev Po (Z : Zt) (Ex : Nat → Hp → Prop) (m : List Addr) (H : Hp) (Q : VK) (x : Rs U) : Prop:=post (kE Z Ex m H) (kV Z m H Q) x
theorem Po.sh {Z : Zt} {Ex : Nat → Hp → Prop} {m m1 : List Addr} {H H1 : Hp} {Q : VK} {x : Rs U} (h : Po Z Ex m H Q x) (g : Go m H m1 H1) : Po Z Ex m1 H1 Q x:=ao h (kE.sh g) fun a st _=>kV.sh g a st
noncomputable abbrev PoT (Z : Zt) (Ex : Nat → Hp → Prop) (m : List Addr) (H : Hp) (Q : Bool → Hp → Prop) (x : Rs U) : Prop:=post (kE Z Ex m H) (kT Z m H Q) x
theorem PoT.sh {Z : Zt} {Ex : Nat → Hp → Prop} {m m1 : List Addr} {H H1 : Hp} {Q : Bool → Hp → Prop} {x : Rs U} (h : PoT Z Ex m H Q x) (g : Go m H m1 H1) : PoT Z Ex m1 H1 Q x:=ao h (kE.sh g) fun a st _=>kT.sh g a st
section
variable (Z : Zt) (Φ : Fn) (Ex : Nat → Hp → Prop)
noncomputable def lE (e : E) : TE:=fun σ H Q=>∃ m st ρ,R Z m st H ∧ bX Z m H σ ρ ∧ Po Z Ex m H Q (xE Φ e ρ st)
noncomputable def lT (e : E) : TT:=fun σ H Q=>∃ m st ρ,R Z m st H ∧ bX Z m H σ ρ ∧ PoT Z Ex m H Q (xE Φ e ρ st)
noncomputable def lIf (es : List E) : TT:=fun σ H Q=>∃ m st ρ,R Z m st H ∧ bX Z m H σ ρ ∧ post (kE Z Ex m H) (kB Z m H Q) (xIf Φ es ρ st)
noncomputable def lEs (es : List E) : TA:=fun σ H Q=>∃ m st ρ,R Z m st H ∧ bX Z m H σ ρ ∧ post (kE Z Ex m H) (kA Z m H Q) (xEs Φ es ρ st)
noncomputable def lP (e : E) : TO:=fun σ H Q=>∃ m st ρ,R Z m st H ∧ bX Z m H σ ρ ∧ post (kE Z Ex m H) (fun d st'=>∃ o,xj e d = some o ∧ ∀ m' H',Go m H m' H' → R Z m' st' H' → Q o H') (xE Φ e ρ st)
noncomputable def lG (t : Tg) : TG:=fun v σ H Q=>∃ m st ρ d ρ',R Z m st H ∧ bX Z m H σ ρ ∧ bf Z m H v d ∧ hZ t d ρ = some ρ' ∧ ∀ σ',bX Z m H σ' ρ' → Q σ' H
noncomputable def Yl (J : L2.It) (q : Sq) (m0 : List Addr) (H0 : Hp) : Prop:=∀ m st H,Go m0 H0 m H → R Z m st H → ∀ i,match q.at st i with
 | none=>True
 | some none=>J.stop i H
 | some (some x)=>J.go i H ∧ ∀ v H',J.yld i H v H' → Go m H m H' ∧ R Z m st H' ∧ bf Z m H' v x
noncomputable def lI (it : It) : TI:=fun σ H Rr=>∃ m st ρ,R Z m st H ∧ bX Z m H σ ρ ∧ post (kE Z Ex m H) (fun q st'=>∀ J m' H',Go m H m' H' → R Z m' st' H' → Yl Z J q m' H' → Rr J H') (xIt Φ it ρ st)
noncomputable def spU (F : List U → Sto → Rs U) : Sp:=fun vs H Q E=>∃ m st ds,R Z m st H ∧ ak Z m H vs ds ∧ post (fun c st'=>∀ m' H',Go m H m' H' → R Z m' st' H' → E (.ref (Z.cl c)) none H') (kV Z m H Q) (F ds st)
noncomputable def xk : XK:=fun C _ H'=>∃ c,C = .ref (Z.cl c) ∧ Ex c H'
end
noncomputable def rO (Z : Zt) (Ex : Nat → Hp → Prop) (g : U → U → Sto → Rs U) : R2:=fun x y H Q=>∃ m st a b,R Z m st H ∧ bf Z m H x a ∧ bf Z m H y b ∧ Po Z Ex m H Q (g a b st)
noncomputable def rB (Z : Zt) (Ex : Nat → Hp → Prop) (g : List U → Sto → Rs U) : List V → Hp → VK → Prop:=fun xs H Q=>∃ m st ds,R Z m st H ∧ ak Z m H xs ds ∧ Po Z Ex m H Q (g ds st)
noncomputable abbrev zt (X : Cx) (cl : Nat → Addr) : Zt:=⟨X.K,cl⟩
theorem Po.ok {Z : Zt} {Ex : Nat → Hp → Prop} {m : List Addr} {H : Hp} {Q : VK} {d : U} {st : Sto} (h : Po Z Ex m H Q (.ok d st)) (r : R Z m st H) {v : V} (dv : bf Z m H v d) : Q v H:=h m H v (Go.refl m H) r dv
theorem Po.new {Z : Zt} {Ex : Nat → Hp → Prop} {m : List Addr} {H : Hp} {Q : VK} {st : Sto} {xs : List U} (h : Po Z Ex m H Q (new st xs)) (r : R Z m st H) {vs : List V} (dv : ak Z m H vs xs) {p : Addr} (hp : H p = none) : Q (.ref p) (upd H p (.lst vs)):=by
 obtain ⟨g,r',d'⟩:=r.new hp dv
 exact h _ _ _ g r' d'
theorem Po.tup {Z : Zt} {Ex : Nat → Hp → Prop} {m : List Addr} {H : Hp} {Q : VK} {st : Sto} {xs : List U} (h : Po Z Ex m H Q (.ok (.tup xs) st)) (r : R Z m st H) {vs : List V} (dv : ak Z m H vs xs) {p : Addr} (hp : H p = none) : Q (.ref p) (upd H p (.tup vs)):=
 h m _ _ (Go.new r hp) (r.upd hp) (.tup (.inl (.inl cT)) (dv.mono (Go.new r hp)))
noncomputable def trO : Operator → Option Op2
 | .Add=>some .add
 | .Sub=>some .sub
 | .Mult=>some .mul
 | .FloorDiv=>some .fdiv
 | .Mod=>some .mod
 | .Pow=>some .pow
 | .RShift=>some .shr
 | .LShift=>some .shl
 | .BitAnd=>some .band
 | .BitOr=>some .bor
 | _=>none
noncomputable def trC : CmpOp → Option Cm
 | .Eq=>some .eq
 | .NotEq=>some .ne
 | .Lt=>some .lt
 | .LtE=>some .le
 | .Gt=>some .gt
 | .GtE=>some .ge
 | .In=>some .isin
 | _=>none
section
variable {X : Cx} {cl : Nat → Addr} {Ex : Nat → Hp → Prop}
theorem fA {f : Value → Value → Sem Value} {C : Int → Int → Prop} {g : Int → Int → V} {h : U → U → Sto → Rs U} {h' : Int → Int → U} (o : OpR X f (rI C g))
   (sh : ∀ a b st,h a b st = .bad ∨ ∃ i j,a = .int i ∧ b = .int j ∧ C i j ∧ h a b st = .ok (h' i j) st) (sd : ∀ Z m H i j,bf Z m H (g i j) (h' i j)) : OpR X f (rO (zt X cl) Ex h):=by
 intro pins s σ H x y v u Q I rx ry q
 obtain ⟨m,st,a,b,r,dx,dy,q⟩:=q
 rcases sh a b st with e | ⟨i,j,rfl,rfl,c,e⟩
 · rw [e] at q; exact q.elim
 · rw [e] at q
   have e1:=oO dx
   have e2:=oO dy
   subst e1 e2
   exact o pins s σ H _ _ v u Q I rx ry ⟨i,j,rfl,rfl,c,q.ok r (sd _ _ _ _ _)⟩
theorem JH : ∀ {op : Operator} {o : Op2},trO op = some o → OpR X (binaryOp op) (rO (zt X cl) Ex (ev2 o)):=by
 intro op o h
 cases op <;> simp only [trO.eq_def,Option.some.injEq,reduceCtorEq] at h <;> subst h
 case Add=>
   intro pins s σ H x y v u Q I rx ry q
   obtain ⟨m,st,a,b,r,dx,dy,q⟩:=q
   cases dx <;> first | exact False.elim q | (cases dy <;> first | exact False.elim q | simp only [ev2.eq_def] at q)
   case int.int i j=>exact Ev.D4 pins s σ H _ _ v u Q I rx ry ⟨i,j,rfl,rfl,trivial,q.ok r .int⟩
   case str.str x y=>
     split at q
     · rename_i hl
       exact wW pins s σ H _ _ v u Q I rx ry ⟨_,_,rfl,rfl,by have:=Ev.bZ; omega,q.ok r .str⟩
     · exact q.elim
   case tup.tup p vs xs h1 r1 p2 vs2 ys h2 r2=>
     split at q
     · rename_i hl
       have l1:=r1.length
       have l2:=r2.length
       refine EU pins s σ H _ _ v u Q I rx ry ⟨p,p2,vs,vs2,rfl,rfl,h1,h2,?_,?_,fun e=>?_,fun _ z hz=>q.tup r (r1.append r2) hz⟩
       · intro z; rw [z] at l1; exact hl.1 (List.eq_nil_of_length_eq_zero l1.symm)
       · have:=Ev.bZ; have:=hl.2; omega
       · subst e
         have : ys = []:=List.eq_nil_of_length_eq_zero l2.symm
         subst this
         rw [List.append_nil] at q
         exact q.ok r (.tup h1 r1)
     · exact q.elim
   case loc.loc a l h1 a2 l2 h2=>
     split at q
     · rename_i xs ys e1 e2
       split at q
       · rename_i hl
         obtain ⟨b,vs,f1,f2,f3⟩:=r.at e1
         obtain ⟨b2,vs2,g1,g2,g3⟩:=r.at e2
         rw [h1] at f1; cases f1
         rw [h2] at g1; cases g1
         have l1:=f3.length
         have l2:=g3.length
         refine Ev.oR pins s σ H _ _ v u Q I rx ry ⟨_,_,vs,vs2,rfl,rfl,f2.sq,g2.sq,?_,fun z hz=>q.new r (f3.append g3) hz⟩
         have:=Ev.bZ
         omega
       · exact q.elim
     · exact q.elim
   case loc.kl a l h1 a2 vs2 ys h2 g3=>
     split at q
     · rename_i xs e1
       split at q
       · rename_i hl
         obtain ⟨b,vs,f1,f2,f3⟩:=r.at e1
         rw [h1] at f1; cases f1
         have l1:=f3.length
         have l2:=g3.length
         refine Ev.oR pins s σ H _ _ v u Q I rx ry ⟨_,_,vs,vs2,rfl,rfl,f2.sq,h2.sq,?_,fun z hz=>q.new r (f3.append g3) hz⟩
         have:=Ev.bZ
         omega
       · exact q.elim
     · exact q.elim
   case kl.loc a vs xs h1 f3 a2 l2 h2=>
     split at q
     · rename_i ys e2
       split at q
       · rename_i hl
         obtain ⟨b2,vs2,g1,g2,g3⟩:=r.at e2
         rw [h2] at g1; cases g1
         have l1:=f3.length
         have l2:=g3.length
         refine Ev.oR pins s σ H _ _ v u Q I rx ry ⟨_,_,vs,vs2,rfl,rfl,h1.sq,g2.sq,?_,fun z hz=>q.new r (f3.append g3) hz⟩
         have:=Ev.bZ
         omega
       · exact q.elim
     · exact q.elim
   case kl.kl a vs xs h1 f3 a2 vs2 ys h2 g3=>
     split at q
     · rename_i hl
       have l1:=f3.length
       have l2:=g3.length
       refine Ev.oR pins s σ H _ _ v u Q I rx ry ⟨_,_,vs,vs2,rfl,rfl,h1.sq,h2.sq,?_,fun z hz=>q.new r (f3.append g3) hz⟩
       have:=Ev.bZ
       omega
     · exact q.elim
 case Sub=>exact fA (h':=fun i j=>.int (i - j)) Ev.Ed (fun a b st=>by cases a <;> first | exact .inl rfl | (cases b <;> first | exact .inl rfl | exact .inr ⟨_,_,rfl,rfl,trivial,rfl⟩)) fun _ _ _ _ _=>.int
 case Mult=>
   refine fA (h':=fun i j=>.int (i * j)) Ev.DZ (fun a b st=>?_) fun _ _ _ _ _=>.int
   cases a <;> first | exact .inl rfl | (cases b <;> first | exact .inl rfl | skip)
   simp only [ev2.eq_def]
   split
   · exact .inr ⟨_,_,rfl,rfl,by assumption,rfl⟩
   · exact .inl rfl
 case FloorDiv=>
   refine fA (h':=fun i j=>.int (i.fdiv j)) Ev.CZ (fun a b st=>?_) fun _ _ _ _ _=>.int
   cases a <;> first | exact .inl rfl | (cases b <;> first | exact .inl rfl | skip)
   simp only [ev2.eq_def]
   split
   · exact .inr ⟨_,_,rfl,rfl,by assumption,rfl⟩
   · exact .inl rfl
 case Mod=>
   refine fA (h':=fun i j=>.int (i.fmod j)) Ff (fun a b st=>?_) fun _ _ _ _ _=>.int
   cases a <;> first | exact .inl rfl | (cases b <;> first | exact .inl rfl | skip)
   simp only [ev2.eq_def]
   split
   · exact .inr ⟨_,_,rfl,rfl,by assumption,rfl⟩
   · exact .inl rfl
 case Pow=>
   refine fA (h':=fun i j=>.int (i ^ j.toNat)) Jk (fun a b st=>?_) fun _ _ _ _ _=>.int
   cases a <;> first | exact .inl rfl | (cases b <;> first | exact .inl rfl | skip)
   simp only [ev2.eq_def]
   split
   · exact .inr ⟨_,_,rfl,rfl,by assumption,rfl⟩
   · exact .inl rfl
 case RShift=>
   refine fA (h':=fun i j=>.int (i / 2 ^ j.toNat)) GR (fun a b st=>?_) fun _ _ _ _ _=>.int
   cases a <;> first | exact .inl rfl | (cases b <;> first | exact .inl rfl | skip)
   simp only [ev2.eq_def]
   split
   · exact .inr ⟨_,_,rfl,rfl,by assumption,rfl⟩
   · exact .inl rfl
 case LShift=>
   refine fA (h':=fun i j=>.int (i * 2 ^ j.toNat)) Hk (fun a b st=>?_) fun _ _ _ _ _=>.int
   cases a <;> first | exact .inl rfl | (cases b <;> first | exact .inl rfl | skip)
   simp only [ev2.eq_def]
   split
   · exact .inr ⟨_,_,rfl,rfl,by assumption,rfl⟩
   · exact .inl rfl
 case BitAnd=>exact fA (h':=fun i j=>.int (Builtin.bitAnd i j)) Ev.Er (fun a b st=>by cases a <;> first | exact .inl rfl | (cases b <;> first | exact .inl rfl | exact .inr ⟨_,_,rfl,rfl,trivial,rfl⟩)) fun _ _ _ _ _=>.int
 case BitOr=>
   have orB : OpR X (binaryOp .BitOr) (rI (fun _ _=>True) fun i j=>.int (Builtin.bitOr i j)):=fun pins s σ H x y v u Q I rx ry ⟨i,j,h1,h2,_,q⟩=>JZ pins s σ H x y v u Q I rx ry ⟨i,j,h1,h2,q⟩
   exact fA (h':=fun i j=>.int (Builtin.bitOr i j)) orB (fun a b st=>by cases a <;> first | exact .inl rfl | (cases b <;> first | exact .inl rfl | exact .inr ⟨_,_,rfl,rfl,trivial,rfl⟩)) fun _ _ _ _ _=>.int
theorem uH {Z : Zt} {m : List Addr} {H : Hp} : ∀ {vs : List V} {ds : List U} {us : List Value} {l : List Str},ak Z m H vs ds → Vals vs us → n9 ds = some l → StrsAre us l
 | _,_,_,_,.nil,r,h=>by cases r; cases h; exact .nil
 | _,_,_,_,.cons d ds,r,h=>by
   cases r with
   | cons ra rr=>
     cases d with
     | str=>
       rw [n9] at h
       obtain ⟨l',h1,rfl⟩:=Option.map_eq_some_iff.mp h
       obtain ⟨t,rfl⟩:=ra
       exact .cons _ t (uH ds rr h1)
     | _=>cases h
noncomputable def rC (Z : Zt) (Ex : Nat → Hp → Prop) (o : Cm) : R2:=rO Z Ex fun a b st=>ofO (evC o a b st) st
theorem nA (hu : X.A.units + 64 < cLine) : ∀ {op : CmpOp} {o : Cm},trC op = some o → OpR X (compareOp op) (rC (zt X cl) Ex o):=by
 intro op o h
 have ltB : OpR X (compareOp .Lt) (rI (fun _ _=>True) fun i j=>.bl (decide (i < j))):=fun pins s σ H x y v u Q I rx ry ⟨i,j,h1,h2,_,q⟩=>J8 pins s σ H x y v u Q I rx ry ⟨i,j,h1,h2,q⟩
 have leB : OpR X (compareOp .LtE) (rI (fun _ _=>True) fun i j=>.bl (decide (i ≤ j))):=fun pins s σ H x y v u Q I rx ry ⟨i,j,h1,h2,_,q⟩=>KA pins s σ H x y v u Q I rx ry ⟨i,j,h1,h2,q⟩
 have gtB : OpR X (compareOp .Gt) (rI (fun _ _=>True) fun i j=>.bl (decide (j < i))):=fun pins s σ H x y v u Q I rx ry ⟨i,j,h1,h2,_,q⟩=>JW pins s σ H x y v u Q I rx ry ⟨i,j,h1,h2,q⟩
 have geB : OpR X (compareOp .GtE) (rI (fun _ _=>True) fun i j=>.bl (decide (j ≤ i))):=fun pins s σ H x y v u Q I rx ry ⟨i,j,h1,h2,_,q⟩=>KZ pins s σ H x y v u Q I rx ry ⟨i,j,h1,h2,q⟩
 cases op <;> simp only [trC.eq_def,Option.some.injEq,reduceCtorEq] at h <;> subst h
 case Eq=>
   intro pins s σ H x y v u Q I rx ry q
   obtain ⟨m,st,a,b,r,dx,dy,q⟩:=q
   simp only [evC.eq_def] at q
   split at q
   · rename_i a' b' e1 e2
     split at q
     · rename_i c
       obtain ⟨as,r1⟩:=Ev.jU I (nJ.refl H) (jo r _ dx e1) rx
       obtain ⟨bs,r2⟩:=Ev.jU I (nJ.refl H) (jo r _ dy e2) ry
       exact eq_dataH r1 r2 (Ev.iY c.1) (Ev.iY c.2) hu ⟨.bl _,H,I,by rw [Ev.sj]; rfl,Po.ok q r .bl⟩
     · exact q.elim
   · exact q.elim
 case NotEq=>
   intro pins s σ H x y v u Q I rx ry q
   obtain ⟨m,st,a,b,r,dx,dy,q⟩:=q
   simp only [evC.eq_def] at q
   split at q
   · rename_i a' b' e1 e2
     split at q
     · rename_i c
       obtain ⟨as,r1⟩:=Ev.jU I (nJ.refl H) (jo r _ dx e1) rx
       obtain ⟨bs,r2⟩:=Ev.jU I (nJ.refl H) (jo r _ dy e2) ry
       exact ne_dataH r1 r2 (Ev.iY c.1) (Ev.iY c.2) hu ⟨.bl _,H,I,by rw [Ev.sj]; rfl,Po.ok q r .bl⟩
     · exact q.elim
   · exact q.elim
 case In=>
   intro pins s σ H x y v u Q I rx ry q
   obtain ⟨m,st,a,b,r,dx,dy,q⟩:=q
   cases dx with
   | str=>
     cases dy with
     | tup h1 r1=>
       rename_i i b' vs ys
       have e : evC .isin (.str i) (.tup ys) st = (n9 ys).map fun l=>l.any (· == i):=rfl
       dsimp only at q
       rw [e] at q
       cases hs : n9 ys with
       | none=>rw [hs] at q; exact q.elim
       | some l=>
         rw [hs] at q
         obtain ⟨t,rfl⟩:=rx
         cases ry
         obtain ⟨its,rv,tp,hz⟩:=I.tuple h1
         exact in_tuple_strs tp (by simpa using uH r1 rv hs) ⟨.bl _,H,I,rfl,Po.ok q r .bl⟩
     | _=>exact q.elim
   | _=>cases dy <;> exact q.elim
 case Lt=>exact fA (h':=fun i j=>.bl (decide (i < j))) ltB (fun a b st=>by cases a <;> first | exact .inl rfl | (cases b <;> first | exact .inl rfl | exact .inr ⟨_,_,rfl,rfl,trivial,rfl⟩)) fun _ _ _ _ _=>.bl
 case LtE=>exact fA (h':=fun i j=>.bl (decide (i ≤ j))) leB (fun a b st=>by cases a <;> first | exact .inl rfl | (cases b <;> first | exact .inl rfl | exact .inr ⟨_,_,rfl,rfl,trivial,rfl⟩)) fun _ _ _ _ _=>.bl
 case Gt=>exact fA (h':=fun i j=>.bl (decide (j < i))) gtB (fun a b st=>by cases a <;> first | exact .inl rfl | (cases b <;> first | exact .inl rfl | exact .inr ⟨_,_,rfl,rfl,trivial,rfl⟩)) fun _ _ _ _ _=>.bl
 case GtE=>exact fA (h':=fun i j=>.bl (decide (j ≤ i))) geB (fun a b st=>by cases a <;> first | exact .inl rfl | (cases b <;> first | exact .inl rfl | exact .inr ⟨_,_,rfl,rfl,trivial,rfl⟩)) fun _ _ _ _ _=>.bl
end
end Sv
namespace Sv
open PySem PySem.Spec PyProof.Rows L2
open Ev (D aQ aU ai jM j1 eu)
section
variable {X : Cx} {cl : Nat → Addr} {Ex : Nat → Hp → Prop}
theorem oU {Z : Zt} {m : List Addr} {H : Hp} {st : Sto} (r : R Z m st H) {v : V} {d : U} {xs : List U} (dv : bf Z m H v d) (e : seq? st d = some xs) :
   ∃ p vs,v = .ref p ∧ (SqL Z.K H p vs ∨ (SqT Z.K H p vs ∧ d = .tup xs)) ∧ ak Z m H vs xs:=by
 cases dv with
 | tup h1 r1=>cases e; exact ⟨_,_,rfl,.inr ⟨h1,rfl⟩,r1⟩
 | kl h1 r1=>cases e; exact ⟨_,_,rfl,.inl h1.sq,r1⟩
 | loc h=>
   simp only [seq?] at e
   obtain ⟨⟨fz,ys⟩,e1,e2⟩:=Option.map_eq_some_iff.mp e
   cases e2
   obtain ⟨a,vs,f1,f2,f3⟩:=r.at e1
   rw [h] at f1; cases f1
   exact ⟨_,vs,rfl,.inl f2.sq,f3⟩
 | _=>cases e
theorem me {Z : Zt} {m : List Addr} {H : Hp} {st : Sto} (r : R Z m st H) {v : V} {d : U} {xs : List U} (dv : bf Z m H v d) (e : ur st d = some xs) :
   ∃ p vs,v = .ref p ∧ SqL Z.K H p vs ∧ ak Z m H vs xs:=by
 cases dv with
 | kl h1 r1=>cases e; exact ⟨_,_,rfl,h1.sq,r1⟩
 | loc h=>
   simp only [ur] at e
   obtain ⟨⟨fz,ys⟩,e1,e2⟩:=Option.map_eq_some_iff.mp e
   cases e2
   obtain ⟨a,vs,f1,f2,f3⟩:=r.at e1
   rw [h] at f1; cases f1
   exact ⟨_,vs,rfl,f2.sq,f3⟩
 | _=>cases e
theorem Jo : e6 X (.builtin "len") (rB (zt X cl) Ex (evB .len)):=by
 intro pins s σ H xs us Q I r q
 obtain ⟨m,st,ds,rr,dn,q⟩:=q
 match ds,q with
 | [x],q=>
   obtain ⟨v,rfl,dx⟩:=mM dn
   simp only [evB.eq_def] at q
   split at q
   · rename_i ys e
     obtain ⟨p,vs,rfl,h1,h2⟩:=oU rr dx e
     have hl:=h2.length
     refine sP pins s σ H _ us Q I r ⟨p,vs,rfl,h1.imp id fun z=>z.1,?_⟩
     rw [hl]; exact Po.ok q rr .int
   · exact q.elim
theorem JB : e6 X (.builtin "abs") (rB (zt X cl) Ex (evB .abs)):=by
 intro pins s σ H xs us Q I r q
 obtain ⟨m,st,ds,rr,dn,q⟩:=q
 match ds,q with
 | [.int i],q=>
   obtain ⟨x,rfl,dx⟩:=mM dn
   cases dx
   exact A6 pins s σ H _ us Q I r ⟨i,rfl,Po.ok q rr .int⟩
theorem kI {Z : Zt} {m : List Addr} {H : Hp} : ∀ {vs : List V} {ds : List U} {us : List Value} {ns : List Int},ak Z m H vs ds → Vals vs us → mi ds = some ns → ∃ xs : List (Int × Tok),us = xs.map (fun p=>Value.int p.1 p.2) ∧ xs.map (·.1) = ns
 | _,_,_,_,.nil,.nil,h=>by cases h; exact ⟨[],rfl,rfl⟩
 | _,_,_,ns,.cons dv r,.cons rv rs,h=>by
   cases dv with
   | @int i=>
     rw [mi] at h
     obtain ⟨ns',h1,rfl⟩:=Option.map_eq_some_iff.mp h
     obtain ⟨xs,rfl,rfl⟩:=kI r rs h1
     obtain ⟨t,rfl⟩:=(show ∃ t,_ = Value.int i t from rv)
     exact ⟨(i,t) :: xs,rfl,rfl⟩
   | _=>cases h
theorem E9 {a M : Int} {as : List Int} (h1 : M ∈ a :: as) (h2 : ∀ x ∈ a :: as,x ≤ M) : tP a as = M:=by
 obtain ⟨z1,z2,z3⟩:=PyProof.Rows.fold_max as a
 have k1 : tP a as ∈ a :: as:=by rcases z1 with z | z; exact List.mem_cons.mpr (.inl z); exact List.mem_cons_of_mem _ z
 have k2 : M ≤ tP a as:=by rcases List.mem_cons.mp h1 with rfl | z; exact z2; exact z3 _ z
 exact Int.le_antisymm (h2 _ k1) k2
theorem Gq (hc : X.calm = true) : e6 X (.builtin "max") (rB (zt X cl) Ex (evB .max)):=by
 intro pins s σ H xs us Q I r q
 obtain ⟨m,st,ds,rr,dn,q⟩:=q
 match ds,q with
 | [.int i,.int j],q=>
   obtain ⟨x,y,rfl,dx,dy⟩:=I0 dn
   cases dx; cases dy
   exact Aa hc pins s σ H _ us Q I r ⟨i,j,rfl,Po.ok q rr .int⟩
 | [x],q=>
   obtain ⟨v,rfl,dx⟩:=mM dn
   simp only [evB.eq_def] at q
   split at q
   · rename_i ys e
     obtain ⟨p,vs,rfl,h1,h2⟩:=me rr dx e
     cases hb : mi ys with
     | none=>rw [hb] at q; exact q.elim
     | some ns=>
       match ns,hb with
       | [],hb=>rw [hb] at q; exact q.elim
       | a :: as,hb=>
         rw [hb] at q
         obtain ⟨u,rfl,ru⟩:=vals1 r
         cases (show u = Value.ref _ from ru)
         obtain ⟨its,rv,p,hz⟩:=I.list h1
         obtain ⟨xs,rfl,hx⟩:=kI h2 rv hb
         have hlen : 0 < xs.length:=by have:=congrArg List.length hx; simp only [List.length_map,List.length_cons] at this; omega
         refine max_intList (xs:=xs.toArray) (I.ok.hd hc) (by have:=p.isList; simpa [intItems] using this) (by simpa using hlen) fun v h' tk hv k=>?_
         obtain ⟨g1,g2⟩:=argBest_gt (numAt xs.toArray) (xs.toArray.size - 1)
         rw [List.size_toArray] at g1 g2 hv
         revert hv g1 g2
         generalize argBest (fun i j=>decide (numAt xs.toArray i > numAt xs.toArray j)) (xs.length - 1) = b
         intro hv g1 g2
         have nat : ∀ i (w : Int × Tok),xs[i]? = some w → numAt xs.toArray i = w.1:=fun i w e=>by simp [numAt,e]
         obtain ⟨w,hw⟩ : ∃ w,xs[b]? = some w:=⟨xs[b]'(by omega),List.getElem?_eq_getElem _⟩
         have ev : v = Value.int w.1 w.2:=by
           simp only [intItems,Array.getElem?_map,List.getElem?_toArray,hw,Option.map_some,Option.some.injEq] at hv
           exact hv.symm
         have em : tP a as = w.1:=by
           refine E9 (by rw [← hx]; exact List.mem_map.mpr ⟨w,List.mem_of_getElem? hw,rfl⟩) fun x hx'=>?_
           rw [← hx] at hx'
           obtain ⟨y,hy,rfl⟩:=List.mem_map.mp hx'
           obtain ⟨i,hi,e⟩:=List.getElem_of_mem hy
           have:=g2 i (by omega)
           rw [nat i y (by rw [List.getElem?_eq_getElem hi,e]),nat b w hw] at this
           exact this
         exact ⟨.int (tP a as),H,I.kept k,⟨w.2,by rw [em,ev]⟩,Po.ok q rr .int⟩
   · exact q.elim
theorem Gy (hc : X.calm = true) : e6 X (.builtin "min") (rB (zt X cl) Ex (evB .min)):=by
 intro pins s σ H xs us Q I r q
 obtain ⟨m,st,ds,rr,dn,q⟩:=q
 match ds,q with
 | [.int i,.int j],q=>
   obtain ⟨x,y,rfl,dx,dy⟩:=I0 dn
   cases dx; cases dy
   exact Ar hc pins s σ H _ us Q I r ⟨i,j,rfl,Po.ok q rr .int⟩
theorem Gu : e6 X (.type "int") (rB (zt X cl) Ex (evB .int)):=by
 intro pins s σ H xs us Q I r q
 obtain ⟨m,st,ds,rr,dn,q⟩:=q
 match ds,q with
 | [.int i],q=>
   obtain ⟨x,rfl,dx⟩:=mM dn
   cases dx
   exact rV pins s σ H _ us Q I r (.inl ⟨i,rfl,Po.ok q rr .int⟩)
 | [.bl b],q=>
   obtain ⟨x,rfl,dx⟩:=mM dn
   cases dx
   exact rV pins s σ H _ us Q I r (.inr ⟨b,rfl,Po.ok q rr .int⟩)
theorem EK : e6 X (.type "list") (rB (zt X cl) Ex (evB .list)):=by
 intro pins s σ H xs us Q I r q
 obtain ⟨m,st,ds,rr,dn,q⟩:=q
 match ds,q with
 | [x],q=>
   obtain ⟨v,rfl,dx⟩:=mM dn
   simp only [evB.eq_def] at q
   split at q
   · rename_i ys e
     obtain ⟨p,vs,rfl,h1,h2⟩:=oU rr dx e
     exact tU pins s σ H _ us Q I r ⟨p,vs,rfl,h1.imp id fun z=>z.1,fun l hl=>Po.new q rr h2 hl⟩
   · exact q.elim
theorem BW : e6 X (.type "tuple") (rB (zt X cl) Ex (evB .tuple)):=by
 intro pins s σ H xs us Q I r q
 obtain ⟨m,st,ds,rr,dn,q⟩:=q
 match ds,q with
 | [x],q=>
   obtain ⟨v,rfl,dx⟩:=mM dn
   simp only [evB.eq_def] at q
   split at q
   · rename_i ys e
     obtain ⟨p,vs,rfl,h1,h2⟩:=oU rr dx e
     rcases h1 with h1 | ⟨h1,_⟩
     · exact ku pins s σ H _ us Q I r ⟨p,vs,rfl,.inl ⟨h1,fun l hl=>Po.tup q rr h2 hl⟩⟩
     · exact ku pins s σ H _ us Q I r ⟨p,vs,rfl,.inr ⟨h1,Po.ok q rr (.tup h1 h2)⟩⟩
   · exact q.elim
theorem qj {Z : Zt} {m : List Addr} {H : Hp} : ∀ {vs : List V} {ds : List U} {us : List Value} {b : Bool},ak Z m H vs ds → Vals vs us → allB ds = some b → (∀ u ∈ us,∃ c,u = Value.bool c) ∧ b = (List.range us.length).all fun i=>us[i]? == some (Value.bool true)
 | _,_,_,b,.nil,.nil,h=>by
   cases h
   exact ⟨fun u hu=>absurd hu (by simp),rfl⟩
 | _,_,_,b,.cons dv r,.cons rv rs,h=>by
   cases dv with
   | @bl c=>
     rw [allB] at h
     obtain ⟨b',h1,h2⟩:=Option.map_eq_some_iff.mp h
     obtain ⟨i1,i2⟩:=qj r rs h1
     obtain rfl:=(show _ = Value.bool c from rv)
     refine ⟨fun u hu=>?_,?_⟩
     · rcases List.mem_cons.mp hu with rfl | hu
       · exact ⟨c,rfl⟩
       · exact i1 u hu
     · rw [← h2,i2,List.length_cons,List.range_succ_eq_map,List.all_cons,List.all_map]
       congr 1
       cases c <;> rfl
   | _=>cases h
theorem Gj (hc : X.calm = true) : e6 X (.builtin "all") (rB (zt X cl) Ex (evB .all)):=by
 intro pins s σ H xs us Q I r q
 obtain ⟨m,st,ds,rr,dn,q⟩:=q
 match ds,q with
 | [x],q=>
   obtain ⟨v,rfl,dx⟩:=mM dn
   simp only [evB.eq_def] at q
   split at q
   · rename_i ys e
     obtain ⟨p,vs,rfl,h1,h2⟩:=me rr dx e
     cases hb : allB ys with
     | none=>rw [hb] at q; exact q.elim
     | some b=>
       rw [hb] at q
       obtain ⟨u,rfl,ru⟩:=vals1 r
       cases (show u = Value.ref _ from ru)
       obtain ⟨its,rv,p,hz⟩:=I.list h1
       obtain ⟨i1,i2⟩:=qj h2 rv hb
       have lt : ∀ a,s.heap.IsList a its.toArray → a ≠ s.heap.objs.size:=fun a ⟨o,z,_⟩=>Nat.ne_of_lt (Heap.lt_size z)
       refine call_all_walk (wpAny_pyIter_list p.isList ⟨_,_,_,_,_,_,fun i=>its[i]? == some (Value.bool true),rfl,Walks.list (A:=X.A.in1) (I.ok.hd hc) _ _ (lt _ p.isList) its.toArray,⟨⟨_,Heap.get?_push_size _ rfl,rfl,rfl⟩,?_⟩,fun i v s' Q' E' hP hQ=>?_,fun h' tk hk=>?_⟩)
       · obtain ⟨o,z1,z2⟩:=p.isList
         exact ⟨o,Heap.get?_push_of_some _ z1,z2⟩
       · have hP' : its[i]? = some v:=by simpa using hP
         obtain ⟨c,rfl⟩:=i1 v (List.mem_of_getElem? hP')
         refine wpAny_truthy_bool ?_
         have hQ : Q' (its[i]? == some (Value.bool true)) s':=hQ
         rw [hP'] at hQ
         cases c
         · exact hQ
         · exact hQ
       · have e1 : its.toArray.size = its.length:=List.size_toArray
         refine ⟨.bl b,H,I.kept (t':=tk) fun b' o z=>?_,?_,Po.ok q rr .bl⟩
         · refine hk b' o (fun hm=>?_) (Heap.get?_push_of_some _ z)
           have : b' = s.heap.objs.size:=by simpa using hm
           exact absurd (Heap.lt_size z) (by rw [this]; exact Nat.lt_irrefl _)
         · rw [e1,← i2]; rfl
   · exact q.elim
theorem vh : ∀ (xs : List (Int × Tok)),preSum (numAt xs.toArray) xs.length = (xs.map Prod.fst).sum:=fun xs=>by
 rw [preSum_eq,List.take_of_length_le (by simp)]
theorem Hb (hc : X.calm = true) : e6 X (.builtin "sum") (rB (zt X cl) Ex (evB .sum)):=by
 intro pins s σ H xs us Q I r q
 obtain ⟨m,st,ds,rr,dn,q⟩:=q
 match ds,q with
 | [x],q=>
   obtain ⟨v,rfl,dx⟩:=mM dn
   simp only [evB.eq_def] at q
   split at q
   · rename_i ys e
     obtain ⟨p,vs,rfl,h1,h2⟩:=me rr dx e
     cases hb : mi ys with
     | none=>rw [hb] at q; exact q.elim
     | some ns=>
       rw [hb] at q
       obtain ⟨u,rfl,ru⟩:=vals1 r
       cases (show u = Value.ref _ from ru)
       obtain ⟨its,rv,p,hz⟩:=I.list h1
       obtain ⟨xs,rfl,hx⟩:=kI h2 rv hb
       refine sum_intListG (xs:=xs.toArray) (I.ok.hd hc) (by have:=p.isList; simpa [intItems] using this) fun h' tk t' k=>?_
       refine ⟨.int ns.sum,H,I.kept k,⟨t',?_⟩,Po.ok q rr .int⟩
       rw [List.size_toArray,vh,hx]
   · exact q.elim
noncomputable def aL : List Str:=["len","abs","max","min","int","bool","list","tuple","str","isinstance","range","enumerate","all","zip","sorted","sum","any","reversed"]
noncomputable def trT (x : Str) : Option Ty:=
 if x = "int" then some .int else if x = "bool" then some .bool else if x = "tuple" then some .tuple else if x = "list" then some .list else if x = "str" then some .str else none
noncomputable def trB (x : Str) : Option Bi:=
 if x = "len" then some .len else if x = "abs" then some .abs else if x = "max" then some .max else if x = "min" then some .min else if x = "int" then some .int else
 if x = "list" then some .list else if x = "tuple" then some .tuple else if x = "all" then some .all else if x = "sum" then some .sum else none
theorem J3 (hc : X.calm = true) (hb : ∀ x ∈ aL,X.mg x = none) {x : Str} {b : Bi} {p pos : Pos} {e : Expr} {es : List Expr} {t : TA} (h : trB x = some b) (hg : Gl X x) (ha : PA X (e :: es) t)
   (he : starEach (e :: es) X.env = (false,eval e X.env) :: starEach es X.env) (hpl : (backTo pos (starEach es X.env)).any (·.1) = false) : PE X (.Call (.Name x p) (e :: es) [] pos) (tCB (rB (zt X cl) Ex (evB b)) t):=by
 unfold trB at h
 split at h
 · rename_i q; subst q; cases h
   exact gO Jo hg (hb _ (by simp [aL])) (by decide +kernel) ha (by decide) (by decide) he hpl
 split at h
 · rename_i q; subst q; cases h
   exact gO JB hg (hb _ (by simp [aL])) (by decide +kernel) ha (by decide) (by decide) he hpl
 split at h
 · rename_i q; subst q; cases h
   exact gO (Gq hc) hg (hb _ (by simp [aL])) (by decide +kernel) ha (by decide) (by decide) he hpl
 split at h
 · rename_i q; subst q; cases h
   exact gO (Gy hc) hg (hb _ (by simp [aL])) (by decide +kernel) ha (by decide) (by decide) he hpl
 split at h
 · rename_i q; subst q; cases h
   exact nM Gu hg (hb _ (by simp [aL])) (by decide +kernel) ha (by decide) (by decide) he hpl
 split at h
 · rename_i q; subst q; cases h
   exact nM EK hg (hb _ (by simp [aL])) (by decide +kernel) ha (by decide) (by decide) he hpl
 split at h
 · rename_i q; subst q; cases h
   exact nM BW hg (hb _ (by simp [aL])) (by decide +kernel) ha (by decide) (by decide) he hpl
 split at h
 · rename_i q; subst q; cases h
   exact gO (Gj hc) hg (hb _ (by simp [aL])) (by decide +kernel) ha (by decide) (by decide) he hpl
 split at h
 · rename_i q; subst q; cases h
   exact gO (Hb hc) hg (hb _ (by simp [aL])) (by decide +kernel) ha (by decide) (by decide) he hpl
 cases h
theorem x9 : typeLookup (Value.type "list_reverseiterator") (Str.ofString "__len__") = pure none:=by with_unfolding_all rfl
theorem BF : typeLookup (Value.type "list_reverseiterator") (Str.ofString "__length_hint__") = pure (some (.builtin "list_reverseiterator.__length_hint__")):=by with_unfolding_all rfl
theorem Fc : isSubtype (.type "list_reverseiterator") (.type "list_reverseiterator") = pure true:=by with_unfolding_all rfl
theorem Al : splitId "list_reverseiterator.__length_hint__" = some ("list_reverseiterator","__length_hint__"):=by with_unfolding_all rfl
theorem wx {prog : Program} {w : World} {A : Around} {E : Value → Shared → Prop} {s : Shared} {I : Addr} {Q : Bool → Shared → Prop}
   (ht : s.TypeIs (.ref I) "list_reverseiterator") (q : Q false s) : wpAny (model prog w) A (Builtin.List.listLengthHint (.ref I)) Q E s:=by
 unfold Builtin.List.listLengthHint
 refine wpAny_bind (wpAny_specialOf ht x9 ?_)
 dsimp only
 refine wpAny_bind (wpAny_specialOf ht BF ?_)
 simp only [Al]
 refine wpAny_bind (wpAny_isInstance ht Fc ?_)
 simp only [Bool.not_true,Bool.false_eq_true,if_false]
 exact wpAny_pure q
theorem qF {prog : Program} {w : World} {A : Around} {E : Value → Shared → Prop} {s : Shared} {I l : Addr} {items : Array Value} {Q : Value → Shared → Prop}
   (hh : A.handled = none) (hl : l ≠ I) (hi : s.heap.IsRevIter I l (items.size - 1)) (hs : s.heap.IsList l items) (hz : items.size ≤ sizeLine)
   (q : ∀ (h' : Heap) (tk : Nat) (acc : Array Value) (c : Nat),(∀ b o,b ≠ I → s.heap.get? b = some o → h'.get? b = some o) → h'.get? s.heap.objs.size = some { cls:=.type "list",data:=.seq acc c } →
     ItemsOf (fun i v=>items[items.size - 1 - i]? = some v) acc items.size → Q (.ref s.heap.objs.size) { s with heap:=h',toks:=tk }) :
   wpAny (model prog w) A (call (.type "list") [.ref I]) Q E s:=by
 refine callType_codes F.called_list (F.typeCall_list_1 _) F.entry_list_init (code_list_new _ (Q₁:=fun v s₁=>v = .ref s.heap.objs.size ∧ s₁ = { s with heap:=s.heap.push { cls:=.type "list",data:=.seq #[] } }) ⟨rfl,rfl⟩) ?_
 rintro obj s₁ ⟨rfl,rfl⟩
 have hS : (s.heap.push { cls:=.type "list",data:=.seq #[] }).get? s.heap.objs.size = some { cls:=.type "list",data:=.seq #[] }:=Heap.get?_push_size _ rfl
 refine ⟨⟨_,hS,rfl⟩,F.args_list_init_2 _ _,?_⟩
 have hIlt : I < s.heap.objs.size:=by obtain ⟨o,z,_⟩:=hi; exact Heap.lt_size z
 have hllt : l < s.heap.objs.size:=by obtain ⟨o,z,_⟩:=hs; exact Heap.lt_size z
 have hIne : I ≠ s.heap.objs.size:=Nat.ne_of_lt hIlt
 have hlne : l ≠ s.heap.objs.size:=Nat.ne_of_lt hllt
 unfold Builtin.«list.__init__»
 simp only [List.isEmpty_nil,Bool.not_true,Bool.false_eq_true,if_false,List.length_cons,List.length_nil,gt_iff_lt,Nat.lt_irrefl]
 refine wpAny_bind ?_
 unfold Builtin.List.listItems
 refine wpAny_bind (wpAny_seqItems hS rfl ?_)
 refine wpAny_pure ?_
 have fin : ∀ (h2 : Heap) (c : Nat),(∀ b o,b ≠ s.heap.objs.size → s.heap.get? b = some o → h2.get? b = some o) → h2.get? s.heap.objs.size = some { cls:=.type "list",data:=.seq #[] c } →
     codeAny (model prog w) A.in1 (Code.builtin "list.extend.loop" { pos:=[Value.ref s.heap.objs.size,Value.ref I,Value.none] }) (wants (fun r s₂=>r = Value.none ∧ Q (Value.ref s.heap.objs.size) s₂) E) { s with heap:=h2 }:=by
   intro h2 c kp e
   have W:=(Walks.listRev (prog:=prog) (w:=w) (A:=A.in1.in1) hh I l hl items).toS
   refine codeAny_extend_loopS W hz s.heap.objs.size ?_ _ (items.size - 0) 0 _ _ c rfl (Nat.zero_le _) ⟨Nat.zero_le _,?_,?_⟩ e (ItemsOf.nil _) fun s' acc' c' mv e' it=>?_
   · intro z
     simp only [List.mem_cons,List.not_mem_nil,or_false] at z
     rcases z with z | z
     · exact hIne z.symm
     · exact hlne z.symm
   · obtain ⟨o,z1,z2,z3⟩:=hi
     exact ⟨o,kp _ _ hIne z1,z2,by rw [z3]; simp⟩
   · obtain ⟨o,z1,z2⟩:=hs
     exact ⟨o,kp _ _ hlne z1,z2⟩
   · rw [mv.eq_with]
     refine ⟨rfl,q _ _ _ _ (fun b o hb z=>?_) e' it⟩
     have hb2 : b ≠ s.heap.objs.size:=Nat.ne_of_lt (Heap.lt_size z)
     exact mv.heap b o (by simp only [List.mem_cons,List.not_mem_nil,or_false]; exact fun y=>y.elim hb2 hb) (kp _ _ hb2 z)
 have kp0 : ∀ b o,b ≠ s.heap.objs.size → s.heap.get? b = some o → (s.heap.push { cls:=.type "list",data:=.seq #[] }).get? b = some o:=fun b o _ z=>Heap.get?_push_of_some _ z
 unfold Builtin.List.listUpdate
 refine wpAny_bind (wpAny_updateSeq hS rfl ?_)
 refine wpAny_bind (wpAny_letGo ?_)
 have hS1 : ∃ c,((s.heap.push { cls:=.type "list",data:=.seq #[] }).update s.heap.objs.size (Obj.mapSeq fun x=>#[])).get? s.heap.objs.size = some { cls:=.type "list",data:=.seq #[] c }:=⟨_,Heap.get?_update_self _ hS rfl⟩
 have kp1 : ∀ b o,b ≠ s.heap.objs.size → s.heap.get? b = some o → ((s.heap.push { cls:=.type "list",data:=.seq #[] }).update s.heap.objs.size (Obj.mapSeq fun x=>#[])).get? b = some o:=fun b o hb z=>by rw [Heap.get?_update_other _ _ (Ne.symm hb)]; exact kp0 b o hb z
 revert kp1 hS1
 generalize (s.heap.push { cls:=.type "list",data:=.seq #[] }).update s.heap.objs.size (Obj.mapSeq fun x=>#[]) = h1
 rintro ⟨c1,hS1⟩ kp1
 have hi1 : h1.IsRevIter I l (items.size - 1):=by obtain ⟨o,z1,z2⟩:=hi; exact ⟨o,kp1 _ _ hIne z1,z2⟩
 have ht : Shared.TypeIs { s with heap:=h1 } (.ref I) "list_reverseiterator":=by obtain ⟨o,z1,z2,_⟩:=hi1; exact ⟨o,z1,z2⟩
 unfold Builtin.List.listExtendWith
 refine wpAny_bind (wpAny_typeOf ht ?_)
 have nsame : (Builtin.List.listSameRef (Value.ref s.heap.objs.size) (Value.ref I) || Value.type "list_reverseiterator" == Value.type "list" || Value.type "list_reverseiterator" == Value.type "tuple") = false:=by
   have : Builtin.List.listSameRef (Value.ref s.heap.objs.size) (Value.ref I) = false:=by
     unfold Builtin.List.listSameRef
     simp [Ne.symm hIne]
   rw [this]; rfl
 rw [if_neg (by rw [nsame]; decide)]
 refine wpAny_bind (wpAny_pyIter_revIter hi1 ?_)
 refine wpAny_bind (wpAny_holding (wx ht ?_))
 have go : ∀ (h2 : Heap) (c : Nat),(∀ b o,b ≠ s.heap.objs.size → s.heap.get? b = some o → h2.get? b = some o) → h2.get? s.heap.objs.size = some { cls:=.type "list",data:=.seq #[] c } →
     wpAny (model prog w) A.in1.in1 (again (Code.builtin "list.extend.loop" { pos:=[Value.ref s.heap.objs.size,Value.ref I,Value.none] })) (fun fin s'=>
     match fin with
     | Fin.done f=>wants (fun r s₂=>r = Value.none ∧ Q (Value.ref s.heap.objs.size) s₂) E (Except.ok f) s'
     | Fin.again c'=>
       c'.quiet = true ∧
         codeAny (model prog w) A.in1 c' (wants (fun r s₂=>r = Value.none ∧ Q (Value.ref s.heap.objs.size) s₂) E) s')
     (fun e s'=>wants (fun r s₂=>r = Value.none ∧ Q (Value.ref s.heap.objs.size) s₂) E (Except.error e) s') { s with heap:=h2 }:=fun h2 c k1 k2=>
   wpAny_pure ⟨plainId_quiet F.plain_extend_loop _,fin h2 c k1 k2⟩
 refine wpAny_ite_split (fun _=>?_) (fun _=>go h1 c1 kp1 hS1)
 refine wpAny_bind (wpAny_rule ?_)
 refine wpAny_bind ?_
 unfold Builtin.List.listTouch Builtin.List.listUpdate
 refine wpAny_bind (wpAny_updateSeq hS1 rfl ?_)
 have hS2:=Heap.get?_update_self (Obj.mapSeq fun x=>x.push Value.none) hS1 rfl
 refine wpAny_updateSeq hS2 rfl ?_
 exact go _ _ (fun b o hb z=>by rw [Heap.get?_update_other _ _ (Ne.symm hb),Heap.get?_update_other _ _ (Ne.symm hb)]; exact kp1 b o hb z) (Heap.get?_update_self _ hS2 rfl)
theorem yQ {Z : Zt} {m : List Addr} {H : Hp} : ∀ {vs : List V} {ds : List U},ak Z m H vs ds → ak Z m H vs.reverse ds.reverse
 | _,_,.nil=>.nil
 | _,_,.cons a r=>by
   rw [List.reverse_cons,List.reverse_cons]
   exact (yQ r).append (.cons a .nil)
theorem GL (hc : X.calm = true) {pins : List (Addr × Obj)} {s : Shared} {σ : L2.St} {H : Hp} {xs : List V} {us : List Value} {Q : VK} (I : Inv X pins σ H s) (r : Vals xs us) (q : rB (zt X cl) Ex (evB .rev) xs H Q) :
   wpAny (model X.prog X.w) X.A (call (.type "reversed") us) (fun v s2=>wpAny (model X.prog X.w) X.A (call (.type "list") [v]) (EP X pins σ Q) X.xe s2) X.xe s:=by
 obtain ⟨m,st,ds,rr,dn,q⟩:=q
 match ds,q with
 | [x],q=>
   obtain ⟨v,rfl,dx⟩:=mM dn
   simp only [evB.eq_def] at q
   split at q
   · rename_i ys e
     obtain ⟨p,vs,rfl,h1,h2⟩:=me rr dx e
     obtain ⟨u,rfl,ru⟩:=vals1 r
     cases (show u = Value.ref _ from ru)
     obtain ⟨its,rv,pl,hz⟩:=I.list h1
     have hlen:=rv.length
     have ne : p ≠ s.heap.objs.size:=by obtain ⟨o,z,_⟩:=pl.isList; exact Nat.ne_of_lt (Heap.lt_size z)
     refine call_reversed_list pl.isList ?_
     have hp:=Heap.get?_push_size s.heap (o:=revObj p (its.toArray.size - 1)) rfl
     refine qF (items:=its.toArray) (I.ok.hd hc) ne ⟨_,hp,rfl,rfl⟩ ?_ (by rw [List.size_toArray,← hlen]; exact hz) fun h' tk acc c kp e' it=>?_
     · obtain ⟨o,z1,z2⟩:=pl.isList
       exact ⟨o,Heap.get?_push_of_some _ z1,z2⟩
     · have ea : acc = its.reverse.toArray:=by
         obtain ⟨i1,i2⟩:=it
         have i1 : acc.size = its.length:=i1.trans List.size_toArray
         refine Array.ext (by rw [i1]; simp) fun i hi1 hi2=>?_
         have hi3 : i < its.length:=i1 ▸ hi1
         have this : its.toArray[its.toArray.size - 1 - i]? = some acc[i]:=i2 i acc[i] (Array.getElem?_eq_getElem _)
         rw [List.getElem?_toArray,List.size_toArray,List.getElem?_eq_getElem (by omega)] at this
         have hb : i < its.reverse.length:=by rw [List.length_reverse]; exact hi3
         exact (Option.some.inj this).symm.trans ((List.getElem_reverse hb).symm.trans (List.getElem_toArray (xs:=its.reverse) hi2).symm)
       subst ea
       have kq : ∀ b u,s.heap.get? b = some u → h'.get? b = some u:=fun b u z=>kp b u (Nat.ne_of_lt (Heap.lt_size z)) (Heap.get?_push_of_some _ z)
       refine ⟨.ref (s.heap.push (revObj p (its.toArray.size - 1))).objs.size,upd H (s.heap.push (revObj p (its.toArray.size - 1))).objs.size (.lst vs.reverse),I.laid (t':=tk) kq ?_ (show gH X.prog X.w _ h' _ (.lst vs.reverse) from ⟨by rw [List.length_reverse]; exact hz,its.reverse,c,rv.reverse,e'⟩),rfl,Po.new q rr (yQ h2) ?_⟩
       · rw [Heap.size_push]; exact Nat.le_succ _
       · exact I.hok.fresh (by rw [Heap.size_push]; exact Nat.le_succ _)
   · exact q.elim
theorem IA (hc : X.calm = true) (hb : ∀ x ∈ aL,X.mg x = none) {p p2 pos pos2 : Pos} {e : Expr} {t : TA} (hg : Gl X "list") (hg2 : Gl X "reversed") (ha : PA X [e] t)
   (he : starEach [e] X.env = (false,eval e X.env) :: starEach [] X.env) : PE X (.Call (.Name "list" p) [.Call (.Name "reversed" p2) [e] [] pos2] [] pos) (tCB (rB (zt X cl) Ex (evB .rev)) t):=by
 intro pins s σ H Q I h
 refine wpAny_Call_Name_kw (jc I hg (hb _ (by simp [aL])) (by decide +kernel : bootBuiltins "list" = some (.type "list")) ?_ (by decide) (by decide))
 refine PyProof.Rows.callWith_type1 ?_ rfl rfl
 refine Calls.spliced_cons ?_
 refine wpAny_Call_Name_kw (jc I hg2 (hb _ (by simp [aL])) (by decide +kernel : bootBuiltins "reversed" = some (.type "reversed")) ?_ (by decide) (by decide))
 refine PyProof.Rows.callWith_type1 (thn (ha pos2 pins s σ H _ I h) fun us s1 ⟨vs,H1,I1,r1,q1⟩=>?_) he rfl
 exact thn (GL hc I1 r1 q1) fun v s2 z=>Calls.spliced_nil z
noncomputable def tyN : Ty → String
 | .int=>"int" | .bool=>"bool" | .tuple=>"tuple" | .list=>"list" | .str=>"str"
noncomputable def K8 : U → String
 | .non=>"NoneType" | .bl _=>"bool" | .int _=>"int" | .str _=>"str" | .tup _=>"tuple" | .loc _=>"list" | .kl _=>"list" | .exo _=>"NoneType"
theorem Hr (K : PySem.W.Frag) (d : U) (t : Ty) : PySem.W.kitOne K (.type (K8 d)) (.type (tyN t)) = some (Az t d):=by
 cases d <;> cases t <;> (show PySem.W.kitOne K (.type _) (.type _) = some _) <;> with_unfolding_all rfl
theorem HX (t : Ty) : e6 X (.builtin "isinstance") (fun xs H Q=>∃ m st x d,R (zt X cl) m st H ∧ xs = [x,.ty (tyN t)] ∧ bf (zt X cl) m H x d ∧ (∀ c,d ≠ .exo c) ∧ Q (.bl (Az t d)) H):=by
 intro pins s σ H xs us Q I r q
 obtain ⟨m,st,x,d,rr,rfl,dx,ne,q⟩:=q
 obtain ⟨u,w,rfl,rx,rt⟩:=vals2 r
 cases (show w = Value.type (tyN t) from rt)
 have kt:=Hr X.K d t
 have fin : ∀ tk,EP X pins σ Q (.bool (Az t d)) { s with toks:=tk }:=fun tk=>⟨.bl _,H,I.tok _,rfl,q⟩
 cases dx with
 | non=>cases (show u = Value.none from rx); exact PySem.W.kia_one PySem.W.kitx_none I.kIn True.intro kt (fun z=>nomatch z) fin
 | bl=>cases (show u = Value.bool _ from rx); exact PySem.W.kia_one PySem.W.kitx_bool I.kIn True.intro kt (fun z=>nomatch z) fin
 | int=>obtain ⟨t',z⟩:=(show ∃ t,u = Value.int _ t from rx); cases z; exact PySem.W.kia_one PySem.W.kitx_int I.kIn True.intro kt (fun z=>nomatch z) fin
 | str=>obtain ⟨t',z⟩:=(show ∃ t,u = Value.str _ t from rx); cases z; exact PySem.W.kia_one PySem.W.kitx_str I.kIn True.intro kt (fun z=>nomatch z) fin
 | tup h r1=>
   cases (show u = Value.ref _ from rx)
   obtain ⟨its,_,⟨o,h1,h2,_⟩,_⟩:=I.tuple h
   exact PySem.W.kia_one PySem.W.kitx_tuple I.kIn ⟨o,h1,h2⟩ kt (fun z=>nomatch z) fin
 | loc h=>
   cases (show u = Value.ref _ from rx)
   obtain ⟨fz,ds,vs,_,ly,_⟩:=rr.loc h
   obtain ⟨its,_,⟨o,n,h1,h2,_⟩,_⟩:=I.list ly.sq
   exact PySem.W.kia_one PySem.W.kitx_list I.kIn ⟨o,h1,h2⟩ kt (fun z=>nomatch z) fin
 | exo h=>exact absurd rfl (ne _)
 | kl h r1=>
   cases (show u = Value.ref _ from rx)
   obtain ⟨its,_,⟨o,n,h1,h2,_⟩,_⟩:=I.list h.sq
   exact PySem.W.kia_one PySem.W.kitx_list I.kIn ⟨o,h1,h2⟩ kt (fun z=>nomatch z) fin
theorem J1 (hb : ∀ x ∈ aL,X.mg x = none) {x : Str} {t : Ty} {p : Pos} (h : trT x = some t) (hg : Gl X x) : PE X (.Name x p) (tC (.ty (tyN t))):=by
 unfold trT at h
 split at h
 · rename_i q; subst q; cases h
   exact mE (u:=.type "int") hg (hb _ (by simp [aL])) (by decide +kernel) rfl (by decide) (by decide)
 split at h
 · rename_i q; subst q; cases h
   exact mE (u:=.type "bool") hg (hb _ (by simp [aL])) (by decide +kernel) rfl (by decide) (by decide)
 split at h
 · rename_i q; subst q; cases h
   exact mE (u:=.type "tuple") hg (hb _ (by simp [aL])) (by decide +kernel) rfl (by decide) (by decide)
 split at h
 · rename_i q; subst q; cases h
   exact mE (u:=.type "list") hg (hb _ (by simp [aL])) (by decide +kernel) rfl (by decide) (by decide)
 split at h
 · rename_i q; subst q; cases h
   exact mE (u:=.type "str") hg (hb _ (by simp [aL])) (by decide +kernel) rfl (by decide) (by decide)
 cases h
theorem Ey {Z : Zt} {m : List Addr} {H : Hp} {vs : List V} {ds : List U} {i : Int} {d : U} (r : ak Z m H vs ds) (h : atI ds i = some d) : ∃ v,atI vs i = some v ∧ bf Z m H v d:=by
 unfold atI at h ⊢
 rw [r.length]
 cases e : ixN ds.length i with
 | none=>rw [e] at h; cases h
 | some j=>
   rw [e] at h
   obtain ⟨v,h1,h2⟩:=r.get (show ds[j]? = some d from h)
   exact ⟨v,h1,h2⟩
theorem HH : IxR X (rO (zt X cl) Ex evI):=by
 intro value slice pins s σ H x y v u Q I rx ry q hs
 obtain ⟨m,st,a,b,r,dx,dy,q⟩:=q
 unfold evI at q
 split at q
 · rename_i xs i e
   cases dy
   split at q
   · rename_i z hz
     obtain ⟨p,vs,rfl,h1,h2⟩:=oU r dx e
     obtain ⟨w,g1,g2⟩:=Ey h2 hz
     rcases h1 with h1 | ⟨h1,_⟩
     · exact DM value slice pins s σ H _ _ v u Q I rx ry ⟨p,vs,_,w,rfl,rfl,h1,g1,Po.ok q r g2⟩ hs
     · exact GI value slice pins s σ H _ _ v u Q I rx ry ⟨p,vs,_,w,rfl,rfl,h1,g1,Po.ok q r g2⟩ hs
   · exact q.elim
 · exact q.elim
theorem Fm {Z : Zt} {m : List Addr} {H : Hp} {vs : List V} {ds : List U} (r : ak Z m H vs ds) (lo hi : Option Int) : ak Z m H (AD vs lo hi) (CD ds lo hi):=by
 unfold AD CD
 rw [r.length]
 exact (r.drop _).take _
theorem El : GJ X (fun o i v H Q=>∃ m st a b c,R (zt X cl) m st H ∧ bf (zt X cl) m H o a ∧ bf (zt X cl) m H i b ∧ bf (zt X cl) m H v c ∧ ∃ st',evP a b c st = some st' ∧ ∀ H',Go m H m H' → R (zt X cl) m st' H' → Q H'):=by
 intro pins s σ H o i v ov iv u Q I ro ri rv q
 obtain ⟨m,st,a,b,c,r,dA,db,dc,st',e,q⟩:=q
 unfold evP at e
 split at e
 · rename_i l j
   split at e
   · rename_i xs hs
     obtain ⟨k,hk,rfl⟩:=Option.map_eq_some_iff.mp e
     obtain ⟨p,rfl,hp⟩:=lY dA
     cases db
     obtain ⟨p',vs,f1,f2,f3⟩:=r.at hs
     rw [hp] at f1; cases f1
     unfold Lay at f2
     rw [if_neg (by decide)] at f2
     have hl:=f3.length
     obtain ⟨g,r'⟩:=r.put hp hs (f3.set k dc)
     exact set_list pins s σ H _ _ v ov iv u Q I ro ri rv ⟨_,vs,_,k,rfl,rfl,f2,by rw [hl]; exact hk,q _ g r'⟩
   · cases e
 · cases e
end
end Sv
namespace Sv
open PySem PySem.Spec PyProof.Rows L2
open Ev (D aQ aU ai jM j1 eu slot slot_get iO jC jN lR jk fI jK aS nE lH PTs mr ou Be Ite)
structure Tr where
 sc : Scope
 N : List Str
 F : List Str
 cap : List Nat
 cst : List (Str × Int)
noncomputable def hW (T : Tr) (scope : Scope) : List (Option Nat):=(jK scope).map fun x=>if (x,NameKind.free) ∈ scope.names then slot T.N x else none
noncomputable def qp (T : Tr) (scope : Scope) : Tr:=
 { sc:=jk scope T.sc,N:=jK scope ++ [("#" : Str)],F:=T.F,cap:=(List.range (hW T scope).length).filter fun j=>((hW T scope).getD j none).isSome,cst:=T.cst }
noncomputable def yv (T : Tr) (scope : Scope) : Bool:=
 scope.names.all (fun p=>p.2 != .free || (slot T.N p.1).isSome) && scope.kind == .function && T.sc.kind == .function && scope.names.all (fun p=>p.2 != .local || scope.names.lookup p.1 == some .local) && scope.names.all (fun p=>p.2 != .free || T.sc.names.lookup p.1 == some .cell)
   && scope.names.all (fun p=>p.2 != .free || (!decide ((p.1,NameKind.cell) ∈ scope.names) && !decide ((p.1,NameKind.local) ∈ scope.names))) && decide (jK scope ++ [("#" : Str)]).Nodup
   && !iO (jk scope T.sc) ("#" : Str) && (match (jk scope T.sc).names.lookup ("#" : Str) with | some .free=>false | _=>true)
noncomputable def trV (T : Tr) (x : Str) : Option Nat:=
 if iO T.sc x = true ∧ (x == ("__debug__" : Str)) = false ∧ (x == ("__classdict__" : Str)) = false then slot T.N x else none
noncomputable def eo (T : Tr) : List Expr → Option (List Nat)
 | []=>some []
 | .Name x _ :: r=>(trV T x).bind fun i=>if i ∈ T.cap then none else (eo T r).bind fun is=>some (i :: is)
 | _=>none
noncomputable def ma (T : Tr) : Expr → Option Tg
 | .Name x _=>(trV T x).bind fun i=>if i ∈ T.cap then none else some (.nm i)
 | .Tuple es _ _=>(eo T es).bind fun is=>some (.tp is)
 | _=>none
noncomputable def uN : Expr → It → Bool
 | .Tuple _ _ _,_=>true
 | _,.enu _=>false
 | _,.zip _ _=>false
 | _,_=>true
noncomputable def JN (T : Tr) (x : Str) : Expr → List Expr → Option Expr
 | .Call (.Name y _) [a] [] _,[]=>if x = "list" ∧ y = "reversed" ∧ jC T.sc y = true ∧ slot T.F y = none then some a else none
 | _,_=>none
theorem Cc {T : Tr} {x : Str} {e a : Expr} {es : List Expr} (h : JN T x e es = some a) : x = "list" ∧ es = [] ∧ jC T.sc "reversed" = true ∧ ∃ p q,e = .Call (.Name "reversed" p) [a] [] q:=by
 unfold JN at h
 split at h
 · split at h
   · rename_i hh
     obtain ⟨rfl,rfl,h3,_⟩:=hh
     cases h
     exact ⟨rfl,rfl,h3,_,_,rfl⟩
   · cases h
 · cases h
noncomputable def stE (T : Tr) (rE : Tr → Expr → Option E) (rEs : List Expr → Option (List E)) (rP : Option Expr → Option E) (rI : Expr → Option It) (rIf : Tr → List Expr → Option (List E)) : Expr → Option E
 | .Name x _=>if jC T.sc x = true ∧ (x == ("__debug__" : Str)) = false then (T.cst.lookup x).bind fun i=>some (.cI i) else (trV T x).bind fun i=>some (.var i)
 | .Constant (.int i) _ _=>some (.cI i)
 | .Constant (.bool b) _ _=>some (.cB b)
 | .Constant .none _ _=>some .cN
 | .Constant (.str x) _ _=>some (.cS x)
 | .BinOp a o b _=>(trO o).bind fun o'=>(rE T a).bind fun a'=>(rE T b).bind fun b'=>some (.op o' a' b')
 | .UnaryOp .USub a _=>(rE T a).bind fun a'=>some (.neg a')
 | .UnaryOp .Not a _=>(rE T a).bind fun a'=>some (.not a')
 | .Compare a [o] [b] _=>
   match o,b with
   | .Is,.Constant (.bool c) _ _=>(rE T a).bind fun a'=>some (.isB false a' c)
   | .IsNot,.Constant (.bool c) _ _=>(rE T a).bind fun a'=>some (.isB true a' c)
   | .Is,.Constant .none _ _=>(rE T a).bind fun a'=>some (.isN false a')
   | .IsNot,.Constant .none _ _=>(rE T a).bind fun a'=>some (.isN true a')
   | o,b=>(trC o).bind fun o'=>(rE T a).bind fun a'=>(rE T b).bind fun b'=>some (.cmp o' a' b')
 | .Compare a [o,p] [b,c] _=>(trC o).bind fun o'=>(trC p).bind fun p'=>(rE T a).bind fun a'=>(rE T b).bind fun b'=>(rE T c).bind fun c'=>some (.chain o' p' a' b' c')
 | .BoolOp _ [a] _=>rE T a
 | .BoolOp .And (a :: b :: r) pos=>(rE T a).bind fun a'=>(rE T (.BoolOp .And (b :: r) pos)).bind fun b'=>some (.and a' b')
 | .BoolOp .Or (a :: b :: r) pos=>(rE T a).bind fun a'=>(rE T (.BoolOp .Or (b :: r) pos)).bind fun b'=>some (.or a' b')
 | .IfExp c a b _=>(rE T c).bind fun c'=>(rE T a).bind fun a'=>(rE T b).bind fun b'=>some (.ite c' a' b')
 | .Tuple es _ _=>(rEs es).bind fun es'=>some (.tup es')
 | .List es _=>(rEs es).bind fun es'=>some (.lst es')
 | .Subscript a (.Slice lo hi none _) _=>(rE T a).bind fun a'=>(rP lo).bind fun l'=>(rP hi).bind fun h'=>some (.sl a' l' h')
 | .Subscript _ (.Slice _ _ (some _) _) _=>none
 | .Subscript a i _=>(rE T a).bind fun a'=>(rE T i).bind fun i'=>some (.ix a' i')
 | .Call (.Name x _) (e :: es) [] _=>
   if jC T.sc x = true ∧ (x == ("__debug__" : Str)) = false then
     match slot T.F x with
     | some k=>(rEs (e :: es)).bind fun es'=>some (.call k es')
     | none=>
       if x = "isinstance" then
         match es with
         | [.Name t _]=>if jC T.sc t = true then (trT t).bind fun ty=>(rE T e).bind fun a'=>some (.isi a' ty) else none
         | _=>none
       else match JN T x e es with
         | some a=>(rEs [a]).bind fun es'=>some (.bi .rev es')
         | none=>(trB x).bind fun b=>(rEs (e :: es)).bind fun es'=>some (.bi b es')
   else none
 | .ListComp elt [⟨tg,iter,ifs,asy⟩] scope _=>
   if asy = 0 ∧ yv T scope = true then
     (ma (qp T scope) tg).bind fun t=>(rI iter).bind fun it=>(rIf (qp T scope) ifs).bind fun fs=>(rE (qp T scope) elt).bind fun e=>
       if uN tg it = true then some (.comp (hW T scope) t it fs e) else none
   else none
 | _=>none
mutual
noncomputable def trE (T : Tr) : Nat → Expr → Option E
 | 0,_=>none
 | n + 1,e=>stE T (fun T' e'=>trE T' n e') (fun es=>i0 T n es) (fun o=>trP T n o) (fun i=>trI T n i) (fun T' es=>vM T' n es) e
noncomputable def i0 (T : Tr) : Nat → List Expr → Option (List E)
 | 0,_=>none
 | _ + 1,[]=>some []
 | n + 1,e :: es=>(trE T n e).bind fun e'=>(i0 T n es).bind fun es'=>some (e' :: es')
noncomputable def trP (T : Tr) : Nat → Option Expr → Option E
 | _,none=>some .cN
 | 0,some _=>none
 | n + 1,some e=>(trE T n e).bind fun e'=>match e' with | .cN=>none | e'=>some e'
noncomputable def vM (T : Tr) : Nat → List Expr → Option (List E)
 | _,[]=>some []
 | 0,_ :: _=>none
 | n + 1,[c]=>(trE T n c).bind fun c'=>some [c']
 | _ + 1,_ :: _ :: _=>none
noncomputable def trI (T : Tr) : Nat → Expr → Option It
 | 0,_=>none
 | n + 1,.Call (.Name x p) (a :: r) [] pos=>
   if x = "range" ∧ jC T.sc x = true ∧ slot T.F x = none then
     match r with
     | []=>(trE T n a).bind fun e=>some (.rng e)
     | [b]=>(trE T n a).bind fun e=>(trE T n b).bind fun e2=>some (.rng2 e e2)
     | _=>none
   else if x = "enumerate" ∧ jC T.sc x = true ∧ slot T.F x = none then
     match r with
     | []=>(trE T n a).bind fun e=>some (.enu e)
     | _=>none
   else if x = "zip" ∧ jC T.sc x = true ∧ slot T.F x = none then
     match r with
     | [b]=>(trE T n a).bind fun e=>(trE T n b).bind fun e2=>some (.zip e e2)
     | _=>none
   else (trE T n (.Call (.Name x p) (a :: r) [] pos)).bind fun e=>some (.seq e)
 | n + 1,it=>(trE T n it).bind fun e=>some (.seq e)
end
theorem dD {T : Tr} {n : Nat} {e : Expr} {e' : E} (h : trE T n e = some e') (es : List Expr) (env : PySem.Env) : starEach (e :: es) env = (false,eval e env) :: starEach es env:=by
 cases n with
 | zero=>rw [trE] at h; cases h
 | succ n=>
   cases e with
   | Starred v p=>exact bK (show (none : Option E) = some _ from h)
   | _=>rfl
theorem pB {T : Tr} : ∀ {n : Nat} {es : List Expr} {es' : List E},i0 T n es = some es' → ∀ (env : PySem.Env) (pos : Pos),(backTo pos (starEach es env)).any (·.1) = false
 | 0,_,_,h,_,_=>by rw [i0] at h; cases h
 | _ + 1,[],_,_,_,_=>rfl
 | n + 1,e :: es,_,h,env,pos=>by
   simp only [i0,Option.bind_eq_some_iff] at h
   obtain ⟨e',h1,es',h2,_⟩:=h
   rw [dD h1]
   have q:=pB h2 env pos
   unfold backTo at q ⊢
   rw [List.map_cons,List.any_cons]
   exact q
theorem eO {T : Tr} {n : Nat} {e : Expr} {es : List Expr} {es' : List E} (h : i0 T n (e :: es) = some es') (env : PySem.Env) : starEach (e :: es) env = (false,eval e env) :: starEach es env:=by
 cases n with
 | zero=>rw [i0] at h; cases h
 | succ n=>
   simp only [i0,Option.bind_eq_some_iff,Option.some.injEq] at h
   obtain ⟨z1,z2,_⟩:=h
   exact dD z2 es env
theorem fN {T : Tr} {n : Nat} {e : Expr} {es : List Expr} {es' : List E} (h : i0 T n (e :: es) = some es') (env : PySem.Env) (pos : Pos) : (backTo pos (starEach es env)).any (·.1) = false:=by
 cases n with
 | zero=>rw [i0] at h; cases h
 | succ n=>
   simp only [i0,Option.bind_eq_some_iff,Option.some.injEq] at h
   obtain ⟨z1,z2,z3,z4,_⟩:=h
   exact pB z4 env pos
theorem GU {T : Tr} {n : Nat} {e : Expr} {e' : E} (h : trE T n e = some e') (env : PySem.Env) (x : Value) : foldedSetIterable e env x = pure x:=by
 cases n with
 | zero=>rw [trE] at h; cases h
 | succ n=>
   cases e with
   | Set a b c=>exact bK (show (none : Option E) = some _ from h)
   | _=>rfl
structure Cal (P : Program) (w : World) (K : PySem.W.Frag) (mg : Str → Option Value) (base : Heap) (CX : CXT) (cl : Nat → Addr) (k : Nat) (x : Str) (F : List U → Sto → Rs U) : Prop where
 ex : ∃ (f : Addr) (fd : FuncData) (ps : List Str) (G : List U → Sto → Rs U),
   bW P w K mg base CX k f fd ps (spU ⟨K,cl⟩ G) ∧ mg x = some (.ref f) ∧ PySem.W.keepIn K (.ref f) = true ∧ ∀ n : Nat,∃ (dvs : List V) (dus : List Value) (dds : List U),Binds K fd ps dus ∧ Vals dvs dus ∧ (∀ m H,ak ⟨K,cl⟩ m H dvs dds) ∧ ∀ ds st,ds.length = n → F ds st = G (ds ++ dds) st
structure Bg (X : Cx) (T : Tr) (Φ : Fn) (cl : Nat → Addr) (CX : CXT) (Ex : Nat → Hp → Prop) (k : Nat) : Prop where
 sc : X.env.scope = T.sc
 nm : X.N = T.N
 nd : T.N.Nodup
 calm : X.calm = true
 room : jF k X.A
 blt : ∀ x ∈ aL,X.mg x = none
 cal : ∀ i x,T.F[i]? = some x → Cal X.prog X.w X.K X.mg X.base CX cl k x (Φ i)
 fn : ∀ (i : Nat) (x : Str),T.N[i]? = some x → i ∉ T.cap → T.sc.names.lookup x = some .cell → X.fn x = true
 cst : ∀ x i,T.cst.lookup x = some i → ∃ t,X.mg x = some (.int i t)
 cxn : ∀ outer H s E e s',(∀ C a H',¬ E C a H') → ¬ CX outer H s E e s'
 pas : Passes CX X (xk (zt X cl) Ex)
section
variable {X : Cx} {T : Tr} {Φ : Fn} {cl : Nat → Addr} {CX : CXT} {Ex : Nat → Hp → Prop} {k : Nat}
theorem PE.wk {e : Expr} {t t' : TE} (h : PE X e t) (f : ∀ σ H Q,t' σ H Q → t σ H Q) : PE X e t':=fun pins s σ H Q I q=>h pins s σ H Q I (f σ H Q q)
theorem PT.wk {e : Expr} {t t' : TT} (h : PT X e t) (f : ∀ σ H Q,t' σ H Q → t σ H Q) : PT X e t':=fun pins s σ H Q I q=>h pins s σ H Q I (f σ H Q q)
theorem PW.wk {e : Expr} {t t' : TT} (h : PW X e t) (f : ∀ σ H Q,t' σ H Q → t σ H Q) : PW X e t':=fun wh pins s σ H Q I q=>h wh pins s σ H Q I (f σ H Q q)
theorem PA.wk {e : List Expr} {t t' : TA} (h : PA X e t) (f : ∀ σ H Q,t' σ H Q → t σ H Q) : PA X e t':=fun p pins s σ H Q I q=>h p pins s σ H Q I (f σ H Q q)
theorem PO.wk {e : Option Expr} {t t' : TO} (h : PO X e t) (f : ∀ σ H Q,t' σ H Q → t σ H Q) : PO X e t':=fun pins s σ H Q I q=>h pins s σ H Q I (f σ H Q q)
theorem PI.wk {tg e : Expr} {t t' : TI} (h : PI X tg e t) (f : ∀ σ H Q,t' σ H Q → t σ H Q) : PI X tg e t':=fun pins s σ H Q I q=>h pins s σ H Q I (f σ H Q q)
theorem PG.wk {e : Expr} {t t' : TG} (h : PG X e t) (f : ∀ v σ H Q,t' v σ H Q → t v σ H Q) : PG X e t':=fun pins s σ H v u Q I r q=>h pins s σ H v u Q I r (f v σ H Q q)
theorem PGs.wk {e : List Expr} {t t' : TGs} (h : PGs X e t) (f : ∀ v σ H Q,t' v σ H Q → t v σ H Q) : PGs X e t':=fun pins s σ H v u Q I r q=>h pins s σ H v u Q I r (f v σ H Q q)
theorem Kt {tg it : Expr} {w1 w2 : TI} (h1 : PI X tg it w1) (h2 : PI X tg it w2) : PI X tg it (fun σ H R=>w1 σ H R ∨ w2 σ H R):=by
 intro pins s σ H R I h
 rcases h with h | h
 · exact h1 pins s σ H R I h
 · exact h2 pins s σ H R I h
theorem Bg.gl (B : Bg X T Φ cl CX Ex k) {x : Str} (h : jC T.sc x = true) : Gl X x:=by
 show X.env.scope.names.lookup x = _
 rw [B.sc]; exact lR h
theorem Bg.vis (B : Bg X T Φ cl CX Ex k) {x : Str} {i : Nat} (h : trV T x = some i) : X.N[i]? = some x ∧ (X.env.scope.names.lookup x = some .local ∨ X.env.scope.names.lookup x = some .cell) ∧ (x == ("__debug__" : Str)) = false ∧ (x == ("__classdict__" : Str)) = false:=by
 unfold trV at h
 split at h
 · rename_i c
   exact ⟨by rw [B.nm]; exact slot_get h,by rw [B.sc]; exact jN c.1,c.2.1,c.2.2⟩
 · cases h
theorem Bg.sto (B : Bg X T Φ cl CX Ex k) {x : Str} {i : Nat} (h : trV T x = some i) (hc : i ∉ T.cap) : X.fn x = true ∨ X.env.scope.names.lookup x = some .local:=by
 have hv:=(B.vis h).2.1
 rcases hv with z | z
 · exact .inr z
 · refine .inl (B.fn i x ?_ hc (by rw [← B.sc]; exact z))
   unfold trV at h
   split at h
   · exact slot_get h
   · cases h
theorem zo (B : Bg X T Φ cl CX Ex k) : ∀ {es : List Expr} {is : List Nat},eo T es = some is → PGs X es (fun vs σ H Q=>∃ m st ρ ds ρ',R (zt X cl) m st H ∧ bX (zt X cl) m H σ ρ ∧ ak (zt X cl) m H vs ds ∧ lb is ds ρ = some ρ' ∧ ∀ σ',bX (zt X cl) m H σ' ρ' → Q σ' H) ∧
   (assignEach es X.env).length = is.length ∧ (assignEach es X.env).findIdx? (·.1) = none
 | [],is,h=>by
   cases h
   refine ⟨PGs.wk DH ?_,rfl,rfl⟩
   rintro vs σ H Q ⟨m,st,ρ,ds,ρ',r,en,dn,e,q⟩
   cases dn with
   | nil=>cases e; exact ⟨rfl,q _ en⟩
   | cons _ _=>cases e
 | .Name x p :: es,is,h=>by
   simp only [eo,Option.bind_eq_some_iff] at h
   obtain ⟨i,h1,h2⟩:=h
   split at h2
   · cases h2
   · rename_i na
     simp only [Option.bind_eq_some_iff,Option.some.injEq] at h2
     obtain ⟨is',h3,rfl⟩:=h2
     obtain ⟨v1,v2,v3,v4⟩:=B.vis h1
     have nd : X.N.Nodup:=by rw [B.nm]; exact B.nd
     obtain ⟨ih,il,ix⟩:=zo B h3
     refine ⟨PGs.wk (Bm (zc nd v1 v2 (B.sto h1 na)) ih rfl) ?_,?_,?_⟩
     · rintro vs σ H Q ⟨m,st,ρ,ds,ρ',r,en,dn,e,q⟩
       cases dn with
       | nil=>cases e
       | cons d1 dr=>
         rw [lb] at e
         exact ⟨_,_,rfl,m,st,_,_,ρ',r,en.set d1,dr,e,q⟩
     · show (assignEach es X.env).length + 1 = _
       rw [il]; rfl
     · show List.findIdx? _ ((false,_) :: assignEach es X.env) = none
       rw [List.findIdx?_cons,ix]; rfl
 | .BoolOp _ _ _ :: _,_,h=>by simp [eo] at h
 | .NamedExpr _ _ _ :: _,_,h=>by simp [eo] at h
 | .BinOp _ _ _ _ :: _,_,h=>by simp [eo] at h
 | .UnaryOp _ _ _ :: _,_,h=>by simp [eo] at h
 | .Lambda _ _ _ _ :: _,_,h=>by simp [eo] at h
 | .IfExp _ _ _ _ :: _,_,h=>by simp [eo] at h
 | .Dict _ _ _ :: _,_,h=>by simp [eo] at h
 | .Set _ _ _ :: _,_,h=>by simp [eo] at h
 | .ListComp _ _ _ _ :: _,_,h=>by simp [eo] at h
 | .SetComp _ _ _ _ :: _,_,h=>by simp [eo] at h
 | .DictComp _ _ _ _ _ :: _,_,h=>by simp [eo] at h
 | .GeneratorExp _ _ _ _ :: _,_,h=>by simp [eo] at h
 | .Await _ _ :: _,_,h=>by simp [eo] at h
 | .Yield _ _ :: _,_,h=>by simp [eo] at h
 | .YieldFrom _ _ :: _,_,h=>by simp [eo] at h
 | .Compare _ _ _ _ :: _,_,h=>by simp [eo] at h
 | .Call _ _ _ _ :: _,_,h=>by simp [eo] at h
 | .FormattedValue _ _ _ _ :: _,_,h=>by simp [eo] at h
 | .JoinedStr _ _ :: _,_,h=>by simp [eo] at h
 | .Constant _ _ _ :: _,_,h=>by simp [eo] at h
 | .Attribute _ _ _ :: _,_,h=>by simp [eo] at h
 | .Subscript _ _ _ :: _,_,h=>by simp [eo] at h
 | .Starred _ _ :: _,_,h=>by simp [eo] at h
 | .List _ _ :: _,_,h=>by simp [eo] at h
 | .Tuple _ _ _ :: _,_,h=>by simp [eo] at h
 | .Slice _ _ _ _ :: _,_,h=>by simp [eo] at h
theorem vJ : ∀ {is : List Nat} {ds : List U} {ρ ρ' : Env},lb is ds ρ = some ρ' → ds.length = is.length
 | [],[],_,_,_=>rfl
 | _ :: _,_ :: _,_,_,h=>by rw [lb] at h; exact congrArg (· + 1) (vJ h)
theorem pF (B : Bg X T Φ cl CX Ex k) {tg : Expr} {t : Tg} (h : ma T tg = some t) : PG X tg (lG (zt X cl) t):=by
 have nd : X.N.Nodup:=by rw [B.nm]; exact B.nd
 cases tg <;> simp only [ma,Option.bind_eq_some_iff,reduceCtorEq] at h
 case Name x p=>
   obtain ⟨i,h1,h2⟩:=h
   split at h2
   · cases h2
   · rename_i na
     cases h2
     obtain ⟨v1,v2,v3,v4⟩:=B.vis h1
     refine PG.wk (zc nd v1 v2 (B.sto h1 na)) ?_
     rintro v σ H Q ⟨m,st,ρ,d,ρ',r,en,dv,e,q⟩
     rw [hZ] at e; cases e
     exact q _ (en.set dv)
 case Tuple es a b=>
   obtain ⟨is,h1,h2⟩:=h
   cases h2
   obtain ⟨g1,g2,g3⟩:=zo B h1
   refine PG.wk (IY B.calm g1 g2 g3) ?_
   rintro v σ H Q ⟨m,st,ρ,d,ρ',r,en,dv,e,q⟩
   cases dv with
   | tup h1 r1=>
     rw [hZ] at e
     exact ⟨_,_,rfl,h1,by rw [r1.length,vJ e],m,st,ρ,_,ρ',r,en,r1,e,q⟩
   | _=>cases e
theorem EX {Z : Zt} {m0 : List Addr} {H0 : Hp} {a : Addr} {l : Nat} (h : m0[l]? = some a) : Yl Z (Itl Z.K a) (.lst l) m0 H0:=by
 intro m st H g r i
 obtain ⟨fz,ds,vs,e,ly,dn⟩:=r.loc (j5 g.pre h)
 simp only [Sq.at,e,Option.map_some]
 have hl:=dn.length
 cases hx : ds[i]? with
 | none=>exact ⟨vs,ly.sq,by have:=List.getElem?_eq_none_iff.mp hx; omega⟩
 | some x=>
   obtain ⟨v,hv,dv⟩:=dn.get hx
   refine ⟨⟨vs,v,ly.sq,hv⟩,fun y H' ⟨e1,e2⟩=>?_⟩
   subst e1
   have ex : y = v:=by have:=e2 vs ly.sq; rw [hv] at this; exact (Option.some.inj this).symm
   subst ex
   exact ⟨Go.refl m _,r,dv⟩
theorem Jq {Z : Zt} {m0 : List Addr} {H0 : Hp} {a : Addr} {vs : List V} {xs : List U} (h : SqT Z.K H0 a vs) (d : ak Z m0 H0 vs xs) : Yl Z (Itt Z.K a) (.vals xs) m0 H0:=by
 intro m st H g r i
 have h':=goT g h
 have d':=d.mono g
 have hl:=d'.length
 simp only [Sq.at]
 cases hx : xs[i]? with
 | none=>exact ⟨vs,h',by have:=List.getElem?_eq_none_iff.mp hx; omega⟩
 | some x=>
   obtain ⟨v,hv,dv⟩:=d'.get hx
   refine ⟨⟨vs,v,h',hv⟩,fun y H' ⟨e1,e2⟩=>?_⟩
   subst e1
   have ex : y = v:=by have:=e2 vs h'; rw [hv] at this; exact (Option.some.inj this).symm
   subst ex
   exact ⟨Go.refl m _,r,dv⟩
theorem Ka {Z : Zt} {m0 : List Addr} {H0 : Hp} {a : Addr} {vs : List V} {xs : List U} (h : SqF Z.K H0 a vs) (d : ak Z m0 H0 vs xs) : Yl Z (Itl Z.K a) (.vals xs) m0 H0:=by
 intro m st H g r i
 have h':=(goF g h).sq
 have d':=d.mono g
 have hl:=d'.length
 simp only [Sq.at]
 cases hx : xs[i]? with
 | none=>exact ⟨vs,h',by have:=List.getElem?_eq_none_iff.mp hx; omega⟩
 | some x=>
   obtain ⟨v,hv,dv⟩:=d'.get hx
   refine ⟨⟨vs,v,h',hv⟩,fun y H' ⟨e1,e2⟩=>?_⟩
   subst e1
   have ex : y = v:=by have:=e2 vs h'; rw [hv] at this; exact (Option.some.inj this).symm
   subst ex
   exact ⟨Go.refl m _,r,dv⟩
theorem vD : ∀ (xs : List U) (k i : Nat),(uP k xs)[i]? = (xs[i]?).map fun x=>.tup [.int ((k + i : Nat) : Int),x]
 | [],_,_=>by simp [uP]
 | x :: xs,k,0=>by simp [uP]
 | x :: xs,k,i + 1=>by
   simp only [uP,List.getElem?_cons_succ]
   rw [vD xs (k + 1) i,show k + 1 + i = k + (i + 1) by omega]
theorem Gn {Z : Zt} {m0 : List Addr} {H0 : Hp} {a : Addr} {vs : List V} {xs : List U} (h : SqF Z.K H0 a vs) (d : ak Z m0 H0 vs xs) : Yl Z (Ite Z.K a) (.vals (uP 0 xs)) m0 H0:=by
 intro m st H g r i
 have h':=(goF g h).sq
 have d':=d.mono g
 have hl:=d'.length
 simp only [Sq.at]
 rw [vD,Nat.zero_add]
 cases hx : xs[i]? with
 | none=>exact ⟨vs,h',by have:=List.getElem?_eq_none_iff.mp hx; omega⟩
 | some x=>
   obtain ⟨v,hv,dv⟩:=d'.get hx
   refine ⟨⟨vs,v,h',hv⟩,fun y H' ⟨p,x',hp,e0,e1,e2⟩=>?_⟩
   subst e0 e1
   have ex : x' = v:=by have:=e2 vs h'; rw [hv] at this; exact (Option.some.inj this).symm
   subst ex
   have g':=Go.new r (o:=.tup [.int (i : Nat),x']) hp
   exact ⟨g',r.upd hp,.tup (.inl (.inl cT)) (.cons .int (.cons (dv.mono g') .nil))⟩
theorem xN (lo : Int) (n i : Nat) : (kJ lo n)[i]? = if i < n then some (.int (lo + (i : Nat))) else none:=by
 simp only [kJ,List.getElem?_map,List.getElem?_range]
 split <;> simp_all
theorem CB {Z : Zt} {m0 : List Addr} {H0 : Hp} (lo : Int) (n : Nat) : Yl Z (Itr lo n) (.vals (kJ lo n)) m0 H0:=by
 intro m st H g r i
 simp only [Sq.at,xN]
 by_cases hi : i < n
 · rw [if_pos hi]
   refine ⟨hi,fun y H' ⟨e1,e2⟩=>?_⟩
   subst e1 e2
   exact ⟨Go.refl m _,r,.int⟩
 · rw [if_neg hi]
   show n ≤ i
   omega
theorem Je {Z : Zt} {m0 : List Addr} {H0 : Hp} {a : Addr} {l : Nat} (h : m0[l]? = some a) : Yl Z (Ite Z.K a) (.enu l) m0 H0:=by
 intro m st H g r i
 obtain ⟨fz,ds,vs,e,ly,dn⟩:=r.loc (j5 g.pre h)
 simp only [Sq.at,e,Option.map_some]
 have hl:=dn.length
 cases hx : ds[i]? with
 | none=>exact ⟨vs,ly.sq,by have:=List.getElem?_eq_none_iff.mp hx; omega⟩
 | some x=>
   obtain ⟨v,hv,dv⟩:=dn.get hx
   refine ⟨⟨vs,v,ly.sq,hv⟩,fun y H' ⟨p,x',hp,e0,e1,e2⟩=>?_⟩
   subst e0 e1
   have ex : x' = v:=by have:=e2 vs ly.sq; rw [hv] at this; exact (Option.some.inj this).symm
   subst ex
   have g':=Go.new r (o:=.tup [.int (i : Nat),x']) hp
   exact ⟨g',r.upd hp,.tup (.inl (.inl cT)) (.cons .int (.cons (dv.mono g') .nil))⟩
noncomputable def Ho (Z : Zt) (a : Addr) (p : Sq) (m0 : List Addr) (H0 : Hp) : Prop:=∀ m st H,Go m0 H0 m H → R Z m st H → ∀ i,match p.at st i with
 | none=>True
 | some none=>∃ vs,SqL Z.K H a vs ∧ vs.length ≤ i
 | some (some x)=>∃ vs v,SqL Z.K H a vs ∧ vs[i]? = some v ∧ bf Z m H v x
theorem yB {Z : Zt} {m0 : List Addr} {st0 : Sto} {H0 : Hp} {v : V} {x : U} {p : Sq} (r0 : R Z m0 st0 H0) (d : bf Z m0 H0 v x) (e : src st0 x = some p) : ∃ a,v = .ref a ∧ (∃ xs,SqL Z.K H0 a xs) ∧ Ho Z a p m0 H0:=by
 cases d with
 | loc hl=>
   simp only [src] at e
   split at e
   · cases e
     obtain ⟨_,_,vs0,_,ly0,_⟩:=r0.loc hl
     refine ⟨_,rfl,⟨vs0,ly0.sq⟩,?_⟩
     intro m st H g r i
     obtain ⟨fz,ds,vs,e,ly,dn⟩:=r.loc (j5 g.pre hl)
     simp only [Sq.at,e,Option.map_some]
     have hl:=dn.length
     cases hx : ds[i]? with
     | none=>exact ⟨vs,ly.sq,by have:=List.getElem?_eq_none_iff.mp hx; omega⟩
     | some x=>
       obtain ⟨v,hv,dv⟩:=dn.get hx
       exact ⟨vs,v,ly.sq,hv,dv⟩
   · cases e
 | kl h1 d1=>
   cases e
   refine ⟨_,rfl,⟨_,h1.sq⟩,?_⟩
   intro m st H g r i
   have h':=(goF g h1).sq
   have d':=d1.mono g
   have hl:=d'.length
   simp only [Sq.at]
   split
   · trivial
   · rename_i hx
     exact ⟨_,h',by have:=List.getElem?_eq_none_iff.mp (Option.some.inj hx); omega⟩
   · rename_i x hx
     obtain ⟨v,hv,dv⟩:=d'.get (Option.some.inj hx)
     exact ⟨_,v,h',hv,dv⟩
 | _=>cases e
theorem HC {Z : Zt} {m0 : List Addr} {H0 : Hp} {a b : Addr} {p q : Sq} (sa : Ho Z a p m0 H0) (sb : Ho Z b q m0 H0) : Yl Z (Ev.Itz Z.K a b) (.zip p q) m0 H0:=by
 intro m st H g r i
 have ha:=sa m st H g r i
 have hb:=sb m st H g r i
 simp only [Sq.at]
 cases ep : p.at st i with
 | none=>trivial
 | some o=>
   cases eq : q.at st i with
   | none=>trivial
   | some o'=>
     rw [ep] at ha
     rw [eq] at hb
     cases o with
     | none=>
       obtain ⟨vs,h1,h2⟩:=ha
       cases o' with
       | none=>obtain ⟨ws,h3,_⟩:=hb; exact ⟨vs,ws,h1,h3,.inl h2⟩
       | some y=>obtain ⟨ws,w,h3,_⟩:=hb; exact ⟨vs,ws,h1,h3,.inl h2⟩
     | some x=>
       obtain ⟨vs,v,h1,h2,dv⟩:=ha
       cases o' with
       | none=>obtain ⟨ws,h3,h4⟩:=hb; exact ⟨vs,ws,h1,h3,.inr h4⟩
       | some y=>
         obtain ⟨ws,w,h3,h4,dw⟩:=hb
         refine ⟨⟨vs,ws,v,w,h1,h3,h2,h4⟩,fun u H' ⟨p',x',y',hp,e0,e1,e2,e3⟩=>?_⟩
         subst e0 e1
         have ex : x' = v:=by have:=e2 vs h1; rw [h2] at this; exact (Option.some.inj this).symm
         have ey : y' = w:=by have:=e3 ws h3; rw [h4] at this; exact (Option.some.inj this).symm
         subst ex ey
         have g':=Go.new r (o:=.tup [x',y']) hp
         exact ⟨g',r.upd hp,.tup (.inl (.inl cT)) (.cons (dv.mono g') (.cons (dw.mono g') .nil))⟩
end
end Sv
namespace Sv
open PySem PySem.Spec PyProof.Rows L2
open Ev (D aQ aU ai jM j1 eu slot slot_get iO jC jN lR jk fI jK aS nE lH PTs mr ou Be Ite cK)
section
variable {X : Cx} {T : Tr} {Φ : Fn} {cl : Nat → Addr} {CX : CXT} {Ex : Nat → Hp → Prop} {k : Nat}
theorem vQ {a b : Bool} (h : (a && b) = true) : a = true ∧ b = true:=by rw [Bool.and_eq_true] at h; exact h
theorem EA {T : Tr} {scope : Scope} {j i : Nat} (h : (hW T scope)[j]? = some (some i)) : ∃ x,(jK scope)[j]? = some x ∧ T.N[i]? = some x ∧ (x,NameKind.free) ∈ scope.names:=by
 unfold hW at h
 rw [List.getElem?_map] at h
 cases e : (jK scope)[j]? with
 | none=>rw [e] at h; cases h
 | some x=>
   rw [e] at h
   have h' : (if (x,NameKind.free) ∈ scope.names then slot T.N x else none) = some i:=Option.some.inj h
   split at h'
   · rename_i hm
     exact ⟨x,rfl,slot_get h',hm⟩
   · cases h'
structure Bo (T : Tr) (scope : Scope) : Prop where
 slt : ∀ x,(x,NameKind.free) ∈ scope.names → (slot T.N x).isSome = true
 kind : scope.kind = .function
 tk : T.sc.kind = .function
 loc : ∀ x ∈ scope.names,x.2 = .local → scope.names.lookup x.1 = some .local
 fre : ∀ x ∈ scope.names,x.2 = .free → T.sc.names.lookup x.1 = some .cell
 one : ∀ x,(x,NameKind.free) ∈ scope.names → (x,NameKind.cell) ∉ scope.names
 nob : ∀ x,(x,NameKind.free) ∈ scope.names → (x,NameKind.local) ∉ scope.names
 nd : (jK scope ++ [("#" : Str)]).Nodup
 vis : ¬ Vis (jk scope T.sc) ("#" : Str)
theorem wj {T : Tr} {scope : Scope} (h : yv T scope = true) : Bo T scope:=by
 unfold yv at h
 obtain ⟨h,h9⟩:=vQ h
 obtain ⟨h,h8⟩:=vQ h
 obtain ⟨h,h6⟩:=vQ h
 obtain ⟨h,h5⟩:=vQ h
 obtain ⟨h,h4⟩:=vQ h
 obtain ⟨h,h3⟩:=vQ h
 obtain ⟨h,h2⟩:=vQ h
 obtain ⟨h0,h1⟩:=vQ h
 rw [List.all_eq_true] at h0 h3 h4 h5
 refine ⟨fun x hx=>by simpa using h0 _ hx,eq_of_beq h1,eq_of_beq h2,fun x hx hk=>?_,fun x hx hk=>?_,fun x hx hm=>?_,fun x hx hm=>?_,of_decide_eq_true h6,fun hv=>?_⟩
 · have:=h3 x hx
   rw [hk] at this
   simpa using this
 · have:=h4 x hx
   rw [hk] at this
   simpa using this
 · have:=h5 _ hx
   simp [hm] at this
 · have:=h5 _ hx
   simp [hm] at this
 · rcases hv with hv | hv | hv
   · unfold iO at h8; rw [hv] at h8; simp at h8
   · unfold iO at h8; rw [hv] at h8; simp at h8
   · rw [hv] at h9; simp at h9
theorem By (B : Bg X T Φ cl CX Ex k) {scope : Scope} (b : Bo T scope) : lH X scope (qp T scope).N (hW T scope) where
 kind:=b.kind
 loc:=b.loc
 fre:=fun x hx hk=>by
   show X.env.scope.names.lookup x.1 = _
   rw [B.sc]; exact b.fre x hx hk
 one:=b.one
 noboth:=b.nob
 len:=by
   show (jK scope ++ [("#" : Str)]).length = _
   unfold hW
   rw [List.length_append,List.length_map]; rfl
 cap:=fun j i h=>by
   obtain ⟨x,h1,h2,h3⟩:=EA h
   refine ⟨x,?_,by rw [B.nm]; exact h2,h3⟩
   show (jK scope ++ [("#" : Str)])[j]? = some x
   rw [List.getElem?_append_left (List.getElem?_eq_some_iff.mp h1).1]; exact h1
 acc:=by
   refine ⟨("#" : Str),?_,by rw [fI B.sc]; exact b.vis⟩
   show (jK scope ++ [("#" : Str)])[(hW T scope).length]? = _
   unfold hW
   rw [List.length_map,List.getElem?_append_right (Nat.le_refl _),Nat.sub_self]
   rfl
theorem IS {X' : Cx} {Z : Zt} (h : ∀ outer H s E e s',(∀ C a H',¬ E C a H') → ¬ CX outer H s E e s') : Passes CX X' (xk Z fun _ _=>False):=fun _ _ _ _ _ _ _ q=>absurd q (h _ _ _ _ _ _ fun _ _ _ ⟨_,_,z⟩=>z)
theorem Ca (B : Bg X T Φ cl CX Ex k) {scope : Scope} (b : Bo T scope) (s : Shared) (H : Hp) (fp : List Addr) : Bg (aS X s H scope (qp T scope).N fp) (qp T scope) Φ cl CX (fun _ _=>False) k where
 sc:=fI B.sc
 nm:=rfl
 nd:=b.nd
 calm:=B.calm
 room:=B.room
 blt:=B.blt
 cal:=B.cal
 cst:=B.cst
 cxn:=B.cxn
 pas:=IS B.cxn
 fn:=fun i x hx hc hl=>by
   show decide _ = true
   refine decide_eq_true ?_
   have hfk : ∀ y,(y,NameKind.free) ∈ scope.names → X.env.kindOf y = some .cell:=fun y hy=>by
     show X.env.scope.names.lookup y = _
     rw [B.sc]; exact b.fre _ hy rfl
   have hl' : (relabel scope X.env).names.lookup x = some .cell:=by rw [fI B.sc]; exact hl
   rcases cK hfk (by rw [B.sc]; exact b.tk) hl' with q | q
   · exact q
   · exfalso
     have hx' : (jK scope ++ [("#" : Str)])[i]? = some x:=hx
     have il : i < (jK scope).length:=by
       rcases Nat.lt_or_ge i (jK scope).length with z | z
       · exact z
       · exfalso
         have e0 : i = (jK scope).length:=by
           have:=(List.getElem?_eq_some_iff.mp hx').1
           rw [List.length_append,List.length_singleton] at this
           omega
         rw [e0,List.getElem?_append_right (Nat.le_refl _),Nat.sub_self] at hx'
         have ex : x = ("#" : Str):=(Option.some.inj hx').symm
         rw [ex] at hl
         exact b.vis (.inr (.inl hl))
     rw [List.getElem?_append_left il] at hx'
     cases hs : slot T.N x with
     | none=>
       have:=b.slt x q.1
       rw [hs] at this; cases this
     | some j=>
       have hc' : (hW T scope)[i]? = some (some j):=by
         unfold hW
         rw [List.getElem?_map,hx']
         show some (if (x,NameKind.free) ∈ scope.names then slot T.N x else none) = _
         rw [if_pos q.1,hs]
       apply hc
       show i ∈ (List.range (hW T scope).length).filter _
       rw [List.mem_filter,List.mem_range]
       refine ⟨by unfold hW; rw [List.length_map]; exact il,?_⟩
       rw [List.getD_eq_getElem?_getD,hc']
       rfl
theorem wo {ρ : Env} {caps : List (Option Nat)} {j : Nat} {d : U} (h : (ki ρ caps ++ [none])[j]? = some (some d)) : ∃ i,j < caps.length ∧ caps[j]? = some (some i) ∧ ρ[i]? = some (some d):=by
 have cl : (ki ρ caps).length = caps.length:=by unfold ki; rw [List.length_map]
 rcases Nat.lt_or_ge j caps.length with z | z
 · rw [List.getElem?_append_left (by rw [cl]; exact z)] at h
   unfold ki at h
   rw [List.getElem?_map] at h
   cases e : caps[j]? with
   | none=>rw [e] at h; cases h
   | some o=>
     rw [e] at h
     have h' : (o.bind fun i=>(ρ[i]?).join) = some d:=Option.some.inj h
     cases o with
     | none=>cases h'
     | some i=>
       refine ⟨i,z,rfl,?_⟩
       have h2 : (ρ[i]?).join = some d:=h'
       cases q : ρ[i]? with
       | none=>rw [q] at h2; cases h2
       | some y=>rw [q] at h2; exact congrArg some h2
 · rw [List.getElem?_append_right (by rw [cl]; exact z)] at h
   have:=List.mem_of_getElem? h
   simp at this
theorem Ad {Z : Zt} {m : List Addr} {H : Hp} {σ : L2.St} {ρ : Env} {caps : List (Option Nat)} {D0 : Addr} (en : bX Z m H σ ρ) : bX Z m H (nE σ caps ++ [some (.ref D0)]) (ki ρ caps ++ [none]):=by
 refine ⟨by unfold nE ki; simp,fun j d h=>?_⟩
 obtain ⟨i,hj,e1,e2⟩:=wo h
 obtain ⟨v,g1,g2⟩:=en.get i d e2
 refine ⟨v,?_,g2⟩
 rw [List.getElem?_append_left (by unfold nE; rw [List.length_map]; exact hj)]
 unfold nE
 rw [List.getElem?_map,e1]
 show some ((σ[i]?).join) = _
 rw [g1]; rfl
theorem rR : ∀ {is : List Nat} {ds : List U} {ρ ρ' : Env},lb is ds ρ = some ρ' → ρ'.length = ρ.length ∧ ∀ (i : Nat),i ∉ is → ρ'[i]? = ρ[i]?
 | [],[],_,_,h=>by cases h; exact ⟨rfl,fun _ _=>rfl⟩
 | j :: is,x :: xs,ρ,ρ',h=>by
   rw [lb] at h
   obtain ⟨h1,h2⟩:=rR h
   refine ⟨by rw [h1,List.length_set],fun i hi=>?_⟩
   rw [h2 i (fun z=>hi (List.mem_cons_of_mem _ z)),List.getElem?_set_ne (fun z=>hi (by rw [z]; exact List.mem_cons_self))]
noncomputable def tgS : Tg → List Nat
 | .nm i=>[i]
 | .tp is=>is
theorem zY {t : Tg} {d : U} {ρ ρ' : Env} (h : hZ t d ρ = some ρ') : ρ'.length = ρ.length ∧ ∀ (i : Nat),i ∉ tgS t → ρ'[i]? = ρ[i]?:=by
 cases t with
 | nm j=>
   rw [hZ] at h; cases h
   refine ⟨List.length_set,fun i hi=>List.getElem?_set_ne (fun z=>hi (by subst z; exact List.mem_singleton_self _))⟩
 | tp is=>
   cases d <;> rw [hZ] at h <;> first | cases h | exact rR h | (intros; simp_all)
theorem vW {T : Tr} : ∀ {es : List Expr} {is : List Nat},eo T es = some is → ∀ i ∈ is,i ∉ T.cap
 | [],_,h=>by cases h; exact fun i hi=>absurd hi (by simp)
 | e :: es,is,h=>by
   cases e <;> simp only [eo,Option.bind_eq_some_iff,reduceCtorEq] at h
   obtain ⟨i,h1,h2⟩:=h
   split at h2
   · cases h2
   · rename_i na
     simp only [Option.bind_eq_some_iff,Option.some.injEq] at h2
     obtain ⟨is',h3,rfl⟩:=h2
     intro j hj
     rcases List.mem_cons.mp hj with rfl | hj
     · exact na
     · exact vW h3 j hj
theorem IK {T : Tr} {tg : Expr} {t : Tg} (h : ma T tg = some t) : ∀ i ∈ tgS t,i ∉ T.cap:=by
 cases tg <;> simp only [ma,Option.bind_eq_some_iff,reduceCtorEq] at h
 case Name x p=>
   obtain ⟨i,h1,h2⟩:=h
   split at h2
   · cases h2
   · rename_i na
     cases h2
     intro j hj
     rw [show j = i from List.mem_singleton.mp hj]; exact na
 case Tuple es a b=>
   obtain ⟨is,h1,h2⟩:=h
   cases h2
   exact vW h1
theorem DE {T : Tr} {scope : Scope} {tg : Expr} {t : Tg} {ρ : Env} (h : ma (qp T scope) tg = some t) {i : Nat} {d : U} (e : (ki ρ (hW T scope) ++ [none])[i]? = some (some d)) : i ∉ tgS t:=fun hi=>by
 refine IK h i hi ?_
 obtain ⟨j,hl,e1,_⟩:=wo e
 show i ∈ (List.range (hW T scope).length).filter _
 rw [List.mem_filter,List.mem_range]
 refine ⟨hl,?_⟩
 rw [List.getD_eq_getElem?_getD,e1]; rfl
theorem Go.nY {m m' : List Addr} {H H' : Hp} (g : Go m H m' H') {p : Addr} {o : HO} (hp : p ∉ m) (h : H p = some o) : p ∉ m':=fun z=>by
 obtain ⟨l,hl⟩:=List.getElem?_of_mem z
 rcases Nat.lt_or_ge l m.length with q | q
 · exact hp (List.mem_of_getElem? (xW g.pre q hl))
 · rw [g.fr l p q hl] at h; cases h
theorem Go.side {m m' : List Addr} {H H' : Hp} (g : Go m H m' H') {p : Addr} {o : HO} (hp : H p = none) : Go m H m' (upd H' p o):=by
 refine ⟨g.pre,fun b u e hn=>?_,fun b e=>?_,g.fr⟩
 · rw [aD (aH e hp)]; exact g.kp b u e hn
 · unfold L2.upd at e
   split at e
   · cases e
   · exact g.tr b e
theorem R.adopt {Z : Zt} {m : List Addr} {st : Sto} {H : Hp} (r : R Z m st H) {p : Addr} {vs : List V} {ds : List U} (hp : p ∉ m) (h : H p = some (.lst vs)) (dn : ak Z m H vs ds) :
   R Z (m ++ [p]) (st ++ [(false,ds)]) H ∧ bf Z (m ++ [p]) H (.ref p) (.loc st.length):=by
 have up : ∀ {vs : List V} {ds : List U},ak Z m H vs ds → ak Z (m ++ [p]) H vs ds:=fun {vs ds} d=>by
   refine ak.rec (motive_1:=fun v d _=>bf Z (m ++ [p]) H v d) (motive_2:=fun ws es _=>ak Z (m ++ [p]) H ws es) .non .bl .int .str (fun h _ ih=>.tup h ih) (fun h=>.loc (j5 (List.prefix_append m [p]) h)) (fun h=>.exo h) (fun h _ ih=>.kl h ih) .nil (fun _ _ i1 i2=>.cons i1 i2) d
 have hl : (m ++ [p])[st.length]? = some p:=by rw [← r.len,List.getElem?_append_right (Nat.le_refl _),Nat.sub_self]; rfl
 refine ⟨⟨by rw [List.length_append,List.length_append,r.len]; rfl,fun i j a e1 e2=>?_,fun l a fz es e1 e2=>?_⟩,.loc hl⟩
 · have key : ∀ (i : Nat) a,(m ++ [p])[i]? = some a → (m[i]? = some a ∧ a ≠ p) ∨ (i = m.length ∧ a = p):=fun i a e=>by
     rcases Nat.lt_or_ge i m.length with q | q
     · rw [List.getElem?_append_left q] at e
       exact .inl ⟨e,fun z=>hp (z ▸ List.mem_of_getElem? e)⟩
     · have hi:=(List.getElem?_eq_some_iff.mp e).1
       rw [List.length_append,List.length_singleton] at hi
       rw [List.getElem?_append_right q] at e
       have:=List.mem_of_getElem? e
       rw [List.mem_singleton] at this
       exact .inr ⟨by omega,this⟩
   rcases key i a e1 with ⟨q1,q2⟩ | ⟨q1,q2⟩ <;> rcases key j a e2 with ⟨w1,w2⟩ | ⟨w1,w2⟩
   · exact r.inj i j a q1 w1
   · exact absurd w2 q2
   · exact absurd q2 w2
   · rw [q1,w1]
 · rcases Nat.lt_or_ge l m.length with q | q
   · rw [List.getElem?_append_left q] at e1
     rw [List.getElem?_append_left (by rw [← r.len]; exact q)] at e2
     obtain ⟨ws,h1,h2⟩:=r.obj l a fz es e1 e2
     exact ⟨ws,h1,up h2⟩
   · have hi:=(List.getElem?_eq_some_iff.mp e1).1
     rw [List.length_append,List.length_singleton] at hi
     obtain rfl : l = m.length:=by omega
     rw [List.getElem?_append_right (Nat.le_refl _),Nat.sub_self] at e1
     rw [r.len,List.getElem?_append_right (Nat.le_refl _),Nat.sub_self] at e2
     cases e1; cases e2
     exact ⟨vs,by unfold Lay; rw [if_neg (by decide)]; exact h,up dn⟩
theorem Go.adopt {m m' : List Addr} {H H' : Hp} (g : Go m H m' H') {p : Addr} (hp : H p = none) : Go m H (m' ++ [p]) H':=by
 refine ⟨g.pre.trans (List.prefix_append m' [p]),g.kp,g.tr,fun l a hl e=>?_⟩
 rcases Nat.lt_or_ge l m'.length with q | q
 · rw [List.getElem?_append_left q] at e; exact g.fr l a hl e
 · rw [List.getElem?_append_right q] at e
   have:=List.mem_of_getElem? e
   rw [List.mem_singleton] at this
   rw [this]; exact hp
structure Snd (X : Cx) (T : Tr) (Φ : Fn) (cl : Nat → Addr) (Ex : Nat → Hp → Prop) (n : Nat) : Prop where
 e : ∀ pe e,trE T n pe = some e → PE X pe (lE (zt X cl) Φ Ex e) ∧ PT X pe (lT (zt X cl) Φ Ex e)
 w : ∀ op vs pos e,trE T n (.BoolOp op vs pos) = some e → PW X (.BoolOp op vs pos) (lT (zt X cl) Φ Ex e)
 a : ∀ es es',i0 T n es = some es' → PA X es (lEs (zt X cl) Φ Ex es')
 p : ∀ e e',trP T n e = some e' → PO X e (lP (zt X cl) Φ Ex e')
 f : ∀ es es',vM T n es = some es' → PTs X es (lIf (zt X cl) Φ Ex es')
 i : ∀ tg it it',trI T n it = some it' → uN tg it' = true → PI X tg it (lI (zt X cl) Φ Ex it') ∧ ∀ x,foldedSetIterable it X.env x = pure x
theorem y6 {scope : Scope} {tg : Expr} {t : Tg} {it : It} {fs : List E} {e : E} (h1 : ma (qp T scope) tg = some t) : ∀ σ H Q,lE (zt X cl) Φ Ex (.comp (hW T scope) t it fs e) σ H Q →
   ou (fun g tt te=>g = lG (zt X cl) t ∧ tt = lIf (zt X cl) Φ (fun _ _=>False) fs ∧ te = lE (zt X cl) Φ (fun _ _=>False) e) (hW T scope) (lI (zt X cl) Φ Ex it) σ H Q:=by
 rintro σ H Q ⟨m,st,ρ,r,en,h⟩
 simp only [xE] at h
 refine ⟨m,st,ρ,r,en,ao (az h) (fun _ _ z=>z) fun q st1 _ hq J m1 H1 g1 r1 yl=>?_⟩
 split at hq
 · rename_i hlx
   have hq:=az (pJ hq)
   refine ⟨_,_,_,⟨rfl,rfl,rfl⟩,fun D0 hD=>?_⟩
   have rD:=r1.upd (o:=.lst []) hD
   have gD:=Go.new r1 (o:=.lst []) hD
   generalize hf : (fun (x : U) (st : Sto)=>match hZ t x (ki ρ (hW T scope) ++ [none]) with
       | none=>(Rs.bad : Rs (Option U))
       | some ρ1=>(xIf Φ fs ρ1 st).bind fun b st2=>if b = true then (xE Φ e ρ1 st2).bind fun y st3=>.ok (some y) st3 else .ok none st2) = f at hq
   refine ⟨fun i n σ' H'=>∃ m' st' us vs,R (zt X cl) m' st' H' ∧ D0 ∉ m' ∧ Go m1 H1 m' H' ∧ bX (zt X cl) m' H' σ' (ki ρ (hW T scope) ++ [none]) ∧ H' D0 = some (.lst vs) ∧ ak (zt X cl) m' H' vs us ∧ us.length ≤ i ∧ i + n = q.len st1 + 1 ∧
     post (fun _ _=>False) (fun rest st2=>post (fun _ _=>False) (kV (zt X cl) m H Q) (new st2 (us ++ rest))) (lL f q n i st'),⟨q.len st1 + 1,m1,st1,[],[],rD,r1.out hD,gD,Ad (en.mono (g1.trans gD)),cT,.nil,Nat.le_refl _,by omega,hq⟩,?_⟩
   rintro i n σ' H' ⟨m',st',us,vs,r',hDm,g',en',hv,du,hul,hin,hc⟩
   cases n with
   | zero=>exact hc.elim
   | succ n=>
     rw [lL] at hc
     have yi:=yl m' st' H' g' r' i
     split at hc
     · exact hc.elim
     · rename_i hat
       rw [hat] at yi
       refine .inl ⟨yi,?_⟩
       have hc : post (fun _ _=>False) (kV (zt X cl) m H Q) (new st' (us ++ [])):=hc
       rw [List.append_nil] at hc
       obtain ⟨ra,da⟩:=r'.adopt hDm hv du
       exact hc _ H' _ (g1.trans (g'.adopt hD)) ra da
     · rename_i x hat
       rw [hat] at yi
       refine .inr ⟨yi.1,fun v H2 hy=>?_⟩
       obtain ⟨g2,r2,dv⟩:=yi.2 v H2 hy
       have hc:=az hc
       subst hf
       dsimp only at hc
       split at hc
       · exact hc.elim
       · rename_i ρ1 hset
         have hv2:=g2.kp _ _ hv (.inl hDm)
         refine ⟨m',st',_,x,ρ1,r2,en'.mono g2,dv,hset,fun σ2 en2=>?_⟩
         have less : ∀ {m3 : List Addr} {H3 : Hp},bX (zt X cl) m3 H3 σ2 ρ1 → bX (zt X cl) m3 H3 σ2 (ki ρ (hW T scope) ++ [none]):=fun z=>by
           obtain ⟨l1,l2⟩:=zY hset
           exact ⟨by rw [z.len,l1],fun j d hj=>z.get j d (by rw [l2 j (DE h1 hj)]; exact hj)⟩
         refine ⟨m',st',ρ1,r2,en2,ao (az hc) (fun _ _ z=>z.elim) fun bb st2 _ hb m2 H4 g3 r3=>?_⟩
         have hv4:=g3.kp _ _ hv2 (.inl hDm)
         have hD4:=g3.nY hDm hv2
         cases bb with
         | false=>
           rw [if_neg (by decide)] at hb
           have hb:=az hb
           refine qO ⟨n,Nat.lt_succ_self n,m2,st2,us,vs,r3,hD4,(g'.trans g2).trans g3,less (en2.mono g3),hv4,du.mono (g2.trans g3),by omega,by omega,?_⟩
           exact ao hb (fun _ _ z=>z) fun rest st3 _ z=>z
         | true=>
           rw [if_pos rfl] at hb
           refine qw ⟨m2,st2,ρ1,r3,en2.mono g3,ao (az hb) (fun _ _ z=>z.elim) fun y st3 _ hy m3 H5 w g4 r4 dw=>?_⟩
           have hv5:=g4.kp _ _ hv4 (.inl hD4)
           have hD5:=g4.nY hD4 hv4
           have hy:=az hy
           have g5:=(((g'.trans g2).trans g3).trans g4)
           obtain ⟨r5,k5⟩:=r4.side (vs:=vs ++ [w]) hv5 hD5
           have ks : ∀ {ws : List V} {es : List U},ak (zt X cl) m3 H5 ws es → ak (zt X cl) m3 (upd H5 D0 (.lst (vs ++ [w]))) ws es:=fun {ws es} z=>by
             induction ws generalizing es with
             | nil=>cases z; exact .nil
             | cons a ws ih=>cases z with | cons z1 z2=>exact .cons (k5 z1) (ih z2)
           have l5:=du.length
           have le : us.length ≤ i:=hul
           refine ⟨vs,n,hv5,?_,Nat.lt_succ_self n,m3,st3,us ++ [y],vs ++ [w],r5,hD5,g5.side hD,?_,cT,(ks (du.mono ((g2.trans g3).trans g4))).append (.cons (k5 dw) .nil),by rw [List.length_append,List.length_singleton]; omega,by omega,?_⟩
           · have:=Ev.bZ; omega
           · have z:=less (en2.mono (g3.trans g4))
             exact ⟨z.len,fun j d hj=>let ⟨v',e1,e2⟩:=z.get j d hj; ⟨v',e1,k5 e2⟩⟩
           · refine ao hy (fun _ _ z=>z) fun rest st4 _ z=>?_
             have z : post (fun _ _=>False) (kV (zt X cl) m H Q) (new st4 (us ++ y :: rest)):=z
             rw [List.append_assoc]; exact z
 · exact hq.elim
theorem BU {n : Nat} (B : Bg X T Φ cl CX Ex k) (S : Snd X T Φ cl Ex n) (IH : ∀ {X : Cx} {T : Tr} {Ex : Nat → Hp → Prop},Bg X T Φ cl CX Ex k → Snd X T Φ cl Ex n) {elt tg iter : Expr} {ifs : List Expr} {scope : Scope} {pos : Pos} {t : Tg} {it : It} {fs : List E} {e : E}
   (hb : yv T scope = true) (h1 : ma (qp T scope) tg = some t) (h2 : trI T n iter = some it) (h3 : vM (qp T scope) n ifs = some fs) (h4 : trE (qp T scope) n elt = some e) (ho : uN tg it = true) :
   PE X (.ListComp elt [⟨tg,iter,ifs,0⟩] scope pos) (lE (zt X cl) Φ Ex (.comp (hW T scope) t it fs e)):=by
 have b:=wj hb
 obtain ⟨hi,hs⟩:=S.i tg iter it h2 ho
 refine PE.wk (mr (In:=fun g tt te=>g = lG (zt X cl) t ∧ tt = lIf (zt X cl) Φ (fun _ _=>False) fs ∧ te = lE (zt X cl) Φ (fun _ _=>False) e) B.calm (By B b) hi hs ?_) ?_
 · rintro g tt te ⟨rfl,rfl,rfl⟩ s H fp
   have B':=Ca B b s H fp
   have S':=IH B'
   exact ⟨pF B' h1,S'.f _ _ h3,(S'.e _ _ h4).1⟩
 · exact y6 h1
end
end Sv
namespace Sv
open PySem PySem.Spec PyProof.Rows L2
open Ev (D aQ aU ai jM j1 eu slot slot_get iO jC jN lR jk fI jK aS nE lH PTs mr ou Be Ite cK tR nG)
section
variable {X : Cx} {T : Tr} {Φ : Fn} {cl : Nat → Addr} {CX : CXT} {Ex : Nat → Hp → Prop} {k : Nat}
theorem PoT.po {Z : Zt} {m : List Addr} {H : Hp} {Q : Bool → Hp → Prop} {x : Rs U} (h : PoT Z Ex m H Q x) : Po Z Ex m H (fun v H=>∃ b,v = .bl b ∧ Q b H) x:=
 ao h (fun _ _ z=>z) fun d st _ ⟨b,e,q⟩ m' H' v g r dv=>by subst e; exact ⟨b,jq dv,q m' H' g r⟩
theorem cQ {Z : Zt} {m : List Addr} {st : Sto} {ρ : Env} {H : Hp} {σ : L2.St} {Q Q1 : VK} {a : E} {f : U → Sto → Rs U} (r : R Z m st H) (en : bX Z m H σ ρ) (h : Po Z Ex m H Q ((xE Φ a ρ st).bind f))
   (k : ∀ x st1 m1 H1 v,Go m H m1 H1 → R Z m1 st1 H1 → bX Z m1 H1 σ ρ → bf Z m1 H1 v x → Po Z Ex m1 H1 Q (f x st1) → Q1 v H1) : lE Z Φ Ex a σ H Q1:=
 ⟨m,st,ρ,r,en,ao (az h) (fun _ _ z=>z) fun x st1 _ hx m1 H1 v g1 r1 dv=>k x st1 m1 H1 v g1 r1 (en.mono g1) dv (Po.sh hx g1)⟩
theorem EC {Z : Zt} {m : List Addr} {st : Sto} {ρ : Env} {H : Hp} {σ : L2.St} {Q : VK} {Q1 : Bool → Hp → Prop} {a : E} {f : U → Sto → Rs U} (r : R Z m st H) (en : bX Z m H σ ρ) (h : Po Z Ex m H Q ((xE Φ a ρ st).bind f)) (hf : ∀ x st,(∀ b,x ≠ .bl b) → f x st = .bad)
   (k : ∀ b st1 m1 H1,Go m H m1 H1 → R Z m1 st1 H1 → bX Z m1 H1 σ ρ → Po Z Ex m1 H1 Q (f (.bl b) st1) → Q1 b H1) : lT Z Φ Ex a σ H Q1:=
 ⟨m,st,ρ,r,en,ao (az h) (fun _ _ z=>z) fun x st1 _ hx=>by
   cases x with
   | bl b=>exact ⟨b,rfl,fun m1 H1 g1 r1=>k b st1 m1 H1 g1 r1 (en.mono g1) (Po.sh hx g1)⟩
   | _=>rw [hf _ _ (by intro b z; cases z)] at hx; exact hx.elim⟩
theorem lz {Z : Zt} {m : List Addr} {st : Sto} {ρ : Env} {H : Hp} {σ : L2.St} {Q : Bool → Hp → Prop} {Q1 : Bool → Hp → Prop} {a : E} {f : U → Sto → Rs U} (r : R Z m st H) (en : bX Z m H σ ρ) (h : PoT Z Ex m H Q ((xE Φ a ρ st).bind f)) (hf : ∀ x st,(∀ b,x ≠ .bl b) → f x st = .bad)
   (k : ∀ b st1 m1 H1,Go m H m1 H1 → R Z m1 st1 H1 → bX Z m1 H1 σ ρ → PoT Z Ex m1 H1 Q (f (.bl b) st1) → Q1 b H1) : lT Z Φ Ex a σ H Q1:=
 ⟨m,st,ρ,r,en,ao (az h) (fun _ _ z=>z) fun x st1 _ hx=>by
   cases x with
   | bl b=>exact ⟨b,rfl,fun m1 H1 g1 r1=>k b st1 m1 H1 g1 r1 (en.mono g1) (PoT.sh hx g1)⟩
   | _=>rw [hf _ _ (by intro b z; cases z)] at hx; exact hx.elim⟩
theorem mF {Z : Zt} {m : List Addr} {st : Sto} {ρ : Env} {H : Hp} {σ : L2.St} {Q : VK} {Q1 : List V → Hp → Prop} {es : List E} {f : List U → Sto → Rs U} (r : R Z m st H) (en : bX Z m H σ ρ) (h : Po Z Ex m H Q ((xEs Φ es ρ st).bind f))
   (k : ∀ xs st1 m1 H1 vs,Go m H m1 H1 → R Z m1 st1 H1 → ak Z m1 H1 vs xs → Po Z Ex m1 H1 Q (f xs st1) → Q1 vs H1) : lEs Z Φ Ex es σ H Q1:=
 ⟨m,st,ρ,r,en,ao (az h) (fun _ _ z=>z) fun xs st1 _ hx m1 H1 vs g1 r1 dv=>k xs st1 m1 H1 vs g1 r1 dv (Po.sh hx g1)⟩
theorem sL {Z : Zt} {a b : E} {g : U → U → Sto → Rs U} {m : List Addr} {st : Sto} {ρ : Env} {H : Hp} {σ : L2.St} {Q : VK} (r : R Z m st H) (en : bX Z m H σ ρ)
   (h : Po Z Ex m H Q ((xE Φ a ρ st).bind fun x st1=>(xE Φ b ρ st1).bind fun y st2=>g x y st2)) : tOp (rO Z Ex g) (lE Z Φ Ex a) (lE Z Φ Ex b) σ H Q:=
 cQ r en h fun x st1 m1 H1 v g1 r1 en1 dv h1=>cQ r1 en1 h1 fun y st2 m2 H2 u g2 r2 _ du h2=>⟨m2,st2,x,y,r2,dv.mono g2,du,h2⟩
theorem Ip {n : Nat} (B : Bg X T Φ cl CX Ex k) (S : Snd X T Φ cl Ex n) : ∀ tg it it',trI T (n + 1) it = some it' → uN tg it' = true → PI X tg it (lI (zt X cl) Φ Ex it') ∧ ∀ x,foldedSetIterable it X.env x = pure x:=by
 intro tg it it' h ho
 have seq : ∀ e,trE T n it = some e → it' = .seq e → PI X tg it (lI (zt X cl) Φ Ex it') ∧ ∀ x,foldedSetIterable it X.env x = pure x:=by
   intro e he hi
   subst hi
   refine ⟨?_,fun x=>GU he _ _⟩
   have pe:=(S.e _ _ he).1
   refine PI.wk (Kt (Eb pe) (Gz pe)) ?_
   rintro σ H Rr ⟨m,st,ρ,r,en,hq⟩
   simp only [xIt] at hq
   cases ho : xE Φ e ρ st with
   | bad=>rw [ho] at hq; exact hq.elim
   | exc c st1=>rw [ho] at hq; exact .inl ⟨m,st,ρ,r,en,by rw [ho]; exact hq⟩
   | ok x st1=>
     rw [ho,Rs.aa] at hq
     cases x with
     | loc l=>
       refine .inl ⟨m,st,ρ,r,en,?_⟩
       rw [ho]
       intro m1 H1 v g1 r1 dv
       obtain ⟨a,rfl,hl⟩:=lY dv
       dsimp only at hq
       split at hq
       · obtain ⟨fz,ds,vs,_,ly,_⟩:=r1.loc hl
         exact ⟨a,rfl,⟨vs,ly.sq⟩,hq _ m1 H1 g1 r1 (EX hl)⟩
       · exact hq.elim
     | tup xs=>
       refine .inr ⟨m,st,ρ,r,en,?_⟩
       rw [ho]
       intro m1 H1 v g1 r1 dv
       cases dv with
       | tup h1 d1=>exact ⟨_,rfl,⟨_,h1⟩,hq _ m1 H1 g1 r1 (Jq h1 d1)⟩
     | kl xs=>
       refine .inl ⟨m,st,ρ,r,en,?_⟩
       rw [ho]
       intro m1 H1 v g1 r1 dv
       cases dv with
       | kl h1 d1=>exact ⟨_,rfl,⟨_,h1.sq⟩,hq _ m1 H1 g1 r1 (Ka h1 d1)⟩
     | _=>exact hq.elim
 unfold trI at h
 split at h
 · cases h
 · rename_i n' x p a rr pos hn
   cases hn
   split at h
   · rename_i c
     obtain ⟨rfl,c2,_⟩:=c
     split at h
     · simp only [Option.bind_eq_some_iff,Option.some.injEq] at h
       obtain ⟨e,h3,rfl⟩:=h
       have st:=dD h3 [] X.env
       refine ⟨?_,fun _=>rfl⟩
       refine PI.wk (AG (B.gl c2) (B.blt _ (by simp [aL])) (gw (S.e _ _ h3).1 mU st) st) ?_
       rintro σ H Rr ⟨m,st,ρ,r,en,hq⟩
       simp only [xIt] at hq
       refine ⟨m,st,ρ,r,en,ao (az hq) (fun _ _ z=>z) fun x st1 _ hx m1 H1 v g1 r1 dv=>?_⟩
       cases dv with
       | @int j=>
         dsimp only at hx
         split at hx
         · rename_i hj
           exact ⟨j,rfl,hj.1,hj.2,hx _ m1 H1 g1 r1 (CB 0 _)⟩
         · exact hx.elim
       | _=>exact hx.elim
     · rename_i bx
       simp only [Option.bind_eq_some_iff,Option.some.injEq] at h
       obtain ⟨e,h3,e2,h4,rfl⟩:=h
       have st2:=dD h4 [] X.env
       have st:=dD h3 [bx] X.env
       refine ⟨?_,fun _=>rfl⟩
       refine PI.wk (zX (B.gl c2) (B.blt _ (by simp [aL])) (gw (S.e _ _ h3).1 (gw (S.e _ _ h4).1 mU st2) st) (st.trans (by rw [st2]; rfl)) st2) ?_
       rintro σ H Rr ⟨m,st,ρ,r,en,hq⟩
       simp only [xIt] at hq
       refine ⟨m,st,ρ,r,en,ao (az hq) (fun _ _ z=>z) fun x st1 _ hx m1 H1 v g1 r1 dv=>?_⟩
       refine ⟨m1,st1,ρ,r1,en.mono g1,ao (az hx) (fun c s z=>kE.sh g1 c s z) fun y st2 _ hy m2 H2 u g2 r2 du=>?_⟩
       cases dv with
       | @int i=>
         cases du with
         | @int j=>
           dsimp only at hy
           split at hy
           · rename_i hj
             exact ⟨i,j,rfl,⟨hj.1.1,hj.1.2,hj.2.1,hj.2.2⟩,hy _ m2 H2 (g1.trans g2) r2 (CB i _)⟩
           · exact hy.elim
         | _=>exact hy.elim
       | _=>cases du <;> exact hy.elim
     · cases h
   · split at h
     · rename_i c
       obtain ⟨rfl,c2,_⟩:=c
       split at h
       · simp only [Option.bind_eq_some_iff,Option.some.injEq] at h
         obtain ⟨e,h3,rfl⟩:=h
         have st:=dD h3 [] X.env
         obtain ⟨ts,q,tp,rfl⟩ : ∃ ts q tp,tg = .Tuple ts q tp:=by
           cases tg <;> first | exact ⟨_,_,_,rfl⟩ | cases ho
         refine ⟨?_,fun _=>rfl⟩
         refine PI.wk (tR (B.gl c2) (B.blt _ (by simp [aL])) (gw (S.e _ _ h3).1 mU st) st) ?_
         rintro σ H Rr ⟨m,st,ρ,r,en,hq⟩
         simp only [xIt] at hq
         refine ⟨m,st,ρ,r,en,ao (az hq) (fun _ _ z=>z) fun x st1 _ hx m1 H1 v g1 r1 dv=>?_⟩
         cases dv with
         | loc hl=>
           dsimp only at hx
           split at hx
           · obtain ⟨fz,ds,vs,_,ly,_⟩:=r1.loc hl
             exact ⟨_,rfl,⟨vs,ly.sq⟩,hx _ m1 H1 g1 r1 (Je hl)⟩
           · exact hx.elim
         | kl h1 d1=>exact ⟨_,rfl,⟨_,h1.sq⟩,hx _ m1 H1 g1 r1 (Gn h1 d1)⟩
         | _=>exact hx.elim
       · cases h
     · split at h
       · rename_i c
         obtain ⟨rfl,c2,_⟩:=c
         split at h
         · rename_i bx
           simp only [Option.bind_eq_some_iff,Option.some.injEq] at h
           obtain ⟨e,h3,e2,h4,rfl⟩:=h
           have st2:=dD h4 [] X.env
           have st:=dD h3 [bx] X.env
           obtain ⟨ts,q,tp,rfl⟩ : ∃ ts q tp,tg = .Tuple ts q tp:=by
             cases tg <;> first | exact ⟨_,_,_,rfl⟩ | cases ho
           refine ⟨?_,fun _=>rfl⟩
           refine PI.wk (Ev.JM (B.gl c2) (B.blt _ (by simp [aL])) (gw (S.e _ _ h3).1 (gw (S.e _ _ h4).1 mU st2) st) st st2) ?_
           rintro σ H Rr ⟨m,st,ρ,r,en,hq⟩
           simp only [xIt] at hq
           refine ⟨m,st,ρ,r,en,ao (az hq) (fun _ _ z=>z) fun x st1 _ hx m1 H1 v g1 r1 dv=>?_⟩
           refine ⟨m1,st1,ρ,r1,en.mono g1,ao (az hx) (fun c s z=>kE.sh g1 c s z) fun y st2 _ hy m2 H2 u g2 r2 du=>?_⟩
           cases e1 : src st2 x with
           | none=>rw [e1] at hy; exact hy.elim
           | some p=>
             cases e3 : src st2 y with
             | none=>rw [e1,e3] at hy; exact hy.elim
             | some q=>
               rw [e1,e3] at hy
               obtain ⟨a,rfl,ha,sa⟩:=yB r2 (dv.mono g2) e1
               obtain ⟨b,rfl,hb,sb⟩:=yB r2 du e3
               exact ⟨a,b,rfl,ha,hb,hy _ m2 H2 (g1.trans g2) r2 (HC sa sb)⟩
         · cases h
       · simp only [Option.bind_eq_some_iff,Option.some.injEq] at h
         obtain ⟨e,h3,rfl⟩:=h
         exact seq e h3 rfl
 · rename_i n' heq hn
   cases heq
   simp only [Option.bind_eq_some_iff,Option.some.injEq] at h
   obtain ⟨e,h3,rfl⟩:=h
   exact seq e h3 rfl
theorem CQ {n : Nat} (S : Snd X T Φ cl Ex n) : ∀ es es',i0 T (n + 1) es = some es' → PA X es (lEs (zt X cl) Φ Ex es'):=by
 intro es es' h
 cases es with
 | nil=>
   simp only [i0,Option.some.injEq] at h
   subst h
   refine PA.wk mU ?_
   rintro σ H Q ⟨m,st,ρ,r,en,q⟩
   simp only [xEs] at q
   exact q m H [] (Go.refl m H) r .nil
 | cons e es=>
   simp only [i0,Option.bind_eq_some_iff,Option.some.injEq] at h
   obtain ⟨e',h1,es',h2,rfl⟩:=h
   refine PA.wk (gw (S.e _ _ h1).1 (S.a _ _ h2) (dD h1 _ _)) ?_
   rintro σ H Q ⟨m,st,ρ,r,en,q⟩
   simp only [xEs] at q
   refine ⟨m,st,ρ,r,en,ao (az q) (fun _ _ z=>z) fun x st1 _ hx m1 H1 v g1 r1 dv=>?_⟩
   refine ⟨m1,st1,ρ,r1,en.mono g1,ao (az hx) (fun c s z=>kE.sh g1 c s z) fun xs st2 _ hy m2 H2 vs g2 r2 dvs=>?_⟩
   exact hy m2 H2 _ (g1.trans g2) r2 (.cons (dv.mono g2) dvs)
theorem yV {Φ : Fn} : ∀ {es : List E} {ρ : Env} {st st' : Sto} {xs : List U},xEs Φ es ρ st = .ok xs st' → xs.length = es.length
 | [],ρ,st,st',xs,h=>by rw [xEs] at h; cases h; rfl
 | e :: es,ρ,st,st',xs,h=>by
   rw [xEs] at h
   cases h1 : xE Φ e ρ st with
   | ok x st1=>
     rw [h1,Rs.aa] at h
     cases h2 : xEs Φ es ρ st1 with
     | ok ys st2=>
       rw [h2,Rs.aa] at h
       cases h
       rw [List.length_cons,List.length_cons,yV h2]
     | exc c s=>rw [h2] at h; cases h
     | bad=>rw [h2] at h; cases h
   | exc c s=>rw [h1] at h; cases h
   | bad=>rw [h1] at h; cases h
theorem DJ (B : Bg X T Φ cl CX Ex k) {i : Nat} {x : Str} {e : Expr} {es : List Expr} {es' : List E} {p pos : Pos} (hi : slot T.F x = some i) (hg : Gl X x) (hdb : (x == ("__debug__" : Str)) = false) (ha : PA X (e :: es) (lEs (zt X cl) Φ Ex es'))
   (he : starEach (e :: es) X.env = (false,eval e X.env) :: starEach es X.env) (hpl : (backTo pos (starEach es X.env)).any (·.1) = false) : PE X (.Call (.Name x p) (e :: es) [] pos) (lE (zt X cl) Φ Ex (.call i es')):=by
 obtain ⟨f,fd,ps,G,F,hm,hk,hn⟩:=(B.cal i x (slot_get hi)).ex
 obtain ⟨dvs,dus,dds,hb,hd,hdd,hF⟩:=hn es'.length
 refine PE.wk (Dy F B.room hg hm hk hb hd B.pas ha hdb he hpl) ?_
 rintro σ H Q ⟨m,st,ρ,r,en,q⟩
 simp only [xE] at q
 refine ⟨m,st,ρ,r,en,ao (az q) (fun _ _ z=>z) fun xs st1 ex hx m1 H1 vs g1 r1 dv=>?_⟩
 have h1:=Po.sh hx g1
 rw [hF _ _ (yV ex)] at h1
 exact ⟨m1,st1,xs ++ dds,r1,dv.append (hdd _ _),ao h1 (fun c s z m' H' g r=>⟨c,rfl,z m' H' g r⟩) fun _ _ _ z=>z⟩
theorem zv : PTs X [] (lIf (zt X cl) Φ Ex []):=by
 rintro pins s σ H Q I ⟨m,st,ρ,r,en,q⟩
 simp only [xIf] at q
 exact wpAny_tests_nil ⟨H,I,q m H (Go.refl m H) r⟩
theorem zd : PO X none (lP (zt X cl) Φ Ex .cN):=by
 refine PO.wk Dz ?_
 rintro σ H Q ⟨m,st,ρ,r,en,q⟩
 simp only [xE] at q
 obtain ⟨o,e,q⟩:=q
 cases e
 exact q m H (Go.refl m H) r
end
end Sv
namespace Sv
open PySem PySem.Spec PyProof.Rows L2
open Ev (D aQ aU ai jM j1 eu slot slot_get iO jC jN lR jk fI jK aS nE lH PTs mr ou Be Ite cK tR nG)
section
variable {Φ : Fn} {cl : Nat → Addr} {CX : CXT} {k : Nat}
theorem A1 {X : Cx} {Ex : Nat → Hp → Prop} (ng c : Bool) : OpR X (compareOp (if ng then .IsNot else .Is)) (fun x y H Q=>∃ m d,y = .bl c ∧ bf (zt X cl) m H x d ∧ Q (.bl (ng ^^ An c d)) H):=by
 rintro pins s σ H x y v u Q I rx ry ⟨m,d,hy,dx,q⟩
 subst hy
 cases (show u = Value.bool c from ry)
 have pl : plainIs v (.bool c) = true ∧ (v == Value.bool c) = An c d:=by
   cases dx with
   | non=>cases (show v = Value.none from rx); exact ⟨rfl,rfl⟩
   | @bl bb=>cases (show v = Value.bool bb from rx); exact ⟨rfl,by cases bb <;> cases c <;> rfl⟩
   | int=>obtain ⟨t,z⟩:=(show ∃ t,v = Value.int _ t from rx); cases z; exact ⟨rfl,rfl⟩
   | str=>obtain ⟨t,z⟩:=(show ∃ t,v = Value.str _ t from rx); cases z; exact ⟨rfl,rfl⟩
   | tup _ _=>cases (show v = Value.ref _ from rx); exact ⟨rfl,rfl⟩
   | loc _=>cases (show v = Value.ref _ from rx); exact ⟨rfl,rfl⟩
   | exo _=>cases (show v = Value.ref _ from rx); exact ⟨rfl,rfl⟩
   | kl _ _=>cases (show v = Value.ref _ from rx); exact ⟨rfl,rfl⟩
 cases ng with
 | true=>
   refine wpAny_isNot_plain pl.1 ⟨.bl _,H,I,?_,q⟩
   rw [pl.2]
   show Value.bool _ = Value.bool _
   cases An c d <;> rfl
 | false=>
   refine wpAny_is_plain pl.1 ⟨.bl _,H,I,?_,q⟩
   rw [pl.2]
   show Value.bool _ = Value.bool _
   cases An c d <;> rfl
theorem Dm {X : Cx} (ng : Bool) : OpR X (compareOp (if ng then .IsNot else .Is)) (fun x y H Q=>∃ m d,y = .non ∧ bf (zt X cl) m H x d ∧ Q (.bl (ng ^^ Ai d)) H):=by
 rintro pins s σ H x y v u Q I rx ry ⟨m,d,hy,dx,q⟩
 subst hy
 have hd : decide (x = .non) = Ai d:=by cases dx <;> rfl
 cases ng with
 | true=>exact Eu pins s σ H _ _ v u Q I rx ry ⟨rfl,by rw [hd]; cases h : Ai d <;> rw [h] at q <;> exact q⟩
 | false=>exact Gb pins s σ H _ _ v u Q I rx ry ⟨rfl,by rw [hd]; cases h : Ai d <;> rw [h] at q <;> exact q⟩
theorem zu {T : Tr} {n : Nat} {e : Expr} {e' : E} (h : trE T n e = some e') (o : CmpOp) : behindInMarks o e = false:=by
 cases n with
 | zero=>rw [trE] at h; cases h
 | succ n=>rw [trE] at h; cases e <;> first | rfl | (simp [stE.eq_def] at h)
theorem jh : ∀ (n : Nat) {X : Cx} {T : Tr} {Ex : Nat → Hp → Prop},Bg X T Φ cl CX Ex k → Snd X T Φ cl Ex n
 | 0,X,T,Ex,B=>⟨(fun _ _ h=>by exact bK (show (none : Option E) = some _ from h)),(fun _ _ _ _ h=>by exact bK (show (none : Option E) = some _ from h)),(fun _ _ h=>by simp [i0] at h),(fun e e' h=>by
     cases e with
     | none=>simp only [trP,Option.some.injEq] at h; subst h; exact zd
     | some e=>simp [trP] at h),(fun es es' h=>by
     cases es with
     | nil=>simp only [vM,Option.some.injEq] at h; subst h; exact zv
     | cons a r=>simp [vM] at h),(fun _ _ _ h=>by unfold trI at h; cases h)⟩
 | n + 1,X,T,Ex,B=>by
   have S:=jh n B
   have val : ∀ pe e,PE X pe (lE (zt X cl) Φ Ex e) → (∀ whole,isTrue pe X.env whole = (do let v ← whole; standAt pe.pos; holding [v] (truthy v))) → PE X pe (lE (zt X cl) Φ Ex e) ∧ PT X pe (lT (zt X cl) Φ Ex e):=
     fun pe e h he=>⟨h,PT.wk (HI h he) fun σ H Q ⟨m,st,ρ,r,en,q⟩=>⟨m,st,ρ,r,en,q.po⟩⟩
   have W1 : ∀ op vs pos e,trE T (n + 1) (.BoolOp op vs pos) = some e → PE X (.BoolOp op vs pos) (lE (zt X cl) Φ Ex e) ∧ PW X (.BoolOp op vs pos) (lT (zt X cl) Φ Ex e):=by
     intro op vs pos e h
     match op,vs with
     | op,[]=>cases op <;> exact bK (show (none : Option E) = some _ from h)
     | op,[a]=>
       have h' : trE T n a = some e:=by cases op <;> simpa only [trE,stE.eq_def] using h
       obtain ⟨h1,h2⟩:=S.e a e h'
       refine ⟨Hq h1,?_⟩
       cases op with
       | And=>exact pw_and1 h2
       | Or=>exact pw_or1 h2
     | .And,a :: b :: rs=>
       simp only [trE,stE.eq_def,Option.bind_eq_some_iff,Option.some.injEq] at h
       obtain ⟨a',h1,b',h2,rfl⟩:=h
       obtain ⟨p1,p2⟩:=S.e a a' h1
       obtain ⟨q1,q2⟩:=S.e _ b' h2
       refine ⟨PE.wk (HA p1 q1) ?_,PW.wk (pw_and p2 (S.w _ _ _ _ h2)) ?_⟩
       · rintro σ H Q ⟨m,st,ρ,r,en,q⟩
         simp only [xE] at q
         refine cQ r en q fun x st1 m1 H1 v g1 r1 en1 dv h1=>?_
         match x,h1 with
         | .bl true,h1=>exact ⟨true,jq dv,qw ⟨m1,st1,ρ,r1,en1,h1⟩⟩
         | .bl false,h1=>exact ⟨false,jq dv,qO (Po.ok h1 r1 .bl)⟩
       · rintro σ H Q ⟨m,st,ρ,r,en,q⟩
         simp only [xE] at q
         refine lz r en q (fun x st hx=>by cases x <;> first | rfl | exact absurd rfl (hx _)) fun b st1 m1 H1 g1 r1 en1 h1=>?_
         cases b with
         | true=>exact qw ⟨m1,st1,ρ,r1,en1,h1⟩
         | false=>obtain ⟨b,eb,h1⟩:=h1; cases eb; exact qO (h1 m1 H1 (Go.refl _ _) r1)
     | .Or,a :: b :: rs=>
       simp only [trE,stE.eq_def,Option.bind_eq_some_iff,Option.some.injEq] at h
       obtain ⟨a',h1,b',h2,rfl⟩:=h
       obtain ⟨p1,p2⟩:=S.e a a' h1
       obtain ⟨q1,q2⟩:=S.e _ b' h2
       refine ⟨PE.wk (Kh p1 q1) ?_,PW.wk (pw_or p2 (S.w _ _ _ _ h2)) ?_⟩
       · rintro σ H Q ⟨m,st,ρ,r,en,q⟩
         simp only [xE] at q
         refine cQ r en q fun x st1 m1 H1 v g1 r1 en1 dv h1=>?_
         match x,h1 with
         | .bl false,h1=>exact ⟨false,jq dv,qO ⟨m1,st1,ρ,r1,en1,h1⟩⟩
         | .bl true,h1=>exact ⟨true,jq dv,qw (Po.ok h1 r1 .bl)⟩
       · rintro σ H Q ⟨m,st,ρ,r,en,q⟩
         simp only [xE] at q
         refine lz r en q (fun x st hx=>by cases x <;> first | rfl | exact absurd rfl (hx _)) fun b st1 m1 H1 g1 r1 en1 h1=>?_
         cases b with
         | false=>exact qO ⟨m1,st1,ρ,r1,en1,h1⟩
         | true=>obtain ⟨b,eb,h1⟩:=h1; cases eb; exact qw (h1 m1 H1 (Go.refl _ _) r1)
   refine ⟨?_,fun op vs pos e h=>(W1 op vs pos e h).2,CQ S,?_,?_,Ip B S⟩
   case refine_2=>
     intro e e' h
     cases e with
     | none=>simp only [trP,Option.some.injEq] at h; subst h; exact zd
     | some e=>
       simp only [trP,Option.bind_eq_some_iff] at h
       obtain ⟨e1,h1,h2⟩:=h
       have hne : e' = e1 ∧ e1 ≠ .cN:=by
         split at h2
         · cases h2
         · rename_i hn
           cases h2
           exact ⟨rfl,hn⟩
       obtain ⟨rfl,hn⟩:=hne
       refine PO.wk (Ei (S.e _ _ h1).1) ?_
       rintro σ H Q ⟨m,st,ρ,r,en,q⟩
       refine ⟨m,st,ρ,r,en,ao q (fun _ _ z=>z) fun d st1 _ ⟨o,bb,q⟩ m1 H1 v g1 r1 dv=>?_⟩
       obtain ⟨i,rfl,rfl⟩ : ∃ i,d = .int i ∧ o = some i:=by
         unfold xj at bb
         split at bb
         · exact absurd rfl hn
         · cases bb; exact ⟨_,rfl,rfl⟩
         · cases bb
       exact ⟨i,oO dv,q m1 H1 g1 r1⟩
   case refine_3=>
     intro es es' h
     match es with
     | []=>simp only [vM,Option.some.injEq] at h; subst h; exact zv
     | [c]=>
       simp only [vM,Option.bind_eq_some_iff,Option.some.injEq] at h
       obtain ⟨c',h1,rfl⟩:=h
       rintro pins s σ H Q I ⟨m,st,ρ,r,en,q⟩
       simp only [xIf] at q
       refine wpAny_tests_one ((S.e _ _ h1).2 pins s σ H Q I ⟨m,st,ρ,r,en,ao (az q) (fun _ _ z=>z) fun x st1 _ hx=>?_⟩)
       match x,hx with
       | .bl true,hx=>exact ⟨true,rfl,hx⟩
       | .bl false,hx=>exact ⟨false,rfl,hx⟩
     | _ :: _ :: _=>simp [vM] at h
   intro pe e h
   cases pe with
   | BoolOp op vs pos=>exact ⟨(W1 op vs pos e h).1,(W1 op vs pos e h).2.pt⟩
   | Name x pos=>
     simp only [trE,stE.eq_def] at h
     split at h
     · rename_i hg
       simp only [Option.bind_eq_some_iff,Option.some.injEq] at h
       obtain ⟨i,h1,rfl⟩:=h
       obtain ⟨t,hm⟩:=B.cst x i h1
       refine val _ _ (PE.wk (ED (v:=.int i) (B.gl hg.1) hm ⟨t,rfl⟩ hg.2) ?_) (fun _=>rfl)
       rintro σ H Q ⟨m,st,ρ,r,en,q⟩
       simp only [xE] at q
       exact Po.ok q r .int
     · simp only [Option.bind_eq_some_iff,Option.some.injEq] at h
       obtain ⟨i,h1,rfl⟩:=h
       obtain ⟨v1,v2,v3,v4⟩:=B.vis h1
       refine val _ _ (PE.wk (Jr v1 (nG v2) v3 v4) ?_) (fun _=>rfl)
       rintro σ H Q ⟨m,st,ρ,r,en,q⟩
       simp only [xE,su] at q
       split at q
       · rename_i hz
         obtain ⟨v,g1,g2⟩:=en.get i _ hz
         exact ⟨v,g1,Po.ok q r g2⟩
       · exact q.elim
   | Constant c kk pos=>
     have cst : ∀ (v : V) (e : E) (d : U),(∀ ρ st,xE Φ e ρ st = .ok d st) → (∀ m H,bf (zt X cl) m H v d) → ∀ σ H Q,lE (zt X cl) Φ Ex e σ H Q → tC v σ H Q:=fun v e d h1 h2 σ H Q ⟨m,st,ρ,r,en,q⟩=>by
       rw [h1] at q
       exact Po.ok q r (h2 _ _)
     cases c <;> simp only [trE,stE.eq_def,Option.some.injEq,reduceCtorEq] at h <;> subst h
     case none=>exact val _ _ (PE.wk wN (cst _ _ .non (fun _ _=>by simp only [xE]) fun _ _=>.non)) (fun _=>rfl)
     case bool b=>exact val _ _ (PE.wk Bl (cst _ _ (.bl b) (fun _ _=>by simp only [xE]) fun _ _=>.bl)) (fun _=>rfl)
     case int i=>exact val _ _ (PE.wk He (cst _ _ (.int i) (fun _ _=>by simp only [xE]) fun _ _=>.int)) (fun _=>rfl)
     case str x=>exact val _ _ (PE.wk Hl (cst _ _ (.str x) (fun _ _=>by simp only [xE]) fun _ _=>.str)) (fun _=>rfl)
   | BinOp a o b pos=>
     simp only [trE,stE.eq_def,Option.bind_eq_some_iff,Option.some.injEq] at h
     obtain ⟨o',h0,a',h1,b',h2,rfl⟩:=h
     refine val _ _ (PE.wk (Lb (JH (cl:=cl) (Ex:=Ex) h0) (S.e _ _ h1).1 (S.e _ _ h2).1) ?_) (fun _=>rfl)
     rintro σ H Q ⟨m,st,ρ,r,en,q⟩
     simp only [xE] at q
     exact sL r en q
   | UnaryOp o a pos=>
     cases o <;> simp only [trE,stE.eq_def,Option.bind_eq_some_iff,Option.some.injEq,reduceCtorEq] at h
     case USub=>
       obtain ⟨a',h1,rfl⟩:=h
       refine val _ _ (PE.wk (JQ HS (S.e _ _ h1).1) ?_) (fun _=>rfl)
       rintro σ H Q ⟨m,st,ρ,r,en,q⟩
       simp only [xE] at q
       refine cQ r en q fun x st1 m1 H1 v g1 r1 en1 dv h1=>?_
       match x,h1 with
       | .int i,h1=>exact ⟨i,oO dv,Po.ok h1 r1 .int⟩
     case Not=>
       obtain ⟨a',h1,rfl⟩:=h
       refine ⟨PE.wk (Hf (S.e _ _ h1).1) ?_,PT.wk (Hh (S.e _ _ h1).2) ?_⟩
       · rintro σ H Q ⟨m,st,ρ,r,en,q⟩
         simp only [xE] at q
         refine cQ r en q fun x st1 m1 H1 v g1 r1 en1 dv h1=>?_
         match x,h1 with
         | .bl b,h1=>exact ⟨b,jq dv,Po.ok h1 r1 .bl⟩
       · rintro σ H Q ⟨m,st,ρ,r,en,q⟩
         simp only [xE] at q
         refine lz r en q (fun x st hx=>by cases x <;> first | rfl | exact absurd rfl (hx _)) fun b st1 m1 H1 g1 r1 en1 h1=>?_
         obtain ⟨b',eb,h1⟩:=h1
         cases eb
         exact h1 m1 H1 (Go.refl _ _) r1
   | Compare a os bs pos=>
     match os,bs with
     | [o],[b]=>
       have cmp : ∀ e,((trC o).bind fun o'=>(trE T n a).bind fun a'=>(trE T n b).bind fun b'=>some (.cmp o' a' b')) = some e → PE X (.Compare a [o] [b] pos) (lE (zt X cl) Φ Ex e) ∧ PT X (.Compare a [o] [b] pos) (lT (zt X cl) Φ Ex e):=by
         intro e h
         simp only [Option.bind_eq_some_iff,Option.some.injEq] at h
         obtain ⟨o',h0,a',h1,b',h2,rfl⟩:=h
         have hm : behindInMarks o b = false:=zu h2 o
         refine ⟨PE.wk (uo (nA (cl:=cl) (Ex:=Ex) B.room.units h0) (S.e _ _ h1).1 (S.e _ _ h2).1 hm) ?_,PT.wk (tD (nA (cl:=cl) (Ex:=Ex) B.room.units h0) (S.e _ _ h1).1 (S.e _ _ h2).1 hm) ?_⟩
         · rintro σ H Q ⟨m,st,ρ,r,en,q⟩
           simp only [xE] at q
           exact sL r en q
         · rintro σ H Q ⟨m,st,ρ,r,en,q⟩
           simp only [xE] at q
           exact sL r en q.po
       have isb : ∀ (ng c : Bool) (a' : E) (kk : Nat) (pp : Pos),trE T n a = some a' → b = .Constant (.bool c) kk pp → o = (if ng then .IsNot else .Is) → PE X (.Compare a [o] [b] pos) (lE (zt X cl) Φ Ex (.isB ng a' c)) ∧ PT X (.Compare a [o] [b] pos) (lT (zt X cl) Φ Ex (.isB ng a' c)):=by
         intro ng c a' kk pp h1 hb ho
         subst hb ho
         have hm : behindInMarks (if ng then .IsNot else .Is) (.Constant (.bool c) kk pp) = false:=by cases ng <;> rfl
         refine ⟨PE.wk (uo (A1 (cl:=cl) (Ex:=Ex) ng c) (S.e _ _ h1).1 Bl hm) ?_,PT.wk (tD (A1 (cl:=cl) (Ex:=Ex) ng c) (S.e _ _ h1).1 Bl hm) ?_⟩
         · rintro σ H Q ⟨m,st,ρ,r,en,q⟩
           simp only [xE] at q
           exact cQ r en q fun x st1 m1 H1 v g1 r1 en1 dv h1=>⟨m1,x,rfl,dv,Po.ok h1 r1 .bl⟩
         · rintro σ H Q ⟨m,st,ρ,r,en,q⟩
           simp only [xE] at q
           exact cQ r en q.po fun x st1 m1 H1 v g1 r1 en1 dv h1=>⟨m1,x,rfl,dv,Po.ok h1 r1 .bl⟩
       have isn : ∀ (ng : Bool) (a' : E) (kk : Nat) (pp : Pos),trE T n a = some a' → b = .Constant .none kk pp → o = (if ng then .IsNot else .Is) → PE X (.Compare a [o] [b] pos) (lE (zt X cl) Φ Ex (.isN ng a')) ∧ PT X (.Compare a [o] [b] pos) (lT (zt X cl) Φ Ex (.isN ng a')):=by
         intro ng a' kk pp h1 hb ho
         subst hb ho
         have hm : behindInMarks (if ng then .IsNot else .Is) (.Constant .none kk pp) = false:=by cases ng <;> rfl
         refine ⟨PE.wk (uo (Dm (cl:=cl) ng) (S.e _ _ h1).1 wN hm) ?_,PT.wk (tD (Dm (cl:=cl) ng) (S.e _ _ h1).1 wN hm) ?_⟩
         · rintro σ H Q ⟨m,st,ρ,r,en,q⟩
           simp only [xE] at q
           exact cQ r en q fun x st1 m1 H1 v g1 r1 en1 dv h1=>⟨m1,x,rfl,dv,Po.ok h1 r1 .bl⟩
         · rintro σ H Q ⟨m,st,ρ,r,en,q⟩
           simp only [xE] at q
           exact cQ r en q.po fun x st1 m1 H1 v g1 r1 en1 dv h1=>⟨m1,x,rfl,dv,Po.ok h1 r1 .bl⟩
       simp only [trE,stE.eq_def] at h
       split at h
       · simp only [Option.bind_eq_some_iff,Option.some.injEq] at h
         obtain ⟨a',h1,rfl⟩:=h
         exact isb false _ a' _ _ h1 rfl rfl
       · simp only [Option.bind_eq_some_iff,Option.some.injEq] at h
         obtain ⟨a',h1,rfl⟩:=h
         exact isb true _ a' _ _ h1 rfl rfl
       · simp only [Option.bind_eq_some_iff,Option.some.injEq] at h
         obtain ⟨a',h1,rfl⟩:=h
         exact isn false a' _ _ h1 rfl rfl
       · simp only [Option.bind_eq_some_iff,Option.some.injEq] at h
         obtain ⟨a',h1,rfl⟩:=h
         exact isn true a' _ _ h1 rfl rfl
       · exact cmp e h
     | [o,p],[b,c]=>
       simp only [trE,stE.eq_def,Option.bind_eq_some_iff,Option.some.injEq] at h
       obtain ⟨o',h0,p',h0',a',h1,b',h2,c',h3,rfl⟩:=h
       have hm : lastMarks [o,p] [b,c] = false:=zu h3 p
       have core : ∀ σ H Q,lE (zt X cl) Φ Ex (.chain o' p' a' b' c') σ H Q → xi (rC (zt X cl) Ex o') (rC (zt X cl) Ex p') (lE (zt X cl) Φ Ex a') (lE (zt X cl) Φ Ex b') (lE (zt X cl) Φ Ex c') σ H Q:=by
         rintro σ H Q ⟨m,st,ρ,r,en,q⟩
         simp only [xE] at q
         refine cQ r en q fun x st1 m1 H1 v g1 r1 en1 dv q1=>cQ r1 en1 q1 fun y st2 m2 H2 u g2 r2 en2 du q2=>?_
         refine ⟨m2,st2,x,y,r2,dv.mono g2,du,?_⟩
         show Po _ _ _ _ _ (ofO (evC o' x y st2) st2)
         cases ho : evC o' x y st2 with
         | none=>rw [ho] at q2; exact q2.elim
         | some tt=>
           rw [ho] at q2
           intro m3 H3 w g3 r3 dw
           cases tt with
           | true=>
             refine ⟨true,jq dw,qw (cQ r3 (en2.mono g3) (Po.sh q2 g3) fun z st4 m4 H4 w' g4 r4 en4 dw' q4=>?_)⟩
             exact ⟨m4,st4,y,z,r4,(du.mono g3).mono g4,dw',q4⟩
           | false=>exact ⟨false,jq dw,qO (Po.ok (Po.sh q2 g3) r3 .bl)⟩
       refine ⟨PE.wk (Cv (nA (cl:=cl) (Ex:=Ex) B.room.units h0) (nA (cl:=cl) (Ex:=Ex) B.room.units h0') (S.e _ _ h1).1 (S.e _ _ h2).1 (S.e _ _ h3).1 hm) core,PT.wk (Cu (nA (cl:=cl) (Ex:=Ex) B.room.units h0) (nA (cl:=cl) (Ex:=Ex) B.room.units h0') (S.e _ _ h1).1 (S.e _ _ h2).1 (S.e _ _ h3).1 hm) ?_⟩
       rintro σ H Q ⟨m,st,ρ,r,en,q⟩
       exact core σ H _ ⟨m,st,ρ,r,en,q.po⟩
     | [],_=>exact bK (show (none : Option E) = some _ from h)
     | [_],[]=>exact bK (show (none : Option E) = some _ from h)
     | [_],_ :: _ :: _=>exact bK (show (none : Option E) = some _ from h)
     | [_,_],[]=>exact bK (show (none : Option E) = some _ from h)
     | [_,_],[_]=>exact bK (show (none : Option E) = some _ from h)
     | [_,_],_ :: _ :: _ :: _=>exact bK (show (none : Option E) = some _ from h)
     | _ :: _ :: _ :: _,_=>exact bK (show (none : Option E) = some _ from h)
   | IfExp c a b pos=>
     simp only [trE,stE.eq_def,Option.bind_eq_some_iff,Option.some.injEq] at h
     obtain ⟨c',h0,a',h1,b',h2,rfl⟩:=h
     have core : ∀ σ H Q,lE (zt X cl) Φ Ex (.ite c' a' b') σ H Q → tIf (lT (zt X cl) Φ Ex c') (lE (zt X cl) Φ Ex a') (lE (zt X cl) Φ Ex b') σ H Q:=by
       rintro σ H Q ⟨m,st,ρ,r,en,q⟩
       simp only [xE] at q
       refine EC r en q (fun x st hx=>by cases x <;> first | rfl | exact absurd rfl (hx _)) fun bb st1 m1 H1 g1 r1 en1 q1=>?_
       cases bb with
       | true=>exact qw ⟨m1,st1,ρ,r1,en1,q1⟩
       | false=>exact qO ⟨m1,st1,ρ,r1,en1,q1⟩
     refine ⟨PE.wk (Dw (S.e _ _ h0).2 (S.e _ _ h1).1 (S.e _ _ h2).1) core,?_⟩
     rintro pins s σ H Q I ⟨m,st,ρ,r,en,q⟩
     simp only [xE] at q
     show wpAny _ _ (do if ← isTrue c X.env (eval c X.env) then isTrue a X.env (eval a X.env) else isTrue b X.env (eval b X.env)) _ _ _
     have rd : lT (zt X cl) Φ Ex c' σ H (fun bb H1=>if bb = true then lT (zt X cl) Φ Ex a' σ H1 Q else lT (zt X cl) Φ Ex b' σ H1 Q):=by
       refine lz r en q (fun x st hx=>by cases x <;> first | rfl | exact absurd rfl (hx _)) fun bb st1 m1 H1 g1 r1 en1 q1=>?_
       cases bb with
       | true=>exact qw ⟨m1,st1,ρ,r1,en1,q1⟩
       | false=>exact qO ⟨m1,st1,ρ,r1,en1,q1⟩
     refine wpAny_bind (thn ((S.e _ _ h0).2 pins s σ H _ I rd) ?_)
     rintro bb s1 ⟨H1,I1,hq⟩
     cases bb with
     | true=>rw [if_pos rfl] at hq; exact (S.e _ _ h1).2 pins s1 σ H1 Q I1 hq
     | false=>rw [if_neg (by decide)] at hq; exact (S.e _ _ h2).2 pins s1 σ H1 Q I1 hq
   | Tuple es kk pos=>
     simp only [trE,stE.eq_def,Option.bind_eq_some_iff,Option.some.injEq] at h
     obtain ⟨es',h1,rfl⟩:=h
     refine val _ _ (PE.wk (IG (S.a _ _ h1)) ?_) (fun _=>rfl)
     rintro σ H Q ⟨m,st,ρ,r,en,q⟩
     simp only [xE] at q
     refine mF r en q fun xs st1 m1 H1 vs g1 r1 dv q1=>?_
     split at q1
     · exact ⟨by have:=dv.length; have:=Ev.bZ; omega,fun p hp=>Po.tup q1 r1 dv hp⟩
     · exact q1.elim
   | List es pos=>
     simp only [trE,stE.eq_def,Option.bind_eq_some_iff,Option.some.injEq] at h
     obtain ⟨es',h1,rfl⟩:=h
     refine val _ _ (PE.wk (HL (S.a _ _ h1)) ?_) (fun _=>rfl)
     rintro σ H Q ⟨m,st,ρ,r,en,q⟩
     simp only [xE] at q
     refine mF r en q fun xs st1 m1 H1 vs g1 r1 dv q1=>?_
     split at q1
     · exact ⟨by have:=dv.length; have:=Ev.bZ; omega,fun p hp=>Po.new q1 r1 dv hp⟩
     · exact q1.elim
   | Subscript a i pos=>
     have plain : (∀ l u st p,i ≠ .Slice l u st p) → PE X (.Subscript a i pos) (lE (zt X cl) Φ Ex e) ∧ PT X (.Subscript a i pos) (lT (zt X cl) Φ Ex e):=by
       intro hi
       have hps : zq i:=fun o v=>by cases i <;> first | rfl | exact absurd rfl (hi _ _ _ _)
       have h' : ((trE T n a).bind fun a'=>(trE T n i).bind fun i'=>some (.ix a' i')) = some e:=by
         cases i <;> first | exact absurd rfl (hi _ _ _ _) | (simpa only [trE,stE.eq_def] using h)
       simp only [Option.bind_eq_some_iff,Option.some.injEq] at h'
       obtain ⟨a',h1,i',h2,rfl⟩:=h'
       refine val _ _ (PE.wk (KP (HH (cl:=cl) (Ex:=Ex)) (S.e _ _ h1).1 (S.e _ _ h2).1 hps) ?_) (fun _=>rfl)
       rintro σ H Q ⟨m,st,ρ,r,en,q⟩
       simp only [xE] at q
       exact sL r en q
     cases i with
     | Slice lo hi st p2=>
       cases st with
       | some y=>exact bK (show (none : Option E) = some _ from h)
       | none=>
         simp only [trE,stE.eq_def,Option.bind_eq_some_iff,Option.some.injEq] at h
         obtain ⟨a',h1,l',h2,u',h3,rfl⟩:=h
         refine val _ _ (PE.wk (Cg DI (S.e _ _ h1).1 (S.p _ _ h2) (S.p _ _ h3)) ?_) (fun _=>rfl)
         rintro σ H Q ⟨m,st,ρ,r,en,q⟩
         simp only [xE] at q
         refine cQ r en q fun x st1 m1 H1 v g1 r1 en1 dv q1=>?_
         refine ⟨m1,st1,ρ,r1,en1,ao (az q1) (fun _ _ z=>z) fun y st2 _ q2=>?_⟩
         cases hy : xj l' y with
         | none=>rw [hy] at q2; exact q2.elim
         | some lo'=>
           rw [hy] at q2
           refine ⟨lo',rfl,fun m2 H2 g2 r2=>?_⟩
           refine ⟨m2,st2,ρ,r2,en1.mono g2,ao (az q2) (fun c s z=>kE.sh g2 c s z) fun z st3 _ q3=>?_⟩
           cases hz : xj u' z with
           | none=>rw [hz] at q3; exact q3.elim
           | some hi'=>
             rw [hz] at q3
             refine ⟨hi',rfl,fun m3 H3 g3 r3=>?_⟩
             dsimp only at q3
             unfold E4 at q3
             split at q3
             · rename_i xs e1
               obtain ⟨p,vs,rfl,s1,d1⟩:=me r3 (dv.mono (g2.trans g3)) e1
               exact ⟨p,vs,rfl,s1,fun p' hp'=>Po.new (Po.sh q3 (g2.trans g3)) r3 (Fm d1 _ _) hp'⟩
             · exact q3.elim
     | _=>exact plain (fun _ _ _ _ z=>nomatch z)
   | Call f es ks pos=>
     obtain ⟨x,p,e0,es0,rfl,rfl,rfl⟩ : ∃ x p e0 es0,f = .Name x p ∧ es = e0 :: es0 ∧ ks = []:=by
       cases f with
       | Name x p=>
         cases es with
         | cons e0 es0=>
           cases ks with
           | nil=>exact ⟨_,_,_,_,rfl,rfl,rfl⟩
           | cons k ks=>exact bK (show (none : Option E) = some _ from h)
         | nil=>exact bK (show (none : Option E) = some _ from h)
       | _=>exact bK (show (none : Option E) = some _ from h)
     simp only [trE,stE.eq_def] at h
     split at h
     · rename_i hg
       have gl:=B.gl hg.1
       split at h
       · rename_i i hi
         simp only [Option.bind_eq_some_iff,Option.some.injEq] at h
         obtain ⟨es',h1,rfl⟩:=h
         exact val _ _ (DJ B hi gl hg.2 (S.a _ _ h1) (eO h1 _) (fN h1 _ _)) (fun _=>rfl)
       · split at h
         · rename_i hx
           subst hx
           split at h
           · rename_i t q
             split at h
             · rename_i hgt
               simp only [Option.bind_eq_some_iff,Option.some.injEq] at h
               obtain ⟨ty,h0,a',h1,rfl⟩:=h
               refine val _ _ (PE.wk (gO (HX (cl:=cl) ty) gl (B.blt _ (by simp [aL])) (by decide +kernel) (gw (S.e _ _ h1).1 (gw (J1 B.blt h0 (B.gl hgt)) mU rfl) (dD h1 _ _)) (by decide) hg.2 (dD h1 _ _) rfl) ?_) (fun _=>rfl)
               rintro σ H Q ⟨m,st,ρ,r,en,q⟩
               simp only [xE] at q
               refine cQ r en q fun x st1 m1 H1 v g1 r1 en1 dv q1=>?_
               have ne : (∀ c,x ≠ .exo c) ∧ Po (zt X cl) Ex m1 H1 Q (.ok (.bl (Az ty x)) st1):=by
                 cases x <;> first | exact ⟨(by intro c z; cases z),q1⟩ | exact q1.elim
               exact ⟨m1,st1,v,x,r1,rfl,dv,ne.1,Po.ok ne.2 r1 .bl⟩
             · cases h
           · cases h
         · split at h
           · rename_i a ha
             obtain ⟨rfl,rfl,hgr,p,q,rfl⟩:=Cc ha
             simp only [Option.bind_eq_some_iff,Option.some.injEq] at h
             obtain ⟨es',h1,rfl⟩:=h
             refine val _ _ (PE.wk (IA (cl:=cl) (Ex:=Ex) B.calm B.blt gl (B.gl hgr) (S.a _ _ h1) (eO h1 _)) ?_) (fun _=>rfl)
             rintro σ H Q ⟨m,st,ρ,r,en,q⟩
             simp only [xE] at q
             exact mF r en q fun xs st1 m1 H1 vs g1 r1 dv q1=>⟨m1,st1,xs,r1,dv,q1⟩
           simp only [Option.bind_eq_some_iff,Option.some.injEq] at h
           obtain ⟨b,h0,es',h1,rfl⟩:=h
           refine val _ _ (PE.wk (J3 (cl:=cl) (Ex:=Ex) B.calm B.blt h0 gl (S.a _ _ h1) (eO h1 _) (fN h1 _ _)) ?_) (fun _=>rfl)
           rintro σ H Q ⟨m,st,ρ,r,en,q⟩
           simp only [xE] at q
           exact mF r en q fun xs st1 m1 H1 vs g1 r1 dv q1=>⟨m1,st1,xs,r1,dv,q1⟩
     · cases h
   | ListComp elt gens scope pos=>
     match gens with
     | [⟨tg,iter,ifs,asy⟩]=>
       simp only [trE,stE.eq_def] at h
       split at h
       · rename_i hb0
         obtain ⟨rfl,hb⟩:=hb0
         simp only [Option.bind_eq_some_iff] at h
         obtain ⟨t,h1,it,h2,fs,h3,e',h4,h5⟩:=h
         split at h5
         · rename_i ho
           cases h5
           exact val _ _ (BU B S (fun B'=>jh n B') hb h1 h2 h3 h4 ho) (fun _=>rfl)
         · cases h5
       · cases h
     | []=>exact bK (show (none : Option E) = some _ from h)
     | ⟨_,_,_,_⟩ :: _ :: _=>exact bK (show (none : Option E) = some _ from h)
   | _=>exact bK (show (none : Option E) = some _ from h)
end
end Sv
namespace Sv
open PySem PySem.Spec PyProof.Rows L2
open Ev (D aQ aU ai jM j1 eu slot slot_get iO jC nG)
section
variable {X : Cx} {cl : Nat → Addr}
theorem B0 {α : Type} : ∀ (its : List α) (k : Nat) (y : α),k ≤ its.length → its.insertIdx k y = its.take k ++ [y] ++ its.drop k
 | _,0,_,_=>rfl
 | a :: r,k + 1,y,h=>by
   rw [List.insertIdx_succ_cons,B0 r k y (by simpa using h)]
   rfl
theorem Jg {its : List Value} {k : Nat} {y : Value} (h : k ≤ its.length) : (its.toArray.extract 0 k).push y ++ its.toArray.extract k = (its.insertIdx k y).toArray:=by
 apply Array.toList_inj.mp
 simp only [Array.toList_append,Array.toList_push,Array.toList_extract,List.extract_eq_drop_take,List.drop_zero,Nat.sub_zero,List.size_toArray]
 rw [B0 its k y h]
 congr 1
 exact List.take_of_length_le (by rw [List.length_drop]; exact Nat.le_refl _)
noncomputable def E6 : V → List V → Hp → VK → Prop:=fun x vs H Q=>∃ l xs,∃ i : Int,∃ y,x = .ref l ∧ vs = [.int i,y] ∧ H l = some (.lst xs) ∧ 0 ≤ i ∧ i.toNat ≤ xs.length ∧ xs.length < sizeLine ∧ Q .non (upd H l (.lst (xs.insertIdx i.toNat y)))
theorem Ab : MtM X "list.insert" E6:=by
 intro pins s σ H x vs v us Q I rx rv h
 obtain ⟨l,xs,i,y,rfl,rfl,hH,h0,h1,h2,q⟩:=h
 cases rx
 obtain ⟨u,w,rfl,ru,rw'⟩:=rv.two
 obtain ⟨t,rfl⟩:=ru
 obtain ⟨z,its,n,r,hl,e⟩:=I.xI hH
 have hi : i < 2 ^ 63:=by have:=Int.toNat_of_nonneg h0; have : sizeLine < 2 ^ 62:=(by decide); omega
 have hf : Builtin.List.listFitsIndex i = true:=by
   unfold Builtin.List.listFitsIndex
   rw [Bool.and_eq_true]
   exact ⟨decide_eq_true (by omega),decide_eq_true hi⟩
 refine call_meets PySem.F.slot_list_insert ⟨_,e,rfl⟩ PySem.F.entry_list_insert (PySem.F.args_list_insert_3 _ _ _) (PySem.AutoSeq1.list_insert_list_int_val_1 l its.toArray n i t w (by simp [hf]) (by rw [List.size_toArray]; omega)) ⟨e,?_⟩
 have vi : ∀ {xs : List V} {us : List Value} (k : Nat) {a : V} {b : Value},Vals xs us → RelV a b → Vals (xs.insertIdx k a) (us.insertIdx k b):=fun {xs us} k {a b} r ra=>by
   induction k generalizing xs us with
   | zero=>exact .cons ra r
   | succ k ih=>cases r with
     | nil=>exact .nil
     | cons r1 r2=>exact .cons r1 (ih r2)
 refine ⟨.non,_,I.zS (its':=its.insertIdx i.toNat w) hH e ?_ (vi _ r rw') ?_,rfl,q⟩
 · show (its.toArray.extract 0 (if i < 0 then (i + (its.toArray.size : Int)).toNat else min i.toNat its.toArray.size)).push w ++ its.toArray.extract (if i < 0 then (i + (its.toArray.size : Int)).toNat else min i.toNat its.toArray.size) = _
   rw [if_neg (by omega),List.size_toArray,Nat.min_eq_left (by omega)]
   exact Jg (by omega)
 · rw [List.length_insertIdx_of_le_length h1]; omega
noncomputable def rM (Z : Zt) (lm : Lm) : V → List V → Hp → VK → Prop:=fun x vs H Q=>∃ m st a ds st',R Z m st H ∧ bf Z m H x a ∧ ak Z m H vs ds ∧ evM lm a ds st = some st' ∧ ∀ v H',Go m H m H' → R Z m st' H' → Q v H'
theorem kL {Z : Zt} {m : List Addr} {st : Sto} {H : Hp} (r : R Z m st H) {x : V} {l : Nat} {xs : List U} (d : bf Z m H x (.loc l)) (e : st[l]? = some (false,xs)) : ∃ a vs,x = .ref a ∧ m[l]? = some a ∧ H a = some (.lst vs) ∧ ak Z m H vs xs:=by
 obtain ⟨a,rfl,hl⟩:=lY d
 obtain ⟨b,vs,f1,f2,f3⟩:=r.at e
 rw [hl] at f1; cases f1
 unfold Lay at f2
 rw [if_neg (by decide)] at f2
 exact ⟨_,vs,rfl,hl,f2,f3⟩
theorem BX : MtR X "list.append" (rM (zt X cl) .append):=by
 rintro pins s σ H x vs v us Q I rx rv ⟨m,st,a,ds,st',r,dx,dn,e,q⟩
 match a,ds,e with
 | .loc l,[d],e=>
   simp only [evM.eq_def] at e
   split at e
   · rename_i xs hs
     split at e
     · rename_i hl
       cases e
       obtain ⟨p,ws,rfl,f1,f2,f3⟩:=kL r dx hs
       obtain ⟨y,rfl,dy⟩:=mM dn
       obtain ⟨g,r'⟩:=r.put f1 hs (f3.append (.cons dy .nil))
       exact nK pins s σ H _ _ v us Q I rx rv ⟨p,ws,y,rfl,rfl,f2,by have:=f3.length; have:=Ev.bZ; omega,q _ _ g r'⟩
     · cases e
   · cases e
theorem BE : MtR X "list.extend" (rM (zt X cl) .extend):=by
 rintro pins s σ H x vs v us Q I rx rv ⟨m,st,a,ds,st',r,dx,dn,e,q⟩
 match a,ds,e with
 | .loc l,[.loc j],e=>
   simp only [evM.eq_def] at e
   split at e
   · rename_i xs ys hs hs2
     split at e
     · rename_i hl
       cases e
       obtain ⟨p,ws,rfl,f1,f2,f3⟩:=kL r dx hs
       obtain ⟨y,rfl,dy⟩:=mM dn
       obtain ⟨p2,ws2,rfl,k1,k2,k3⟩:=kL r dy hs2
       obtain ⟨g,r'⟩:=r.put f1 hs (f3.append k3)
       exact AI pins s σ H _ _ v us Q I rx rv ⟨p,p2,ws,ws2,rfl,rfl,f2,k2,by have:=f3.length; have:=k3.length; have:=Ev.bZ; omega,q _ _ g r'⟩
     · cases e
   · cases e
theorem BJ : MtR X "list.insert" (rM (zt X cl) .insert):=by
 rintro pins s σ H x vs v us Q I rx rv ⟨m,st,a,ds,st',r,dx,dn,e,q⟩
 match a,ds,e with
 | .loc l,[.int i,d],e=>
   simp only [evM.eq_def] at e
   split at e
   · rename_i xs hs
     split at e
     · rename_i hl
       cases e
       obtain ⟨p,ws,rfl,f1,f2,f3⟩:=kL r dx hs
       obtain ⟨y1,y2,rfl,dy1,dy2⟩:=I0 dn
       cases dy1
       obtain ⟨g,r'⟩:=r.put f1 hs (f3.insert i.toNat dy2)
       have l3:=f3.length
       exact Ab pins s σ H _ _ v us Q I rx rv ⟨p,ws,i,y2,rfl,rfl,f2,hl.2.1,by have:=hl.2.2; omega,by have:=hl.1; have:=Ev.bZ; omega,q _ _ g r'⟩
     · cases e
   · cases e
theorem JS : MtR X "list.pop" (rM (zt X cl) .pop):=by
 rintro pins s σ H x vs v us Q I rx rv ⟨m,st,a,ds,st',r,dx,dn,e,q⟩
 match a,ds,e with
 | .loc l,[],e=>
   simp only [evM.eq_def] at e
   split at e
   · rename_i xs hs
     split at e
     · cases e
     · rename_i hn
       cases e
       obtain ⟨p,ws,rfl,f1,f2,f3⟩:=kL r dx hs
       cases dn
       obtain ⟨g,r'⟩:=r.put f1 hs f3.dropLast
       have l3:=f3.length
       have hl : ws.length - 1 < ws.length:=by
         have : xs.length ≠ 0:=fun z=>hn (List.eq_nil_of_length_eq_zero z)
         omega
       exact Ja pins s σ H _ _ v us Q I rx rv ⟨p,ws,ws[ws.length - 1],rfl,rfl,f2,List.getElem?_eq_getElem hl,q _ _ g r'⟩
   · cases e
theorem Ea : MtR X "list.pop" (rM (zt X cl) .popAt):=by
 rintro pins s σ H x vs v us Q I rx rv ⟨m,st,a,ds,st',r,dx,dn,e,q⟩
 match a,ds,e with
 | .loc l,[.int i],e=>
   simp only [evM.eq_def] at e
   split at e
   · rename_i xs hs
     split at e
     · rename_i hlm
       obtain ⟨j,hj,rfl⟩:=Option.map_eq_some_iff.mp e
       obtain ⟨p,ws,rfl,f1,f2,f3⟩:=kL r dx hs
       obtain ⟨y,rfl,dy⟩:=mM dn
       cases dy
       obtain ⟨g,r'⟩:=r.put f1 hs (f3.erase j)
       have l3:=f3.length
       obtain ⟨h1,h2,h3,h4⟩:=ue hj
       have : ai < 2 ^ 62:=by decide
       exact Bq pins s σ H _ _ v us Q I rx rv ⟨p,ws,i,j,ws[j]'(by omega),rfl,rfl,f2,by omega,by omega,by rw [l3]; exact h1,List.getElem?_eq_getElem (by omega),q _ _ g r'⟩
     · cases e
   · cases e
theorem Fq : MtR X "list.clear" (rM (zt X cl) .clear):=by
 rintro pins s σ H x vs v us Q I rx rv ⟨m,st,a,ds,st',r,dx,dn,e,q⟩
 match a,ds,e with
 | .loc l,[],e=>
   simp only [evM.eq_def] at e
   split at e
   · rename_i xs hs
     cases e
     obtain ⟨p,ws,rfl,f1,f2,f3⟩:=kL r dx hs
     cases dn
     obtain ⟨g,r'⟩:=r.put f1 hs (ak.nil)
     exact CN pins s σ H _ _ v us Q I rx rv ⟨p,ws,rfl,rfl,f2,q _ _ g r'⟩
   · cases e
noncomputable def trM (m : Str) (n : Nat) : Option Lm:=
 if m = "append" ∧ n = 1 then some .append else if m = "extend" ∧ n = 1 then some .extend else if m = "insert" ∧ n = 2 then some .insert else
 if m = "pop" ∧ n = 0 then some .pop else if m = "pop" ∧ n = 1 then some .popAt else if m = "clear" ∧ n = 0 then some .clear else none
noncomputable def isNm : Expr → Bool
 | .Name _ _=>true
 | _=>false
noncomputable def sX : Expr → Bool
 | .Tuple _ _ _=>false
 | _=>true
noncomputable def stS (T : Tr) (rE : Expr → Option E) (rEs : List Expr → Option (List E)) (rI : Expr → Option It) (rS : List Stmt → Option (List S)) : Stmt → Option S
 | .Assign [.Subscript a i p] e _=>if sX i = true then (rE e).bind fun e'=>(rE a).bind fun a'=>(rE i).bind fun i'=>some (.put a' i' e') else none
 | .Assign [tg] e _=>if sX e = true ∨ isNm tg = true then (ma T tg).bind fun t=>(rE e).bind fun e'=>some (.set t e') else none
 | .Return (some e) _=>(rE e).bind fun e'=>some (.ret e')
 | .Return none _=>some .retN
 | .If c a b _=>(rE c).bind fun c'=>(rS a).bind fun a'=>(rS b).bind fun b'=>some (.ite c' a' b')
 | .For tg it body [] _=>(ma T tg).bind fun t=>(rI it).bind fun it'=>(rS body).bind fun b'=>if uN tg it' = true then some (.for t it' b') else none
 | .While c body [] _=>(rE c).bind fun c'=>(rS body).bind fun b'=>some (.while c' b')
 | .Expr (.Call (.Attribute o m apos) es [] cpos) _=>
   if (apos.endLine == cpos.line) = true then (trM m es.length).bind fun lm=>(rE o).bind fun o'=>(rEs es).bind fun es'=>some (.mth lm o' es') else none
 | .Expr (.Call (.Name f p) es ks q) _=>(rE (.Call (.Name f p) es ks q)).bind fun e'=>some (.expr e')
 | .Break _=>some .brk
 | .Continue _=>some .cont
 | .Pass _=>some .pas
 | .Raise _ _ _=>some .nev
 | _=>none
mutual
noncomputable def trS (T : Tr) : Nat → Stmt → Option S
 | 0,_=>none
 | n + 1,s=>stS T (fun e=>trE T n e) (fun es=>i0 T n es) (fun i=>trI T n i) (fun ss=>cU T n ss) s
noncomputable def cU (T : Tr) : Nat → List Stmt → Option (List S)
 | 0,_=>none
 | _ + 1,[]=>some []
 | n + 1,s :: ss=>(trS T n s).bind fun s'=>(cU T n ss).bind fun ss'=>some (s' :: ss')
end
end
end Sv
namespace Sv
open PySem PySem.Spec PyProof.Rows L2
open Ev (D aQ aU ai jM j1 eu slot slot_get iO jC nG)
noncomputable def kF (Z : Zt) (m : List Addr) (H : Hp) (D : Ends) : Fl → Sto → Prop
 | .nx ρ,st'=>∀ m' H' σ',Go m H m' H' → R Z m' st' H' → bX Z m' H' σ' ρ → D.nx σ' H'
 | .rt d,st'=>∀ m' H' v,Go m H m' H' → R Z m' st' H' → bf Z m' H' v d → D.rt v H'
 | .bk ρ,st'=>∀ m' H' σ',Go m H m' H' → R Z m' st' H' → bX Z m' H' σ' ρ → D.bk σ' H'
 | .ct ρ,st'=>∀ m' H' σ',Go m H m' H' → R Z m' st' H' → bX Z m' H' σ' ρ → D.ct σ' H'
theorem kF.sh {Z : Zt} {m m1 : List Addr} {H H1 : Hp} {D : Ends} (g : Go m H m1 H1) : ∀ f st,kF Z m H D f st → kF Z m1 H1 D f st
 | .nx _,_,h=>fun m' H' σ' g'=>h m' H' σ' (g.trans g')
 | .rt _,_,h=>fun m' H' v g'=>h m' H' v (g.trans g')
 | .bk _,_,h=>fun m' H' σ' g'=>h m' H' σ' (g.trans g')
 | .ct _,_,h=>fun m' H' σ' g'=>h m' H' σ' (g.trans g')
noncomputable abbrev PoF (Z : Zt) (Ex : Nat → Hp → Prop) (m : List Addr) (H : Hp) (D : Ends) (x : Rs Fl) : Prop:=post (kE Z Ex m H) (kF Z m H D) x
theorem PoF.sh {Z : Zt} {Ex : Nat → Hp → Prop} {m m1 : List Addr} {H H1 : Hp} {D : Ends} {x : Rs Fl} (h : PoF Z Ex m H D x) (g : Go m H m1 H1) : PoF Z Ex m1 H1 D x:=ao h (kE.sh g) fun a st _=>kF.sh g a st
section
variable (Z : Zt) (Φ : Fn) (Ex : Nat → Hp → Prop) (n : Nat)
noncomputable def lS (s : S) : TS:=fun D σ H=>∃ m st ρ,R Z m st H ∧ bX Z m H σ ρ ∧ PoF Z Ex m H D (xS Φ n s ρ st)
noncomputable def lSs (ss : List S) : TS:=fun D σ H=>∃ m st ρ,R Z m st H ∧ bX Z m H σ ρ ∧ PoF Z Ex m H D (xSs Φ n ss ρ st)
end
section
variable {X : Cx} {T : Tr} {Φ : Fn} {cl : Nat → Addr} {CX : CXT} {Ex : Nat → Hp → Prop} {k : Nat}
theorem PS.wk {e : Stmt} {t t' : TS} (h : PS X e t) (f : ∀ E σ H,t' E σ H → t E σ H) : PS X e t':=fun pins s σ H E I q=>h pins s σ H E I (f E σ H q)
theorem PSs.wk {e : List Stmt} {t t' : TS} (h : PSs X e t) (f : ∀ E σ H,t' E σ H → t E σ H) : PSs X e t':=fun pins s σ H E I q=>h pins s σ H E I (f E σ H q)
theorem PS.nox {st : Stmt} {t : TS} (h : PS X.nox st t) : PS X st t:=fun pins s σ H D I hw=>
 wpAny_mono (h pins s σ H D (I.pP _) hw) (fun _ _ q=>q.jb) fun _ _ z=>False.elim z
theorem Bg.nox (B : Bg X T Φ cl CX Ex k) : Bg X.nox T Φ cl CX (fun _ _=>False) k:=
 ⟨B.sc,B.nm,B.nd,B.calm,B.room,B.blt,B.cal,B.fn,B.cst,B.cxn,IS B.cxn⟩
theorem gy {Z : Zt} {m : List Addr} {st : Sto} {ρ : Env} {H : Hp} {σ : L2.St} {D : Ends} {Q1 : VK} {a : E} {f : U → Sto → Rs Fl} (r : R Z m st H) (en : bX Z m H σ ρ) (h : PoF Z Ex m H D ((xE Φ a ρ st).bind f))
   (k : ∀ x st1 m1 H1 v,Go m H m1 H1 → R Z m1 st1 H1 → bX Z m1 H1 σ ρ → bf Z m1 H1 v x → PoF Z Ex m1 H1 D (f x st1) → Q1 v H1) : lE Z Φ Ex a σ H Q1:=
 ⟨m,st,ρ,r,en,ao (az h) (fun _ _ z=>z) fun x st1 _ hx m1 H1 v g1 r1 dv=>k x st1 m1 H1 v g1 r1 (en.mono g1) dv (PoF.sh hx g1)⟩
theorem CK {Z : Zt} {m : List Addr} {st : Sto} {ρ : Env} {H : Hp} {σ : L2.St} {D : Ends} {Q1 : List V → Hp → Prop} {es : List E} {f : List U → Sto → Rs Fl} (r : R Z m st H) (en : bX Z m H σ ρ) (h : PoF Z Ex m H D ((xEs Φ es ρ st).bind f))
   (k : ∀ xs st1 m1 H1 vs,Go m H m1 H1 → R Z m1 st1 H1 → bX Z m1 H1 σ ρ → ak Z m1 H1 vs xs → PoF Z Ex m1 H1 D (f xs st1) → Q1 vs H1) : lEs Z Φ Ex es σ H Q1:=
 ⟨m,st,ρ,r,en,ao (az h) (fun _ _ z=>z) fun xs st1 _ hx m1 H1 vs g1 r1 dv=>k xs st1 m1 H1 vs g1 r1 (en.mono g1) dv (PoF.sh hx g1)⟩
theorem y3 {Z : Zt} {m : List Addr} {st : Sto} {ρ : Env} {H : Hp} {σ : L2.St} {D : Ends} {Q1 : Bool → Hp → Prop} {a : E} {f : U → Sto → Rs Fl} (r : R Z m st H) (en : bX Z m H σ ρ) (h : PoF Z Ex m H D ((xE Φ a ρ st).bind f)) (hf : ∀ x st,(∀ b,x ≠ .bl b) → f x st = .bad)
   (k : ∀ b st1 m1 H1,Go m H m1 H1 → R Z m1 st1 H1 → bX Z m1 H1 σ ρ → PoF Z Ex m1 H1 D (f (.bl b) st1) → Q1 b H1) : lT Z Φ Ex a σ H Q1:=
 ⟨m,st,ρ,r,en,ao (az h) (fun _ _ z=>z) fun x st1 _ hx=>by
   cases x with
   | bl b=>exact ⟨b,rfl,fun m1 H1 g1 r1=>k b st1 m1 H1 g1 r1 (en.mono g1) (PoF.sh hx g1)⟩
   | _=>rw [hf _ _ (by intro b z; cases z)] at hx; exact hx.elim⟩
theorem DO {T : Tr} {n : Nat} {e : Expr} {e' : E} (h : trE T n e = some e') (t : Option Expr) (l : Nat) (env : PySem.Env) (hs : ∀ a b c d,e ≠ .ListComp a b c d) : swapsWith e t l env = pure false:=by
 cases n with
 | zero=>rw [trE] at h; cases h
 | succ n=>
   cases e with
   | ListComp a b c d=>exact absurd rfl (hs _ _ _ _)
   | SetComp a b c d=>exact bK (show (none : Option E) = some _ from h)
   | DictComp a b c d e=>exact bK (show (none : Option E) = some _ from h)
   | _=>rfl
end
end Sv
namespace Ev
open PySem PySem.Spec PyProof.Rows L2
theorem uE {X : Cx} {gT : TG} {y : Str} {py spos : Pos} {elt tg iter : Expr} {ifs : List Expr} {scope : Scope} {N : List Str} {caps : List (Option Nat)} {pos : Pos} {wi : TI} {In : TG → TT → TE → Prop} (hT : PG X (.Name y py) gT) (hc : X.calm = true) (c : lH X scope N caps) (hi : PI X tg iter wi)
   (hs : ∀ x,foldedSetIterable iter X.env x = pure x)
   (hin : ∀ g tt te,In g tt te → ∀ s H fp,PG (aS X s H scope N fp) tg g ∧ PTs (aS X s H scope N fp) ifs tt ∧ PE (aS X s H scope N fp) elt te)
   (hsw : swapsWith (.ListComp elt [⟨tg,iter,ifs,0⟩] scope pos) (some (.Name y py)) spos.line X.env = pure true) :
   PS X (.Assign [.Name y py] (.ListComp elt [⟨tg,iter,ifs,0⟩] scope pos) spos) (Gg (ou In caps wi) gT):=by
 intro pins s σ H D I h
 rw [exec_Assign_Name_used _ _ _ _ hsw]
 refine wpAny_bind (wpAny_standAt (wpAny_bind ?_))
 show wpAny _ _ (do let _ ← comprehension (.ListComp elt [⟨tg,iter,ifs,0⟩] scope pos) scope X.env _ (newList []) false _ (some (assign (.Name y py) X.env))) _ _ s
 refine wpAny_bind ?_
 have hcl:=yZ (kS I c)
 refine wpAny_comprehension_free (use:=some (assign (.Name y py) X.env)) (Q:=fun _ s'=>wpAny (model X.prog X.w) X.A (pure ()) (fun _ s''=>wpAny (model X.prog X.w) X.A (pure Flow.next) (SP X pins D) X.xe s'') X.xe s') (g:=⟨tg,iter,ifs,0⟩) (gs:=[]) rfl hs hcl c.kind c.loc ?_
 show wpAny _ _ (eval iter X.env) _ _ s
 refine thn (hi pins s σ H _ I h) fun v s1 h1=>thn h1 fun itv s2 h2=>?_
 obtain ⟨it,fp,tn,J,H2,e,I2,T,st2,f2,g,tt,te,hI,q⟩:=h2
 subst e
 obtain ⟨Z,⟨m0,z0⟩,turn⟩:=q s2.heap.objs.size (I2.hok.fresh (Nat.le_refl _))
 have ho : ∀ b ∈ fp,∃ o,s2.heap.get? b = some o:=fun b hb=>let ⟨o,e,_⟩:=T.obj _ _ st2 b hb; ⟨o,e⟩
 have I4:=vq (scope:=scope) (N:=N) (caps:=caps) I2 f2 ho c
 obtain ⟨hg,ht,he⟩:=hin g tt te hI s2 H2 fp
 refine wpAny_newObj_type (rk ?_) (by show 0 ≤ sizeLine; decide)
 have hC : (s2.heap.push { cls:=.type "list",dict:=none,data:=.seq ([] : List Value).toArray }).objs.size = s2.heap.objs.size + 1:=Heap.size_push ..
 dsimp only
 rw [hC]
 have kp : ∀ b o,s2.heap.get? b = some o → (pushCells ((s2.heap.push { cls:=.type "list",data:=.seq ([] : List Value).toArray }).push { cls:=.type "dict",data:=.dict #[] }) scope.names).get? b = some o:=fun b o e=>
   pushCells_keeps _ _ b o (Heap.get?_push_of_some _ (Heap.get?_push_of_some _ e))
 have st4 : tn 0 (pushCells ((s2.heap.push { cls:=.type "list",data:=.seq ([] : List Value).toArray }).push { cls:=.type "dict",data:=.dict #[] }) scope.names):=T.keep _ _ _ st2 fun b _ o e=>kp b o e
 have stat : ∀ {H' : Hp},(∀ b ∈ fp,H' b = none) → ∀ b ∈ fp,qQ (aS X s2 H2 scope N fp) [] H' b:=fun hn b hb=>
   ⟨hn b hb,(I4.ok.exf b hb).1,I4.ok.exfs b hb,.inl hb,(I4.ok.exf b hb).2,fun p hp=>absurd (show p ∈ ([] : List (Addr × Obj)) from hp) (by simp)⟩
 have fr4 : ∀ b ∈ fp,(upd H2 s2.heap.objs.size (.lst [])) b = none:=fun b hb=>by
   obtain ⟨o,e⟩:=ho b hb
   rw [aD (Nat.ne_of_lt (Heap.lt_size e))]; exact (f2 b hb).1
 have loop : codeAny (model X.prog X.w) X.A (.compLoop (.ListComp elt [⟨tg,iter,ifs,0⟩] scope pos) 0 (.ref it) (.ref s2.heap.objs.size) (aS X s2 H2 scope N fp).env)
     (compPost (model X.prog X.w) X.A X.xe (some (assign (.Name y py) X.env)) (fun _ s'=>wpAny (model X.prog X.w) X.A (pure ()) (fun _ s''=>wpAny (model X.prog X.w) X.A (pure Flow.next) (SP X pins D) X.xe s'') X.xe s') (.ref s2.heap.objs.size) (s2.heap.objs.size + 1))
     { s2 with heap:=pushCells ((s2.heap.push { cls:=.type "list",data:=.seq ([] : List Value).toArray }).push { cls:=.type "dict",data:=.dict #[] }) scope.names }:=by
   refine pY (fun n s'=>∃ i σ' H',Inv (aS X s2 H2 scope N fp) [] σ' H' s' ∧ tn i s'.heap ∧ (∀ b ∈ fp,H' b = none) ∧ Z i n σ' H') ?_ m0 ⟨0,_,_,I4,st4,fr4,z0⟩
   rintro n s3 ⟨i,σ3,H3,I3,st3,fr3,w3⟩
   rcases turn i n σ3 H3 w3 with ⟨stop,qn⟩ | ⟨go,step⟩
   · refine thn (T.done (aS X s2 H2 scope N fp) rfl rfl rfl hc i [] s3 σ3 H3 _ I3 (stat fr3) st3 stop) fun r s5 ⟨hr,I5⟩=>?_
     subst hr
     obtain ⟨m,hn,_⟩:=id I5.loc
     have I6 : Inv X pins σ H3 s5:=by
       have lt : ∀ b o,s2.heap.get? b = some o → b ≠ s2.heap.objs.size + 1:=fun b o e=>Nat.ne_of_lt (Nat.lt_succ_of_lt (Heap.lt_size e))
       have u:=I5.base
       have u' : Un (frs X.stack) fp H2 H3 s2.heap s5.heap:=⟨fun b o e n1 n2 n3=>u.keep b o e n1 n2 n3,fun b o e n1 n2 n3=>u.slot b o e n1 n2 n3,u.free,fun b o e n1=>u.there b o e n1,u.tups,u.frzs,u.tbls⟩
       exact I2.FF (s':=s5) I5.os u' I5.hok I5.bare fun b hb=>⟨(f2 b hb).2.2.2.1,(f2 b hb).2.1,(f2 b hb).2.2.2.2.1,(f2 b hb).2.2.2.2.2⟩
     have fC : H3 (s2.heap.objs.size + 1) = none:=I5.free
     have fk : qQ X pins H3 (s2.heap.objs.size + 1):=I2.ye (Nat.le_succ _) fC
     obtain ⟨oC,es,ep,hoC,hdC,rC⟩:=id hn
     have hpin:=I6.pinned (fp:=[s2.heap.objs.size + 1]) (fun b hb=>by rw [List.mem_singleton.mp hb]; exact fk) (fun b hb=>by rw [List.mem_singleton.mp hb]; exact ⟨oC,hoC,fun v z=>by rw [hdC] at z; cases z⟩)
     have hmem : (s2.heap.objs.size + 1,oC) ∈ kX [s2.heap.objs.size + 1] s5.heap:=eH (List.mem_singleton_self _) hoC
     refine thn (hT _ s5 σ H3 (.ref s2.heap.objs.size) (.ref s2.heap.objs.size) _ hpin rfl qn) fun _ s6 ⟨σ6,H6,I7,q7⟩=>?_
     obtain ⟨p1,p2,p3,p4,p5⟩:=I7.pin _ (List.mem_append_right _ (List.mem_append_right _ hmem))
     refine ⟨m,⟨oC,es,ep,p1,hdC,rC⟩,fun h' sb=>wpAny_pure (wpAny_pure ?_)⟩
     refine ⟨σ6,H6,?_,q7⟩
     exact (I7.iS).turned (t':=s6.toks) (it:=s2.heap.objs.size + 1) (fun b o hb e=>(sb.2 b hb).trans e) p2 p3 fk.2.2.2.1 fk.2.2.2.2.1 fk.2.2.2.2.2
   · refine thn (T.item (aS X s2 H2 scope N fp) rfl rfl rfl hc i [] s3 σ3 H3 _ I3 (stat fr3) st3 go) fun r s4 ⟨u,hr,h4⟩=>?_
     subst hr
     refine thn h4 fun _ s5 ⟨x,H5,I5,r5,y5,st5,fr5⟩=>?_
     have I5':=I5.pinned (stat fr5) (T.obj _ _ st5)
     refine thn (hg _ s5 σ3 H5 x u _ I5' r5 (step x H5 y5)) fun _ s6 ⟨σ6,H6,I6,q6⟩=>?_
     have again : ∀ {s7 : Shared} {σ7 : L2.St} {H7 : Hp} {m' : Nat},Inv (aS X s2 H2 scope N fp) ([] ++ kX fp s5.heap) σ7 H7 s7 → m' < n → Z (i + 1) m' σ7 H7 →
         ∃ m,m < n ∧ ∃ i σ' H',Inv (aS X s2 H2 scope N fp) [] σ' H' s7 ∧ tn i s7.heap ∧ (∀ b ∈ fp,H' b = none) ∧ Z i m σ' H':=fun {s7 σ7 H7 m'} I7 hm z7=>by
       refine ⟨m',hm,i + 1,σ7,H7,I7.iS,T.keep _ _ _ st5 fun b hb o e=>(I7.pin (b,o) (List.mem_append_right _ (List.mem_append_right _ (eH hb e)))).1,fun b hb=>?_,z7⟩
       obtain ⟨o,e,d⟩:=T.obj _ _ st5 b hb
       exact (I7.pin (b,o) (List.mem_append_right _ (List.mem_append_right _ (eH hb e)))).2.1
     refine thn (ht _ s6 σ6 H6 _ I6 q6) fun ok s7 ⟨H7,I7,q7⟩=>?_
     cases ok with
     | false=>
       rw [if_neg (by decide)] at q7
       obtain ⟨m',hm,z7⟩:=q7
       exact again I7 hm z7
     | true=>
       rw [if_pos rfl] at q7
       refine thn (he _ s7 σ6 H7 _ I7 q7) fun v' s8 ⟨v,H8,I8,r8,vs,m',q8,l8,hm,z8⟩=>?_
       refine thn (nK (X:=aS X s2 H2 scope N fp) _ s8 σ6 H8 (.ref s2.heap.objs.size) [v] (.ref s2.heap.objs.size) [v'] (fun _ H9=>H9 = upd H8 s2.heap.objs.size (.lst (vs ++ [v]))) I8 rfl (.cons r8 .nil) ⟨_,vs,v,rfl,rfl,q8,l8,rfl⟩) fun _ s9 ⟨_,H9,I9,_,e9⟩=>?_
       subst e9
       exact again I9 hm z8
 exact codeAny_compStart_list loop (T.self _ 0 _ _ _ st4 loop)
end Ev
namespace Sv
open PySem PySem.Spec PyProof.Rows L2
open Ev (D aQ aU ai jM j1 eu slot slot_get iO jC nG uE ou PTs aS)
section
variable {Φ : Fn} {cl : Nat → Addr} {CX : CXT} {k : Nat}
structure Lf (X : Cx) (T : Tr) (Φ : Fn) (cl : Nat → Addr) (Ex : Nat → Hp → Prop) (m n : Nat) : Prop where
 s : ∀ ps s,trS T n ps = some s → PS X ps (lS (zt X cl) Φ Ex m s)
 ss : ∀ ps s,cU T n ps = some s → PSs X ps (lSs (zt X cl) Φ Ex m s)
theorem B9 {tg e : Expr} (h : sX e = true ∨ isNm tg = true) (env : PySem.Env) : swappedStores [tg] e env = pure none:=by
 cases tg with
 | Tuple a b c=>
   rcases h with h | h
   · cases e <;> first | rfl | cases h
   · cases h
 | List a b=>
   rcases h with h | h
   · cases e <;> first | rfl | cases h
   · cases h
 | _=>rfl
theorem zJ {X : Cx} {T : Tr} {Ex : Nat → Hp → Prop} {n : Nat} (B : Bg X T Φ cl CX Ex k) {elt tg iter : Expr} {ifs : List Expr} {scope : Scope} {pos : Pos} {e : E} {y : Str} {py spos : Pos} {t : Tg} {m : Nat} {asy : Int} (hT : ma T (.Name y py) = some t)
   (he : trE T n (.ListComp elt [⟨tg,iter,ifs,asy⟩] scope pos) = some e) (hsw : swapsWith (.ListComp elt [⟨tg,iter,ifs,asy⟩] scope pos) (some (.Name y py)) spos.line X.env = pure true) :
   PS X (.Assign [.Name y py] (.ListComp elt [⟨tg,iter,ifs,asy⟩] scope pos) spos) (lS (zt X cl) Φ Ex m (.set t e)):=by
 have hasg:=pF B hT
 cases n with
 | zero=>rw [trE] at he; cases he
 | succ n=>
   simp only [trE,stE.eq_def] at he
   split at he
   · rename_i hb0
     obtain ⟨rfl,hb⟩:=hb0
     simp only [Option.bind_eq_some_iff] at he
     obtain ⟨t',h1,it,h2,fs,h3,e',h4,h5⟩:=he
     split at h5
     · rename_i ho
       cases h5
       have b:=wj hb
       have S:=jh n B
       obtain ⟨hi,hs⟩:=S.i tg iter it h2 ho
       refine PS.wk (uE (In:=fun g tt te=>g = lG (zt X cl) t' ∧ tt = lIf (zt X cl) Φ (fun _ _=>False) fs ∧ te = lE (zt X cl) Φ (fun _ _=>False) e') hasg B.calm (By B b) hi hs ?_ hsw) ?_
       · rintro g tt te ⟨rfl,rfl,rfl⟩ s H fp
         have B':=Ca B b s H fp
         have S':=jh n B'
         exact ⟨pF B' h1,S'.f _ _ h3,(S'.e _ _ h4).1⟩
       · rintro D σ H ⟨m,st,ρ,r,en,h⟩
         simp only [xS] at h
         have key : lE (zt X cl) Φ Ex (.comp (hW T scope) t' it fs e') σ H (fun x H1=>lG (zt X cl) t x σ H1 D.nx):=by
           refine gy r en h fun x st1 m1 H1 v g1 r1 en1 dv q1=>?_
           split at q1
           · rename_i ρ' hset
             exact ⟨m1,st1,ρ,x,ρ',r1,en1,dv,hset,fun σ' en'=>q1 m1 H1 σ' (Go.refl _ _) r1 en'⟩
           · exact q1.elim
         exact y6 h1 σ H _ key
     · cases h5
   · cases he
theorem oY {T : Tr} {n : Nat} {o : Expr} {o' : E} {m : Str} (h : trE T n o = some o') (env : PySem.Env) (w : Sem Value) : attributeBase o m env w = w:=by
 cases n with
 | zero=>rw [trE] at h; cases h
 | succ n=>
   cases o with
   | Call f es ks pos=>
     cases f with
     | Name x p=>
       cases es with
       | cons e0 es0=>rfl
       | nil=>
         cases ks with
         | cons k ks=>rfl
         | nil=>exact bK (show (none : Option E) = some _ from h)
     | _=>rfl
   | _=>rfl
theorem yg {Z : Zt} {m : List Addr} {H : Hp} {D : Ends} {Ex : Nat → Hp → Prop} {o : Option Sto} {ρ : Env} (h : PoF Z Ex m H D (ofS o ρ)) : ∃ st',o = some st' ∧ ∀ m' H' σ',Go m H m' H' → R Z m' st' H' → bX Z m' H' σ' ρ → D.nx σ' H':=by
 cases o with
 | none=>exact h.elim
 | some st'=>exact ⟨st',rfl,h⟩
theorem sQ (m : Nat) : ∀ (n : Nat) {X : Cx} {T : Tr} {Ex : Nat → Hp → Prop},Bg X T Φ cl CX Ex k → Lf X T Φ cl Ex m n
 | 0,X,T,Ex,B=>⟨(fun _ _ h=>by exact bK (show (none : Option Sv.S) = some _ from h)),(fun _ _ h=>by simp [cU] at h)⟩
 | n + 1,X,T,Ex,B=>by
   have S:=sQ m n B
   have Z:=jh n B
   refine ⟨?_,?_⟩
   case refine_2=>
     intro ps s h
     cases ps with
     | nil=>
       simp only [cU,Option.some.injEq] at h
       subst h
       refine PSs.wk DL ?_
       rintro D σ H ⟨m,st,ρ,r,en,q⟩
       simp only [xSs] at q
       exact q m H σ (Go.refl m H) r en
     | cons p ps=>
       simp only [cU,Option.bind_eq_some_iff,Option.some.injEq] at h
       obtain ⟨s',h1,ss',h2,rfl⟩:=h
       refine PSs.wk (Dl (S.s _ _ h1) (S.ss _ _ h2)) ?_
       rintro D σ H ⟨m,st,ρ,r,en,q⟩
       simp only [xSs] at q
       refine ⟨m,st,ρ,r,en,ao (az q) (fun _ _ z=>z) fun f st1 _ hf=>?_⟩
       cases f with
       | nx ρ'=>exact fun m1 H1 σ1 g1 r1 en1=>⟨m1,st1,ρ',r1,en1,PoF.sh hf g1⟩
       | rt d=>exact hf
       | bk ρ'=>exact hf
       | ct ρ'=>exact hf
   case refine_1=>
     intro ps s h
     cases ps with
     | Assign ts e pos=>
       match ts with
       | []=>exact bK (show (none : Option Sv.S) = some _ from h)
       | t :: t2 :: rs=>cases t <;> exact bK (show (none : Option Sv.S) = some _ from h)
       | [tg]=>
         have gen : (∀ a i p,tg ≠ .Subscript a i p) → PS X (.Assign [tg] e pos) (lS (zt X cl) Φ Ex m s):=by
           intro hns
           have h' : (if sX e = true ∨ isNm tg = true then (ma T tg).bind fun t=>(trE T n e).bind fun e'=>some (.set t e') else none) = some s:=by
             cases tg <;> first | (simpa only [trS,stS.eq_def] using h) | exact absurd rfl (hns _ _ _)
           split at h'
           · rename_i hnt
             simp only [Option.bind_eq_some_iff,Option.some.injEq] at h'
             obtain ⟨t,h1,e',h3,rfl⟩:=h'
             have rd : ∀ D σ H,lS (zt X cl) Φ Ex m (.set t e') D σ H → Gg (lE (zt X cl) Φ Ex e') (lG (zt X cl) t) D σ H:=by
               rintro D σ H ⟨m,st,ρ,r,en,q⟩
               simp only [xS] at q
               refine gy r en q fun x st1 m1 H1 v g1 r1 en1 dv q1=>?_
               split at q1
               · rename_i ρ' hset
                 exact ⟨m1,st1,ρ,x,ρ',r1,en1,dv,hset,fun σ' en'=>q1 m1 H1 σ' (Go.refl _ _) r1 en'⟩
               · exact q1.elim
             have ord : swapsWithSole [tg] e pos.line X.env = pure false → PS X (.Assign [tg] e pos) (lS (zt X cl) Φ Ex m (.set t e')):=fun hsw=>by
               refine PS.wk (BD (Z.e _ _ h3).1 (pF B h1) hsw (B9 hnt _) ?_) rd
               cases tg <;> first | rfl | (simp [ma] at h1)
             by_cases hl : ∃ a b c d,e = .ListComp a b c d
             · obtain ⟨elt,gens,sc,lp,rfl⟩:=hl
               match gens,h3 with
               | [⟨tg',iter,ifs,asy⟩],h3=>
                 cases tg with
                 | Name y py=>
                   have hb : ∃ b,swapsWith (.ListComp elt [⟨tg',iter,ifs,asy⟩] sc lp) (some (.Name y py)) pos.line X.env = pure b:=⟨_,rfl⟩
                   obtain ⟨b,hb⟩:=hb
                   cases b with
                   | true=>exact zJ B h1 h3 hb
                   | false=>exact ord hb
                 | Tuple _ _ _=>exact ord rfl
                 | _=>simp [ma] at h1
               | [],h3=>cases n <;> exact bK (show (none : Option E) = some _ from h3)
               | ⟨_,_,_,_⟩ :: _ :: _,h3=>cases n <;> exact bK (show (none : Option E) = some _ from h3)
             · exact ord (DO h3 _ _ _ fun a b c d z=>hl ⟨a,b,c,d,z⟩)
           · cases h'
         cases tg with
         | Subscript a i p=>
           simp only [trS,stS.eq_def] at h
           split at h
           · rename_i hnt
             simp only [Option.bind_eq_some_iff,Option.some.injEq] at h
             obtain ⟨e',h1,a',h2,i',h3,rfl⟩:=h
             have hsw : swapsWithSole [.Subscript a i p] e pos.line X.env = pure false:=by cases e <;> rfl
             have hns : ∀ l u st q,i ≠ .Slice l u st q:=by
               rintro l u st q rfl
               cases n <;> exact bK (show (none : Option E) = some _ from h3)
             refine PS.wk (BD (Z.e _ _ h1).1 (Jn (Z.e _ _ h2).1 (Z.e _ _ h3).1 (El (cl:=cl)) (fun v=>by cases i <;> first | rfl | exact absurd rfl (hns _ _ _ _))) hsw (by cases e <;> rfl) rfl) ?_
             rintro D σ H ⟨m,st,ρ,r,en,q⟩
             simp only [xS] at q
             refine gy r en q fun z st1 m1 H1 w g1 r1 en1 dw q1=>gy r1 en1 q1 fun x st2 m2 H2 v g2 r2 en2 dv q2=>gy r2 en2 q2 fun y st3 m3 H3 u g3 r3 en3 du q3=>?_
             obtain ⟨st',e1,q4⟩:=yg q3
             exact ⟨m3,st3,x,y,z,r3,dv.mono g3,du,dw.mono (g2.trans g3),st',e1,fun H' g' r'=>q4 m3 H' σ g' r' (en3.mono g')⟩
           · cases h
         | _=>exact gen (fun _ _ _ z=>nomatch z)
     | Return v pos=>
       cases v with
       | none=>
         simp only [trS,stS.eq_def,Option.some.injEq] at h
         subst h
         refine PS.wk DA ?_
         rintro D σ H ⟨m,st,ρ,r,en,q⟩
         simp only [xS] at q
         exact q m H _ (Go.refl m H) r .non
       | some e=>
         simp only [trS,stS.eq_def,Option.bind_eq_some_iff,Option.some.injEq] at h
         obtain ⟨e',h1,rfl⟩:=h
         refine PS.wk (IP (Z.e _ _ h1).1) ?_
         rintro D σ H ⟨m,st,ρ,r,en,q⟩
         simp only [xS] at q
         exact gy r en q fun x st1 m1 H1 v g1 r1 en1 dv q1=>q1 m1 H1 v (Go.refl _ _) r1 dv
     | If c a b pos=>
       simp only [trS,stS.eq_def,Option.bind_eq_some_iff,Option.some.injEq] at h
       obtain ⟨c',h1,a',h2,b',h3,rfl⟩:=h
       refine PS.wk (J2 (Z.e _ _ h1).2 (S.ss _ _ h2) (S.ss _ _ h3)) ?_
       rintro D σ H ⟨m,st,ρ,r,en,q⟩
       simp only [xS] at q
       refine y3 r en q (fun x st hx=>by cases x <;> first | rfl | exact absurd rfl (hx _)) fun b st1 m1 H1 g1 r1 en1 q1=>?_
       cases b with
       | true=>exact qw ⟨m1,st1,ρ,r1,en1,q1⟩
       | false=>exact qO ⟨m1,st1,ρ,r1,en1,q1⟩
     | For tg it body orelse pos=>
       cases orelse with
       | cons a r=>exact bK (show (none : Option Sv.S) = some _ from h)
       | nil=>
         simp only [trS,stS.eq_def,Option.bind_eq_some_iff] at h
         obtain ⟨t,h1,it',h2,b',h3,h4⟩:=h
         split at h4
         · rename_i ho
           cases h4
           have BN:=B.nox
           have ZN:=jh n BN
           have SN:=sQ m n BN
           obtain ⟨hi,hs⟩:=ZN.i tg it it' h2 ho
           refine PS.wk (PS.nox (Hz PassesOwn.never B.calm hi (pF BN h1) (SN.ss _ _ h3) hs)) ?_
           rintro D σ H ⟨m0,st,ρ,r,en,q⟩
           simp only [xS] at q
           have q:=az (pJ q)
           refine ⟨m0,st,ρ,r,en,ao q (fun _ _ z=>z.elim) fun sq st1 _ hq J m1 H1 g1 r1 yl=>?_⟩
           generalize hf : (fun (x : U) (ρ' : Env) (st' : Sto)=>match hZ t x ρ' with | some ρ2=>xSs Φ m b' ρ2 st' | none=>(Rs.bad : Rs Fl)) = f at hq
           refine ⟨fun i n σ' H'=>∃ m' st' ρ',R (zt X cl) m' st' H' ∧ bX (zt X cl) m' H' σ' ρ' ∧ Go m1 H1 m' H' ∧ post (fun _ _=>False) (kF (zt X cl) m' H' D) (loop f sq n i ρ' st'),⟨sq.len st1 + 1,m1,st1,ρ,r1,en.mono g1,Go.refl _ _,ao hq (fun _ _ z=>z) fun a s _=>kF.sh g1 a s⟩,?_⟩
           rintro i n σ' H' ⟨m',st',ρ',r',en',g',hc⟩
           cases n with
           | zero=>exact hc.elim
           | succ n=>
             rw [loop] at hc
             have yi:=yl m' st' H' g' r' i
             split at hc
             · exact hc.elim
             · rename_i hat
               rw [hat] at yi
               exact .inl ⟨yi,hc m' H' σ' (Go.refl _ _) r' en'⟩
             · rename_i x hat
               rw [hat] at yi
               refine .inr ⟨yi.1,fun σ3 H3=>∃ n',n' < n + 1 ∧ ∃ m' st' ρ',R (zt X cl) m' st' H3 ∧ bX (zt X cl) m' H3 σ3 ρ' ∧ Go m1 H1 m' H3 ∧ post (fun _ _=>False) (kF (zt X cl) m' H3 D) (loop f sq n' (i + 1) ρ' st'),fun _ _ z=>z,fun v H2 hy=>?_⟩
               obtain ⟨g2,r2,dv⟩:=yi.2 v H2 hy
               have hc:=az hc
               subst hf
               dsimp only at hc
               split at hc
               · rename_i ρ2 hset
                 refine ⟨m',st',ρ',x,ρ2,r2,en'.mono g2,dv,hset,fun σ2 en2=>⟨m',st',ρ2,r2,en2,ao hc (fun _ _ z=>z.elim) fun fl st3 _ hfl=>?_⟩⟩
                 cases fl with
                 | nx ρ3=>exact fun m3 H3 σ3 g3 r3 en3=>⟨n,Nat.lt_succ_self n,m3,st3,ρ3,r3,en3,g'.trans (g2.trans g3),ao hfl (fun _ _ z=>z) fun a s _=>kF.sh (g2.trans g3) a s⟩
                 | ct ρ3=>exact fun m3 H3 σ3 g3 r3 en3=>⟨n,Nat.lt_succ_self n,m3,st3,ρ3,r3,en3,g'.trans (g2.trans g3),ao hfl (fun _ _ z=>z) fun a s _=>kF.sh (g2.trans g3) a s⟩
                 | bk ρ3=>exact fun m3 H3 σ3 g3 r3 en3=>hfl m3 H3 σ3 (g2.trans g3) r3 en3
                 | rt d=>exact fun m3 H3 v3 g3 r3 d3=>hfl m3 H3 v3 (g2.trans g3) r3 d3
               · exact hc.elim
         · cases h4
     | While c body orelse pos=>
       cases orelse with
       | cons a r=>exact bK (show (none : Option Sv.S) = some _ from h)
       | nil=>
         simp only [trS,stS.eq_def,Option.bind_eq_some_iff,Option.some.injEq] at h
         obtain ⟨c',h1,b',h3,rfl⟩:=h
         have BN:=B.nox
         have ZN:=jh n BN
         have SN:=sQ m n BN
         refine PS.wk (PS.nox (Cw PassesOwn.never (ZN.e _ _ h1).2 (SN.ss _ _ h3))) ?_
         rintro D σ H ⟨m0,st,ρ,r,en,q⟩
         simp only [xS] at q
         have q : PoF (zt X cl) (fun _ _=>False) m0 H D _:=ao (pJ q) (fun _ _ z=>z.elim) fun _ _ _ z=>z
         refine ⟨fun j σ H=>∃ m' st' ρ',R (zt X cl) m' st' H ∧ bX (zt X cl) m' H σ ρ' ∧ PoF (zt X cl) (fun _ _=>False) m' H D (nX (fun ρ' st'=>xE Φ c' ρ' st') (fun ρ' st'=>xSs Φ m b' ρ' st') j ρ' st'),⟨m,m0,st,ρ,r,en,q⟩,?_⟩
         rintro j σ' H' ⟨m',st',ρ',r',en',hc⟩
         cases j with
         | zero=>exact hc.elim
         | succ j=>
           rw [nX] at hc
           refine y3 r' en' hc (fun x st hx=>by cases x <;> first | rfl | exact absurd rfl (hx _)) fun b st1 m1 H1 g1 r1 en1 q1=>?_
           cases b with
           | false=>exact qO (q1 m1 H1 σ' (Go.refl _ _) r1 en1)
           | true=>
             refine qw ⟨fun σ' H'=>∃ n',n' < j + 1 ∧ ∃ m' st' ρ',R (zt X cl) m' st' H' ∧ bX (zt X cl) m' H' σ' ρ' ∧ PoF (zt X cl) (fun _ _=>False) m' H' D (nX (fun ρ' st'=>xE Φ c' ρ' st') (fun ρ' st'=>xSs Φ m b' ρ' st') n' ρ' st'),fun _ _ z=>z,m1,st1,ρ',r1,en1,?_⟩
             refine ao (az q1) (fun _ _ z=>z) fun fl st3 _ hfl=>?_
             cases fl with
             | nx ρ3=>exact fun m3 H3 σ3 g3 r3 en3=>⟨j,Nat.lt_succ_self j,m3,st3,ρ3,r3,en3,PoF.sh hfl g3⟩
             | ct ρ3=>exact fun m3 H3 σ3 g3 r3 en3=>⟨j,Nat.lt_succ_self j,m3,st3,ρ3,r3,en3,PoF.sh hfl g3⟩
             | bk ρ3=>exact hfl
             | rt d=>exact hfl
     | Expr v pos=>
       cases v with
       | Call f es ks cpos=>
         cases f with
         | Name x p=>
           simp only [trS,stS.eq_def,Option.bind_eq_some_iff,Option.some.injEq] at h
           obtain ⟨e',h1,rfl⟩:=h
           refine PS.wk (jn (Z.e _ _ h1).1 rfl) ?_
           rintro D σ H ⟨m,st,ρ,r,en,q⟩
           simp only [xS] at q
           exact gy r en q fun x st1 m1 H1 v g1 r1 en1 dv q1=>q1 m1 H1 σ (Go.refl _ _) r1 en1
         | Attribute o mm apos=>
           cases ks with
           | cons a r=>exact bK (show (none : Option Sv.S) = some _ from h)
           | nil=>
             simp only [trS,stS.eq_def] at h
             split at h
             · rename_i hline
               simp only [Option.bind_eq_some_iff,Option.some.injEq] at h
               obtain ⟨lm,h0,o',h1,es',h2,rfl⟩:=h
               have hbase : attributeBase o mm X.env (eval o X.env) = eval o X.env:=oY h1 _ _
               have rd0 : es' = [] → ∀ D σ H,lS (zt X cl) Φ Ex m (.mth lm o' es') D σ H → BR (Ks X.K "list" (rM (zt X cl) lm) (lE (zt X cl) Φ Ex o')) D σ H:=by
                 rintro he D σ H ⟨m,st,ρ,r,en,q⟩
                 subst he
                 simp only [xS] at q
                 refine gy r en q fun x st1 m1 H1 v g1 r1 en1 dv q1=>?_
                 match x,q1 with
                 | .loc l,q1=>
                   dsimp only at q1
                   split at q1
                   · simp only [xEs,Rs.aa] at q1
                     obtain ⟨st',e1,q4⟩:=yg q1
                     obtain ⟨a,rfl,hl⟩:=lY dv
                     obtain ⟨fz,ds,vs,_,ly,_⟩:=r1.loc hl
                     exact ⟨.inl ⟨rfl,_,ly.sq⟩,m1,st1,.loc l,[],st',r1,dv,.nil,e1,fun v' H' g' r'=>q4 m1 H' σ g' r' (en1.mono g')⟩
                   · exact q1.elim
               have rd1 : ∀ D σ H,lS (zt X cl) Φ Ex m (.mth lm o' es') D σ H → BR (tBM X.K "list" (rM (zt X cl) lm) (lE (zt X cl) Φ Ex o') (lEs (zt X cl) Φ Ex es')) D σ H:=by
                 rintro D σ H ⟨m,st,ρ,r,en,q⟩
                 simp only [xS] at q
                 refine gy r en q fun x st1 m1 H1 v g1 r1 en1 dv q1=>?_
                 match x,q1 with
                 | .loc l,q1=>
                   dsimp only at q1
                   split at q1
                   · obtain ⟨a,rfl,hl⟩:=lY dv
                     obtain ⟨fz,ds,vs,_,ly,_⟩:=r1.loc hl
                     refine ⟨.inl ⟨rfl,_,ly.sq⟩,CK r1 en1 q1 fun xs st2 m2 H2 vs g2 r2 en2 dvs q2=>?_⟩
                     obtain ⟨st',e1,q4⟩:=yg q2
                     exact ⟨m2,st2,.loc l,xs,st',r2,dv.mono g2,dvs,e1,fun v' H' g' r'=>q4 m2 H' σ g' r' (en2.mono g')⟩
                   · exact q1.elim
               have few1 : ∀ {e : Expr} {es0 : List Expr},es = e :: es0 → es0.length ≤ 1 → ((backTo cpos (starEach es X.env)).all (fun x=>!x.1) && (backToKw cpos (keywordEach [] X.env)).all (fun x=>x.1.isSome) && decide (es.length + ([] : List Keyword).length + (if ([] : List Keyword).isEmpty then 0 else 1) < 30)) = true:=by
                 intro e es0 he hl
                 subst he
                 have t1:=eO h2 X.env
                 have t2:=fN h2 X.env cpos
                 rw [t1]
                 have : (backTo cpos ((false,eval e X.env) :: starEach es0 X.env)).all (fun x=>!x.1) = true:=by
                   unfold backTo at t2 ⊢
                   rw [List.map_cons,List.all_cons]
                   rw [Bool.and_eq_true]
                   refine ⟨rfl,?_⟩
                   rw [List.all_eq_true]
                   rw [List.any_eq_false] at t2
                   intro x hx
                   have:=t2 x hx
                   simpa using this
                 rw [this]
                 have : decide ((e :: es0).length + ([] : List Keyword).length + (if ([] : List Keyword).isEmpty then 0 else 1) < 30) = true:=decide_eq_true (by simp only [List.length_cons,List.length_nil,List.isEmpty_nil,if_true]; omega)
                 rw [this]; rfl
               unfold trM at h0
               split at h0
               · rename_i hc
                 obtain ⟨rfl,hn⟩:=hc
                 cases h0
                 match es,hn with
                 | [e],_=>exact PS.wk (jn (yw PySem.F.plainAttrs_list PySem.F.slot_list_append PySem.F.type_list_append (BX (cl:=cl)) (Z.e _ _ h1).1 (Z.a _ _ h2) hbase (few1 rfl (Nat.zero_le _)) hline (eO h2 _) (fN h2 _ _)) rfl) rd1
               split at h0
               · rename_i hc
                 obtain ⟨rfl,hn⟩:=hc
                 cases h0
                 match es,hn with
                 | [e],_=>exact PS.wk (jn (yw PySem.F.plainAttrs_list PySem.F.slot_list_extend PySem.F.type_list_extend (BE (cl:=cl)) (Z.e _ _ h1).1 (Z.a _ _ h2) hbase (few1 rfl (Nat.zero_le _)) hline (eO h2 _) (fN h2 _ _)) rfl) rd1
               split at h0
               · rename_i hc
                 obtain ⟨rfl,hn⟩:=hc
                 cases h0
                 match es,hn with
                 | [e,f],_=>exact PS.wk (jn (yw PySem.F.plainAttrs_list PySem.F.slot_list_insert PySem.F.type_list_insert (BJ (cl:=cl)) (Z.e _ _ h1).1 (Z.a _ _ h2) hbase (few1 rfl (Nat.le_refl _)) hline (eO h2 _) (fN h2 _ _)) rfl) rd1
               split at h0
               · rename_i hc
                 obtain ⟨rfl,hn⟩:=hc
                 cases h0
                 match es,hn with
                 | [],_=>
                   have he : es' = []:=by cases n <;> simp only [i0,Option.some.injEq,reduceCtorEq] at h2; exact h2.symm
                   exact PS.wk (jn (CM PySem.F.plainAttrs_list PySem.F.slot_list_pop PySem.F.type_list_pop (JS (cl:=cl)) (Z.e _ _ h1).1 hbase hline) rfl) (rd0 he)
               split at h0
               · rename_i hc
                 obtain ⟨rfl,hn⟩:=hc
                 cases h0
                 match es,hn with
                 | [e],_=>exact PS.wk (jn (yw PySem.F.plainAttrs_list PySem.F.slot_list_pop PySem.F.type_list_pop (Ea (cl:=cl)) (Z.e _ _ h1).1 (Z.a _ _ h2) hbase (few1 rfl (Nat.zero_le _)) hline (eO h2 _) (fN h2 _ _)) rfl) rd1
               split at h0
               · rename_i hc
                 obtain ⟨rfl,hn⟩:=hc
                 cases h0
                 match es,hn with
                 | [],_=>
                   have he : es' = []:=by cases n <;> simp only [i0,Option.some.injEq,reduceCtorEq] at h2; exact h2.symm
                   exact PS.wk (jn (CM PySem.F.plainAttrs_list PySem.F.slot_list_clear PySem.F.type_list_clear (Fq (cl:=cl)) (Z.e _ _ h1).1 hbase hline) rfl) (rd0 he)
               cases h0
             · cases h
         | _=>exact bK (show (none : Option Sv.S) = some _ from h)
       | _=>exact bK (show (none : Option Sv.S) = some _ from h)
     | Break pos=>
       simp only [trS,stS.eq_def,Option.some.injEq] at h
       subst h
       refine PS.wk Bz ?_
       rintro D σ H ⟨m,st,ρ,r,en,q⟩
       simp only [xS] at q
       exact q m H σ (Go.refl m H) r en
     | Continue pos=>
       simp only [trS,stS.eq_def,Option.some.injEq] at h
       subst h
       refine PS.wk wB ?_
       rintro D σ H ⟨m,st,ρ,r,en,q⟩
       simp only [xS] at q
       exact q m H σ (Go.refl m H) r en
     | Pass pos=>
       simp only [trS,stS.eq_def,Option.some.injEq] at h
       subst h
       refine PS.wk EM ?_
       rintro D σ H ⟨m,st,ρ,r,en,q⟩
       simp only [xS] at q
       exact q m H σ (Go.refl m H) r en
     | Raise a b pos=>
       simp only [trS,stS.eq_def,Option.some.injEq] at h
       subst h
       refine PS.wk B6 ?_
       rintro D σ H ⟨m,st,ρ,r,en,q⟩
       simp only [xS] at q
       exact q.elim
     | _=>exact bK (show (none : Option Sv.S) = some _ from h)
end
end Sv
namespace Sv
open PySem PySem.Spec PyProof.Rows L2
open Ev (D ai)
theorem AB {Z : Zt} {m : List Addr} {H : Hp} {N : List Str} {vs : List V} {ds : List U} (dn : ak Z m H vs ds) (hl : ds.length ≤ N.length) :
   bX Z m H (L2.start N vs) (ds.map some ++ List.replicate (N.length - ds.length) none):=by
 have lv:=dn.length
 refine ⟨by unfold L2.start; simp only [List.length_append,List.length_map,List.length_replicate]; omega,fun i d e=>?_⟩
 by_cases q : i < ds.length
 · rw [List.getElem?_append_left (by rw [List.length_map]; exact q),List.getElem?_map] at e
   cases z : ds[i]? with
   | none=>rw [z] at e; cases e
   | some y=>
     rw [z] at e; cases e
     obtain ⟨v,h1,h2⟩:=dn.get z
     refine ⟨v,?_,h2⟩
     unfold L2.start
     rw [List.getElem?_append_left (by rw [List.length_map]; omega),List.getElem?_map,h1]
     rfl
 · rw [List.getElem?_append_right (by rw [List.length_map]; omega)] at e
   have:=List.mem_of_getElem? e
   rw [List.mem_replicate] at this
   cases this.2
theorem JY {us : List Value} {q : Prop} (h : us.length = 0) (k : us = [] → q) : q:=k (List.length_eq_zero_iff.mp h)
theorem yL {us : List Value} {n : Nat} {q : Prop} (h : us.length = n + 1) (k : ∀ a r,us = a :: r → r.length = n → q) : q:=by
 cases us with
 | nil=>cases h
 | cons a r=>exact k a r rfl (Nat.succ.inj h)
theorem iy {p : List Value → Prop} (h : ∀ a,p [a]) (us : List Value) (e : us.length = 1) : p us:=
 yL e fun a r e1 e2=>JY e2 fun e3=>by rw [e1,e3]; exact h a
theorem fY {p : List Value → Prop} (h : ∀ a b,p [a,b]) (us : List Value) (e : us.length = 2) : p us:=
 yL e fun a r e1 e2=>by rw [e1]; exact iy (p:=fun r=>p (a :: r)) (fun b=>h a b) r e2
theorem Cz {p : List Value → Prop} (h : ∀ a b c,p [a,b,c]) (us : List Value) (e : us.length = 3) : p us:=
 yL e fun a r e1 e2=>by rw [e1]; exact fY (p:=fun r=>p (a :: r)) (fun b c=>h a b c) r e2
theorem JV {p : List Value → Prop} (h : ∀ a b c d,p [a,b,c,d]) (us : List Value) (e : us.length = 4) : p us:=
 yL e fun a r e1 e2=>by rw [e1]; exact Cz (p:=fun r=>p (a :: r)) (fun b c d=>h a b c d) r e2
theorem Kk : ∀ outer H s E e s',(∀ C a H',¬ E C a H') → ¬ CX0 outer H s E e s':=fun _ _ _ _ _ _ _ h=>h
theorem fnU {P : Program} {w : World} {K : PySem.W.Frag} {mg : Str → Option Value} {base : Heap} {x qual : Str} {st : Stmt} {f : Addr} {fd : FuncData} {N ps : List Str} {k n : Nat} {Fs : List Str} {cst : List (Str × Int)} {Φ : Fn} {cl : Nat → Addr} {ir : List S}
   (F : Fun K x qual st f fd) (S : aI N ps (ab st)) (tr : cU ⟨ab st,N,Fs,[],cst⟩ n (aj st) = some ir) (hb : ∀ x ∈ aL,mg x = none) (hcst : ∀ x i,cst.lookup x = some i → ∃ t,mg x = some (.int i t))
   (hc : ∀ i x,Fs[i]? = some x → Cal P w K mg base CX0 cl k x (Φ i)) : bW P w K mg base CX0 (k + 1) f fd ps (spU ⟨K,cl⟩ (mk Φ ir ps.length N.length)):=by
 have hpl : ps.length ≤ N.length:=by
   have:=congrArg List.length S.pre
   rw [List.length_take] at this
   omega
 refine F.ok S (fun vs H Q E h=>?_) (fun cdv A outer s H vs Q E hr h=>?_)
 · obtain ⟨m,st,ds,r,dn,e⟩:=h
   rw [dn.length]
   unfold mk at e
   split at e
   · assumption
   · exact e.elim
 · obtain ⟨m,st,ds,r,dn,e⟩:=h
   unfold mk at e
   split at e
   · rename_i hl
     have B : Bg (xr CX0 P w K mg base N qual (ab _) f cdv A outer s H E).nox ⟨ab _,N,Fs,[],cst⟩ Φ cl CX0 (fun _ _=>False) k:=
       ⟨rfl,rfl,S.nd,rfl,hr,hb,hc,fun _ _ _ _ _=>rfl,hcst,Kk,IS Kk⟩
     refine ⟨_,(sQ (fuel ds) n B).ss _ _ tr,?_⟩
     refine ⟨m,st,_,r,AB dn (by omega),?_⟩
     rw [← hl] at e
     generalize hr' : xSs Φ (fuel ds) ir (ds.map some ++ List.replicate (N.length - ds.length) none) st = rs at e
     match rs,e with
     | .ok (.rt d') st',e=>exact fun m' H' v g r dv=>e m' H' v g r dv
     | .ok (.nx ρ) st',e=>exact fun m' H' σ' g r en=>e m' H' .non g r .non
   · exact e.elim
theorem Cal.mono {P : Program} {w : World} {K : PySem.W.Frag} {mg : Str → Option Value} {base : Heap} {CX : CXT} {cl : Nat → Addr} {j k : Nat} {x : Str} {F : List U → Sto → Rs U} (c : Cal P w K mg base CX cl j x F) (h : j ≤ k) : Cal P w K mg base CX cl k x F:=by
 obtain ⟨f,fd,ps,G,F,r⟩:=c.ex
 exact ⟨⟨f,fd,ps,G,F.mono h,r⟩⟩
noncomputable def di (P : Program) (w : World) (K : PySem.W.Frag) (mg : Str → Option Value) (base : Heap) (CX : CXT) (cl : Nat → Addr) (k : Nat) (Fs : List Str) (fs : List (List U → Sto → Rs U)) : Prop:=∀ i x,Fs[i]? = some x → Cal P w K mg base CX cl k x (tab fs i)
theorem di.nil {P : Program} {w : World} {K : PySem.W.Frag} {mg : Str → Option Value} {base : Heap} {CX : CXT} {cl : Nat → Addr} {k : Nat} : di P w K mg base CX cl k [] []:=fun i x h=>by simp at h
theorem di.snoc {P : Program} {w : World} {K : PySem.W.Frag} {mg : Str → Option Value} {base : Heap} {CX : CXT} {cl : Nat → Addr} {k : Nat} {Fs : List Str} {fs : List (List U → Sto → Rs U)} {x : Str} {F : List U → Sto → Rs U} (c : di P w K mg base CX cl k Fs fs) (hl : Fs.length = fs.length) (n : Cal P w K mg base CX cl (k + 1) x F) :
   di P w K mg base CX cl (k + 1) (Fs ++ [x]) (fs ++ [F]):=fun i y h=>by
 by_cases q : i < Fs.length
 · rw [List.getElem?_append_left q] at h
   have:=(c i y h).mono (Nat.le_succ k)
   have e : tab (fs ++ [F]) i = tab fs i:=by
     unfold tab
     rw [List.getD_eq_getElem?_getD,List.getD_eq_getElem?_getD,List.getElem?_append_left (by omega)]
   rw [e]; exact this
 · rw [List.getElem?_append_right (by omega)] at h
   have e0 : i - Fs.length = 0:=by
     have:=(List.getElem?_eq_some_iff.mp h).1
     simp at this
     omega
   rw [e0] at h
   cases h
   have e : tab (fs ++ [F]) i = F:=by
     unfold tab
     rw [List.getD_eq_getElem?_getD,List.getElem?_append_right (by omega),show i - fs.length = 0 by omega]
     rfl
   rw [e]; exact n
theorem bq {P : Program} {w : World} {K : PySem.W.Frag} {mg : Str → Option Value} {base : Heap} {CX : CXT} {cl : Nat → Addr} {k : Nat} {x : Str} {f : Addr} {fd : FuncData} {ps : List Str} {F : List U → Sto → Rs U} (h : bW P w K mg base CX k f fd ps (spU ⟨K,cl⟩ F)) (hm : mg x = some (.ref f)) (hk : PySem.W.keepIn K (.ref f) = true) (hb : Binds K fd ps []) :
   Cal P w K mg base CX cl k x F
 := ⟨⟨f,fd,ps,F,h,hm,hk,fun _=>⟨[],[],[],hb,.nil,fun _ _=>.nil,fun ds st _=>by rw [List.append_nil]⟩⟩⟩
noncomputable def dfU (n : Nat) (i : Int) (F : List U → Sto → Rs U) : List U → Sto → Rs U:=fun ds st=>if ds.length = n then F (ds ++ [.int i]) st else F ds st
theorem IV {P : Program} {w : World} {K : PySem.W.Frag} {mg : Str → Option Value} {base : Heap} {CX : CXT} {cl : Nat → Addr} {k n : Nat} {x : Str} {f : Addr} {fd : FuncData} {ps : List Str} {i : Int} {t : Tok} {F : List U → Sto → Rs U} (h : bW P w K mg base CX k f fd ps (spU ⟨K,cl⟩ F)) (hm : mg x = some (.ref f)) (hk : PySem.W.keepIn K (.ref f) = true) (hb : Binds K fd ps []) (hb1 : Binds K fd ps [.int i t]) :
   Cal P w K mg base CX cl k x (dfU n i F):=⟨⟨f,fd,ps,F,h,hm,hk,fun j=>by
     by_cases e : j = n
     · subst e
       exact ⟨[.int i],[.int i t],[.int i],hb1,.cons ⟨t,rfl⟩ .nil,fun _ _=>.cons .int .nil,fun ds st hl=>if_pos hl⟩
     · exact ⟨[],[],[],hb,.nil,fun _ _=>.nil,fun ds st hl=>by rw [List.append_nil]; exact if_neg (by rw [hl]; exact e)⟩⟩⟩
end Sv
namespace Sv
open PySem PySem.Spec L2
open Ev (D aQ aU ai)
inductive T where
 | non | bl (b : Bool) | int (i : Int) | str (x : Str) | tup (xs : List T) | lst (xs : List T) | exo (c : Nat)
 deriving Inhabited
inductive Ou (α : Type) where
 | ok (a : α) | exc (c : Nat) | bad
noncomputable def Ou.bind {α β : Type} : Ou α → (α → Ou β) → Ou β
 | .ok a,f=>f a
 | .exc c,_=>.exc c
 | .bad,_=>.bad
noncomputable def Ou.noX {α : Type} : Ou α → Ou α
 | .exc _=>.bad
 | x=>x
theorem Ou.aa {α β : Type} (a : α) (f : α → Ou β) : (Ou.ok a).bind f = f a:=rfl
theorem Ou.fu {α : Type} (a : α) : (Ou.ok a).noX = .ok a:=rfl
theorem Ou.bA {α β : Type} {x : Ou α} {f : α → Ou β} {b : β} : x.bind f = .ok b ↔ ∃ a,x = .ok a ∧ f a = .ok b:=by
 cases x <;> simp [Ou.bind]
noncomputable abbrev aB:=List (Option T)
mutual
noncomputable def eqT : T → T → Bool
 | .non,.non=>true
 | .bl a,.bl b=>a == b
 | .bl a,.int j=>(if a then 1 else 0) == j
 | .int i,.bl b=>i == (if b then 1 else 0)
 | .int a,.int b=>a == b
 | .str a,.str b=>a == b
 | .tup xs,.tup ys=>qv xs ys
 | .lst xs,.lst ys=>qv xs ys
 | _,_=>false
noncomputable def qv : List T → List T → Bool
 | [],[]=>true
 | x :: xs,y :: ys=>eqT x y && qv xs ys
 | _,_=>false
end
mutual
noncomputable def clT : T → Bool
 | .str x=>Ev.cln (.str x)
 | .tup xs=>kW xs
 | .lst xs=>kW xs
 | .exo _=>false
 | .non | .bl _ | .int _=>true
noncomputable def kW : List T → Bool
 | []=>true
 | x :: xs=>clT x && kW xs
end
mutual
noncomputable def dpT : T → Nat
 | .tup xs=>pU xs + 1
 | .lst xs=>pU xs + 1
 | _=>0
noncomputable def pU : List T → Nat
 | []=>0
 | x :: xs=>max (dpT x) (pU xs)
end
noncomputable def eqK (x : T) : Prop:=clT x = true ∧ dpT x ≤ 64
noncomputable instance (x : T) : Decidable (eqK x):=inferInstanceAs (Decidable (_ ∧ _))
noncomputable def z2 : Op2 → T → T → Ou T
 | .add,.int i,.int j=>.ok (.int (i + j))
 | .add,.tup xs,.tup ys=>if xs ≠ [] ∧ xs.length + ys.length < ai then .ok (.tup (xs ++ ys)) else .bad
 | .add,.str x,.str y=>if x.length + y.length < ai then .ok (.str (x ++ y)) else .bad
 | .add,.lst xs,.lst ys=>if xs.length + ys.length < ai then .ok (.lst (xs ++ ys)) else .bad
 | .sub,.int i,.int j=>.ok (.int (i - j))
 | .mul,.int i,.int j=>if aQ i j then .ok (.int (i * j)) else .bad
 | .fdiv,.int i,.int j=>if aU j then .ok (.int (i.fdiv j)) else .bad
 | .mod,.int i,.int j=>if j ≠ 0 then .ok (.int (i.fmod j)) else .bad
 | .pow,.int i,.int j=>if 0 ≤ j ∧ j ≤ 1000000 ∧ i.natAbs < 2 ^ 64 then .ok (.int (i ^ j.toNat)) else .bad
 | .shr,.int i,.int j=>if 0 ≤ j then .ok (.int (i / 2 ^ j.toNat)) else .bad
 | .shl,.int i,.int j=>if 0 ≤ j ∧ j ≤ 1000000 ∧ i.natAbs < 2 ^ 64 then .ok (.int (i * 2 ^ j.toNat)) else .bad
 | .band,.int i,.int j=>.ok (.int (Builtin.bitAnd i j))
 | .bor,.int i,.int j=>.ok (.int (Builtin.bitOr i j))
 | _,_,_=>.bad
noncomputable def zf : List T → Option (List Str)
 | []=>some []
 | .str x :: r=>(zf r).map (x :: ·)
 | _=>none
noncomputable def zC : Cm → T → T → Option Bool
 | .eq,x,y=>if eqK x ∧ eqK y then some (eqT x y) else none
 | .ne,x,y=>if eqK x ∧ eqK y then some (!eqT x y) else none
 | .lt,.int i,.int j=>some (decide (i < j))
 | .le,.int i,.int j=>some (decide (i ≤ j))
 | .gt,.int i,.int j=>some (decide (j < i))
 | .ge,.int i,.int j=>some (decide (j ≤ i))
 | .isin,.str x,.tup ys=>(zf ys).map fun l=>l.any (· == x)
 | _,_,_=>none
noncomputable def ofB : Option Bool → Ou T
 | some b=>.ok (.bl b)
 | none=>.bad
noncomputable def iL : Ty → T → Bool
 | .int,.int _=>true
 | .int,.bl _=>true
 | .bool,.bl _=>true
 | .tuple,.tup _=>true
 | .list,.lst _=>true
 | .str,.str _=>true
 | _,_=>false
noncomputable def sE : List T → Option Bool
 | []=>some true
 | .bl b :: r=>(sE r).map (b && ·)
 | _=>none
noncomputable def EI (xs : List T) (lo hi : Option Int) : List T:=(xs.drop (HT.sIx xs.length 0 lo)).take (HT.sIx xs.length xs.length hi - HT.sIx xs.length 0 lo)
noncomputable def nO : E → T → Option (Option Int)
 | .cN,_=>some none
 | _,.int i=>some (some i)
 | _,_=>none
noncomputable def zSl : T → Option Int → Option Int → Ou T
 | .lst xs,lo,hi=>.ok (.lst (EI xs lo hi))
 | _,_,_=>.bad
noncomputable def Kg (b : Bool) : T → Bool
 | .bl c=>c == b
 | _=>false
noncomputable def KH : T → Bool
 | .non=>true
 | _=>false
noncomputable def jL : List T → Option (List Int)
 | []=>some []
 | .int i :: r=>(jL r).map (i :: ·)
 | _=>none
noncomputable def Ly : Option (List Int) → Ou T
 | some (a :: as)=>.ok (.int (tP a as))
 | _=>.bad
noncomputable def KL : Option (List Int) → Ou T
 | some ns=>.ok (.int ns.sum)
 | _=>.bad
noncomputable def zB : Bi → List T → Ou T
 | .len,[.lst xs]=>.ok (.int xs.length)
 | .len,[.tup xs]=>.ok (.int xs.length)
 | .abs,[.int i]=>.ok (.int (if i < 0 then -i else i))
 | .max,[.int i,.int j]=>.ok (.int (if j > i then j else i))
 | .max,[.lst xs]=>Ly (jL xs)
 | .min,[.int i,.int j]=>.ok (.int (if j < i then j else i))
 | .int,[.int i]=>.ok (.int i)
 | .int,[.bl b]=>.ok (.int (if b then 1 else 0))
 | .list,[.lst xs]=>.ok (.lst xs)
 | .list,[.tup xs]=>.ok (.lst xs)
 | .tuple,[.lst xs]=>.ok (.tup xs)
 | .tuple,[.tup xs]=>.ok (.tup xs)
 | .all,[.lst xs]=>ofB (sE xs)
 | .rev,[.lst xs]=>.ok (.lst xs.reverse)
 | .sum,[.lst xs]=>KL (jL xs)
 | _,_=>.bad
noncomputable def zI : T → T → Ou T
 | .lst xs,.int i=>match atI xs i with | some d=>.ok d | none=>.bad
 | .tup xs,.int i=>match atI xs i with | some d=>.ok d | none=>.bad
 | _,_=>.bad
noncomputable def aw (τ : aB) (i : Nat) : Ou T:=match τ[i]? with | some (some d)=>.ok d | _=>.bad
noncomputable def jy : List Nat → List T → aB → Option aB
 | [],[],ρ=>some ρ
 | i :: is,x :: xs,ρ=>jy is xs (ρ.set i (some x))
 | _,_,_=>none
noncomputable def aA : Tg → T → aB → Option aB
 | .nm i,d,ρ=>some (ρ.set i (some d))
 | .tp is,.tup xs,ρ=>jy is xs ρ
 | _,_,_=>none
noncomputable def rangeT (lo : Int) (n : Nat) : List T:=(List.range n).map fun k=>T.int (lo + (k : Nat))
noncomputable def lj (k : Nat) : List T → List T
 | []=>[]
 | x :: xs=>.tup [.int (k : Nat),x] :: lj (k + 1) xs
noncomputable def kU : List T → List T → List T
 | x :: xs,y :: ys=>.tup [x,y] :: kU xs ys
 | _,_=>[]
noncomputable def zpT : T → T → Ou (List T)
 | .lst xs,.lst ys=>.ok (kU xs ys)
 | _,_=>.bad
noncomputable def eT (τ : aB) (caps : List (Option Nat)) : aB:=caps.map fun o=>o.bind fun i=>(τ[i]?).join
noncomputable def ei (f : T → Ou (Option T)) : List T → Ou (List T)
 | []=>.ok []
 | x :: xs=>(f x).bind fun o=>(ei f xs).bind fun ys=>.ok (match o with | some y=>y :: ys | none=>ys)
noncomputable abbrev FnT:=Nat → List T → Ou T
mutual
noncomputable def yE (Ψ : FnT) : E → aB → Ou T
 | .var i,τ=>aw τ i
 | .cN,_=>.ok .non
 | .cB b,_=>.ok (.bl b)
 | .cI i,_=>.ok (.int i)
 | .cS x,_=>.ok (.str x)
 | .op o a b,τ=>(yE Ψ a τ).bind fun x=>(yE Ψ b τ).bind fun y=>z2 o x y
 | .neg a,τ=>(yE Ψ a τ).bind fun x=>match x with | .int i=>.ok (.int (-i)) | _=>.bad
 | .not a,τ=>(yE Ψ a τ).bind fun x=>match x with | .bl b=>.ok (.bl (!b)) | _=>.bad
 | .cmp o a b,τ=>(yE Ψ a τ).bind fun x=>(yE Ψ b τ).bind fun y=>ofB (zC o x y)
 | .chain o o' a b c,τ=>(yE Ψ a τ).bind fun x=>(yE Ψ b τ).bind fun y=>match zC o x y with
   | some true=>(yE Ψ c τ).bind fun u=>ofB (zC o' y u)
   | some false=>.ok (.bl false)
   | none=>.bad
 | .and a b,τ=>(yE Ψ a τ).bind fun x=>match x with | .bl true=>yE Ψ b τ | .bl false=>.ok (.bl false) | _=>.bad
 | .or a b,τ=>(yE Ψ a τ).bind fun x=>match x with | .bl true=>.ok (.bl true) | .bl false=>yE Ψ b τ | _=>.bad
 | .ite c a b,τ=>(yE Ψ c τ).bind fun x=>match x with | .bl true=>yE Ψ a τ | .bl false=>yE Ψ b τ | _=>.bad
 | .tup es,τ=>(yEs Ψ es τ).bind fun xs=>if xs.length < ai then .ok (.tup xs) else .bad
 | .lst es,τ=>(yEs Ψ es τ).bind fun xs=>if xs.length < ai then .ok (.lst xs) else .bad
 | .ix a i,τ=>(yE Ψ a τ).bind fun x=>(yE Ψ i τ).bind fun y=>zI x y
 | .sl a l h,τ=>(yE Ψ a τ).bind fun x=>(yE Ψ l τ).bind fun y=>match nO l y with
   | none=>.bad
   | some lo=>(yE Ψ h τ).bind fun z=>match nO h z with | none=>.bad | some hi=>zSl x lo hi
 | .call f es,τ=>(yEs Ψ es τ).bind fun xs=>Ψ f xs
 | .bi b es,τ=>(yEs Ψ es τ).bind fun xs=>zB b xs
 | .isi a t,τ=>(yE Ψ a τ).bind fun x=>match x with | .exo _=>.bad | x=>.ok (.bl (iL t x))
 | .isB n a b,τ=>(yE Ψ a τ).bind fun x=>.ok (.bl (n ^^ Kg b x))
 | .isN n a,τ=>(yE Ψ a τ).bind fun x=>.ok (.bl (n ^^ KH x))
 | .comp caps t it ifs elt,τ=>(yIt Ψ it τ).bind fun xs=>if xs.length < ai then
     ((ei (fun x=>match aA t x (eT τ caps ++ [none]) with
         | none=>.bad
         | some τ1=>(yIf Ψ ifs τ1).bind fun b=>if b then (yE Ψ elt τ1).bind fun y=>.ok (some y) else .ok none) xs).bind fun ys=>.ok (.lst ys)).noX
   else .bad
noncomputable def yEs (Ψ : FnT) : List E → aB → Ou (List T)
 | [],_=>.ok []
 | e :: es,τ=>(yE Ψ e τ).bind fun x=>(yEs Ψ es τ).bind fun xs=>.ok (x :: xs)
noncomputable def yIf (Ψ : FnT) : List E → aB → Ou Bool
 | [],_=>.ok true
 | c :: cs,τ=>(yE Ψ c τ).bind fun x=>match x with | .bl true=>yIf Ψ cs τ | .bl false=>.ok false | _=>.bad
noncomputable def yIt (Ψ : FnT) : It → aB → Ou (List T)
 | .seq e,τ=>(yE Ψ e τ).bind fun x=>match x with | .lst xs=>.ok xs | .tup xs=>.ok xs | _=>.bad
 | .rng e,τ=>(yE Ψ e τ).bind fun x=>match x with | .int j=>if -(2 ^ 62) ≤ j ∧ j < 2 ^ 62 then .ok (rangeT 0 j.toNat) else .bad | _=>.bad
 | .rng2 a b,τ=>(yE Ψ a τ).bind fun x=>(yE Ψ b τ).bind fun y=>match x,y with
   | .int i,.int j=>if (-(2 ^ 62) ≤ i ∧ i < 2 ^ 62) ∧ -(2 ^ 62) ≤ j ∧ j < 2 ^ 62 then .ok (rangeT i (j - i).toNat) else .bad
   | _,_=>.bad
 | .enu e,τ=>(yE Ψ e τ).bind fun x=>match x with | .lst xs=>.ok (lj 0 xs) | _=>.bad
 | .zip a b,τ=>(yE Ψ a τ).bind fun x=>(yE Ψ b τ).bind fun y=>zpT x y
end
end Sv
namespace Sv
open PySem PySem.Spec L2
open Ev (D aQ aU ai)
mutual
inductive Rep (st : Sto) : U → T → Prop where
 | non : Rep st .non .non
 | bl {b : Bool} : Rep st (.bl b) (.bl b)
 | int {i : Int} : Rep st (.int i) (.int i)
 | str {x : Str} : Rep st (.str x) (.str x)
 | tup {us : List U} {ds : List T} (r : aK st us ds) : Rep st (.tup us) (.tup ds)
 | loc {l : Nat} {fz : Bool} {us : List U} {ds : List T} (e : st[l]? = some (fz,us)) (r : aK st us ds) : Rep st (.loc l) (.lst ds)
 | exo {c : Nat} : Rep st (.exo c) (.exo c)
 | kl {us : List U} {ds : List T} (r : aK st us ds) : Rep st (.kl us) (.lst ds)
inductive aK (st : Sto) : List U → List T → Prop where
 | nil : aK st [] []
 | cons {u : U} {d : T} {us : List U} {ds : List T} (h : Rep st u d) (r : aK st us ds) : aK st (u :: us) (d :: ds)
end
mutual
noncomputable def locs : U → List Nat
 | .loc l=>[l]
 | .tup us=>jW us
 | .kl us=>jW us
 | _=>[]
noncomputable def jW : List U → List Nat
 | []=>[]
 | u :: us=>locs u ++ jW us
end
structure Hd where
 h : Nat → Prop
 g : Nat → Prop
 sub : ∀ l,g l → h l
noncomputable def Av (h : Hd) (n : Nat) (u : U) : Prop:=∀ l ∈ locs u,l < n ∧ ¬ h.h l
structure Wf (h : Hd) (st : Sto) : Prop where
 av : ∀ (k : Nat) fz us,¬ h.g k → st[k]? = some (fz,us) → ∀ u ∈ us,Av h st.length u
 lt : ∀ l,h.h l → l < st.length
theorem Av.mono {h : Hd} {n n' : Nat} {u : U} (a : Av h n u) (e : n ≤ n') : Av h n' u:=fun l hl=>⟨Nat.lt_of_lt_of_le (a l hl).1 e,(a l hl).2⟩
theorem Av.imp {h h' : Hd} {n : Nat} {u : U} (a : Av h n u) (e : ∀ l,l < n → h'.h l → h.h l) : Av h' n u:=fun l hl=>⟨(a l hl).1,fun z=>(a l hl).2 (e l (a l hl).1 z)⟩
theorem Av.int {h : Hd} {n : Nat} {i : Int} : Av h n (.int i):=fun l hl=>by simp [locs] at hl
theorem Av.bl {h : Hd} {n : Nat} {b : Bool} : Av h n (.bl b):=fun l hl=>by simp [locs] at hl
theorem Av.non {h : Hd} {n : Nat} : Av h n .non:=fun l hl=>by simp [locs] at hl
theorem Av.str {h : Hd} {n : Nat} {x : Str} : Av h n (.str x):=fun l hl=>by simp [locs] at hl
theorem Av.exo {h : Hd} {n : Nat} {c : Nat} : Av h n (.exo c):=fun l hl=>by simp [locs] at hl
theorem Av.loc {h : Hd} {n l : Nat} (h1 : l < n) (h2 : ¬ h.h l) : Av h n (.loc l):=fun k hk=>by simp [locs] at hk; subst hk; exact ⟨h1,h2⟩
theorem fy {us : List U} {l : Nat} : l ∈ jW us ↔ ∃ u ∈ us,l ∈ locs u:=by
 induction us with
 | nil=>simp [jW]
 | cons u us ih=>simp [jW,ih]
theorem Av.kl {h : Hd} {n : Nat} {us : List U} : Av h n (.kl us) ↔ ∀ u ∈ us,Av h n u:=by
 constructor
 · intro a u hu l hl
   exact a l (by simp only [locs]; exact fy.mpr ⟨u,hu,hl⟩)
 · intro a l hl
   simp only [locs] at hl
   obtain ⟨u,hu,hl⟩:=fy.mp hl
   exact a u hu l hl
theorem Av.tup {h : Hd} {n : Nat} {us : List U} : Av h n (.tup us) ↔ ∀ u ∈ us,Av h n u:=by
 constructor
 · intro a u hu l hl
   exact a l (by simp only [locs]; exact fy.mpr ⟨u,hu,hl⟩)
 · intro a l hl
   simp only [locs] at hl
   obtain ⟨u,hu,hl⟩:=fy.mp hl
   exact a u hu l hl
section
variable {st st' : Sto}
mutual
theorem Rep.pre (e : ∀ (k : Nat) c,st[k]? = some c → st'[k]? = some c) : ∀ {u : U} {d : T},Rep st u d → Rep st' u d
 | _,_,.non=>.non
 | _,_,.bl=>.bl
 | _,_,.int=>.int
 | _,_,.str=>.str
 | _,_,.exo=>.exo
 | _,_,.tup r=>.tup (aK.pre e r)
 | _,_,.loc h r=>.loc (e _ _ h) (aK.pre e r)
 | _,_,.kl r=>.kl (aK.pre e r)
theorem aK.pre (e : ∀ (k : Nat) c,st[k]? = some c → st'[k]? = some c) : ∀ {us : List U} {ds : List T},aK st us ds → aK st' us ds
 | _,_,.nil=>.nil
 | _,_,.cons h r=>.cons (Rep.pre e h) (aK.pre e r)
end
mutual
theorem Rep.keep {h : Hd} (w : Wf h st) (e : ∀ (k : Nat) c,¬ h.h k → st[k]? = some c → st'[k]? = some c) : ∀ {u : U} {d : T},Rep st u d → (∀ l ∈ locs u,¬ h.h l) → Rep st' u d
 | _,_,.non,_=>.non
 | _,_,.bl,_=>.bl
 | _,_,.int,_=>.int
 | _,_,.str,_=>.str
 | _,_,.exo,_=>.exo
 | _,_,.tup r,a=>.tup (aK.keep w e r fun u hu l hl=>a l (by simp only [locs]; exact fy.mpr ⟨u,hu,hl⟩))
 | _,_,.kl r,a=>.kl (aK.keep w e r fun u hu l hl=>a l (by simp only [locs]; exact fy.mpr ⟨u,hu,hl⟩))
 | _,_,.loc (l:=l) q r,a=>.loc (e _ _ (a l (by simp [locs])) q) (aK.keep w e r fun u hu k hk=>(w.av _ _ _ (fun z=>a l (by simp [locs]) (h.sub l z)) q u hu k hk).2)
theorem aK.keep {h : Hd} (w : Wf h st) (e : ∀ (k : Nat) c,¬ h.h k → st[k]? = some c → st'[k]? = some c) : ∀ {us : List U} {ds : List T},aK st us ds → (∀ u ∈ us,∀ l ∈ locs u,¬ h.h l) → aK st' us ds
 | _,_,.nil,_=>.nil
 | _,_,.cons h r,a=>.cons (Rep.keep w e h (a _ (List.mem_cons_self ..))) (aK.keep w e r fun u hu=>a u (List.mem_cons_of_mem _ hu))
end
end
theorem gg {st st' : Sto} (e : st <+: st') : ∀ (k : Nat) c,st[k]? = some c → st'[k]? = some c:=fun k c h=>by
 obtain ⟨r,rfl⟩:=e
 rw [List.getElem?_append_left (List.getElem?_eq_some_iff.mp h).1]; exact h
theorem Rep.ext {st st' : Sto} {u : U} {d : T} (r : Rep st u d) (e : st <+: st') : Rep st' u d:=r.pre (gg e)
theorem aK.ext {st st' : Sto} {u : List U} {d : List T} (r : aK st u d) (e : st <+: st') : aK st' u d:=r.pre (gg e)
theorem aK.length {st : Sto} : ∀ {us : List U} {ds : List T},aK st us ds → us.length = ds.length
 | _,_,.nil=>rfl
 | _,_,.cons _ r=>congrArg (· + 1) r.length
theorem aK.get {st : Sto} : ∀ {us : List U} {ds : List T} {i : Nat} {d : T},aK st us ds → ds[i]? = some d → ∃ u,us[i]? = some u ∧ Rep st u d
 | _,_,_,_,.nil,e=>by simp at e
 | _,_,0,_,.cons h _,e=>by simp at e; subst e; exact ⟨_,rfl,h⟩
 | _,_,i + 1,d,.cons _ r,e=>by
   obtain ⟨v,h1,h2⟩:=aK.get (i:=i) (d:=d) r (by simpa using e)
   exact ⟨v,by simpa using h1,h2⟩
theorem aK.append {st : Sto} : ∀ {xs ys : List U} {ds es : List T},aK st xs ds → aK st ys es → aK st (xs ++ ys) (ds ++ es)
 | _,_,_,_,.nil,s=>s
 | _,_,_,_,.cons h r,s=>.cons h (aK.append r s)
theorem aK.take {st : Sto} : ∀ {xs : List U} {ds : List T} (n : Nat),aK st xs ds → aK st (xs.take n) (ds.take n)
 | _,_,0,_=>.nil
 | _,_,_ + 1,.nil=>.nil
 | _,_,n + 1,.cons h r=>.cons h (aK.take n r)
theorem aK.drop {st : Sto} : ∀ {xs : List U} {ds : List T} (n : Nat),aK st xs ds → aK st (xs.drop n) (ds.drop n)
 | _,_,0,r=>r
 | _,_,_ + 1,.nil=>.nil
 | _,_,n + 1,.cons _ r=>aK.drop n r
theorem aK.set {st : Sto} : ∀ {xs : List U} {ds : List T} (n : Nat) {v : U} {d : T},aK st xs ds → Rep st v d → aK st (xs.set n v) (ds.set n d)
 | _,_,_,_,_,.nil,_=>.nil
 | _,_,0,_,_,.cons _ r,h=>.cons h r
 | _,_,n + 1,_,_,.cons h r,h'=>.cons h (aK.set n r h')
theorem aK.erase {st : Sto} : ∀ {xs : List U} {ds : List T} (n : Nat),aK st xs ds → aK st (xs.eraseIdx n) (ds.eraseIdx n)
 | _,_,_,.nil=>.nil
 | _,_,0,.cons _ r=>r
 | _,_,n + 1,.cons h r=>.cons h (aK.erase n r)
theorem aK.dropLast {st : Sto} : ∀ {xs : List U} {ds : List T},aK st xs ds → aK st xs.dropLast ds.dropLast
 | _,_,.nil=>.nil
 | _,_,.cons _ .nil=>.nil
 | _,_,.cons h (.cons h' r)=>.cons h (aK.dropLast (.cons h' r))
theorem aK.insert {st : Sto} : ∀ {xs : List U} {ds : List T} (n : Nat) {v : U} {d : T},aK st xs ds → Rep st v d → aK st (xs.insertIdx n v) (ds.insertIdx n d)
 | _,_,0,_,_,r,h=>.cons h r
 | _,_,_ + 1,_,_,.nil,_=>.nil
 | _,_,n + 1,_,_,.cons h r,h'=>.cons h (aK.insert n r h')
theorem Rep.int_inv {st : Sto} {u : U} {i : Int} (r : Rep st u (.int i)) : u = .int i:=by cases r; rfl
theorem Rep.iV {st : Sto} {u : U} {b : Bool} (r : Rep st u (.bl b)) : u = .bl b:=by cases r; rfl
theorem Rep.DU {st : Sto} {u : U} {ds : List T} (r : Rep st u (.tup ds)) : ∃ us,u = .tup us ∧ aK st us ds:=by cases r; exact ⟨_,rfl,by assumption⟩
theorem Rep.lst_inv {st : Sto} {u : U} {ds : List T} (r : Rep st u (.lst ds)) : (∃ l fz us,u = .loc l ∧ st[l]? = some (fz,us) ∧ aK st us ds) ∨ ∃ us,u = .kl us ∧ aK st us ds:=by
 cases r with
 | loc e r=>exact .inl ⟨_,_,_,rfl,e,r⟩
 | kl r=>exact .inr ⟨_,rfl,r⟩
mutual
noncomputable def toD : T → D
 | .non=>.non
 | .bl b=>.bl b
 | .int i=>.int i
 | .str x=>.str x
 | .tup xs=>.tup (mD xs)
 | .lst xs=>.lst (mD xs)
 | .exo _=>.non
noncomputable def mD : List T → List D
 | []=>[]
 | x :: xs=>toD x :: mD xs
end
mutual
theorem mh {st : Sto} : ∀ {u : U} {d : T} (n : Nat),Rep st u d → clT d = true → dpT d ≤ n → rsv st n u = some (toD d)
 | _,_,n,.non,_,_=>by cases n <;> rfl
 | _,_,n,.bl,_,_=>by cases n <;> rfl
 | _,_,n,.int,_,_=>by cases n <;> rfl
 | _,_,n,.str,_,_=>by cases n <;> rfl
 | _,_,n,.exo,h,_=>by simp [clT] at h
 | _,_,0,.tup _,_,h=>by simp [dpT] at h
 | _,_,n + 1,.tup r,h1,h2=>by
   rw [rsv,lJ n r (by simpa [clT] using h1) (by simpa [dpT] using h2)]; rfl
 | _,_,0,.kl _,_,h=>by simp [dpT] at h
 | _,_,n + 1,.kl r,h1,h2=>by
   rw [rsv,lJ n r (by simpa [clT] using h1) (by simpa [dpT] using h2)]; rfl
 | _,_,0,.loc _ _,_,h=>by simp [dpT] at h
 | _,_,n + 1,.loc e r,h1,h2=>by
   rw [rsv,e]
   dsimp only
   rw [lJ n r (by simpa [clT] using h1) (by simpa [dpT] using h2)]; rfl
theorem lJ {st : Sto} : ∀ {us : List U} {ds : List T} (n : Nat),aK st us ds → kW ds = true → pU ds ≤ n → uC (rsv st n) us = some (mD ds)
 | _,_,_,.nil,_,_=>rfl
 | _,_,n,.cons h r,h1,h2=>by
   rw [kW,Bool.and_eq_true] at h1
   rw [pU] at h2
   rw [uC,mh n h h1.1 (by omega),lJ n r h1.2 (by omega)]; rfl
end
mutual
theorem zl : ∀ d : T,clT d = true → Ev.cln (toD d) = true
 | .non,_=>rfl
 | .bl _,_=>rfl
 | .int _,_=>rfl
 | .str x,h=>by simpa [clT,toD] using h
 | .tup xs,h=>by simp only [toD,Ev.cln]; exact pT xs (by simpa [clT] using h)
 | .lst xs,h=>by simp only [toD,Ev.cln]; exact pT xs (by simpa [clT] using h)
 | .exo _,h=>by simp [clT] at h
theorem pT : ∀ d : List T,kW d = true → Ev.vY (mD d) = true
 | [],_=>rfl
 | x :: xs,h=>by
   rw [kW,Bool.and_eq_true] at h
   simp only [mD,Ev.vY,zl x h.1,pT xs h.2,Bool.and_self]
end
mutual
theorem yT : ∀ d : T,Ev.dep (toD d) = dpT d
 | .non=>rfl
 | .bl _=>rfl
 | .int _=>rfl
 | .str x=>rfl
 | .tup xs=>by simp only [toD,Ev.dep,dpT,qf xs]
 | .lst xs=>by simp only [toD,Ev.dep,dpT,qf xs]
 | .exo _=>rfl
theorem qf : ∀ d : List T,Ev.vf (mD d) = pU d
 | []=>rfl
 | x :: xs=>by simp only [mD,Ev.vf,pU,yT x,qf xs]
end
mutual
theorem tu : ∀ a b : T,clT a = true → clT b = true → Ev.eqD (toD a) (toD b) = eqT a b
 | .tup xs,b,h1,h2=>by
   cases b with
   | tup ys=>simp only [toD,Ev.eqD,eqT]; exact pA xs ys (by simpa [clT] using h1) (by simpa [clT] using h2)
   | exo c=>simp [clT] at h2
   | _=>simp [toD,Ev.eqD,eqT]
 | .lst xs,b,h1,h2=>by
   cases b with
   | lst ys=>simp only [toD,Ev.eqD,eqT]; exact pA xs ys (by simpa [clT] using h1) (by simpa [clT] using h2)
   | exo c=>simp [clT] at h2
   | _=>simp [toD,Ev.eqD,eqT]
 | .exo _,b,h1,_=>by simp [clT] at h1
 | .non,b,_,h2=>by cases b <;> first | (simp [clT] at h2; done) | simp [toD,Ev.eqD,eqT]
 | .bl _,b,_,h2=>by cases b <;> first | (simp [clT] at h2; done) | simp [toD,Ev.eqD,eqT]
 | .int _,b,_,h2=>by cases b <;> first | (simp [clT] at h2; done) | simp [toD,Ev.eqD,eqT]
 | .str _,b,_,h2=>by cases b <;> first | (simp [clT] at h2; done) | simp [toD,Ev.eqD,eqT]
theorem pA : ∀ a b : List T,kW a = true → kW b = true → Ev.nB (mD a) (mD b) = qv a b
 | [],[],_,_=>by simp [mD,Ev.nB,qv]
 | [],_ :: _,_,_=>by simp [mD,Ev.nB,qv]
 | _ :: _,[],_,_=>by simp [mD,Ev.nB,qv]
 | x :: xs,y :: ys,h1,h2=>by
   rw [kW,Bool.and_eq_true] at h1 h2
   simp only [mD,Ev.nB,qv,tu x y h1.1 h2.1,pA xs ys h1.2 h2.2]
end
theorem oT {d : T} (h : eqK d) : Ev.xo (toD d):=⟨zl d h.1,by rw [yT]; exact h.2⟩
theorem v8 {st : Sto} : ∀ {us : List U} {ds : List T},aK st us ds → n9 us = zf ds
 | _,_,.nil=>rfl
 | _,_,.cons h r=>by
   have ih:=v8 r
   cases h <;> first | rfl | (simp only [n9,zf,ih])
theorem uu {st : Sto} {x y : U} {a b : T} (h1 : Rep st x a) (h2 : Rep st y b) {o : Cm} {r : Bool} (e : zC o a b = some r) : evC o x y st = some r:=by
 cases o
 case eq=>
   simp only [zC.eq_def] at e
   split at e
   · rename_i c
     cases e
     simp only [evC.eq_def,mh 64 h1 c.1.1 c.1.2,mh 64 h2 c.2.1 c.2.2]
     rw [if_pos ⟨oT c.1,oT c.2⟩,tu a b c.1.1 c.2.1]
   · cases e
 case ne=>
   simp only [zC.eq_def] at e
   split at e
   · rename_i c
     cases e
     simp only [evC.eq_def,mh 64 h1 c.1.1 c.1.2,mh 64 h2 c.2.1 c.2.2]
     rw [if_pos ⟨oT c.1,oT c.2⟩,tu a b c.1.1 c.2.1]
   · cases e
 case isin=>
   cases h1 with
   | str=>
     cases h2 with
     | tup r2=>
       simp only [zC] at e
       simp only [evC,v8 r2]
       exact e
     | _=>simp [zC] at e
   | _=>simp [zC] at e
 all_goals
   cases a with
   | int i=>
     cases b with
     | int j=>
       have:=h1.int_inv; subst this
       have:=h2.int_inv; subst this
       exact e
     | _=>cases e
   | _=>cases e
end Sv
namespace Sv
open PySem PySem.Spec L2
open Ev (D aQ aU ai)
structure Md where
 sc : Bool:=false
 lv : Nat:=0
 mv : Nat:=0
mutual
noncomputable def flat : T → Bool
 | .lst _=>false
 | .tup xs=>ox xs
 | _=>true
noncomputable def ox : List T → Bool
 | []=>true
 | x :: xs=>flat x && ox xs
end
noncomputable def B4 : T → Bool
 | .lst ys=>ox ys
 | d=>flat d
noncomputable def pG (lv : Nat) : T → Bool
 | .lst xs=>if lv = 1 then ox xs else if lv = 2 then xs.all B4 else false
 | d=>flat d
mutual
noncomputable def gts (μ : Nat → Md) (i lv : Nat) : Nat → E → Bool
 | k,.var j=>decide (k < lv) && i == j
 | _,.cN | _,.cB _ | _,.cI _ | _,.cS _=>false
 | _,.op _ a b=>gts μ i lv 1 a || gts μ i lv 1 b
 | _,.neg a=>gts μ i lv 2 a
 | _,.not a=>gts μ i lv 2 a
 | _,.cmp _ a b=>gts μ i lv 2 a || gts μ i lv 2 b
 | _,.chain _ _ a b c=>gts μ i lv 2 a || gts μ i lv 2 b || gts μ i lv 2 c
 | k,.and a b=>gts μ i lv 2 a || gts μ i lv k b
 | k,.or a b=>gts μ i lv 2 a || gts μ i lv k b
 | k,.ite c a b=>gts μ i lv 2 c || gts μ i lv k a || gts μ i lv k b
 | _,.tup es=>aY μ i lv 0 es
 | _,.lst es=>aY μ i lv 0 es
 | k,.ix a b=>gts μ i lv (k + 1) a || gts μ i lv 2 b
 | _,.sl a b c=>gts μ i lv 1 a || gts μ i lv 2 b || gts μ i lv 2 c
 | _,.call f es=>aY μ i lv (if (μ f).sc then 2 else 0) es
 | _,.bi o es=>aY μ i lv (match o with | .len=>2 | _=>1) es
 | _,.isi a _=>gts μ i lv 2 a
 | _,.isB _ a _=>gts μ i lv 2 a
 | _,.isN _ a=>gts μ i lv 2 a
 | _,.comp caps _ it _ _=>caps.contains (some i) || dY μ i lv 1 it
noncomputable def aY (μ : Nat → Md) (i lv : Nat) : Nat → List E → Bool
 | _,[]=>false
 | k,e :: es=>gts μ i lv k e || aY μ i lv k es
noncomputable def dY (μ : Nat → Md) (i lv : Nat) : Nat → It → Bool
 | k,.seq e=>gts μ i lv k e
 | _,.rng e=>gts μ i lv 2 e
 | _,.rng2 a b=>gts μ i lv 2 a || gts μ i lv 2 b
 | k,.enu e=>gts μ i lv k e
 | k,.zip a b=>gts μ i lv k a || gts μ i lv k b
end
noncomputable abbrev Own:=List (Nat × Nat)
noncomputable def dn (g : Nat → Nat → Bool) : Own → Own
 | []=>[]
 | (i,lv) :: r=>if g i lv then (if lv = 2 ∧ g i 1 = false then (i,1) :: dn g r else dn g r) else (i,lv) :: dn g r
noncomputable def bY (own : Own) (i : Nat) : Nat:=(own.lookup i).getD 0
noncomputable def cm (μ : Nat → Md) : E → Nat
 | .lst _=>1
 | .comp _ _ _ _ e=>if cm μ e = 0 then 1 else 2
 | .sl _ _ _=>1
 | .op .add _ _=>1
 | .bi .list _=>1
 | .call f _=>(μ f).lv
 | _=>0
noncomputable def isL : T → Bool
 | .lst _=>true
 | _=>false
noncomputable def lvT : T → Nat
 | .lst xs=>if xs.all isL then 2 else 1
 | _=>0
noncomputable def tgN : Tg → List Nat
 | .nm i=>[i]
 | .tp is=>is
noncomputable def frg (t : Tg) : Nat → Nat → Bool:=fun k _=>(tgN t).contains k
inductive FlT where
 | nx (τ : aB) (own : Own) | rt (d : T) | bk (τ : aB) (own : Own) | ct (τ : aB) (own : Own)
noncomputable def zM : Lm → List T → List T → Option (List T)
 | .append,xs,[x]=>if xs.length < ai then some (xs ++ [x]) else none
 | .insert,xs,[.int i,x]=>if xs.length < ai ∧ 0 ≤ i ∧ i.toNat ≤ xs.length then some (xs.insertIdx i.toNat x) else none
 | .pop,xs,[]=>if xs.length = 0 then none else some xs.dropLast
 | .popAt,xs,[.int i]=>if xs.length < ai then (L2.ixN xs.length i).map fun j=>xs.eraseIdx j else none
 | .clear,_,[]=>some []
 | _,_,_=>none
noncomputable def dz (f : T → aB → Own → Ou FlT) : List T → aB → Own → Ou FlT
 | [],τ,own=>.ok (.nx τ own)
 | x :: xs,τ,own=>(f x τ own).bind fun r=>match r with
   | .nx τ' own'=>dz f xs τ' own'
   | .ct τ' own'=>dz f xs τ' own'
   | .bk τ' own'=>.ok (.nx τ' own')
   | .rt d=>.ok (.rt d)
noncomputable def gJ (c : aB → Ou T) (g : Nat → Nat → Bool) (f : aB → Own → Ou FlT) : Nat → aB → Own → Ou FlT
 | 0,_,_=>.bad
 | n + 1,τ,own=>(c τ).bind fun x=>match x with
   | .bl true=>(f τ (dn g own)).bind fun r=>match r with
     | .nx τ' own'=>gJ c g f n τ' own'
     | .ct τ' own'=>gJ c g f n τ' own'
     | .bk τ' own'=>.ok (.nx τ' own')
     | .rt d=>.ok (.rt d)
   | .bl false=>.ok (.nx τ (dn g own))
   | _=>.bad
noncomputable def bE {α β : Type} : Option α → (α → Ou β) → Ou β
 | some a,f=>f a
 | none,_=>.bad
noncomputable def jx : Ou T → Option (List T)
 | .ok (.lst xs)=>some xs
 | _=>none
noncomputable def kR : T → Option (List T)
 | .lst xs=>some xs
 | _=>none
noncomputable def intOf : T → Option Int
 | .int i=>some i
 | _=>none
noncomputable def pw (o : Option aB) (own : Own) : Ou FlT:=match o with
 | some τ'=>.ok (.nx τ' own)
 | none=>.bad
structure Fx where
 μ : Nat → Md
 need : List Nat
 lv : Nat
noncomputable def cJ (X : Fx) (own : Own) (t : Tg) (e : E) (x : T) (τ : aB) : Own:=match t with
 | .nm i=>if X.need.contains i && (τ[i]?).isSome then (if min (cm X.μ e) (lvT x) = 0 then dn (frg t) own else (i,min (cm X.μ e) (lvT x)) :: dn (frg t) own) else dn (frg t) own
 | .tp _=>dn (frg t) own
noncomputable def HG (τ : aB) (own : Own) (v : Nat) (xs : List T) (y z : T) : Ou FlT:=bE (intOf y) fun k=>bE (L2.ixN xs.length k) fun j=>
 if 0 < bY own v then .ok (.nx (τ.set v (some (.lst (xs.set j z)))) (dn (fun i lv=>i == v && lv == 2) own)) else .bad
noncomputable def Cn (τ : aB) (own : Own) (v : Nat) (xs ys : List T) (q : Nat) (y z : T) : Ou FlT:=bE (intOf y) fun k=>bE (L2.ixN ys.length k) fun j=>.ok (.nx (τ.set v (some (.lst (xs.set q (.lst (ys.set j z)))))) own)
noncomputable def sA (m : Lm) (τ : aB) (own : Own) (v : Nat) (xs ds : List T) : Ou FlT:=bE (zM m xs ds) fun ys=>.ok (.nx (τ.set v (some (.lst ys))) (dn (fun i lv=>i == v && lv == 2) own))
noncomputable def v5 (m : Lm) (τ : aB) (own : Own) (v : Nat) (xs ys ds : List T) (q : Nat) : Ou FlT:=bE (zM m ys ds) fun zs=>.ok (.nx (τ.set v (some (.lst (xs.set q (.lst zs))))) own)
mutual
noncomputable def yS (Ψ ΨM : FnT) (X : Fx) (n : Nat) : S → aB → Own → Ou FlT
 | .set t e,τ,own=>match e with
   | .call f (.var v :: es)=>if 0 < (X.μ f).mv then
       (if (X.μ f).mv ≤ bY (dn (fun i lv=>aY X.μ i lv 0 es) own) v then
         (aw τ v).bind fun x=>(yEs Ψ es τ).bind fun xs=>(ΨM f (x :: xs)).bind fun d=>pw (aA t d (τ.set v none)) (cJ X (dn (fun i _=>i == v) (dn (fun i lv=>aY X.μ i lv 0 es) own)) t (.call f (.var v :: es)) d (τ.set v none))
       else .bad)
     else (yE Ψ (.call f (.var v :: es)) τ).bind fun x=>pw (aA t x τ) (cJ X (dn (fun i lv=>gts X.μ i lv 0 (.call f (.var v :: es))) own) t (.call f (.var v :: es)) x τ)
   | e=>(yE Ψ e τ).bind fun x=>pw (aA t x τ) (cJ X (dn (fun i lv=>gts X.μ i lv 0 e) own) t e x τ)
 | .put (.var v) i e,τ,own=>(yE Ψ e τ).bind fun z=>bE (jx (aw τ v)) fun xs=>(yE Ψ i τ).bind fun y=>HG τ (dn (fun k lv=>gts X.μ k lv 0 e || gts X.μ k lv 2 i) own) v xs y z
 | .put (.ix (.var v) a) i e,τ,own=>if bY (dn (fun k lv=>gts X.μ k lv 0 e || gts X.μ k lv 2 a || gts X.μ k lv 2 i) own) v = 2 then
     (yE Ψ e τ).bind fun z=>bE (jx (aw τ v)) fun xs=>(yE Ψ a τ).bind fun p=>bE (intOf p) fun p=>bE (L2.ixN xs.length p) fun q=>bE (xs[q]?.bind kR) fun ys=>(yE Ψ i τ).bind fun y=>
       Cn τ (dn (fun k lv=>gts X.μ k lv 0 e || gts X.μ k lv 2 a || gts X.μ k lv 2 i) own) v xs ys q y z
   else .bad
 | .put _ _ _,_,_=>.bad
 | .mth m (.var v) es,τ,own=>bE (jx (aw τ v)) fun xs=>if 0 < bY (dn (fun k lv=>aY X.μ k lv 0 es) own) v then (yEs Ψ es τ).bind fun ds=>sA m τ (dn (fun k lv=>aY X.μ k lv 0 es) own) v xs ds else .bad
 | .mth m (.ix (.var v) a) es,τ,own=>bE (jx (aw τ v)) fun xs=>if bY (dn (fun k lv=>gts X.μ k lv 2 a || aY X.μ k lv 0 es) own) v = 2 then
     (yE Ψ a τ).bind fun p=>bE (intOf p) fun p=>bE (L2.ixN xs.length p) fun q=>bE (xs[q]?.bind kR) fun ys=>(yEs Ψ es τ).bind fun ds=>v5 m τ (dn (fun k lv=>gts X.μ k lv 2 a || aY X.μ k lv 0 es) own) v xs ys ds q
   else .bad
 | .mth _ _ _,_,_=>.bad
 | .ret e,τ,own=>(yE Ψ e τ).bind fun x=>if X.lv = 0 ∨ isL x = false then .ok (.rt x) else match e with
   | .var i=>if X.lv ≤ bY own i then .ok (.rt x) else .bad
   | e=>if X.lv ≤ min (cm X.μ e) (lvT x) then .ok (.rt x) else .bad
 | .retN,_,_=>.ok (.rt .non)
 | .ite c a b,τ,own=>(yE Ψ c τ).bind fun x=>match x with
   | .bl true=>ySs Ψ ΨM X n a τ (dn (fun k lv=>gts X.μ k lv 2 c) own)
   | .bl false=>ySs Ψ ΨM X n b τ (dn (fun k lv=>gts X.μ k lv 2 c) own)
   | _=>.bad
 | .for t it body,τ,own=>((yIt Ψ it τ).bind fun xs=>dz (fun x τ' own'=>match aA t x τ' with
     | some τ2=>ySs Ψ ΨM X n body τ2 (dn (frg t) own')
     | none=>.bad) xs τ (dn (fun k lv=>dY X.μ k lv 0 it) own)).noX
 | .while c body,τ,own=>(gJ (fun τ'=>yE Ψ c τ') (fun k lv=>gts X.μ k lv 2 c) (fun τ' own'=>ySs Ψ ΨM X n body τ' own') n τ own).noX
 | .expr e,τ,own=>match e with
   | .call f (.var v :: es)=>if 0 < (X.μ f).mv then
       (if (X.μ f).mv ≤ bY (dn (fun i lv=>aY X.μ i lv 0 es) own) v then
         (aw τ v).bind fun x=>(yEs Ψ es τ).bind fun xs=>(ΨM f (x :: xs)).bind fun _=>.ok (.nx (τ.set v none) (dn (fun i _=>i == v) (dn (fun i lv=>aY X.μ i lv 0 es) own)))
       else .bad)
     else (yE Ψ (.call f (.var v :: es)) τ).bind fun _=>.ok (.nx τ (dn (fun i lv=>gts X.μ i lv 0 (.call f (.var v :: es))) own))
   | e=>(yE Ψ e τ).bind fun _=>.ok (.nx τ (dn (fun k lv=>gts X.μ k lv 0 e) own))
 | .raise c,_,_=>.exc c
 | .brk,τ,own=>.ok (.bk τ own)
 | .cont,τ,own=>.ok (.ct τ own)
 | .pas,τ,own=>.ok (.nx τ own)
 | .nev,_,_=>.bad
noncomputable def ySs (Ψ ΨM : FnT) (X : Fx) (n : Nat) : List S → aB → Own → Ou FlT
 | [],τ,own=>.ok (.nx τ own)
 | s :: ss,τ,own=>(yS Ψ ΨM X n s τ own).bind fun r=>match r with
   | .nx τ' own'=>ySs Ψ ΨM X n ss τ' own'
   | r=>.ok r
end
end Sv
namespace Sv
open PySem PySem.Spec L2
open Ev (D aQ aU ai)
structure Gr (h : Hd) (st : Sto) (h' : Hd) (st' : Sto) : Prop where
 pre : st <+: st'
 hm : ∀ l,h.h l → h'.h l
 gm : ∀ l,h.g l → h'.g l
 hn : ∀ l,l < st.length → h'.h l → h.h l
 gn : ∀ l,l < st.length → h'.g l → h.g l
 wf : Wf h' st'
theorem Gr.refl {h : Hd} {st : Sto} (w : Wf h st) : Gr h st h st:=⟨List.prefix_refl _,fun _ z=>z,fun _ z=>z,fun _ _ z=>z,fun _ _ z=>z,w⟩
theorem Gr.same {h : Hd} {st st' : Sto} (p : st <+: st') (w : Wf h st') : Gr h st h st':=⟨p,fun _ z=>z,fun _ z=>z,fun _ _ z=>z,fun _ _ z=>z,w⟩
theorem Gr.trans {h h1 h2 : Hd} {st st1 st2 : Sto} (a : Gr h st h1 st1) (b : Gr h1 st1 h2 st2) : Gr h st h2 st2:=
 ⟨a.pre.trans b.pre,fun l z=>b.hm l (a.hm l z),fun l z=>b.gm l (a.gm l z),fun l hl z=>a.hn l hl (b.hn l (Nat.lt_of_lt_of_le hl a.pre.length_le) z),fun l hl z=>a.gn l hl (b.gn l (Nat.lt_of_lt_of_le hl a.pre.length_le) z),b.wf⟩
theorem Gr.av {h h' : Hd} {st st' : Sto} {u : U} (g : Gr h st h' st') (a : Av h st.length u) : Av h' st'.length u:=fun l hl=>⟨Nat.lt_of_lt_of_le (a l hl).1 g.pre.length_le,fun z=>(a l hl).2 (g.hn l (a l hl).1 z)⟩
noncomputable def Gd {α β : Type} (h : Hd) (st : Sto) (P : Hd → Sto → α → β → Prop) (x : Rs α) : Ou β → Prop
 | .bad=>True
 | .ok d=>∃ u st' h',x = .ok u st' ∧ Gr h st h' st' ∧ P h' st' u d
 | .exc c=>∃ st' h',x = .exc c st' ∧ Gr h st h' st'
theorem Gd.imp {α β : Type} {h : Hd} {st : Sto} {P Q : Hd → Sto → α → β → Prop} {x : Rs α} {r : Ou β} (g : Gd h st P x r) (f : ∀ h' st' u d,P h' st' u d → Q h' st' u d) : Gd h st Q x r:=by
 cases r with
 | bad=>trivial
 | ok d=>obtain ⟨u,st',h',e,p,q⟩:=g; exact ⟨u,st',h',e,p,f _ _ _ _ q⟩
 | exc c=>exact g
theorem Gd.bind {α β γ δ : Type} {h : Hd} {st : Sto} {P : Hd → Sto → α → β → Prop} {Q : Hd → Sto → γ → δ → Prop} {x : Rs α} {r : Ou β} {f : α → Sto → Rs γ} {k : β → Ou δ} (g : Gd h st P x r)
   (n : ∀ u d st' h',Gr h st h' st' → P h' st' u d → Gd h' st' Q (f u st') (k d)) : Gd h st Q (x.bind f) (r.bind k):=by
 cases r with
 | bad=>trivial
 | exc c=>obtain ⟨st',h',e,p⟩:=g; subst e; exact ⟨st',h',rfl,p⟩
 | ok d=>
   obtain ⟨u,st',h',e,p,q⟩:=g
   subst e
   have:=n u d st' h' p q
   show Gd h st Q (f u st') (k d)
   generalize k d = y at this
   cases y with
   | bad=>trivial
   | exc c=>obtain ⟨st2,h2,e,p2⟩:=this; exact ⟨st2,h2,e,p.trans p2⟩
   | ok d'=>obtain ⟨u',st2,h2,e,p2,q2⟩:=this; exact ⟨u',st2,h2,e,p.trans p2,q2⟩
theorem Gd.ok {α β : Type} {h : Hd} {st : Sto} {P : Hd → Sto → α → β → Prop} {u : α} {d : β} (w : Wf h st) (p : P h st u d) : Gd h st P (.ok u st) (.ok d):=⟨u,st,h,rfl,.refl w,p⟩
theorem Gd.noX {α β : Type} {h : Hd} {st : Sto} {P : Hd → Sto → α → β → Prop} {x : Rs α} {r : Ou β} (g : Gd h st P x r) : Gd h st P x.noX r.noX:=by
 cases r with
 | bad=>trivial
 | exc c=>trivial
 | ok d=>obtain ⟨u,st',h',e,p,q⟩:=g; subst e; exact ⟨u,st',h',rfl,p,q⟩
theorem Gd.inv {α β : Type} {h : Hd} {st : Sto} {P : Hd → Sto → α → β → Prop} {x : Rs α} {r : Ou β} {d : β} (g : Gd h st P x r) (e : r = .ok d) : ∃ u st' h',x = .ok u st' ∧ Gr h st h' st' ∧ P h' st' u d:=by
 subst e; exact g
noncomputable def Dp (h : Hd) (st : Sto) (l : Nat) : Prop:=∃ fz us,st[l]? = some (fz,us) ∧ ∀ u ∈ us,∃ c,u = .loc c ∧ c < st.length ∧ ¬ h.g c
noncomputable def Kd (h : Hd) (k : Nat) (st : Sto) (u : U) : Prop:=Av h st.length u ∨ (1 ≤ k ∧ ∃ l,u = .loc l ∧ l < st.length ∧ ¬ h.g l) ∨ (2 ≤ k ∧ ∃ l,u = .loc l ∧ Dp h st l)
theorem Dp.lt {h : Hd} {st : Sto} {l : Nat} (d : Dp h st l) : l < st.length:=by obtain ⟨_,_,e,_⟩:=d; exact (List.getElem?_eq_some_iff.mp e).1
theorem Kd.mono {h : Hd} {k k' : Nat} {st : Sto} {u : U} (a : Kd h k st u) (e : k ≤ k') : Kd h k' st u:=a.imp id (Or.imp (fun ⟨x,y⟩=>⟨Nat.le_trans x e,y⟩) fun ⟨x,y⟩=>⟨Nat.le_trans x e,y⟩)
theorem Dp.gr {h h' : Hd} {st st' : Sto} {l : Nat} (d : Dp h st l) (g : Gr h st h' st') : Dp h' st' l:=by
 obtain ⟨fz,us,e,q⟩:=d
 exact ⟨fz,us,gg g.pre _ _ e,fun u hu=>let ⟨c,e1,e2,e3⟩:=q u hu; ⟨c,e1,Nat.lt_of_lt_of_le e2 g.pre.length_le,fun z=>e3 (g.gn c e2 z)⟩⟩
theorem Kd.gr {h h' : Hd} {k : Nat} {st st' : Sto} {u : U} (a : Kd h k st u) (g : Gr h st h' st') : Kd h' k st' u:=by
 rcases a with a | ⟨x,l,e,hl,ng⟩ | ⟨x,l,e,d⟩
 · exact .inl (g.av a)
 · exact .inr (.inl ⟨x,l,e,Nat.lt_of_lt_of_le hl g.pre.length_le,fun z=>ng (g.gn l hl z)⟩)
 · exact .inr (.inr ⟨x,l,e,d.gr g⟩)
theorem Kd.zero {h : Hd} {st : Sto} {u : U} (a : Kd h 0 st u) : Av h st.length u:=by
 rcases a with a | ⟨x,_⟩ | ⟨x,_⟩
 · exact a
 · omega
 · omega
noncomputable def PX (k : Nat) (h : Hd) (st : Sto) (u : U) (d : T) : Prop:=Rep st u d ∧ Kd h k st u
noncomputable def PXs (k : Nat) (h : Hd) (st : Sto) (us : List U) (ds : List T) : Prop:=aK st us ds ∧ ∀ u ∈ us,Kd h k st u
theorem PX.of {k : Nat} {h : Hd} {st : Sto} {u : U} {d : T} (r : Rep st u d) (a : Av h st.length u) : PX k h st u d:=⟨r,.inl a⟩
theorem PX.gr {k : Nat} {h h' : Hd} {st st' : Sto} {u : U} {d : T} (p : PX k h st u d) (g : Gr h st h' st') : PX k h' st' u d:=⟨p.1.ext g.pre,p.2.gr g⟩
theorem PXs.gr {k : Nat} {h h' : Hd} {st st' : Sto} {u : List U} {d : List T} (p : PXs k h st u d) (g : Gr h st h' st') : PXs k h' st' u d:=⟨p.1.ext g.pre,fun u hu=>(p.2 u hu).gr g⟩
theorem PX.mono {k k' : Nat} {h : Hd} {st : Sto} {u : U} {d : T} (p : PX k h st u d) (e : k ≤ k') : PX k' h st u d:=⟨p.1,p.2.mono e⟩
theorem PX.weak {k : Nat} {h : Hd} {st : Sto} {u : U} {d : T} (p : PX 0 h st u d) : PX k h st u d:=p.mono (Nat.zero_le _)
theorem PX.av {h : Hd} {st : Sto} {u : U} {d : T} (p : PX 0 h st u d) : Av h st.length u:=p.2.zero
structure WE (h : Hd) (st : Sto) (ρ : Env) (τ : aB) (own : Own) : Prop where
 len : ρ.length = τ.length
 val : ∀ (i : Nat) d,τ[i]? = some (some d) → ∃ u,ρ[i]? = some (some u) ∧ Rep st u d ∧ (Av h st.length u ∨ ∃ lv,(i,lv) ∈ own ∧ Kd h lv st u)
theorem WE.gr {h h' : Hd} {st st' : Sto} {ρ : Env} {τ : aB} {own : Own} (w : WE h st ρ τ own) (g : Gr h st h' st') : WE h' st' ρ τ own:=
 ⟨w.len,fun i d q=>let ⟨u,h1,h2,h3⟩:=w.val i d q; ⟨u,h1,h2.ext g.pre,h3.imp g.av fun ⟨lv,a,b⟩=>⟨lv,a,b.gr g⟩⟩⟩
theorem gN {st : Sto} {c : Bool × List U} : st <+: st ++ [c]:=List.prefix_append _ _
theorem Wf.new {h : Hd} {st : Sto} {us : List U} (w : Wf h st) (a : ∀ u ∈ us,Av h st.length u) : Wf h (st ++ [(false,us)]):=by
 refine ⟨fun k fz vs hk e u hu=>?_,fun l hl=>by rw [List.length_append]; exact Nat.lt_add_right _ (w.lt l hl)⟩
 rw [List.length_append]
 rcases Nat.lt_or_ge k st.length with q | q
 · rw [List.getElem?_append_left q] at e
   exact (w.av k fz vs hk e u hu).mono (Nat.le_add_right _ _)
 · rw [List.getElem?_append_right q] at e
   have:=List.mem_of_getElem? e
   rw [List.mem_singleton] at this
   cases this
   exact (a u hu).mono (Nat.le_add_right _ _)
theorem sy {h : Hd} {st : Sto} {us : List U} {ds : List T} (w : Wf h st) (r : aK st us ds) : Rep (st ++ [(false,us)]) (.loc st.length) (.lst ds) ∧ Av h (st ++ [(false,us)]).length (.loc st.length):=by
 refine ⟨.loc (fz:=false) (us:=us) ?_ (r.ext gN),.loc (by rw [List.length_append]; exact Nat.lt_succ_self _) fun z=>Nat.lt_irrefl _ (w.lt _ z)⟩
 rw [List.getElem?_append_right (Nat.le_refl _),Nat.sub_self]; rfl
theorem ll {k : Nat} {h : Hd} {st : Sto} {us : List U} {ds : List T} (w : Wf h st) (p : PXs 0 h st us ds) : Gd h st (PX k) (new st us) (.ok (.lst ds)):=by
 obtain ⟨r1,r2⟩:=sy w p.1
 exact ⟨_,_,h,rfl,.same gN (w.new fun u hu=>(p.2 u hu).zero),.of r1 r2⟩
theorem iC {k : Nat} {h : Hd} {st : Sto} {u : U} {ds : List T} (w : Wf h st) (p : PX k h st u (.lst ds)) : ∃ us,((∃ l fz,u = .loc l ∧ st[l]? = some (fz,us)) ∨ u = .kl us) ∧ PXs (k - 1) h st us ds:=by
 rcases p.1.lst_inv with ⟨l,fz,us,rfl,e,r⟩ | ⟨us,rfl,r⟩
 · refine ⟨us,.inl ⟨l,fz,rfl,e⟩,r,fun u hu=>?_⟩
   rcases p.2 with a | ⟨x,l',z,hl,ng⟩ | ⟨x,l',z,fz',us',e',q⟩
   · exact .inl (w.av _ _ _ (fun q=>(a l (by simp [locs])).2 (h.sub l q)) e u hu)
   · cases z; exact .inl (w.av _ _ _ ng e u hu)
   · cases z
     rw [e] at e'; cases e'
     obtain ⟨c,e1,e2,e3⟩:=q u hu
     exact .inr (.inl ⟨by omega,c,e1,e2,e3⟩)
 · refine ⟨us,.inr rfl,r,fun u hu=>.inl ?_⟩
   rcases p.2 with a | ⟨_,l,z,_⟩ | ⟨_,l,z,_⟩
   · exact Av.kl.mp a u hu
   · cases z
   · cases z
theorem mH {k : Nat} {h : Hd} {st : Sto} {u : U} {ds : List T} (w : Wf h st) (p : PX k h st u (.lst ds)) : ∃ us,ur st u = some us ∧ seq? st u = some us ∧ PXs (k - 1) h st us ds:=by
 obtain ⟨us,⟨l,fz,rfl,e⟩ | rfl,q⟩:=iC w p
 · exact ⟨us,by simp [ur,e],by simp [seq?,e],q⟩
 · exact ⟨us,rfl,rfl,q⟩
theorem PXs.mono {k k' : Nat} {h : Hd} {st : Sto} {u : List U} {d : List T} (p : PXs k h st u d) (e : k ≤ k') : PXs k' h st u d:=⟨p.1,fun u hu=>(p.2 u hu).mono e⟩
theorem ia {k k' : Nat} {h : Hd} {st : Sto} {u : U} {ds : List T} (p : PX k h st u (.tup ds)) : ∃ us,u = .tup us ∧ PXs k' h st us ds:=by
 obtain ⟨us,rfl,r⟩:=p.1.DU
 refine ⟨us,rfl,r,fun u hu=>.inl ?_⟩
 rcases p.2 with a | ⟨_,l,z,_⟩ | ⟨_,l,z,_⟩
 · exact Av.tup.mp a u hu
 · cases z
 · cases z
theorem Dj {k : Nat} {h : Hd} {st : Sto} {us : List U} {ds : List T} (p : PXs k h st us ds) {i : Int} {d : T} (e : atI ds i = some d) : ∃ u,atI us i = some u ∧ PX k h st u d:=by
 unfold atI at e ⊢
 rw [p.1.length]
 obtain ⟨j,h1,h2⟩:=Option.bind_eq_some_iff.mp e
 obtain ⟨u,h3,h4⟩:=p.1.get h2
 exact ⟨u,by rw [h1]; exact h3,h4,(p.2 u (List.mem_of_getElem? h3))⟩
theorem PXs.append {k : Nat} {h : Hd} {st : Sto} {us vs : List U} {ds es : List T} (p : PXs k h st us ds) (q : PXs k h st vs es) : PXs k h st (us ++ vs) (ds ++ es):=
 ⟨p.1.append q.1,fun u hu=>(List.mem_append.mp hu).elim (p.2 u) (q.2 u)⟩
theorem PXs.sub {k : Nat} {h : Hd} {st : Sto} {us vs : List U} {ds es : List T} (p : PXs k h st us ds) (r : aK st vs es) (s : ∀ u ∈ vs,u ∈ us) : PXs k h st vs es:=⟨r,fun u hu=>p.2 u (s u hu)⟩
theorem PXs.cut {k : Nat} {h : Hd} {st : Sto} {us : List U} {ds : List T} (p : PXs k h st us ds) (lo hi : Option Int) : PXs k h st (CD us lo hi) (EI ds lo hi):=by
 unfold CD EI
 rw [p.1.length]
 exact p.sub (.take _ (.drop _ p.1)) fun u hu=>List.mem_of_mem_drop (List.mem_of_mem_take hu)
theorem PXs.nil {k : Nat} {h : Hd} {st : Sto} : PXs k h st [] []:=⟨.nil,fun _ z=>nomatch z⟩
theorem PXs.cons {k : Nat} {h : Hd} {st : Sto} {u : U} {d : T} {us : List U} {ds : List T} (p : PX k h st u d) (q : PXs k h st us ds) : PXs k h st (u :: us) (d :: ds):=
 ⟨.cons p.1 q.1,fun v hv=>by
   rcases List.mem_cons.mp hv with rfl | hv
   · exact p.2
   · exact q.2 v hv⟩
theorem DR {k : Nat} {h : Hd} {st : Sto} {us : List U} {ds : List T} (w : Wf h st) (p : PXs 0 h st us ds) : Gd h st (PX k) (.ok (.tup us) st) (.ok (.tup ds)):=
 .ok w (.of (.tup p.1) (Av.tup.mpr fun u hu=>(p.2 u hu).zero))
theorem yR {st : Sto} {x y : U} {us vs : List U} (c1 : (∃ l fz,x = .loc l ∧ st[l]? = some (fz,us)) ∨ x = .kl us) (c2 : (∃ l fz,y = .loc l ∧ st[l]? = some (fz,vs)) ∨ y = .kl vs) :
   ev2 .add x y st = if us.length + vs.length < ai then new st (us ++ vs) else .bad:=by
 rcases c1 with ⟨l,fz,rfl,f1⟩ | rfl <;> rcases c2 with ⟨k,fz2,rfl,f2⟩ | rfl <;> simp only [ev2.eq_def, *]
theorem Eo {h : Hd} {st : Sto} {x y : U} {a d : T} (w : Wf h st) (p : PX 1 h st x a) (q : PX 1 h st y d) (o : Op2) : Gd h st (PX 0) (ev2 o x y st) (z2 o a d):=by
 cases a with
 | int i=>
   have:=p.1.int_inv; subst this
   cases d with
   | int j=>
     have:=q.1.int_inv; subst this
     cases o <;> simp only [ev2.eq_def,z2.eq_def] <;> (try split) <;> first | exact .ok w (.of .int .int) | trivial
   | _=>cases o <;> trivial
 | str x1=>
   cases p.1
   cases d with
   | str y1=>
     cases q.1
     cases o <;> simp only [ev2.eq_def,z2.eq_def] <;> (try split) <;> first | exact .ok w (.of .str .str) | trivial
   | _=>cases o <;> trivial
 | tup xs=>
   obtain ⟨us,rfl,p'⟩:=ia (k':=0) p
   cases d with
   | tup ys=>
     obtain ⟨vs,rfl,q'⟩:=ia (k':=0) q
     cases o <;> try trivial
     simp only [ev2.eq_def,z2.eq_def]
     have e1:=p'.1.length
     have e2:=q'.1.length
     have e3 : us ≠ [] ↔ xs ≠ []:=by
       rw [← List.length_pos_iff,← List.length_pos_iff,e1]
     by_cases hc : xs ≠ [] ∧ xs.length + ys.length < ai
     · rw [if_pos hc,if_pos ⟨e3.mpr hc.1,by omega⟩]
       exact DR w (p'.append q')
     · rw [if_neg hc]; trivial
   | _=>cases o <;> trivial
 | lst xs=>
   cases d with
   | lst ys=>
     obtain ⟨us,c1,r1⟩:=iC w p
     obtain ⟨vs,c2,r2⟩:=iC w q
     cases o <;> try trivial
     have e1:=r1.1.length
     have e2:=r2.1.length
     rw [yR c1 c2]
     simp only [z2.eq_def]
     rw [← e1,← e2]
     split
     · exact ll w (r1.append r2)
     · trivial
   | _=>cases o <;> trivial
 | _=>cases o <;> trivial
theorem DY {k : Nat} {h : Hd} {st : Sto} {x y : U} {a d : T} (w : Wf h st) (p : PX (k + 1) h st x a) (q : PX 2 h st y d) : Gd h st (PX k) (evI x y st) (zI a d):=by
 cases d with
 | int i=>
   have:=q.1.int_inv; subst this
   cases a with
   | lst xs=>
     obtain ⟨us,_,e2,p'⟩:=mH w p
     simp only [zI.eq_def,evI.eq_def,e2]
     cases e : atI xs i with
     | some d'=>
       obtain ⟨u,e3,r⟩:=Dj p' e
       rw [e3]; exact .ok w (r.mono (Nat.le_of_eq (Nat.add_sub_cancel k 1)))
     | none=>trivial
   | tup xs=>
     obtain ⟨us,rfl,p'⟩:=ia (k':=0) p
     simp only [zI.eq_def,evI.eq_def,seq?]
     cases e : atI xs i with
     | some d'=>
       obtain ⟨u,e3,r⟩:=Dj p' e
       rw [e3]; exact .ok w r.weak
     | none=>trivial
   | _=>trivial
 | _=>cases a <;> trivial
theorem zg {st : Sto} : ∀ {us : List U} {ds : List T} {b : Bool},aK st us ds → sE ds = some b → allB us = some b
 | _,_,_,.nil,e=>e
 | _,_,b,.cons h r,e=>by
   cases h <;> first | (simp [sE] at e; done) | skip
   simp only [sE,Option.map_eq_some_iff] at e
   obtain ⟨c,e1,e2⟩:=e
   simp only [allB,zg r e1,Option.map_some,e2]
theorem ints_rep {st : Sto} : ∀ {us : List U} {ds : List T} {b : List Int},aK st us ds → jL ds = some b → mi us = some b
 | _,_,_,.nil,e=>e
 | _,_,b,.cons h r,e=>by
   cases h <;> first | (simp [jL] at e; done) | skip
   simp only [jL,Option.map_eq_some_iff] at e
   obtain ⟨c,e1,e2⟩:=e
   simp only [mi,ints_rep r e1,Option.map_some,e2]
theorem KS {st : Sto} : ∀ {us : List U} {ds : List T},aK st us ds → aK st us.reverse ds.reverse
 | _,_,.nil=>.nil
 | _,_,.cons h r=>by rw [List.reverse_cons,List.reverse_cons]; exact (KS r).append (.cons h .nil)
noncomputable def biK : Bi → Nat
 | .len=>2
 | _=>1
theorem Fi {h : Hd} {st : Sto} {us : List U} {ds : List T} (w : Wf h st) (o : Bi) (p : PXs (biK o) h st us ds) : Gd h st (PX 0) (evB o us st) (zB o ds):=by
 match ds,p with
 | [],_=>cases o <;> trivial
 | [a],⟨.cons r .nil,hp⟩=>
   rename_i x
   have px : PX (biK o) h st x a:=⟨r,hp x (List.mem_singleton_self x)⟩
   cases a with
   | int i=>
     have:=r.int_inv; subst this
     cases o <;> first | trivial | exact .ok w (.of .int .int)
   | bl c=>
     have:=r.iV; subst this
     cases o <;> first | trivial | exact .ok w (.of .int .int)
   | lst xs=>
     obtain ⟨vs,e1,e2,p'⟩:=mH w px
     cases o <;> try trivial
     · simp only [evB.eq_def,zB.eq_def,e2,p'.1.length]; exact .ok w (.of .int .int)
     · simp only [evB.eq_def,zB.eq_def,e1]
       cases z : jL xs with
       | none=>trivial
       | some ns=>
         rw [ints_rep p'.1 z]
         cases ns with
         | nil=>trivial
         | cons a as=>exact .ok w (.of .int .int)
     · simp only [evB.eq_def,zB.eq_def,e2]; exact ll w p'
     · simp only [evB.eq_def,zB.eq_def,e2]; exact DR w p'
     · simp only [evB.eq_def,zB.eq_def,e1]
       cases z : sE xs with
       | none=>trivial
       | some c=>rw [zg p'.1 z]; exact .ok w (.of .bl .bl)
     · simp only [evB.eq_def,zB.eq_def,e1]; exact ll w ⟨KS p'.1,fun x hx=>p'.2 x (List.mem_reverse.mp hx)⟩
     · simp only [evB.eq_def,zB.eq_def,e1]
       cases z : jL xs with
       | none=>trivial
       | some ns=>rw [ints_rep p'.1 z]; exact .ok w (.of .int .int)
   | tup xs=>
     obtain ⟨vs,rfl,p'⟩:=ia (k':=0) px
     cases o <;> try trivial
     · simp only [evB.eq_def,zB.eq_def,seq?,p'.1.length]; exact .ok w (.of .int .int)
     · simp only [evB.eq_def,zB.eq_def,seq?]; exact ll w p'
     · simp only [evB.eq_def,zB.eq_def,seq?]; exact DR w p'
   | _=>cases o <;> trivial
 | [a,d],⟨.cons r (.cons r2 .nil),hp⟩=>
   cases a with
   | int i=>
     have:=r.int_inv; subst this
     cases d with
     | int j=>
       have:=r2.int_inv; subst this
       cases o <;> first | trivial | exact .ok w (.of .int .int)
     | _=>cases o <;> trivial
   | _=>cases o <;> trivial
 | a :: b :: c :: r,_=>
   have : zB o (a :: b :: c :: r) = .bad:=by cases o <;> cases a <;> first | rfl | (cases b <;> rfl)
   rw [this]; trivial
theorem CF {st : Sto} {u : U} {d : T} (r : Rep st u d) (t : Ty) : Az t u = iL t d:=by cases r <;> cases t <;> rfl
theorem E3 {st : Sto} {u : U} {d : T} (r : Rep st u d) (t : Bool) : An t u = Kg t d:=by cases r <;> rfl
theorem Ef {st : Sto} {u : U} {d : T} (r : Rep st u d) : Ai u = KH d:=by cases r <;> rfl
theorem oW {st : Sto} {u : U} {d : T} (r : Rep st u d) (e : E) {o : Option Int} (h : nO e d = some o) : xj e u = some o:=by
 cases r <;> cases e <;> first | exact h | (cases h; done)
noncomputable def SqR (h : Hd) (st : Sto) : Sq → List T → Prop
 | .vals us,xs=>PXs 0 h st us xs
 | .lst l,xs=>¬ h.g l ∧ ∃ fz us,st[l]? = some (fz,us) ∧ aK st us xs
 | .enu l,ys=>¬ h.g l ∧ ∃ fz us xs,st[l]? = some (fz,us) ∧ aK st us xs ∧ ys = lj 0 xs
 | .zip p q,zs=>∃ xs ys,SqR h st p xs ∧ SqR h st q ys ∧ zs = kU xs ys
noncomputable def SqN (h : Hd) : Sq → Prop
 | .lst l=>¬ h.h l
 | .enu l=>¬ h.h l
 | .vals _=>True
 | .zip p q=>SqN h p ∧ SqN h q
noncomputable def Co : Option T → Option T → Option T
 | some x,some y=>some (.tup [x,y])
 | _,_=>none
theorem vy : ∀ (xs ys : List T) (i : Nat),(kU xs ys)[i]? = Co xs[i]? ys[i]?
 | [],ys,i=>by simp [kU,Co]
 | x :: xs,[],i=>by
   simp only [kU,List.getElem?_nil]
   cases (x :: xs)[i]? <;> rfl
 | x :: xs,y :: ys,0=>by simp [kU,Co]
 | x :: xs,y :: ys,i + 1=>by simp only [kU,List.getElem?_cons_succ,vy xs ys i]
theorem nW : ∀ (xs ys : List T),(kU xs ys).length = min xs.length ys.length
 | [],ys=>by simp [kU]
 | x :: xs,[]=>by simp [kU]
 | x :: xs,y :: ys=>by simp only [kU,List.length_cons,nW xs ys]; omega
theorem uW : ∀ (xs : List T) (k i : Nat),(lj k xs)[i]? = (xs[i]?).map fun x=>.tup [.int ((k + i : Nat) : Int),x]
 | [],_,_=>by simp [lj]
 | x :: xs,k,0=>by simp [lj]
 | x :: xs,k,i + 1=>by
   simp only [lj,List.getElem?_cons_succ]
   rw [uW xs (k + 1) i,show k + 1 + i = k + (i + 1) by omega]
theorem oe : ∀ (xs : List T) (k : Nat),(lj k xs).length = xs.length
 | [],_=>rfl
 | x :: xs,k=>by simp [lj,oe xs]
theorem aK.get' {st : Sto} {us : List U} {ds : List T} (r : aK st us ds) (i : Nat) : (∃ u d,us[i]? = some u ∧ ds[i]? = some d ∧ Rep st u d) ∨ (us[i]? = none ∧ ds[i]? = none):=by
 cases e : ds[i]? with
 | some d=>obtain ⟨u,h1,h2⟩:=r.get e; exact .inl ⟨u,d,h1,rfl,h2⟩
 | none=>exact .inr ⟨by rw [List.getElem?_eq_none_iff,r.length]; exact List.getElem?_eq_none_iff.mp e,rfl⟩
theorem SqR.at {h : Hd} {st : Sto} {q : Sq} {xs : List T} (s : SqR h st q xs) (w : Wf h st) (i : Nat) : (xs[i]? = none ∧ q.at st i = some none) ∨ ∃ x u,xs[i]? = some x ∧ q.at st i = some (some u) ∧ PX 0 h st u x:=by
 induction q generalizing xs with
 | vals us=>
   rcases s.1.get' i with ⟨u,d,h1,h2,h3⟩ | ⟨h1,h2⟩
   · exact .inr ⟨d,u,h2,by simp only [Sq.at,h1],h3,s.2 u (List.mem_of_getElem? h1)⟩
   · exact .inl ⟨h2,by simp only [Sq.at,h1]⟩
 | lst l=>
   obtain ⟨ng,fz,us,e,r⟩:=s
   rcases r.get' i with ⟨u,d,h1,h2,h3⟩ | ⟨h1,h2⟩
   · exact .inr ⟨d,u,h2,by simp only [Sq.at,e,Option.map_some,h1],.of h3 (w.av _ _ _ ng e u (List.mem_of_getElem? h1))⟩
   · exact .inl ⟨h2,by simp only [Sq.at,e,Option.map_some,h1]⟩
 | enu l=>
   obtain ⟨ng,fz,us,ys,e,r,rfl⟩:=s
   rw [uW,Nat.zero_add]
   rcases r.get' i with ⟨u,d,h1,h2,h3⟩ | ⟨h1,h2⟩
   · refine .inr ⟨_,.tup [.int (i : Nat),u],by rw [h2]; rfl,by simp only [Sq.at,e,Option.map_some,h1],.of (.tup (.cons .int (.cons h3 .nil))) ?_⟩
     refine Av.tup.mpr fun v hv=>?_
     simp only [List.mem_cons,List.not_mem_nil,or_false] at hv
     rcases hv with rfl | rfl
     · exact .int
     · exact w.av _ _ _ ng e _ (List.mem_of_getElem? h1)
   · exact .inl ⟨by rw [h2]; rfl,by simp only [Sq.at,e,Option.map_some,h1,Option.map_none]⟩
 | zip p q ihp ihq=>
   obtain ⟨as,bs,s1,s2,rfl⟩:=s
   rw [vy]
   rcases ihp s1 with ⟨a1,a2⟩ | ⟨x,u,a1,a2,a3⟩
   · rcases ihq s2 with ⟨b1,b2⟩ | ⟨y,v,b1,b2,b3⟩
     · exact .inl ⟨by rw [a1]; rfl,by simp only [Sq.at,a2,b2,Option.bind_some,Option.map_some]; rfl⟩
     · exact .inl ⟨by rw [a1]; rfl,by simp only [Sq.at,a2,b2,Option.bind_some,Option.map_some]; rfl⟩
   · rcases ihq s2 with ⟨b1,b2⟩ | ⟨y,v,b1,b2,b3⟩
     · exact .inl ⟨by rw [a1,b1]; rfl,by simp only [Sq.at,a2,b2,Option.bind_some,Option.map_some]; rfl⟩
     · refine .inr ⟨.tup [x,y],.tup [u,v],by rw [a1,b1]; rfl,by simp only [Sq.at,a2,b2,Option.bind_some,Option.map_some]; rfl,.of (.tup (.cons a3.1 (.cons b3.1 .nil))) ?_⟩
       refine Av.tup.mpr fun w hw=>?_
       simp only [List.mem_cons,List.not_mem_nil,or_false] at hw
       rcases hw with rfl | rfl
       · exact a3.2.zero
       · exact b3.2.zero
theorem SqR.len {h : Hd} {st : Sto} {q : Sq} {xs : List T} (s : SqR h st q xs) : q.len st = xs.length:=by
 induction q generalizing xs with
 | vals us=>exact s.1.length
 | lst l=>
   obtain ⟨ng,fz,us,e,r⟩:=s
   simp only [Sq.len,e,Option.map_some,Option.getD_some,r.length]
 | enu l=>
   obtain ⟨ng,fz,us,ys,e,r,rfl⟩:=s
   simp only [Sq.len,e,Option.map_some,Option.getD_some,r.length,oe]
 | zip p q ihp ihq=>
   obtain ⟨as,bs,s1,s2,rfl⟩:=s
   simp only [Sq.len,ihp s1,ihq s2,nW]
theorem SqR.gr {h h' : Hd} {st st' : Sto} {q : Sq} {xs : List T} (s : SqR h st q xs) (g : Gr h st h' st') : SqR h' st' q xs:=by
 induction q generalizing xs with
 | vals us=>exact PXs.gr s g
 | lst l=>
   obtain ⟨ng,fz,us,e1,r⟩:=s
   exact ⟨fun z=>ng (g.gn l (List.getElem?_eq_some_iff.mp e1).1 z),fz,us,gg g.pre _ _ e1,r.ext g.pre⟩
 | enu l=>
   obtain ⟨ng,fz,us,ys,e1,r,rfl⟩:=s
   exact ⟨fun z=>ng (g.gn l (List.getElem?_eq_some_iff.mp e1).1 z),fz,us,ys,gg g.pre _ _ e1,r.ext g.pre,rfl⟩
 | zip p q ihp ihq=>
   obtain ⟨as,bs,s1,s2,rfl⟩:=s
   exact ⟨as,bs,ihp s1,ihq s2,rfl⟩
noncomputable def PO (h : Hd) (st : Sto) : Option U → Option T → Prop
 | some u,some d=>PX 0 h st u d
 | none,none=>True
 | _,_=>False
theorem PO.gr {h h' : Hd} {st st' : Sto} {o : Option U} {p : Option T} (s : PO h st o p) (g : Gr h st h' st') : PO h' st' o p:=by
 cases o <;> cases p <;> first | exact s | exact PX.gr s g
theorem rX {R : Hd → Sto → Option U → Option T → Prop} {Q : Hd → Sto → List U → List T → Prop} {f : U → Sto → Rs (Option U)} {g : T → Ou (Option T)} {q : Sq} {xs : List T} {st0 : Sto} {h0 : Hd}
   (hf : ∀ u x st' h',Gr h0 st0 h' st' → PX 0 h' st' u x → Gd h' st' R (f u st') (g x))
   (hn : ∀ h st,Q h st [] []) (hc : ∀ h st h' st' h2 st2 o o' ys ys',Gr h st h' st' → Gr h' st' h2 st2 → R h' st' o o' → Q h2 st2 ys ys' → (st' = st' → True) → Q h2 st2 (match o with | some y=>y :: ys | none=>ys) (match o' with | some y=>y :: ys' | none=>ys')) :
   ∀ (n i : Nat) (st : Sto) (h : Hd),Gr h0 st0 h st → SqR h st q xs → i ≤ xs.length → i + n = xs.length + 1 → Gd h st Q (lL f q n i st) (ei g (xs.drop i))
 | 0,i,st,h,_,_,hi,e=>by omega
 | n + 1,i,st,h,p,s,hi,e=>by
   rw [lL]
   rcases s.at p.wf i with ⟨e1,e2⟩ | ⟨x,u,e1,e2,px⟩
   · rw [e2]
     dsimp only
     rw [List.drop_eq_nil_of_le (List.getElem?_eq_none_iff.mp e1),ei]
     exact .ok p.wf (hn _ _)
   · rw [e2]
     dsimp only
     have hl:=(List.getElem?_eq_some_iff.mp e1).1
     have e3 : xs.drop i = x :: xs.drop (i + 1):=by
       rw [List.drop_eq_getElem_cons hl]
       rw [(List.getElem?_eq_some_iff.mp e1).2]
     rw [e3,ei]
     refine (hf u x st h p px).bind fun o o' st1 h1 g1 ho=>?_
     refine (rX hf hn hc n (i + 1) st1 h1 (p.trans g1) (s.gr g1) hl (by omega)).bind fun ys ys' st2 h2 g2 hy=>?_
     exact .ok g2.wf (hc _ _ _ _ _ _ _ _ _ _ g1 g2 ho hy fun _=>trivial)
theorem sg {f : U → Sto → Rs (Option U)} {g : T → Ou (Option T)} {q : Sq} {xs : List T} {st0 : Sto} {h0 : Hd}
   (hf : ∀ u x st' h',Gr h0 st0 h' st' → PX 0 h' st' u x → Gd h' st' PO (f u st') (g x)) (w : Wf h0 st0) (s : SqR h0 st0 q xs) : Gd h0 st0 (PXs 0) (lL f q (xs.length + 1) 0 st0) (ei g xs):=by
 have:=rX (R:=PO) (Q:=PXs 0) hf (fun _ _=>.nil) (fun h st h' st' h2 st2 o o' ys ys' g1 g2 ho hy _=>by
   have ho2:=ho.gr g2
   cases o <;> cases o' <;> first | exact ho2.elim | exact hy | exact .cons ho2 hy) (xs.length + 1) 0 st0 h0 (.refl w) s (Nat.zero_le _) (Nat.zero_add _)
 rwa [List.drop_zero] at this
end Sv
namespace Sv
open PySem PySem.Spec L2
open Ev (D aQ aU ai)
structure Ent (h : Hd) (st : Sto) (l : Nat) (cs : List Nat) (lv : Nat) : Prop where
 hl : h.h l
 one : lv = 1 → ¬ h.g l ∧ cs = [] ∧ ∃ us,st[l]? = some (false,us)
 two : lv ≠ 1 → lv = 2 ∧ h.g l ∧ st[l]? = some (false,cs.map .loc) ∧ ∀ c ∈ cs,h.h c ∧ ¬ h.g c ∧ ∃ ws,st[c]? = some (false,ws)
 nd : (l :: cs).Nodup
noncomputable def FrR (lv : Nat) (st : Sto) (h' : Hd) (st' : Sto) (u : U) (d : T) : Prop:=
 if lv = 0 ∨ isL d = false then PX 0 h' st' u d else Rep st' u d ∧ ∃ l cs,u = .loc l ∧ Ent h' st' l cs lv ∧ ∀ k ∈ l :: cs,st.length ≤ k
noncomputable def Pure (md : Md) (F : List U → Sto → Rs U) (G : List T → Ou T) : Prop:=
 (md.sc = true → ∀ ds d,G ds = .ok d → pG md.lv d = true) ∧ ∀ h st us ds,Wf h st → PXs 0 h st us ds → Gd h st (FrR md.lv st) (F us st) (G ds)
noncomputable def Hd.less (h : Hd) (X : Nat → Prop) : Hd:=⟨fun k=>h.h k ∧ ¬ X k,fun k=>h.g k ∧ ¬ X k,fun k z=>⟨h.sub k z.1,z.2⟩⟩
theorem Av.less {h : Hd} {X : Nat → Prop} {n : Nat} {u : U} (a : Av h n u) : Av (h.less X) n u:=a.imp fun _ _ z=>z.1
theorem Ent.lt {h : Hd} {st : Sto} {l : Nat} {cs : List Nat} {lv : Nat} (e : Ent h st l cs lv) : ∀ k ∈ l :: cs,k < st.length:=by
 intro k hk
 by_cases z : lv = 1
 · obtain ⟨_,rfl,us,e1⟩:=e.one z
   rw [List.mem_singleton] at hk
   subst hk
   exact (List.getElem?_eq_some_iff.mp e1).1
 · obtain ⟨_,_,e1,e2⟩:=e.two z
   rcases List.mem_cons.mp hk with rfl | hk
   · exact (List.getElem?_eq_some_iff.mp e1).1
   · obtain ⟨_,_,ws,e3⟩:=e2 k hk
     exact (List.getElem?_eq_some_iff.mp e3).1
theorem Ent.hid {h : Hd} {st : Sto} {l : Nat} {cs : List Nat} {lv : Nat} (e : Ent h st l cs lv) : ∀ k ∈ l :: cs,h.h k:=by
 intro k hk
 rcases List.mem_cons.mp hk with rfl | hk
 · exact e.hl
 · by_cases z : lv = 1
   · obtain ⟨_,rfl,_⟩:=e.one z; cases hk
   · obtain ⟨_,_,e1,e2⟩:=e.two z
     exact (e2 k hk).1
theorem Wf.less {h : Hd} {st : Sto} {l : Nat} {cs : List Nat} {lv : Nat} (w : Wf h st) (e : Ent h st l cs lv) : Wf (h.less fun k=>k ∈ l :: cs) st ∧ Av (h.less fun k=>k ∈ l :: cs) st.length (.loc l):=by
 refine ⟨⟨fun k fz us hk q u hu=>?_,fun k z=>w.lt k z.1⟩,.loc (e.lt l (List.mem_cons_self ..)) fun z=>z.2 (List.mem_cons_self ..)⟩
 by_cases hg : h.g k
 · have hx : k ∈ l :: cs:=Classical.byContradiction fun z=>hk ⟨hg,z⟩
   by_cases z : lv = 1
   · obtain ⟨ng,rfl,_⟩:=e.one z
     rw [List.mem_singleton] at hx
     subst hx
     exact absurd hg ng
   · obtain ⟨_,gl,e1,e2⟩:=e.two z
     rcases List.mem_cons.mp hx with rfl | hx
     · rw [e1] at q; cases q
       obtain ⟨c,hc,rfl⟩:=List.mem_map.mp hu
       exact .loc (e.lt c (List.mem_cons_of_mem _ hc)) fun z=>z.2 (List.mem_cons_of_mem _ hc)
     · exact absurd hg (e2 k hx).2.1
 · exact (w.av k fz us hg q u hu).less
theorem FrR.out {lv : Nat} {h h' : Hd} {st st' : Sto} {u : U} {d : T} (w : Wf h st) (g : Gr h st h' st') (f : FrR lv st h' st' u d) : ∃ h'',Gr h st h'' st' ∧ PX 0 h'' st' u d:=by
 unfold FrR at f
 split at f
 · exact ⟨h',g,f⟩
 · obtain ⟨r,l,cs,rfl,e,n⟩:=f
   obtain ⟨w1,a1⟩:=g.wf.less e
   exact ⟨h'.less fun k=>k ∈ l :: cs,⟨g.pre,fun k z=>⟨g.hm k z,fun q=>absurd (w.lt k z) (Nat.not_lt.mpr (n k q))⟩,fun k z=>⟨g.gm k z,fun q=>absurd (w.lt k (h.sub k z)) (Nat.not_lt.mpr (n k q))⟩,fun k hk z=>g.hn k hk z.1,fun k hk z=>g.gn k hk z.1,w1⟩,r,.inl a1⟩
theorem Pure.plain {md : Md} {F : List U → Sto → Rs U} {G : List T → Ou T} (p : Pure md F G) {h : Hd} {st : Sto} {us : List U} {ds : List T} (w : Wf h st) (q : PXs 0 h st us ds) : Gd h st (PX 0) (F us st) (G ds):=by
 have:=p.2 h st us ds w q
 cases e : G ds with
 | bad=>trivial
 | exc c=>rw [e] at this; exact this
 | ok d=>
   rw [e] at this
   obtain ⟨u,st',h',e1,g,f⟩:=this
   obtain ⟨h2,g2,px⟩:=f.out w g
   exact ⟨u,st',h2,e1,g2,px⟩
mutual
theorem rA {st : Sto} : ∀ {u : U} {d : T},Rep st u d → flat d = true → locs u = []
 | _,_,.non,_=>rfl
 | _,_,.bl,_=>rfl
 | _,_,.int,_=>rfl
 | _,_,.str,_=>rfl
 | _,_,.exo,_=>rfl
 | _,_,.tup r,h=>by simp only [locs]; exact ji r (by simpa [flat] using h)
 | _,_,.loc _ _,h=>by simp [flat] at h
 | _,_,.kl _,h=>by simp [flat] at h
theorem ji {st : Sto} : ∀ {us : List U} {ds : List T},aK st us ds → ox ds = true → jW us = []
 | _,_,.nil,_=>rfl
 | _,_,.cons h r,e=>by
   rw [ox,Bool.and_eq_true] at e
   simp only [jW,rA h e.1,ji r e.2,List.append_nil]
end
theorem Pure.BV {md : Md} {F : List U → Sto → Rs U} {G : List T → Ou T} (p : Pure md F G) (hs : md.sc = true) {h : Hd} {st : Sto} {us : List U} {ds : List T} (w : Wf h st) (q : PXs 2 h st us ds) : Gd h st (FrR md.lv st) (F us st) (G ds):=by
 let X : Nat → Prop:=fun k=>∃ u ∈ us,k ∈ locs u ∨ ∃ l fz vs,u = .loc l ∧ st[l]? = some (fz,vs) ∧ U.loc k ∈ vs
 have avl : ∀ u ∈ us,Av (h.less X) st.length u:=fun u hu=>by
   rcases q.2 u hu with a | ⟨_,l,rfl,hl,_⟩ | ⟨_,l,rfl,d⟩
   · exact a.less
   · exact .loc hl fun z=>z.2 ⟨_,hu,.inl (by simp [locs])⟩
   · exact .loc d.lt fun z=>z.2 ⟨_,hu,.inl (by simp [locs])⟩
 have w1 : Wf (h.less X) st:=by
   refine ⟨fun k fz vs hk e v hv=>?_,fun k z=>w.lt k z.1⟩
   by_cases hg : h.g k
   · have hx : X k:=Classical.byContradiction fun z=>hk ⟨hg,z⟩
     obtain ⟨u,hu,hx⟩:=hx
     rcases q.2 u hu with a | ⟨_,l,rfl,hl,ng⟩ | ⟨_,l,rfl,d⟩
     · rcases hx with hx | ⟨l,fz',vs',rfl,e',hm⟩
       · exact absurd (h.sub k hg) (a k hx).2
       · exact absurd (h.sub k hg) (w.av l fz' vs' (fun z=>(a l (by simp [locs])).2 (h.sub l z)) e' _ hm k (by simp [locs])).2
     · rcases hx with hx | ⟨l',fz',vs',z,e',hm⟩
       · have : k = l:=by simpa [locs] using hx
         subst this; exact absurd hg ng
       · cases z
         exact absurd (h.sub k hg) (w.av l fz' vs' ng e' _ hm k (by simp [locs])).2
     · obtain ⟨fz2,us2,e2,c2⟩:=d
       rcases hx with hx | ⟨l',fz',vs',z,e',hm⟩
       · have : k = l:=by simpa [locs] using hx
         subst this
         rw [e] at e2; cases e2
         obtain ⟨c,rfl,hc,_⟩:=c2 v hv
         exact .loc hc fun z=>z.2 ⟨_,hu,.inr ⟨k,fz,vs,rfl,e,hv⟩⟩
       · cases z
         rw [e'] at e2; cases e2
         obtain ⟨c,z,_,ng⟩:=c2 _ hm
         cases z
         exact absurd hg ng
   · exact (w.av k fz vs hg e v hv).less
 have g:=p.2 (h.less X) st us ds w1 ⟨q.1,fun u hu=>.inl (avl u hu)⟩
 have grow : ∀ {h1 : Hd} {st' : Sto} (S : Nat → Prop),Gr (h.less X) st h1 st' → (∀ k fz vs,S k → st'[k]? = some (fz,vs) → jW vs = []) → ∃ h2,Gr h st h2 st' ∧ (∀ k,st.length ≤ k → k < st'.length → h2.h k) ∧ ∀ k,st.length ≤ k → k < st'.length → (h2.g k ↔ ¬ S k):=fun {h1 st'} S g hS=>by
   refine ⟨⟨fun k=>h.h k ∨ (st.length ≤ k ∧ k < st'.length),fun k=>h.g k ∨ (st.length ≤ k ∧ k < st'.length ∧ ¬ S k),fun k z=>z.imp (h.sub k) fun q=>⟨q.1,q.2.1⟩⟩,⟨g.pre,fun k z=>.inl z,fun k z=>.inl z,fun k hk z=>z.elim id fun q=>absurd hk (Nat.not_lt.mpr q.1),fun k hk z=>z.elim id fun q=>absurd hk (Nat.not_lt.mpr q.1),⟨fun k fz vs hk e v hv=>?_,fun k z=>z.elim (fun z=>Nat.lt_of_lt_of_le (w.lt k z) g.pre.length_le) fun q=>q.2⟩⟩,fun k h1 h2=>.inr ⟨h1,h2⟩,fun k h1 h2=>⟨fun z=>z.elim (fun z=>absurd (w.lt k (h.sub k z)) (Nat.not_lt.mpr h1)) fun z=>z.2.2,fun z=>.inr ⟨h1,h2,z⟩⟩⟩
   by_cases kl : k < st.length
   · have ng : ¬ h.g k:=fun z=>hk (.inl z)
     obtain ⟨r,rfl⟩:=g.pre
     rw [List.getElem?_append_left kl] at e
     exact fun l hl=>⟨Nat.lt_of_lt_of_le (w.av k fz vs ng e v hv l hl).1 (by rw [List.length_append]; exact Nat.le_add_right _ _),fun z=>z.elim (w.av k fz vs ng e v hv l hl).2 fun q=>absurd (w.av k fz vs ng e v hv l hl).1 (Nat.not_lt.mpr q.1)⟩
   · have hk2 : S k:=Classical.byContradiction fun z=>hk (.inr ⟨Nat.not_lt.mp kl,(List.getElem?_eq_some_iff.mp e).1,z⟩)
     have hv0:=hS k fz vs hk2 e
     exact fun l hl=>by
       have : l ∈ jW vs:=fy.mpr ⟨v,hv,hl⟩
       rw [hv0] at this; cases this
 cases e : G ds with
 | bad=>trivial
 | exc c=>
   rw [e] at g
   obtain ⟨st',h1,e1,g1⟩:=g
   obtain ⟨h2,g2,_⟩:=grow (fun _=>False) g1 (fun _ _ _ z=>z.elim)
   exact ⟨st',h2,e1,g2⟩
 | ok d=>
   rw [e] at g
   have fl:=p.1 hs ds d e
   obtain ⟨u,st',h1,e1,g1,f⟩:=g
   unfold FrR at f
   split at f
   · rename_i hc
     obtain ⟨h2,g2,_⟩:=grow (fun _=>False) g1 (fun _ _ _ z=>z.elim)
     have fd : flat d = true:=by
       cases d with
       | lst xs=>
         rcases hc with hc | hc
         · rw [hc] at fl; simp [pG] at fl
         · simp [isL] at hc
       | _=>exact fl
     refine ⟨u,st',h2,e1,g2,?_⟩
     unfold FrR
     rw [if_pos hc]
     refine ⟨f.1,.inl fun l hl=>?_⟩
     rw [rA f.1 fd] at hl
     cases hl
   · rename_i hc
     obtain ⟨r,l,cs,rfl,en,nl⟩:=f
     cases r with
     | loc e2 r2=>
       rename_i fz' us' ds'
       simp only [pG] at fl
       by_cases z1 : md.lv = 1
       · rw [if_pos z1] at fl
         obtain ⟨h2,g2,a2,b2⟩:=grow (fun k=>k = l) g1 (fun k fz vs z q=>by
           subst z; rw [e2] at q; cases q; exact ji r2 fl)
         have lt:=en.lt l (List.mem_cons_self ..)
         have ge:=nl l (List.mem_cons_self ..)
         obtain ⟨_,c0,us0,e0⟩:=en.one z1
         refine ⟨.loc l,st',h2,e1,g2,?_⟩
         unfold FrR
         rw [if_neg hc]
         exact ⟨.loc e2 r2,l,cs,rfl,⟨a2 l ge lt,fun _=>⟨fun z=>(b2 l ge lt).mp z rfl,c0,us0,e0⟩,fun z=>absurd z1 z,en.nd⟩,nl⟩
       · obtain ⟨z2,_,e3,e4⟩:=en.two z1
         rw [if_neg z1,if_pos z2] at fl
         rw [e2] at e3; cases e3
         have key : ∀ c ∈ cs,∀ fz vs,st'[c]? = some (fz,vs) → jW vs = []:=fun c hc' fz vs q=>by
           obtain ⟨i,hi,hi'⟩:=List.getElem_of_mem hc'
           have hl : i < ds'.length:=by rw [← r2.length,List.length_map]; exact hi
           obtain ⟨u,hu,ru⟩:=r2.get (List.getElem?_eq_getElem hl)
           rw [List.getElem?_map,List.getElem?_eq_getElem hi,Option.map_some] at hu
           cases hu
           have fx:=List.all_eq_true.mp fl _ (List.getElem_mem hl)
           rw [hi'] at ru
           generalize ds'[i] = x at ru fx
           cases ru with
           | loc e5 r5=>
             rw [e5] at q; cases q
             exact ji r5 (by simpa only [B4] using fx)
         obtain ⟨h2,g2,a2,b2⟩:=grow (fun k=>k ∈ cs) g1 (fun k fz vs z q=>key k z fz vs q)
         have lt:=en.lt
         refine ⟨.loc l,st',h2,e1,g2,?_⟩
         unfold FrR
         rw [if_neg hc]
         refine ⟨.loc e2 r2,l,cs,rfl,⟨a2 l (nl l (List.mem_cons_self ..)) (lt l (List.mem_cons_self ..)),fun z=>absurd z z1,fun _=>⟨z2,(b2 l (nl l (List.mem_cons_self ..)) (lt l (List.mem_cons_self ..))).mpr (List.nodup_cons.mp en.nd).1,e2,fun c hc'=>?_⟩,en.nd⟩,nl⟩
         have h1c:=nl c (List.mem_cons_of_mem _ hc')
         have h2c:=lt c (List.mem_cons_of_mem _ hc')
         exact ⟨a2 c h1c h2c,fun z=>(b2 c h1c h2c).mp z hc',(e4 c hc').2.2⟩
theorem Pure.Lr {md : Md} {F : List U → Sto → Rs U} {G : List T → Ou T} (p : Pure md F G) (hs : md.sc = true) {h : Hd} {st : Sto} {us : List U} {ds : List T} (w : Wf h st) (q : PXs 2 h st us ds) : Gd h st (PX 0) (F us st) (G ds):=by
 have:=p.BV hs w q
 cases e : G ds with
 | bad=>trivial
 | exc c=>rw [e] at this; exact this
 | ok d=>
   rw [e] at this
   obtain ⟨u,st',h',e1,g,f⟩:=this
   obtain ⟨h2,g2,px⟩:=f.out w g
   exact ⟨u,st',h2,e1,g2,px⟩
theorem WE.set {h : Hd} {st : Sto} {ρ : Env} {τ : aB} {own : Own} (w : WE h st ρ τ own) {u : U} {d : T} (p : PX 0 h st u d) (i : Nat) : WE h st (ρ.set i (some u)) (τ.set i (some d)) own:=by
 refine ⟨by rw [List.length_set,List.length_set]; exact w.len,fun j e q=>?_⟩
 by_cases z : i = j
 · subst z
   by_cases hl : i < τ.length
   · rw [List.getElem?_set_self hl] at q
     cases q
     exact ⟨u,List.getElem?_set_self (by rw [w.len]; exact hl),p.1,.inl p.av⟩
   · rw [List.getElem?_eq_none (by rw [List.length_set]; omega)] at q; cases q
 · rw [List.getElem?_set_ne z] at q
   rw [List.getElem?_set_ne z]
   exact w.val j e q
theorem vk {h : Hd} {st : Sto} {own : Own} : ∀ {is : List Nat} {us : List U} {ds : List T} {ρ : Env} {τ τ' : aB},WE h st ρ τ own → PXs 0 h st us ds → jy is ds τ = some τ' → ∃ ρ',lb is us ρ = some ρ' ∧ WE h st ρ' τ' own
 | [],_,_,ρ,τ,τ',w,⟨.nil,_⟩,e=>by cases e; exact ⟨ρ,rfl,w⟩
 | [],_,_,ρ,τ,τ',w,⟨.cons _ _,_⟩,e=>by cases e
 | i :: is,_,_,ρ,τ,τ',w,⟨.nil,_⟩,e=>by cases e
 | i :: is,_,_,ρ,τ,τ',w,⟨.cons (u:=u) (d:=d) r rs,a⟩,e=>by
   rw [jy] at e
   rw [lb]
   exact vk (w.set ⟨r,a u (List.mem_cons_self ..)⟩ i) ⟨rs,fun v hv=>a v (List.mem_cons_of_mem _ hv)⟩ e
theorem va {h : Hd} {st : Sto} {own : Own} {t : Tg} {u : U} {d : T} {ρ : Env} {τ τ' : aB} (w : WE h st ρ τ own) (p : PX 0 h st u d) (e : aA t d τ = some τ') : ∃ ρ',hZ t u ρ = some ρ' ∧ WE h st ρ' τ' own:=by
 cases t with
 | nm i=>cases e; exact ⟨_,rfl,w.set p i⟩
 | tp is=>
   cases d with
   | tup ds=>
     obtain ⟨us,rfl,p'⟩:=ia (k':=0) p
     exact vk w p' e
   | _=>cases e
theorem WE.cap {h : Hd} {st : Sto} {ρ : Env} {τ : aB} {own : Own} (w : WE h st ρ τ own) {caps : List (Option Nat)} (hc : ∀ i lv,(i,lv) ∈ own → some i ∉ caps) : WE h st (ki ρ caps ++ [none]) (eT τ caps ++ [none]) []:=by
 refine ⟨by simp [ki,eT],fun i d e=>?_⟩
 by_cases hi : i < caps.length
 · rw [List.getElem?_append_left (by simp [eT]; exact hi)] at e
   unfold eT at e
   rw [List.getElem?_map] at e
   have hg : caps[i]? = some caps[i]:=List.getElem?_eq_getElem hi
   rw [hg] at e
   simp only [Option.map_some,Option.some.injEq] at e
   obtain ⟨j,e1,e2⟩:=Option.bind_eq_some_iff.mp e
   have e3 : τ[j]? = some (some d):=by
     cases z : τ[j]? with
     | none=>rw [z] at e2; cases e2
     | some o=>rw [z] at e2; exact congrArg some e2
   obtain ⟨u,h1,h2,h3⟩:=w.val j d e3
   refine ⟨u,?_,h2,?_⟩
   · rw [List.getElem?_append_left (by simp [ki]; exact hi)]
     unfold ki
     rw [List.getElem?_map,hg,e1]
     simp [h1]
   · rcases h3 with h3 | ⟨lv,h3,_⟩
     · exact .inl h3
     · exact absurd (by rw [← e1]; exact List.getElem_mem hi) (hc j lv h3)
 · rw [List.getElem?_append_right (by simp [eT]; omega)] at e
   have:=List.mem_of_getElem? e
   simp at this
theorem Jt {k : Nat} {h : Hd} {st : Sto} {l : Nat} {d : T} (hk : k ≤ 1) (p : PX k h st (.loc l) d) : ¬ h.g l:=by
 rcases p.2 with a | ⟨_,k,z,_,ng⟩ | ⟨z,_⟩
 · exact fun q=>(a l (by simp [locs])).2 (h.sub l q)
 · cases z; exact ng
 · omega
theorem bB {a b : Bool} (h : (a || b) = false) : a = false ∧ b = false:=by cases a <;> cases b <;> simp_all
theorem rg {k : Nat} {h : Hd} {st : Sto} (lo : Int) (n : Nat) : PXs k h st (kJ lo n) (rangeT lo n):=by
 unfold kJ rangeT
 induction List.range n with
 | nil=>exact .nil
 | cons k ks ih=>exact .cons (.of .int .int) ih
theorem zx {k : Nat} {h : Hd} {st : Sto} {u : U} {xs : List T} (hk : k ≤ 1) (w : Wf h st) (hx : PX k h st u (.lst xs)) : ∃ p,src st u = some p ∧ (k = 0 → SqN h p) ∧ SqR h st p xs:=by
 obtain ⟨us,⟨l,fz,rfl,e1⟩ | rfl,r⟩:=iC w hx
 · refine ⟨.lst l,?_,fun hb=>?_,Jt hk hx,fz,us,e1,r.1⟩
   · simp only [src]
     rw [if_pos (List.getElem?_eq_some_iff.mp e1).1]
   · subst hb
     exact (hx.av l (by simp [locs])).2
 · exact ⟨.vals us,rfl,fun _=>trivial,r.mono (by omega)⟩
theorem yK {h : Hd} {st : Sto} : ∀ (k : Nat) {us : List U} {ds : List T},PXs 0 h st us ds → PXs 0 h st (uP k us) (lj k ds)
 | _,_,_,⟨.nil,_⟩=>.nil
 | k,_,_,⟨.cons (u:=u) (us:=us) r rs,a⟩=>by
   have ih:=yK (k + 1) (us:=us) ⟨rs,fun v hv=>a v (List.mem_cons_of_mem _ hv)⟩
   refine .cons (.of (.tup (.cons .int (.cons r .nil))) (Av.tup.mpr fun w hw=>?_)) ih
   simp only [List.mem_cons,List.not_mem_nil,or_false] at hw
   rcases hw with rfl | rfl
   · exact .int
   · exact (a _ (List.mem_cons_self ..)).zero
theorem Bb {k : Nat} {h : Hd} {st : Sto} {o : Option Bool} {p : Option Bool} (w : Wf h st) (e : ∀ r,p = some r → o = some r) : Gd h st (PX k) (ofO o st) (ofB p):=by
 cases p with
 | none=>trivial
 | some r=>rw [e r rfl]; exact .ok w (.of .bl .bl)
section
variable {Φ : Fn} {Ψ : FnT} {μ : Nat → Md} (HP : ∀ f,Pure (μ f) (Φ f) (Ψ f))
theorem vN {h : Hd} {st : Sto} {ρ : Env} {τ : aB} {t : Tg} {ifs : List E} {elt : E} (w : WE h st ρ τ [])
   (hi : ∀ {h st ρ τ},WE h st ρ τ [] → Wf h st → Gd h st (fun _ _ a b=>a = b) (xIf Φ ifs ρ st) (yIf Ψ ifs τ)) (he : ∀ {h st ρ τ},WE h st ρ τ [] → Wf h st → Gd h st (PX 0) (xE Φ elt ρ st) (yE Ψ elt τ)) :
   ∀ u x st' h',Gr h st h' st' → PX 0 h' st' u x → Gd h' st' PO
     (match hZ t u ρ with
         | none=>.bad
         | some ρ1=>(xIf Φ ifs ρ1 st').bind fun b st2=>if b then (xE Φ elt ρ1 st2).bind fun y st3=>.ok (some y) st3 else .ok none st2)
     (match aA t x τ with
         | none=>.bad
         | some τ1=>(yIf Ψ ifs τ1).bind fun b=>if b then (yE Ψ elt τ1).bind fun y=>.ok (some y) else .ok none):=by
 intro u x st' h' g px
 cases z : aA t x τ with
 | none=>trivial
 | some τ1=>
   obtain ⟨ρ1,e1,w1⟩:=va (w.gr g) px z
   rw [e1]
   dsimp only
   refine (hi w1 g.wf).bind fun b b' st2 h2 g2 hb=>?_
   have hb : b = b':=hb
   subst hb
   cases b with
   | true=>
     simp only [if_true]
     exact (he (w1.gr g2) g2.wf).bind fun y y' st3 h3 g3 hy=>.ok g3.wf hy
   | false=>exact .ok g2.wf trivial
include HP
mutual
theorem gE : ∀ (e : E) (k : Nat) {h : Hd} {ρ : Env} {τ : aB} {own : Own} {st : Sto},WE h st ρ τ own → Wf h st → (∀ i lv,(i,lv) ∈ own → gts μ i lv k e = false) → Gd h st (PX k) (xE Φ e ρ st) (yE Ψ e τ)
 | .var i,k,h,ρ,τ,own,st,w,wf,hg=>by
   simp only [xE,yE,aw,su]
   cases z : τ[i]? with
   | none=>trivial
   | some o=>
     cases o with
     | none=>trivial
     | some d=>
       obtain ⟨u,e1,e2,e3⟩:=w.val i d z
       rw [e1]
       refine .ok wf ⟨e2,?_⟩
       rcases e3 with e3 | ⟨lv,h1,h2⟩
       · exact .inl e3
       · have:=hg i lv h1
         simp only [gts,BEq.rfl,Bool.and_true,decide_eq_false_iff_not] at this
         exact h2.mono (by omega)
 | .cN,_,_,_,_,_,_,_,wf,_=>.ok wf (.of .non .non)
 | .cB _,_,_,_,_,_,_,_,wf,_=>.ok wf (.of .bl .bl)
 | .cI _,_,_,_,_,_,_,_,wf,_=>.ok wf (.of .int .int)
 | .cS _,_,_,_,_,_,_,_,wf,_=>.ok wf (.of .str .str)
 | .op o a c,k,h,ρ,τ,own,st,w,wf,hg=>by
   simp only [xE,yE]
   refine (gE a 1 w wf fun i lv hi=>(bB (by simpa only [gts] using hg i lv hi)).1).bind fun x x' st1 h1 g1 hx=>?_
   refine (gE c 1 (w.gr g1) g1.wf fun i lv hi=>(bB (by simpa only [gts] using hg i lv hi)).2).bind fun y y' st2 h2 g2 hy=>?_
   exact (Eo g2.wf (hx.gr g2) hy o).imp fun _ _ _ _ z=>z.weak
 | .neg a,k,h,ρ,τ,own,st,w,wf,hg=>by
   simp only [xE,yE]
   refine (gE a 2 w wf fun i lv hi=>(by simpa only [gts] using hg i lv hi)).bind fun x x' st1 h1 g1 hx=>?_
   cases x' with
   | int i=>have:=hx.1.int_inv; subst this; exact .ok g1.wf (.of .int .int)
   | _=>trivial
 | .not a,k,h,ρ,τ,own,st,w,wf,hg=>by
   simp only [xE,yE]
   refine (gE a 2 w wf fun i lv hi=>(by simpa only [gts] using hg i lv hi)).bind fun x x' st1 h1 g1 hx=>?_
   cases x' with
   | bl i=>have:=hx.1.iV; subst this; exact .ok g1.wf (.of .bl .bl)
   | _=>trivial
 | .cmp o a c,k,h,ρ,τ,own,st,w,wf,hg=>by
   simp only [xE,yE]
   refine (gE a 2 w wf fun i lv hi=>(bB (by simpa only [gts] using hg i lv hi)).1).bind fun x x' st1 h1 g1 hx=>?_
   refine (gE c 2 (w.gr g1) g1.wf fun i lv hi=>(bB (by simpa only [gts] using hg i lv hi)).2).bind fun y y' st2 h2 g2 hy=>?_
   exact Bb g2.wf fun r e=>uu (hx.1.ext g2.pre) hy.1 e
 | .chain o o' a c d,k,h,ρ,τ,own,st,w,wf,hg=>by
   simp only [xE,yE]
   refine (gE a 2 w wf fun i lv hi=>(bB (bB (by simpa only [gts] using hg i lv hi)).1).1).bind fun x x' st1 h1 g1 hx=>?_
   refine (gE c 2 (w.gr g1) g1.wf fun i lv hi=>(bB (bB (by simpa only [gts] using hg i lv hi)).1).2).bind fun y y' st2 h2 g2 hy=>?_
   cases z : zC o x' y' with
   | none=>trivial
   | some r=>
     rw [uu (hx.1.ext g2.pre) hy.1 z]
     cases r with
     | false=>exact .ok g2.wf (.of .bl .bl)
     | true=>
       dsimp only
       refine (gE d 2 ((w.gr g1).gr g2) g2.wf fun i lv hi=>(bB (by simpa only [gts] using hg i lv hi)).2).bind fun v v' st3 h3 g3 hv=>?_
       exact Bb g3.wf fun r e=>uu (hy.1.ext g3.pre) hv.1 e
 | .and a c,k,h,ρ,τ,own,st,w,wf,hg=>by
   simp only [xE,yE]
   refine (gE a 2 w wf fun i lv hi=>(bB (by simpa only [gts] using hg i lv hi)).1).bind fun x x' st1 h1 g1 hx=>?_
   cases x' with
   | bl r=>
     have:=hx.1.iV; subst this
     cases r with
     | false=>exact .ok g1.wf (.of .bl .bl)
     | true=>exact gE c k (w.gr g1) g1.wf fun i lv hi=>(bB (by simpa only [gts] using hg i lv hi)).2
   | _=>trivial
 | .or a c,k,h,ρ,τ,own,st,w,wf,hg=>by
   simp only [xE,yE]
   refine (gE a 2 w wf fun i lv hi=>(bB (by simpa only [gts] using hg i lv hi)).1).bind fun x x' st1 h1 g1 hx=>?_
   cases x' with
   | bl r=>
     have:=hx.1.iV; subst this
     cases r with
     | true=>exact .ok g1.wf (.of .bl .bl)
     | false=>exact gE c k (w.gr g1) g1.wf fun i lv hi=>(bB (by simpa only [gts] using hg i lv hi)).2
   | _=>trivial
 | .ite c a d,k,h,ρ,τ,own,st,w,wf,hg=>by
   simp only [xE,yE]
   refine (gE c 2 w wf fun i lv hi=>(bB (bB (by simpa only [gts] using hg i lv hi)).1).1).bind fun x x' st1 h1 g1 hx=>?_
   cases x' with
   | bl r=>
     have:=hx.1.iV; subst this
     cases r with
     | true=>exact gE a k (w.gr g1) g1.wf fun i lv hi=>(bB (bB (by simpa only [gts] using hg i lv hi)).1).2
     | false=>exact gE d k (w.gr g1) g1.wf fun i lv hi=>(bB (by simpa only [gts] using hg i lv hi)).2
   | _=>trivial
 | .tup es,k,h,ρ,τ,own,st,w,wf,hg=>by
   simp only [xE,yE]
   refine (gEs es 0 w wf fun i lv hi=>(by simpa only [gts] using hg i lv hi)).bind fun x x' st1 h1 g1 hx=>?_
   rw [hx.1.length]
   split
   · exact DR g1.wf hx
   · trivial
 | .lst es,k,h,ρ,τ,own,st,w,wf,hg=>by
   simp only [xE,yE]
   refine (gEs es 0 w wf fun i lv hi=>(by simpa only [gts] using hg i lv hi)).bind fun x x' st1 h1 g1 hx=>?_
   rw [hx.1.length]
   split
   · exact ll g1.wf hx
   · trivial
 | .ix a c,k,h,ρ,τ,own,st,w,wf,hg=>by
   simp only [xE,yE]
   refine (gE a (k + 1) w wf fun i lv hi=>(bB (by simpa only [gts] using hg i lv hi)).1).bind fun x x' st1 h1 g1 hx=>?_
   refine (gE c 2 (w.gr g1) g1.wf fun i lv hi=>(bB (by simpa only [gts] using hg i lv hi)).2).bind fun y y' st2 h2 g2 hy=>?_
   exact DY g2.wf (hx.gr g2) hy
 | .sl a c d,k,h,ρ,τ,own,st,w,wf,hg=>by
   simp only [xE,yE]
   refine (gE a 1 w wf fun i lv hi=>(bB (bB (by simpa only [gts] using hg i lv hi)).1).1).bind fun x x' st1 h1 g1 hx=>?_
   refine (gE c 2 (w.gr g1) g1.wf fun i lv hi=>(bB (bB (by simpa only [gts] using hg i lv hi)).1).2).bind fun y y' st2 h2 g2 hy=>?_
   cases z : nO c y' with
   | none=>trivial
   | some lo=>
     rw [oW hy.1 c z]
     dsimp only
     refine (gE d 2 ((w.gr g1).gr g2) g2.wf fun i lv hi=>(bB (by simpa only [gts] using hg i lv hi)).2).bind fun v v' st3 h3 g3 hv=>?_
     cases z2 : nO d v' with
     | none=>trivial
     | some hi=>
       rw [oW hv.1 d z2]
       dsimp only
       cases x' with
       | lst xs=>
         obtain ⟨us,e1,_,p'⟩:=mH g3.wf ((hx.gr g2).gr g3)
         simp only [E4.eq_def,e1,zSl.eq_def]
         exact ll g3.wf (p'.cut lo hi)
       | _=>trivial
 | .call f es,k,h,ρ,τ,own,st,w,wf,hg=>by
   simp only [xE,yE]
   cases hs : (μ f).sc with
   | true=>
     refine (gEs es 2 w wf fun i lv hi=>(by simpa only [gts,hs,if_true] using hg i lv hi)).bind fun x x' st1 h1 g1 hx=>?_
     exact ((HP f).Lr hs g1.wf hx).imp fun _ _ _ _ z=>z.weak
   | false=>
     refine (gEs es 0 w wf fun i lv hi=>(by simpa only [gts,hs,Bool.false_eq_true,if_false] using hg i lv hi)).bind fun x x' st1 h1 g1 hx=>?_
     exact ((HP f).plain g1.wf hx).imp fun _ _ _ _ z=>z.weak
 | .bi o es,k,h,ρ,τ,own,st,w,wf,hg=>by
   simp only [xE,yE]
   refine (gEs es (biK o) w wf fun i lv hi=>?_).bind fun x x' st1 h1 g1 hx=>?_
   · have:=hg i lv hi
     cases o <;> simpa only [gts,biK] using this
   · exact (Fi g1.wf o hx).imp fun _ _ _ _ z=>z.weak
 | .isi a t,k,h,ρ,τ,own,st,w,wf,hg=>by
   simp only [xE,yE]
   refine (gE a 2 w wf fun i lv hi=>(by simpa only [gts] using hg i lv hi)).bind fun x x' st1 h1 g1 hx=>?_
   have e:=CF hx.1 t
   obtain ⟨r,_⟩:=hx
   cases r <;> first | trivial | (dsimp only; rw [e]; exact .ok g1.wf (.of .bl .bl))
 | .isB n a t,k,h,ρ,τ,own,st,w,wf,hg=>by
   simp only [xE,yE]
   refine (gE a 2 w wf fun i lv hi=>(by simpa only [gts] using hg i lv hi)).bind fun x x' st1 h1 g1 hx=>?_
   rw [E3 hx.1]
   exact .ok g1.wf (.of .bl .bl)
 | .isN n a,k,h,ρ,τ,own,st,w,wf,hg=>by
   simp only [xE,yE]
   refine (gE a 2 w wf fun i lv hi=>(by simpa only [gts] using hg i lv hi)).bind fun x x' st1 h1 g1 hx=>?_
   rw [Ef hx.1]
   exact .ok g1.wf (.of .bl .bl)
 | .comp caps t it ifs elt,k,h,ρ,τ,own,st,w,wf,hg=>by
   simp only [xE,yE]
   have hc : ∀ i lv,(i,lv) ∈ own → some i ∉ caps:=fun i lv hi z=>by
     have:=(bB (by simpa only [gts] using hg i lv hi)).1
     rw [List.contains_iff_mem.mpr z] at this
     cases this
   refine (gIt it 1 (Nat.le_refl 1) w wf fun i lv hi=>(bB (by simpa only [gts] using hg i lv hi)).2).bind fun q xs st1 h1 g1 hq=>?_
   rw [hq.2.len]
   split
   · refine Gd.noX ?_
     refine Gd.bind (P:=PXs 0) ?_ fun us ds st2 h2 g2 hu=>ll g2.wf hu
     exact sg (vN ((w.gr g1).cap hc) (fun w' wf'=>gIf ifs w' wf' fun _ _ z=>nomatch z) fun w' wf'=>gE elt 0 w' wf' fun _ _ z=>nomatch z) g1.wf hq.2
   · trivial
theorem gEs : ∀ (es : List E) (k : Nat) {h : Hd} {ρ : Env} {τ : aB} {own : Own} {st : Sto},WE h st ρ τ own → Wf h st → (∀ i lv,(i,lv) ∈ own → aY μ i lv k es = false) → Gd h st (PXs k) (xEs Φ es ρ st) (yEs Ψ es τ)
 | [],k,_,_,_,_,_,_,wf,_=>.ok wf .nil
 | e :: es,k,h,ρ,τ,own,st,w,wf,hg=>by
   simp only [xEs,yEs]
   refine (gE e k w wf fun i lv hi=>(bB (by simpa only [aY] using hg i lv hi)).1).bind fun x x' st1 h1 g1 hx=>?_
   refine (gEs es k (w.gr g1) g1.wf fun i lv hi=>(bB (by simpa only [aY] using hg i lv hi)).2).bind fun y y' st2 h2 g2 hy=>?_
   exact .ok g2.wf (.cons (hx.gr g2) hy)
theorem gIf : ∀ (es : List E) {h : Hd} {ρ : Env} {τ : aB} {own : Own} {st : Sto},WE h st ρ τ own → Wf h st → (∀ i lv,(i,lv) ∈ own → aY μ i lv 2 es = false) → Gd h st (fun _ _ a b=>a = b) (xIf Φ es ρ st) (yIf Ψ es τ)
 | [],_,_,_,_,_,_,wf,_=>.ok wf rfl
 | e :: es,h,ρ,τ,own,st,w,wf,hg=>by
   simp only [xIf,yIf]
   refine (gE e 2 w wf fun i lv hi=>(bB (by simpa only [aY] using hg i lv hi)).1).bind fun x x' st1 h1 g1 hx=>?_
   cases x' with
   | bl r=>
     have:=hx.1.iV; subst this
     cases r with
     | false=>exact .ok g1.wf rfl
     | true=>exact gIf es (w.gr g1) g1.wf fun i lv hi=>(bB (by simpa only [aY] using hg i lv hi)).2
   | _=>trivial
theorem gIt : ∀ (it : It) (k : Nat) {h : Hd} {ρ : Env} {τ : aB} {own : Own} {st : Sto},k ≤ 1 → WE h st ρ τ own → Wf h st → (∀ i lv,(i,lv) ∈ own → dY μ i lv k it = false) →
   Gd h st (fun h' st' q xs=>(k = 0 → SqN h' q) ∧ SqR h' st' q xs) (xIt Φ it ρ st) (yIt Ψ it τ)
 | .seq e,k,h,ρ,τ,own,st,hk,w,wf,hg=>by
   simp only [xIt,yIt]
   refine (gE e k w wf fun i lv hi=>(by simpa only [dY] using hg i lv hi)).bind fun x x' st1 h1 g1 hx=>?_
   cases x' with
   | lst xs=>
     obtain ⟨us,⟨l,fz,rfl,e1⟩ | rfl,r⟩:=iC g1.wf hx
     · dsimp only
       rw [if_pos (List.getElem?_eq_some_iff.mp e1).1]
       refine .ok g1.wf ⟨fun hb=>?_,Jt hk hx,fz,us,e1,r.1⟩
       subst hb
       exact (hx.av l (by simp [locs])).2
     · exact .ok g1.wf ⟨fun _=>trivial,r.mono (by omega)⟩
   | tup xs=>
     obtain ⟨us,rfl,p'⟩:=ia (k':=0) hx
     exact .ok g1.wf ⟨fun _=>trivial,p'⟩
   | _=>trivial
 | .rng e,k,h,ρ,τ,own,st,hk,w,wf,hg=>by
   simp only [xIt,yIt]
   refine (gE e 2 w wf fun i lv hi=>(by simpa only [dY] using hg i lv hi)).bind fun x x' st1 h1 g1 hx=>?_
   cases x' with
   | int j=>
     have:=hx.1.int_inv; subst this
     dsimp only
     split
     · exact .ok g1.wf ⟨fun _=>trivial,rg _ _⟩
     · trivial
   | _=>trivial
 | .rng2 a c,k,h,ρ,τ,own,st,hk,w,wf,hg=>by
   simp only [xIt,yIt]
   refine (gE a 2 w wf fun i lv hi=>(bB (by simpa only [dY] using hg i lv hi)).1).bind fun x x' st1 h1 g1 hx=>?_
   refine (gE c 2 (w.gr g1) g1.wf fun i lv hi=>(bB (by simpa only [dY] using hg i lv hi)).2).bind fun y y' st2 h2 g2 hy=>?_
   cases x' with
   | int i=>
     have:=hx.1.int_inv; subst this
     cases y' with
     | int j=>
       have:=hy.1.int_inv; subst this
       dsimp only
       split
       · exact .ok g2.wf ⟨fun _=>trivial,rg _ _⟩
       · trivial
     | _=>trivial
   | _=>trivial
 | .enu e,k,h,ρ,τ,own,st,hk,w,wf,hg=>by
   simp only [xIt,yIt]
   refine (gE e k w wf fun i lv hi=>(by simpa only [dY] using hg i lv hi)).bind fun x x' st1 h1 g1 hx=>?_
   cases x' with
   | lst xs=>
     obtain ⟨us,⟨l,fz,rfl,e1⟩ | rfl,r⟩:=iC g1.wf hx
     · dsimp only
       rw [if_pos (List.getElem?_eq_some_iff.mp e1).1]
       refine .ok g1.wf ⟨fun hb=>?_,Jt hk hx,fz,us,xs,e1,r.1,rfl⟩
       subst hb
       exact (hx.av l (by simp [locs])).2
     · exact .ok g1.wf ⟨fun _=>trivial,yK 0 (r.mono (by omega))⟩
   | _=>trivial
 | .zip a c,k,h,ρ,τ,own,st,hk,w,wf,hg=>by
   simp only [xIt,yIt]
   refine (gE a k w wf fun i lv hi=>(bB (by simpa only [dY] using hg i lv hi)).1).bind fun x x' st1 h1 g1 hx=>?_
   refine (gE c k (w.gr g1) g1.wf fun i lv hi=>(bB (by simpa only [dY] using hg i lv hi)).2).bind fun y y' st2 h2 g2 hy=>?_
   have hx2:=PX.gr hx g2
   cases x' with
   | lst xs=>
     cases y' with
     | lst ys=>
       obtain ⟨p,e1,n1,q1⟩:=zx hk g2.wf hx2
       obtain ⟨q,e2,n2,q2⟩:=zx hk g2.wf hy
       rw [e1,e2]
       exact .ok g2.wf ⟨fun hb=>⟨n1 hb,n2 hb⟩,xs,ys,q1,q2,rfl⟩
     | _=>trivial
   | _=>cases y' <;> trivial
end
end
end Sv
namespace Sv
open PySem PySem.Spec L2
open Ev (D aQ aU ai)
noncomputable def FrN (lv : Nat) (st : Sto) (h' : Hd) (st' : Sto) (u : U) (d : T) : Prop:=Rep st' u d ∧ ∃ l cs,u = .loc l ∧ Ent h' st' l cs lv ∧ ∀ k ∈ l :: cs,st.length ≤ k
noncomputable def Hd.more (h : Hd) (X Y : Nat → Prop) (s : ∀ k,Y k → X k) : Hd:=⟨fun k=>h.h k ∨ X k,fun k=>h.g k ∨ Y k,fun k z=>z.imp (h.sub k) (s k)⟩
theorem zi {st : Sto} {c : Bool × List U} : (st ++ [c])[st.length]? = some c:=by rw [List.getElem?_append_right (Nat.le_refl _),Nat.sub_self]; rfl
theorem Dq {h : Hd} {st : Sto} {us : List U} {ds : List T} (w : Wf h st) (p : PXs 0 h st us ds) : ∃ h',Gr h st h' (st ++ [(false,us)]) ∧ FrN 1 st h' (st ++ [(false,us)]) (.loc st.length) (.lst ds):=by
 refine ⟨h.more (fun k=>k = st.length) (fun _=>False) (fun _ z=>z.elim),⟨gN,fun _ z=>.inl z,fun _ z=>.inl z,fun k hk z=>z.elim id fun q=>by omega,fun k hk z=>z.elim id fun q=>q.elim,⟨fun k fz vs hk e u hu=>?_,fun k z=>?_⟩⟩,(sy w p.1).1,st.length,[],rfl,⟨.inr rfl,fun _=>⟨fun z=>z.elim (fun z=>Nat.lt_irrefl _ (w.lt _ (h.sub _ z))) fun z=>z,rfl,us,zi⟩,fun z=>absurd rfl z,by simp⟩,fun k hk=>by rw [List.mem_singleton] at hk; omega⟩
 · have lift : ∀ {v : U},Av h st.length v → Av (h.more (fun k=>k = st.length) (fun _=>False) (fun _ z=>z.elim)) (st ++ [(false,us)]).length v:=fun {v} a l hl=>by
     obtain ⟨a1,a2⟩:=a l hl
     refine ⟨by rw [List.length_append]; exact Nat.lt_add_right _ a1,fun z=>?_⟩
     rcases z with z | z
     · exact a2 z
     · omega
   rcases Nat.lt_or_ge k st.length with q | q
   · rw [List.getElem?_append_left q] at e
     exact lift (w.av k fz vs (fun z=>hk (.inl z)) e u hu)
   · rw [List.getElem?_append_right q] at e
     have:=List.mem_of_getElem? e
     rw [List.mem_singleton] at this
     cases this
     exact lift ((p.2 u hu).zero)
 · rw [List.length_append]
   rcases z with z | z
   · exact Nat.lt_add_right _ (w.lt k z)
   · subst z; exact Nat.lt_succ_self _
theorem Ao {h : Hd} {st0 st : Sto} {cs : List Nat} {ds : List T} (w : Wf h st) (r : aK st (cs.map .loc) ds) (nd : cs.Nodup) (hl : st0.length ≤ st.length) (hc : ∀ c ∈ cs,st0.length ≤ c ∧ h.h c ∧ ¬ h.g c ∧ ∃ ws,st[c]? = some (false,ws)) :
   ∃ h',Gr h st h' (st ++ [(false,cs.map .loc)]) ∧ FrN 2 st0 h' (st ++ [(false,cs.map .loc)]) (.loc st.length) (.lst ds):=by
 have cl : ∀ c ∈ cs,c < st.length:=fun c h=>let ⟨_,_,_,ws,e⟩:=hc c h; (List.getElem?_eq_some_iff.mp e).1
 refine ⟨h.more (fun k=>k = st.length) (fun k=>k = st.length) (fun _ z=>z),⟨gN,fun _ z=>.inl z,fun _ z=>.inl z,fun k hk z=>z.elim id fun q=>by omega,fun k hk z=>z.elim id fun q=>by omega,⟨fun k fz vs hk e u hu=>?_,fun k z=>?_⟩⟩,(sy w r).1,st.length,cs,rfl,⟨.inr rfl,fun z=>by omega,fun _=>⟨rfl,.inr rfl,zi,fun c hcm=>?_⟩,List.nodup_cons.mpr ⟨fun z=>Nat.lt_irrefl _ (cl _ z),nd⟩⟩,fun k hk=>?_⟩
 · have kl : k < st.length:=by
     have:=(List.getElem?_eq_some_iff.mp e).1
     rw [List.length_append] at this
     have ne : k ≠ st.length:=fun z=>hk (.inr z)
     simp at this
     omega
   rw [List.getElem?_append_left kl] at e
   intro l hl
   obtain ⟨a1,a2⟩:=w.av k fz vs (fun z=>hk (.inl z)) e u hu l hl
   refine ⟨by rw [List.length_append]; exact Nat.lt_add_right _ a1,fun z=>?_⟩
   rcases z with z | z
   · exact a2 z
   · omega
 · rw [List.length_append]
   rcases z with z | z
   · exact Nat.lt_add_right _ (w.lt k z)
   · subst z; exact Nat.lt_succ_self _
 · obtain ⟨_,h1,h2,ws,e⟩:=hc c hcm
   exact ⟨.inl h1,fun z=>z.elim h2 fun z=>absurd (cl c hcm) (by omega),ws,gg gN _ _ e⟩
 · rcases List.mem_cons.mp hk with rfl | hk
   · exact hl
   · exact (hc k hk).1
theorem Gr.Kf {h h' : Hd} {st st' : Sto} (g : Gr h st h' st') {c : Nat} (a : h.h c ∧ ¬ h.g c ∧ ∃ ws,st[c]? = some (false,ws)) : h'.h c ∧ ¬ h'.g c ∧ ∃ ws,st'[c]? = some (false,ws):=by
 obtain ⟨a1,a2,ws,a3⟩:=a
 exact ⟨g.hm c a1,fun z=>a2 (g.gn c (List.getElem?_eq_some_iff.mp a3).1 z),ws,gg g.pre _ _ a3⟩
noncomputable def RN (st : Sto) (h2 : Hd) (st2 : Sto) : Option U → Option T → Prop
 | some u,some d=>Rep st2 u d ∧ ∃ c,u = .loc c ∧ st.length ≤ c ∧ h2.h c ∧ ¬ h2.g c ∧ ∃ ws,st2[c]? = some (false,ws)
 | none,none=>True
 | _,_=>False
theorem p7 {f : U → Sto → Rs (Option U)} {g : T → Ou (Option T)} {q : Sq} {xs : List T} {st0 : Sto} {h0 : Hd}
   (hf : ∀ u x st' h' o',Gr h0 st0 h' st' → PX 0 h' st' u x → g x = .ok o' → (∀ d,o' = some d → isL d = true) → ∃ o st2 h2,f u st' = .ok o st2 ∧ Gr h' st' h2 st2 ∧ RN st' h2 st2 o o') :
   ∀ (n i : Nat) (st : Sto) (h : Hd) (ds : List T),Gr h0 st0 h st → SqR h st q xs → i ≤ xs.length → i + n = xs.length + 1 → ei g (xs.drop i) = .ok ds → ds.all isL = true →
     ∃ (cs : List Nat) (st' : Sto) (h' : Hd),lL f q n i st = .ok (cs.map .loc) st' ∧ Gr h st h' st' ∧ aK st' (cs.map .loc) ds ∧ cs.Nodup ∧ ∀ c ∈ cs,st.length ≤ c ∧ h'.h c ∧ ¬ h'.g c ∧ ∃ ws,st'[c]? = some (false,ws)
 | 0,i,st,h,ds,_,_,hi,e,_,_=>by omega
 | n + 1,i,st,h,ds,p,s,hi,e,hy,ha=>by
   rw [lL]
   rcases s.at p.wf i with ⟨e1,e2⟩ | ⟨x,u,e1,e2,px⟩
   · rw [List.drop_eq_nil_of_le (List.getElem?_eq_none_iff.mp e1),ei] at hy
     cases hy
     exact ⟨[],st,h,by rw [e2]; rfl,.refl p.wf,.nil,List.nodup_nil,(by intro c hc; cases hc)⟩
   · have hl:=(List.getElem?_eq_some_iff.mp e1).1
     have e3 : xs.drop i = x :: xs.drop (i + 1):=by
       rw [List.drop_eq_getElem_cons hl]
       rw [(List.getElem?_eq_some_iff.mp e1).2]
     rw [e3,ei,Ou.bA] at hy
     obtain ⟨o',hg,hy⟩:=hy
     rw [Ou.bA] at hy
     obtain ⟨ys,hy,hz⟩:=hy
     have hal : (∀ d,o' = some d → isL d = true) ∧ ys.all isL = true:=by
       cases o' with
       | none=>cases hz; exact ⟨(fun _ z=>by cases z),ha⟩
       | some d=>
         cases hz
         rw [List.all_cons,Bool.and_eq_true] at ha
         exact ⟨(fun d' z=>by cases z; exact ha.1),ha.2⟩
     obtain ⟨o,st1,h1,f1,g1,rn⟩:=hf u x st h o' p px hg hal.1
     obtain ⟨cs,st2,h2,f2,g2,r2,n2,c2⟩:=p7 hf n (i + 1) st1 h1 ys (p.trans g1) (s.gr g1) hl (by omega) hy hal.2
     rw [e2]
     dsimp only
     rw [f1,Rs.aa,f2,Rs.aa]
     cases o with
     | none=>
       cases o' with
       | none=>cases hz; exact ⟨cs,st2,h2,rfl,g1.trans g2,r2,n2,fun c hc=>⟨Nat.le_trans g1.pre.length_le (c2 c hc).1,(c2 c hc).2⟩⟩
       | some d=>exact rn.elim
     | some v=>
       cases o' with
       | none=>exact rn.elim
       | some d=>
         cases hz
         obtain ⟨rv,c,rfl,hc,hh⟩:=rn
         have hcl : c < st1.length:=by obtain ⟨_,_,ws,e⟩:=hh; exact (List.getElem?_eq_some_iff.mp e).1
         refine ⟨c :: cs,st2,h2,rfl,g1.trans g2,.cons (rv.ext g2.pre) r2,List.nodup_cons.mpr ⟨fun z=>absurd (c2 c z).1 (by omega),n2⟩,fun k hk=>?_⟩
         rcases List.mem_cons.mp hk with rfl | hk
         · exact ⟨hc,g2.Kf hh⟩
         · exact ⟨Nat.le_trans g1.pre.length_le (c2 k hk).1,(c2 k hk).2⟩
theorem Ent.down {h : Hd} {st : Sto} {l : Nat} {cs : List Nat} (w : Wf h st) (e : Ent h st l cs 2) : ∃ h',(∀ k,h'.h k → h.h k) ∧ (∀ k,h'.g k → h.g k) ∧ (∀ k,k ∉ l :: cs → (h.h k → h'.h k) ∧ (h.g k → h'.g k)) ∧ (∀ c ∈ cs,¬ h'.h c) ∧ Wf h' st ∧ Ent h' st l [] 1:=by
 obtain ⟨_,gl,e1,e2⟩:=e.two (by decide)
 have nl : l ∉ cs:=(List.nodup_cons.mp e.nd).1
 refine ⟨⟨fun k=>h.h k ∧ k ∉ cs,fun k=>h.g k ∧ k ∉ l :: cs,fun k z=>⟨h.sub k z.1,fun q=>z.2 (List.mem_cons_of_mem _ q)⟩⟩,fun k z=>z.1,fun k z=>z.1,fun k hk=>⟨fun z=>⟨z,fun q=>hk (List.mem_cons_of_mem _ q)⟩,fun z=>⟨z,hk⟩⟩,fun c hc z=>z.2 hc,⟨fun k fz us hk q u hu=>?_,fun k z=>w.lt k z.1⟩,⟨⟨e.hl,nl⟩,fun _=>⟨fun z=>z.2 (List.mem_cons_self ..),rfl,_,e1⟩,fun z=>absurd rfl z,by simp⟩⟩
 by_cases hg : h.g k
 · have hx : k ∈ l :: cs:=Classical.byContradiction fun z=>hk ⟨hg,z⟩
   rcases List.mem_cons.mp hx with rfl | hx
   · rw [e1] at q; cases q
     obtain ⟨c,hc,rfl⟩:=List.mem_map.mp hu
     exact .loc (e.lt c (List.mem_cons_of_mem _ hc)) fun z=>z.2 hc
   · exact absurd hg (e2 k hx).2.1
 · exact (w.av k fz us hg q u hu).imp fun _ _ z=>z.1
theorem FrN.down {h : Hd} {st st' : Sto} {h' : Hd} {u : U} {d : T} (w : Wf h st) (g : Gr h st h' st') (f : FrN 2 st h' st' u d) : ∃ h'',Gr h st h'' st' ∧ FrN 1 st h'' st' u d:=by
 obtain ⟨r,l,cs,rfl,e,n⟩:=f
 obtain ⟨h2,a1,a2,a3,_,w2,e2⟩:=Ent.down g.wf e
 have out : ∀ k,h.h k → k ∉ l :: cs:=fun k z q=>absurd (w.lt k z) (Nat.not_lt.mpr (n k q))
 exact ⟨h2,⟨g.pre,fun k z=>(a3 k (out k z)).1 (g.hm k z),fun k z=>(a3 k (out k (h.sub k z))).2 (g.gm k z),fun k hk z=>g.hn k hk (a1 k z),fun k hk z=>g.gn k hk (a2 k z),w2⟩,r,l,[],rfl,e2,fun k hk=>n k (by rw [List.mem_singleton] at hk; subst hk; exact List.mem_cons_self ..)⟩
theorem FrR.n {lv : Nat} {st : Sto} {h' : Hd} {st' : Sto} {u : U} {d : T} (f : FrR lv st h' st' u d) (h1 : lv ≠ 0) (h2 : isL d = true) : FrN lv st h' st' u d:=by
 unfold FrR at f
 rw [if_neg (by rw [h2]; simp [h1])] at f
 exact f
theorem FrN.r {lv : Nat} {st : Sto} {h' : Hd} {st' : Sto} {u : U} {d : T} (f : FrN lv st h' st' u d) (h1 : lv ≠ 0) (h2 : isL d = true) : FrR lv st h' st' u d:=by
 unfold FrR
 rw [if_neg (by rw [h2]; simp [h1])]
 exact f
theorem Gr.frn {lv : Nat} {h h1 h2 : Hd} {st st1 st2 : Sto} {u : U} {d : T} (g : Gr h st h1 st1) (f : FrN lv st1 h2 st2 u d) : FrN lv st h2 st2 u d:=by
 obtain ⟨r,l,cs,e1,e,n⟩:=f
 exact ⟨r,l,cs,e1,e,fun k hk=>Nat.le_trans g.pre.length_le (n k hk)⟩
section
variable {Φ : Fn} {Ψ : FnT} {μ : Nat → Md} (HP : ∀ f,Pure (μ f) (Φ f) (Ψ f))
include HP
theorem gN1 : ∀ (e : E) {h : Hd} {ρ : Env} {τ : aB} {own : Own} {st : Sto},WE h st ρ τ own → Wf h st → (∀ i lv,(i,lv) ∈ own → gts μ i lv 0 e = false) → 1 ≤ cm μ e → ∀ ds,yE Ψ e τ = .ok (.lst ds) →
   ∃ u st' h',xE Φ e ρ st = .ok u st' ∧ Gr h st h' st' ∧ FrN 1 st h' st' u (.lst ds):=by
 intro e h ρ τ own st w wf hg hf ds hy
 have fin : ∀ {st1 : Sto} {h1 : Hd} {us : List U},Gr h st h1 st1 → PXs 0 h1 st1 us ds → xE Φ e ρ st = new st1 us → ∃ u st' h',xE Φ e ρ st = .ok u st' ∧ Gr h st h' st' ∧ FrN 1 st h' st' u (.lst ds):=fun {st1 h1 us} g p e=>by
   obtain ⟨h2,g2,f2⟩:=Dq g.wf p
   exact ⟨_,_,h2,e,g.trans g2,g.frn f2⟩
 cases e with
 | lst es=>
   simp only [yE,Ou.bA] at hy
   obtain ⟨xs,h1,h2⟩:=hy
   split at h2
   · rename_i hl
     cases h2
     obtain ⟨us,st1,hh,e1,g1,r1⟩:=(gEs HP es 0 w wf fun i lv hi=>(by simpa only [gts] using hg i lv hi)).inv h1
     refine fin g1 r1 ?_
     simp only [xE,e1,Rs.aa]
     rw [r1.1.length,if_pos hl]
   · cases h2
 | comp caps t it ifs elt=>
   simp only [yE,Ou.bA] at hy
   obtain ⟨xs,h1,h2⟩:=hy
   split at h2
   · rename_i hl
     have hc : ∀ i lv,(i,lv) ∈ own → some i ∉ caps:=fun i lv hi z=>by
       have:=(bB (by simpa only [gts] using hg i lv hi)).1
       rw [List.contains_iff_mem.mpr z] at this
       cases this
     obtain ⟨q,st1,hh1,e1,g1,hq⟩:=(gIt HP it 1 (Nat.le_refl 1) w wf fun i lv hi=>(bB (by simpa only [gts] using hg i lv hi)).2).inv h1
     have g:=sg (vN (t:=t) ((w.gr g1).cap hc) (fun w' wf'=>gIf HP ifs w' wf' fun _ _ z=>nomatch z) fun w' wf'=>gE HP elt 0 w' wf' fun _ _ z=>nomatch z) g1.wf hq.2
     generalize hz : ei _ xs = z at h2 g
     cases z with
     | bad=>cases h2
     | exc c=>cases h2
     | ok ys=>
       simp only [Ou.aa,Ou.fu,Ou.ok.injEq,T.lst.injEq] at h2
       subst h2
       obtain ⟨us,st2,hh2,e2,g2,r2⟩:=g
       refine fin (g1.trans g2) r2 ?_
       simp only [xE,e1,Rs.aa]
       rw [hq.2.len,if_pos hl]
       exact congrArg (fun z : Rs (List U)=>(z.bind fun ys st2=>new st2 ys).noX) e2
   · cases h2
 | sl a c d=>
   simp only [yE,Ou.bA] at hy
   obtain ⟨x',h1,y',h2,h3⟩:=hy
   obtain ⟨x,st1,hh1,e1,g1,hx⟩:=(gE HP a 1 w wf fun i lv hi=>(bB (bB (by simpa only [gts] using hg i lv hi)).1).1).inv h1
   obtain ⟨y,st2,hh2,e2,g2,hy⟩:=(gE HP c 2 (w.gr g1) g1.wf fun i lv hi=>(bB (bB (by simpa only [gts] using hg i lv hi)).1).2).inv h2
   split at h3
   · cases h3
   · rename_i lo hlo
     simp only [Ou.bA] at h3
     obtain ⟨v',h3,h4⟩:=h3
     obtain ⟨v,st3,hh3,e3,g3,hv⟩:=(gE HP d 2 ((w.gr g1).gr g2) g2.wf fun i lv hi=>(bB (by simpa only [gts] using hg i lv hi)).2).inv h3
     split at h4
     · cases h4
     · rename_i hi hhi
       cases x' with
       | lst xs=>
         obtain ⟨us,e4,_,p'⟩:=mH g3.wf ((hx.gr g2).gr g3)
         simp only [zSl.eq_def,Ou.ok.injEq,T.lst.injEq] at h4
         subst h4
         refine fin ((g1.trans g2).trans g3) (p'.cut lo hi) ?_
         simp only [xE,e1,e2,e3,Rs.aa,oW hy.1 c hlo,oW hv.1 d hhi,E4.eq_def,e4]
       | _=>cases h4
 | op o a c=>
   cases o <;> first | (simp [cm] at hf; done) | skip
   simp only [yE,Ou.bA] at hy
   obtain ⟨x',h1,y',h2,h3⟩:=hy
   obtain ⟨x,st1,hh1,e1,g1,hx⟩:=(gE HP a 1 w wf fun i lv hi=>(bB (by simpa only [gts] using hg i lv hi)).1).inv h1
   obtain ⟨y,st2,hh2,e2,g2,hy⟩:=(gE HP c 1 (w.gr g1) g1.wf fun i lv hi=>(bB (by simpa only [gts] using hg i lv hi)).2).inv h2
   cases x' with
   | lst xs=>
     cases y' with
     | lst ys=>
       obtain ⟨us,c1,r1⟩:=iC g2.wf (hx.gr g2)
       obtain ⟨vs,c2,r2⟩:=iC g2.wf hy
       simp only [z2.eq_def] at h3
       split at h3
       · rename_i hl
         cases h3
         refine fin (g1.trans g2) (r1.append r2) ?_
         simp only [xE,e1,e2,Rs.aa,yR c1 c2]
         rw [r1.1.length,r2.1.length,if_pos hl]
       · cases h3
     | _=>simp [z2.eq_def] at h3
   | int i=>
     cases y' <;> simp [z2.eq_def] at h3
   | str i=>
     cases y' <;> simp [z2.eq_def] at h3
     split at h3 <;> cases h3
   | tup i=>
     cases y' <;> simp only [z2.eq_def] at h3 <;> first | (cases h3; done) | (split at h3 <;> cases h3)
   | _=>simp [z2.eq_def] at h3
 | bi o es=>
   cases o <;> first | (simp [cm] at hf; done) | skip
   simp only [yE,Ou.bA] at hy
   obtain ⟨xs',h1,h2⟩:=hy
   obtain ⟨xs,st1,hh1,e1,g1,hx⟩:=(gEs HP es 1 w wf fun i lv hi=>(by simpa only [gts] using hg i lv hi)).inv h1
   match xs',hx,h2 with
   | [a],⟨.cons (u:=x) r .nil,hp⟩,h2=>
     have px : PX 1 hh1 st1 x a:=⟨r,hp x (List.mem_singleton_self x)⟩
     cases a with
     | lst ys=>
       obtain ⟨vs,e3,e4,p'⟩:=mH g1.wf px
       simp only [zB.eq_def,Ou.ok.injEq,T.lst.injEq] at h2
       subst h2
       refine fin g1 p' ?_
       simp only [xE,e1,Rs.aa]
       simp only [evB.eq_def,e4]
     | tup ys=>
       obtain ⟨vs,rfl,p'⟩:=ia (k':=0) px
       simp only [zB.eq_def,Ou.ok.injEq,T.lst.injEq] at h2
       subst h2
       refine fin g1 p' ?_
       simp only [xE,e1,Rs.aa]
       simp only [evB.eq_def,seq?]
     | _=>cases h2
   | [],_,h2=>cases h2
   | a :: b :: r,_,h2=>cases a <;> cases h2
 | call f es=>
   simp only [yE,Ou.bA] at hy
   obtain ⟨xs',h1,h2⟩:=hy
   obtain ⟨xs,st1,hh1,e1,g1,u,st2,hh2,e2,g2,f2⟩ : ∃ xs st1 hh1,xEs Φ es ρ st = .ok xs st1 ∧ Gr h st hh1 st1 ∧ ∃ u st2 hh2,Φ f xs st1 = .ok u st2 ∧ Gr hh1 st1 hh2 st2 ∧ FrR (μ f).lv st1 hh2 st2 u (.lst ds):=by
     cases hs : (μ f).sc with
     | false=>
       obtain ⟨xs,st1,hh1,e1,g1,hx⟩:=(gEs HP es 0 w wf fun i lv hi=>(by simpa only [gts,hs,Bool.false_eq_true,if_false] using hg i lv hi)).inv h1
       obtain ⟨u,st2,hh2,e2,g2,f2⟩:=((HP f).2 hh1 st1 xs xs' g1.wf hx).inv h2
       exact ⟨xs,st1,hh1,e1,g1,u,st2,hh2,e2,g2,f2⟩
     | true=>
       obtain ⟨xs,st1,hh1,e1,g1,hx⟩:=(gEs HP es 2 w wf fun i lv hi=>(by simpa only [gts,hs,if_true] using hg i lv hi)).inv h1
       obtain ⟨u,st2,hh2,e2,g2,f2⟩:=((HP f).BV hs g1.wf hx).inv h2
       exact ⟨xs,st1,hh1,e1,g1,u,st2,hh2,e2,g2,f2⟩
   have hf : 1 ≤ (μ f).lv:=hf
   have fn:=f2.n (by omega) rfl
   have hE : xE Φ (.call f es) ρ st = .ok u st2:=by simp only [xE,e1,Rs.aa,e2]
   have sY : (μ f).lv = 1 ∨ (μ f).lv = 2:=by
     obtain ⟨_,l,cs,_,e,_⟩:=fn
     by_cases z : (μ f).lv = 1
     · exact .inl z
     · exact .inr (e.two z).1
   rcases sY with z | z
   · rw [z] at fn
     exact ⟨u,st2,hh2,hE,g1.trans g2,g1.frn fn⟩
   · rw [z] at fn
     obtain ⟨h3,g3,f3⟩:=fn.down g1.wf g2
     exact ⟨u,st2,h3,hE,g1.trans g3,g1.frn f3⟩
 | _=>simp [cm] at hf
theorem gN2 (e : E) {h : Hd} {ρ : Env} {τ : aB} {own : Own} {st : Sto} (w : WE h st ρ τ own) (wf : Wf h st) (hg : ∀ i lv,(i,lv) ∈ own → gts μ i lv 0 e = false) (hf : 2 ≤ cm μ e) (ds : List T) (hy : yE Ψ e τ = .ok (.lst ds)) (ha : ds.all isL = true) :
   ∃ u st' h',xE Φ e ρ st = .ok u st' ∧ Gr h st h' st' ∧ FrN 2 st h' st' u (.lst ds):=by
 cases e with
 | comp caps t it ifs elt=>
   have hfe : 1 ≤ cm μ elt:=by
     simp only [cm] at hf
     split at hf
     · omega
     · omega
   simp only [yE,Ou.bA] at hy
   obtain ⟨xs,h1,h2⟩:=hy
   split at h2
   · rename_i hl
     have hc : ∀ i lv,(i,lv) ∈ own → some i ∉ caps:=fun i lv hi z=>by
       have:=(bB (by simpa only [gts] using hg i lv hi)).1
       rw [List.contains_iff_mem.mpr z] at this
       cases this
     obtain ⟨q,st1,hh1,e1,g1,hq⟩:=(gIt HP it 1 (Nat.le_refl 1) w wf fun i lv hi=>(bB (by simpa only [gts] using hg i lv hi)).2).inv h1
     generalize hgf : (fun x=>match aA t x (eT τ caps ++ [none]) with
         | none=>(Ou.bad : Ou (Option T))
         | some τ1=>(yIf Ψ ifs τ1).bind fun b=>if b then (yE Ψ elt τ1).bind fun y=>.ok (some y) else .ok none) = gf at h2
     cases hz : ei gf xs with
     | bad=>rw [hz] at h2; cases h2
     | exc c=>rw [hz] at h2; cases h2
     | ok ys=>
       rw [hz] at h2
       simp only [Ou.aa,Ou.fu,Ou.ok.injEq,T.lst.injEq] at h2
       subst h2
       have wc:=(w.gr g1).cap hc
       obtain ⟨cs,st2,h2,e2,g2,r2,n2,c2⟩:=p7 (f:=fun x st=>match hZ t x (ki ρ caps ++ [none]) with
         | none=>.bad
         | some ρ1=>(xIf Φ ifs ρ1 st).bind fun b st2=>if b then (xE Φ elt ρ1 st2).bind fun y st3=>.ok (some y) st3 else .ok none st2) (g:=gf) (fun u x st' h' o' g px hgx hil=>by
           subst hgf
           dsimp only at hgx
           cases z : aA t x (eT τ caps ++ [none]) with
           | none=>rw [z] at hgx; cases hgx
           | some τ1=>
             rw [z] at hgx
             simp only [Ou.bA] at hgx
             obtain ⟨b,hb,hgx⟩:=hgx
             obtain ⟨ρ1,f1,w1⟩:=va (wc.gr g) px z
             obtain ⟨b',st3,h3,f3,g3,hbb⟩:=(gIf HP ifs w1 g.wf fun _ _ z=>nomatch z).inv hb
             have hbb : b' = b:=hbb
             subst hbb
             cases b' with
             | false=>
               simp only [Bool.false_eq_true,if_false] at hgx
               cases hgx
               exact ⟨none,st3,h3,by simp only [f1,f3,Rs.aa]; rfl,g3,trivial⟩
             | true=>
               simp only [if_true,Ou.bA] at hgx
               obtain ⟨y,hy',hgx⟩:=hgx
               cases hgx
               have hyl:=hil y rfl
               cases y with
               | lst zs=>
                 obtain ⟨v,st4,h4,f4,g4,fn⟩:=gN1 HP elt (w1.gr g3) g3.wf (fun _ _ z=>nomatch z) hfe zs hy'
                 refine ⟨some v,st4,h4,by simp only [f1,f3,f4,Rs.aa,if_true],g3.trans g4,fn.1,?_⟩
                 obtain ⟨_,l,cs,rfl,en,nl⟩:=fn
                 obtain ⟨a1,_,a3⟩:=en.one rfl
                 exact ⟨l,rfl,Nat.le_trans g3.pre.length_le (nl l (List.mem_cons_self ..)),en.hl,a1,a3⟩
               | _=>cases hyl) (xs.length + 1) 0 st1 hh1 ys (.refl g1.wf) hq.2 (Nat.zero_le _) (Nat.zero_add _) (by rw [List.drop_zero]; exact hz) ha
       obtain ⟨h3,g3,f3⟩:=Ao (st0:=st1) g2.wf r2 n2 g2.pre.length_le c2
       refine ⟨_,_,h3,?_,(g1.trans g2).trans g3,g1.frn f3⟩
       simp only [xE,e1,Rs.aa]
       rw [hq.2.len,if_pos hl]
       exact congrArg (fun z : Rs (List U)=>(z.bind fun ys st2=>new st2 ys).noX) e2
   · cases h2
 | call f es=>
   simp only [yE,Ou.bA] at hy
   obtain ⟨xs',h1,h2⟩:=hy
   obtain ⟨xs,st1,hh1,e1,g1,u,st2,hh2,e2,g2,f2⟩ : ∃ xs st1 hh1,xEs Φ es ρ st = .ok xs st1 ∧ Gr h st hh1 st1 ∧ ∃ u st2 hh2,Φ f xs st1 = .ok u st2 ∧ Gr hh1 st1 hh2 st2 ∧ FrR (μ f).lv st1 hh2 st2 u (.lst ds):=by
     cases hs : (μ f).sc with
     | false=>
       obtain ⟨xs,st1,hh1,e1,g1,hx⟩:=(gEs HP es 0 w wf fun i lv hi=>(by simpa only [gts,hs,Bool.false_eq_true,if_false] using hg i lv hi)).inv h1
       obtain ⟨u,st2,hh2,e2,g2,f2⟩:=((HP f).2 hh1 st1 xs xs' g1.wf hx).inv h2
       exact ⟨xs,st1,hh1,e1,g1,u,st2,hh2,e2,g2,f2⟩
     | true=>
       obtain ⟨xs,st1,hh1,e1,g1,hx⟩:=(gEs HP es 2 w wf fun i lv hi=>(by simpa only [gts,hs,if_true] using hg i lv hi)).inv h1
       obtain ⟨u,st2,hh2,e2,g2,f2⟩:=((HP f).BV hs g1.wf hx).inv h2
       exact ⟨xs,st1,hh1,e1,g1,u,st2,hh2,e2,g2,f2⟩
   have hf : 2 ≤ (μ f).lv:=hf
   have fn:=f2.n (by omega) rfl
   have hE : xE Φ (.call f es) ρ st = .ok u st2:=by simp only [xE,e1,Rs.aa,e2]
   have lv2 : (μ f).lv = 2:=by
     obtain ⟨_,l,cs,_,e,_⟩:=fn
     exact (e.two (by omega)).1
   rw [lv2] at fn
   exact ⟨u,st2,hh2,hE,g1.trans g2,g1.frn fn⟩
 | op o a c=>cases o <;> simp [cm] at hf
 | bi o es=>cases o <;> simp [cm] at hf
 | _=>simp [cm] at hf
end
end Sv
namespace Sv
open PySem PySem.Spec L2
open Ev (D aQ aU ai)
structure En where
 i : Nat
 l : Nat
 lv : Nat
 cs : List Nat
noncomputable def En.ft (e : En) : List Nat:=e.l :: e.cs
noncomputable def foot (F : List En) : List Nat:=F.flatMap En.ft
noncomputable def aX (F : List En) : Own:=F.map fun e=>(e.i,e.lv)
structure WS (P : Nat → Prop) (h0 : Hd) (n0 : Nat) (H : Hd) (st : Sto) (ρ : Env) (τ : aB) (F : List En) : Prop where
 len : ρ.length = τ.length
 val : ∀ (i : Nat) d,τ[i]? = some (some d) → ∃ u,ρ[i]? = some (some u) ∧ Rep st u d ∧ ((∀ e ∈ F,e.i ≠ i) → Av H st.length u)
 wf : Wf H st
 ent : ∀ e ∈ F,ρ[e.i]? = some (some (.loc e.l)) ∧ Ent H st e.l e.cs e.lv ∧ ∀ k ∈ e.ft,¬ P k
 nd : (foot F).Nodup
 nv : (F.map (·.i)).Nodup
 bh : ∀ k,h0.h k → H.h k ∧ P k
 bg : ∀ k,h0.g k → H.g k
 oh : ∀ k,H.h k → h0.h k ∨ k ∈ foot F ∨ n0 ≤ k
 og : ∀ k,H.g k → h0.g k ∨ k ∈ foot F ∨ n0 ≤ k
 pl : ∀ k,P k → k < n0
 nl : n0 ≤ st.length
structure Stp (P : Nat → Prop) (H : Hd) (st : Sto) (H' : Hd) (st' : Sto) : Prop where
 len : st.length ≤ st'.length
 lo : ∀ k,P k → st'[k]? = st[k]?
 keep : ∀ (k : Nat) c,¬ H.h k → st[k]? = some c → st'[k]? = some c
 hid : ∀ k,k < st.length → H'.h k → H.h k
 gid : ∀ k,k < st.length → H'.g k → H.g k
theorem Stp.refl {P : Nat → Prop} {H : Hd} {st : Sto} : Stp P H st H st:=⟨Nat.le_refl _,fun _ _=>rfl,fun _ _ _ h=>h,fun _ _ h=>h,fun _ _ h=>h⟩
theorem Stp.trans {P : Nat → Prop} {H H1 H2 : Hd} {st st1 st2 : Sto} (x : Stp P H st H1 st1) (y : Stp P H1 st1 H2 st2) : Stp P H st H2 st2:=
 ⟨Nat.le_trans x.len y.len,fun k hk=>(y.lo k hk).trans (x.lo k hk),fun k c hn e=>y.keep k c (fun z=>hn (x.hid k (List.getElem?_eq_some_iff.mp e).1 z)) (x.keep k c hn e),
   fun k hk z=>x.hid k hk (y.hid k (Nat.lt_of_lt_of_le hk x.len) z),fun k hk z=>x.gid k hk (y.gid k (Nat.lt_of_lt_of_le hk x.len) z)⟩
structure Fin (P : Nat → Prop) (h0 : Hd) (n0 : Nat) (st : Sto) (H' : Hd) (st' : Sto) : Prop where
 len : st.length ≤ st'.length
 lo : ∀ k,P k → st'[k]? = st[k]?
 wf : Wf H' st'
 hm : ∀ k,h0.h k → H'.h k
 gm : ∀ k,h0.g k → H'.g k
 hn : ∀ k,k < n0 → H'.h k → h0.h k
 gn : ∀ k,k < n0 → H'.g k → h0.g k
theorem bH {F : List En} {k : Nat} : k ∈ foot F ↔ ∃ e ∈ F,k ∈ e.ft:=by unfold foot; exact List.mem_flatMap
theorem gC (e : En) (F : List En) : foot (e :: F) = e.ft ++ foot F:=rfl
theorem iz (F G : List En) : foot (F ++ G) = foot F ++ foot G:=by unfold foot; exact List.flatMap_append
theorem mem_mid {α : Type} {F1 F2 : List α} {e x : α} (h : x ∈ F1 ++ F2) : x ∈ F1 ++ e :: F2:=by
 rcases List.mem_append.mp h with h | h
 · exact List.mem_append_left _ h
 · exact List.mem_append_right _ (List.mem_cons_of_mem _ h)
theorem cC {α : Type} {F1 F2 : List α} {e x : α} (h : x ∈ F1 ++ e :: F2) : x = e ∨ x ∈ F1 ++ F2:=by
 rcases List.mem_append.mp h with h | h
 · exact .inr (List.mem_append_left _ h)
 · rcases List.mem_cons.mp h with h | h
   · exact .inl h
   · exact .inr (List.mem_append_right _ h)
theorem iM {F1 F2 : List En} {e e' : En} (nd : (foot (F1 ++ e :: F2)).Nodup) (h : e' ∈ F1 ++ F2) {k : Nat} (h1 : k ∈ e.ft) (h2 : k ∈ e'.ft) : False:=by
 rw [iz,gC] at nd
 obtain ⟨_,n2,n3⟩:=List.nodup_append.mp nd
 obtain ⟨_,_,n6⟩:=List.nodup_append.mp n2
 rcases List.mem_append.mp h with h | h
 · exact n3 k (bH.mpr ⟨e',h,h2⟩) k (List.mem_append_left _ h1) rfl
 · exact n6 k h1 k (bH.mpr ⟨e',h,h2⟩) rfl
theorem BH {F1 F2 : List En} {e : En} (nd : (foot (F1 ++ e :: F2)).Nodup) : (foot (F1 ++ F2)).Nodup:=by
 rw [iz,gC] at nd
 rw [iz]
 obtain ⟨n1,n2,n3⟩:=List.nodup_append.mp nd
 obtain ⟨_,n5,_⟩:=List.nodup_append.mp n2
 exact List.nodup_append.mpr ⟨n1,n5,fun a ha b hb=>n3 a ha b (List.mem_append_right _ hb)⟩
theorem tF {F1 F2 : List En} {e : En} (nv : ((F1 ++ e :: F2).map (·.i)).Nodup) : ((F1 ++ F2).map (·.i)).Nodup ∧ ∀ e' ∈ F1 ++ F2,e'.i ≠ e.i:=by
 rw [List.map_append,List.map_cons] at nv
 obtain ⟨n1,n2,n3⟩:=List.nodup_append.mp nv
 obtain ⟨n4,n5⟩:=List.nodup_cons.mp n2
 refine ⟨?_,fun e' he z=>?_⟩
 · rw [List.map_append]
   exact List.nodup_append.mpr ⟨n1,n5,fun a ha b hb=>n3 a ha b (List.mem_cons_of_mem _ hb)⟩
 · rcases List.mem_append.mp he with h | h
   · exact n3 _ (List.mem_map_of_mem h) _ (List.mem_cons_self ..) z
   · exact n4 (z ▸ List.mem_map_of_mem (f:=(·.i)) h)
theorem Ent.gr {h h' : Hd} {st st' : Sto} {l : Nat} {cs : List Nat} {lv : Nat} (e : Ent h st l cs lv) (g : Gr h st h' st') : Ent h' st' l cs lv:=by
 refine ⟨g.hm l e.hl,fun z=>?_,fun z=>?_,e.nd⟩
 · obtain ⟨a,b,us,c⟩:=e.one z
   exact ⟨fun q=>a (g.gn l (List.getElem?_eq_some_iff.mp c).1 q),b,us,gg g.pre _ _ c⟩
 · obtain ⟨a,b,c,d⟩:=e.two z
   exact ⟨a,g.gm l b,gg g.pre _ _ c,fun k hk=>g.Kf (d k hk)⟩
theorem Ent.hd {h h' : Hd} {st st' : Sto} {l : Nat} {cs : List Nat} {lv : Nat} (e : Ent h st l cs lv) (eh : ∀ k ∈ l :: cs,(h.h k → h'.h k) ∧ (h.g k → h'.g k) ∧ (h'.g k → h.g k) ∧ st'[k]? = st[k]?) : Ent h' st' l cs lv:=by
 have e0:=eh l (List.mem_cons_self ..)
 refine ⟨e0.1 e.hl,fun z=>?_,fun z=>?_,e.nd⟩
 · obtain ⟨a,b,us,c⟩:=e.one z
   exact ⟨fun q=>a (e0.2.2.1 q),b,us,e0.2.2.2.trans c⟩
 · obtain ⟨a,b,c,d⟩:=e.two z
   refine ⟨a,e0.2.1 b,e0.2.2.2.trans c,fun k hk=>?_⟩
   obtain ⟨d1,d2,ws,d3⟩:=d k hk
   have ek:=eh k (List.mem_cons_of_mem _ hk)
   exact ⟨ek.1 d1,fun q=>d2 (ek.2.2.1 q),ws,ek.2.2.2.trans d3⟩
section
variable {P : Nat → Prop} {h0 H : Hd} {n0 : Nat} {st : Sto} {ρ : Env} {τ : aB} {F F1 F2 : List En}
theorem WS.we (w : WS P h0 n0 H st ρ τ F) : WE H st ρ τ (aX F):=by
 refine ⟨w.len,fun i d e=>?_⟩
 obtain ⟨u,e1,r,a⟩:=w.val i d e
 refine ⟨u,e1,r,?_⟩
 by_cases hx : ∃ en ∈ F,en.i = i
 · obtain ⟨en,hen,rfl⟩:=hx
   obtain ⟨e2,e3,_⟩:=w.ent en hen
   rw [e1] at e2
   have : u = .loc en.l:=by simpa using e2
   subst this
   refine .inr ⟨en.lv,List.mem_map.mpr ⟨en,hen,rfl⟩,?_⟩
   by_cases z : en.lv = 1
   · obtain ⟨a1,_,us,a3⟩:=e3.one z
     exact .inr (.inl ⟨by omega,en.l,rfl,(List.getElem?_eq_some_iff.mp a3).1,a1⟩)
   · obtain ⟨a1,_,a3,a4⟩:=e3.two z
     refine .inr (.inr ⟨by omega,en.l,rfl,false,_,a3,fun v hv=>?_⟩)
     obtain ⟨c,hc,rfl⟩:=List.mem_map.mp hv
     exact ⟨c,rfl,e3.lt c (List.mem_cons_of_mem _ hc),(a4 c hc).2.1⟩
 · exact .inl (a fun e he z=>hx ⟨e,he,z⟩)
theorem WS.gr (w : WS P h0 n0 H st ρ τ F) {H' : Hd} {st' : Sto} (g : Gr H st H' st') : WS P h0 n0 H' st' ρ τ F ∧ Stp P H st H' st':=by
 have out : ∀ k,H'.h k → H.h k ∨ n0 ≤ k:=fun k z=>by
   rcases Nat.lt_or_ge k st.length with q | q
   · exact .inl (g.hn k q z)
   · exact .inr (Nat.le_trans w.nl q)
 have outg : ∀ k,H'.g k → H.g k ∨ n0 ≤ k:=fun k z=>by
   rcases Nat.lt_or_ge k st.length with q | q
   · exact .inl (g.gn k q z)
   · exact .inr (Nat.le_trans w.nl q)
 refine ⟨⟨w.len,fun i d e=>let ⟨u,e1,r,a⟩:=w.val i d e; ⟨u,e1,r.ext g.pre,fun z=>g.av (a z)⟩,g.wf,fun e he=>let ⟨a,b,c⟩:=w.ent e he; ⟨a,b.gr g,c⟩,w.nd,w.nv,fun k z=>⟨g.hm k (w.bh k z).1,(w.bh k z).2⟩,fun k z=>g.gm k (w.bg k z),
   fun k z=>(out k z).elim (w.oh k) fun q=>.inr (.inr q),fun k z=>(outg k z).elim (w.og k) fun q=>.inr (.inr q),w.pl,Nat.le_trans w.nl g.pre.length_le⟩,
   ⟨g.pre.length_le,fun k hk=>?_,fun k c _ e=>gg g.pre k c e,g.hn,g.gn⟩⟩
 obtain ⟨r,rfl⟩:=g.pre
 exact List.getElem?_append_left (Nat.lt_of_lt_of_le (w.pl k hk) w.nl)
theorem WS.drop {e : En} (w : WS P h0 n0 H st ρ τ (F1 ++ e :: F2)) : ∃ H',WS P h0 n0 H' st ρ τ (F1 ++ F2) ∧ Stp P H st H' st:=by
 have he : e ∈ F1 ++ e :: F2:=List.mem_append_right _ (List.mem_cons_self ..)
 obtain ⟨a1,a2,a3⟩:=w.ent e he
 obtain ⟨w1,av1⟩:=w.wf.less a2
 obtain ⟨nv1,nv2⟩:=tF w.nv
 have nY : ∀ k,P k → k ∉ e.l :: e.cs:=fun k hk z=>a3 k z hk
 refine ⟨H.less fun k=>k ∈ e.l :: e.cs,⟨w.len,fun i d q=>?_,w1,fun e' he'=>?_,BH w.nd,nv1,fun k z=>⟨⟨(w.bh k z).1,nY k (w.bh k z).2⟩,(w.bh k z).2⟩,fun k z=>⟨w.bg k z,nY k (w.bh k (h0.sub k z)).2⟩,fun k z=>?_,fun k z=>?_,w.pl,w.nl⟩,⟨Nat.le_refl _,fun _ _=>rfl,fun _ _ _ h=>h,fun k _ z=>z.1,fun k _ z=>z.1⟩⟩
 · obtain ⟨u,e1,r,a⟩:=w.val i d q
   refine ⟨u,e1,r,fun hn=>?_⟩
   by_cases z : e.i = i
   · subst z
     rw [a1] at e1
     have : u = .loc e.l:=by simpa using e1.symm
     subst this
     exact av1
   · refine (a fun e' he'=>?_).less
     rcases cC he' with rfl | he'
     · exact z
     · exact hn e' he'
 · obtain ⟨b1,b2,b3⟩:=w.ent e' (mem_mid he')
   have ap : ∀ k ∈ e'.l :: e'.cs,k ∉ e.l :: e.cs:=fun k hk z=>iM w.nd he' z hk
   exact ⟨b1,b2.hd fun k hk=>⟨fun z=>⟨z,ap k hk⟩,fun z=>⟨z,ap k hk⟩,fun z=>z.1,rfl⟩,b3⟩
 · rcases w.oh k z.1 with q | q | q
   · exact .inl q
   · obtain ⟨e',he',hk⟩:=bH.mp q
     rcases cC he' with rfl | he'
     · exact absurd hk z.2
     · exact .inr (.inl (bH.mpr ⟨e',he',hk⟩))
   · exact .inr (.inr q)
 · rcases w.og k z.1 with q | q | q
   · exact .inl q
   · obtain ⟨e',he',hk⟩:=bH.mp q
     rcases cC he' with rfl | he'
     · exact absurd hk z.2
     · exact .inr (.inl (bH.mpr ⟨e',he',hk⟩))
   · exact .inr (.inr q)
theorem WS.down {i l : Nat} {cs : List Nat} (w : WS P h0 n0 H st ρ τ (F1 ++ ⟨i,l,2,cs⟩ :: F2)) : ∃ H',WS P h0 n0 H' st ρ τ (F1 ++ ⟨i,l,1,[]⟩ :: F2) ∧ Stp P H st H' st:=by
 have he : (⟨i,l,2,cs⟩ : En) ∈ F1 ++ ⟨i,l,2,cs⟩ :: F2:=List.mem_append_right _ (List.mem_cons_self ..)
 obtain ⟨a1,a2,a3⟩:=w.ent _ he
 obtain ⟨H',b1,b2,b3,b4,b5,b6⟩:=Ent.down w.wf a2
 obtain ⟨nv1,nv2⟩:=tF w.nv
 have nY : ∀ k,P k → k ∉ l :: cs:=fun k hk z=>a3 k z hk
 have cases' : ∀ {e'},e' ∈ F1 ++ (⟨i,l,1,[]⟩ : En) :: F2 → e' = ⟨i,l,1,[]⟩ ∨ e' ∈ F1 ++ F2:=fun h=>cC h
 have nd' : (foot (F1 ++ ⟨i,l,1,[]⟩ :: F2)).Nodup:=by
   have nd:=w.nd
   rw [iz,gC] at nd ⊢
   obtain ⟨n1,n2,n3⟩:=List.nodup_append.mp nd
   obtain ⟨n4,n5,n6⟩:=List.nodup_append.mp n2
   refine List.nodup_append.mpr ⟨n1,List.nodup_append.mpr ⟨by simp [En.ft],n5,fun a ha b hb=>n6 a ?_ b hb⟩,fun a ha b hb=>n3 a ha b ?_⟩
   · have : a = l:=by simpa [En.ft] using ha
     subst this; exact List.mem_cons_self ..
   · rcases List.mem_append.mp hb with hb | hb
     · have : b = l:=by simpa [En.ft] using hb
       subst this; exact List.mem_append_left _ (List.mem_cons_self ..)
     · exact List.mem_append_right _ hb
 have nvv : ((F1 ++ (⟨i,l,1,[]⟩ : En) :: F2).map (·.i)).Nodup:=by
   have:=w.nv
   rw [List.map_append,List.map_cons] at this ⊢
   exact this
 refine ⟨H',⟨w.len,fun j d q=>?_,b5,fun e' he'=>?_,nd',nvv,fun k z=>⟨(b3 k (nY k (w.bh k z).2)).1 (w.bh k z).1,(w.bh k z).2⟩,fun k z=>(b3 k (nY k (w.bh k (h0.sub k z)).2)).2 (w.bg k z),fun k z=>?_,fun k z=>?_,w.pl,w.nl⟩,⟨Nat.le_refl _,fun _ _=>rfl,fun _ _ _ h=>h,fun k _ z=>b1 k z,fun k _ z=>b2 k z⟩⟩
 · obtain ⟨u,e1,r,a⟩:=w.val j d q
   refine ⟨u,e1,r,fun hn=>(a fun e' he'=>?_).imp fun k _ z=>b1 k z⟩
   rcases cC he' with rfl | he'
   · exact hn ⟨i,l,1,[]⟩ (List.mem_append_right _ (List.mem_cons_self ..))
   · exact hn e' (mem_mid he')
 · rcases cases' he' with rfl | he'
   · exact ⟨a1,b6,fun k hk=>a3 k (by rw [En.ft,List.mem_singleton] at hk; subst hk; exact List.mem_cons_self ..)⟩
   · obtain ⟨c1,c2,c3⟩:=w.ent e' (mem_mid he')
     have ap : ∀ k ∈ e'.l :: e'.cs,k ∉ l :: cs:=fun k hk z=>iM w.nd he' z hk
     exact ⟨c1,c2.hd fun k hk=>⟨(b3 k (ap k hk)).1,(b3 k (ap k hk)).2,b2 k,rfl⟩,c3⟩
 · rcases w.oh k (b1 k z) with q | q | q
   · exact .inl q
   · obtain ⟨e',he',hk⟩:=bH.mp q
     rcases cC he' with rfl | he'
     · rcases List.mem_cons.mp hk with rfl | hk
       · exact .inr (.inl (bH.mpr ⟨⟨i,k,1,[]⟩,List.mem_append_right _ (List.mem_cons_self ..),List.mem_cons_self ..⟩))
       · exact absurd z (b4 k hk)
     · exact .inr (.inl (bH.mpr ⟨e',mem_mid he',hk⟩))
   · exact .inr (.inr q)
 · rcases w.og k (b2 k z) with q | q | q
   · exact .inl q
   · obtain ⟨e',he',hk⟩:=bH.mp q
     rcases cC he' with rfl | he'
     · rcases List.mem_cons.mp hk with rfl | hk
       · exact .inr (.inl (bH.mpr ⟨⟨i,k,1,[]⟩,List.mem_append_right _ (List.mem_cons_self ..),List.mem_cons_self ..⟩))
       · exact absurd (H'.sub k z) (b4 k hk)
     · exact .inr (.inl (bH.mpr ⟨e',mem_mid he',hk⟩))
   · exact .inr (.inr q)
theorem WS.dns (g : Nat → Nat → Bool) : ∀ (F2 F1 : List En) {H : Hd},WS P h0 n0 H st ρ τ (F1 ++ F2) → ∃ H' F',aX F' = dn g (aX F2) ∧ WS P h0 n0 H' st ρ τ (F1 ++ F') ∧ Stp P H st H' st
 | [],F1,H,w=>⟨H,[],rfl,w,.refl⟩
 | e :: F2,F1,H,w=>by
   have step : ∀ {e'},WS P h0 n0 H st ρ τ (F1 ++ e' :: F2) → ∀ {H0},Stp P H0 st H st → ∃ H' F',aX F' = (e'.i,e'.lv) :: dn g (aX F2) ∧ WS P h0 n0 H' st ρ τ (F1 ++ F') ∧ Stp P H0 st H' st:=fun {e'} w {H0} s0=>by
     rw [show F1 ++ e' :: F2 = (F1 ++ [e']) ++ F2 by simp] at w
     obtain ⟨H',F',e1,w1,s1⟩:=WS.dns g F2 (F1 ++ [e']) w
     exact ⟨H',e' :: F',by rw [← e1]; rfl,by rw [show F1 ++ e' :: F' = (F1 ++ [e']) ++ F' by simp]; exact w1,s0.trans s1⟩
   show ∃ H' F',aX F' = Sv.dn g ((e.i,e.lv) :: aX F2) ∧ _
   rw [Sv.dn]
   split
   · split
     · rename_i hz
       obtain ⟨i,l,lv,cs⟩:=e
       obtain ⟨hz,_⟩:=hz
       dsimp only at hz
       subst hz
       obtain ⟨H1,w1,s1⟩:=WS.down w
       have : ∀ {e'},WS P h0 n0 H1 st ρ τ (F1 ++ e' :: F2) → ∃ H' F',aX F' = (e'.i,e'.lv) :: Sv.dn g (aX F2) ∧ WS P h0 n0 H' st ρ τ (F1 ++ F') ∧ Stp P H st H' st:=fun {e'} w=>by
         rw [show F1 ++ e' :: F2 = (F1 ++ [e']) ++ F2 by simp] at w
         obtain ⟨H',F',e1,w1,s2⟩:=WS.dns g F2 (F1 ++ [e']) w
         exact ⟨H',e' :: F',by rw [← e1]; rfl,by rw [show F1 ++ e' :: F' = (F1 ++ [e']) ++ F' by simp]; exact w1,s1.trans s2⟩
       exact this w1
     · obtain ⟨H1,w1,s1⟩:=WS.drop w
       obtain ⟨H',F',e1,w2,s2⟩:=WS.dns g F2 F1 w1
       exact ⟨H',F',e1,w2,s1.trans s2⟩
   · exact step w .refl
theorem WS.dn0 (w : WS P h0 n0 H st ρ τ F) (g : Nat → Nat → Bool) : ∃ H' F',aX F' = Sv.dn g (aX F) ∧ WS P h0 n0 H' st ρ τ F' ∧ Stp P H st H' st:=WS.dns g F [] w
theorem Bd : ∀ (own : Own),Sv.dn (fun _ _=>true) own = []
 | []=>rfl
 | (i,lv) :: r=>by rw [Sv.dn]; simp only [if_true,Bool.true_eq_false,and_false,if_false]; exact Bd r
theorem BQ {F : List En} (h : aX F = []) : F = []:=by cases F; rfl; cases h
theorem WS.fin (w : WS P h0 n0 H st ρ τ F) : ∃ H',WS P h0 n0 H' st ρ τ [] ∧ Stp P H st H' st:=by
 obtain ⟨H',F',e,w1,s1⟩:=w.dn0 fun _ _=>true
 rw [Bd] at e
 have:=BQ e
 subst this
 exact ⟨H',w1,s1⟩
theorem WS.out (w : WS P h0 n0 H st ρ τ []) : Fin P h0 n0 st H st:=
 ⟨Nat.le_refl _,fun _ _=>rfl,w.wf,fun k z=>(w.bh k z).1,w.bg,fun k hk z=>(w.oh k z).elim id fun q=>q.elim (fun q=>nomatch q) fun q=>absurd hk (Nat.not_lt.mpr q),fun k hk z=>(w.og k z).elim id fun q=>q.elim (fun q=>nomatch q) fun q=>absurd hk (Nat.not_lt.mpr q)⟩
theorem Aq {g : Nat → Nat → Bool} : ∀ {own : Own} {i lv : Nat},(i,lv) ∈ Sv.dn g own → g i lv = false
 | [],_,_,h=>by cases h
 | (j,k) :: r,i,lv,h=>by
   rw [Sv.dn] at h
   split at h
   · split at h
     · rename_i hz
       rcases List.mem_cons.mp h with h | h
       · cases h; exact hz.2
       · exact Aq h
     · exact Aq h
   · rename_i hz
     rcases List.mem_cons.mp h with h | h
     · cases h; exact Bool.eq_false_iff.mpr hz
     · exact Aq h
end
end Sv
namespace Sv
open PySem PySem.Spec L2
open Ev (D aQ aU ai)
theorem get_set {α : Type} {xs : List (Option α)} {i j : Nat} {x y : α} (h : (xs.set i (some x))[j]? = some (some y)) : (i = j ∧ y = x) ∨ (i ≠ j ∧ xs[j]? = some (some y)):=by
 by_cases z : i = j
 · subst z
   by_cases hl : i < xs.length
   · rw [List.getElem?_set_self hl] at h
     cases h
     exact .inl ⟨rfl,rfl⟩
   · rw [List.getElem?_eq_none (by rw [List.length_set]; omega)] at h; cases h
 · rw [List.getElem?_set_ne z] at h
   exact .inr ⟨z,h⟩
theorem get_none {α : Type} {xs : List (Option α)} {i j : Nat} {y : α} (h : (xs.set i none)[j]? = some (some y)) : i ≠ j ∧ xs[j]? = some (some y):=by
 by_cases z : i = j
 · subst z
   by_cases hl : i < xs.length
   · rw [List.getElem?_set_self hl] at h; cases h
   · rw [List.getElem?_eq_none (by rw [List.length_set]; omega)] at h; cases h
 · rw [List.getElem?_set_ne z] at h
   exact ⟨z,h⟩
theorem nin {X : List Nat} {m k : Nat} (hm : m ∈ X) (hk : k ∉ X) : m ≠ k:=fun z=>by subst z; exact hk hm
theorem nip {P : Nat → Prop} {m k : Nat} (hm : ¬ P m) (hk : P k) : m ≠ k:=fun z=>by subst z; exact hm hk
theorem aK.mk {st : Sto} : ∀ {us : List U} {ds : List T},us.length = ds.length → (∀ (j : Nat) u d,us[j]? = some u → ds[j]? = some d → Rep st u d) → aK st us ds
 | [],[],_,_=>.nil
 | u :: us,d :: ds,hl,h=>.cons (h 0 u d rfl rfl) (aK.mk (by simpa using hl) fun j u' d' e1 e2=>h (j + 1) u' d' (by simpa using e1) (by simpa using e2))
 | [],_ :: _,hl,_=>by simp at hl
 | _ :: _,[],hl,_=>by simp at hl
section
variable {P : Nat → Prop} {h0 H : Hd} {n0 : Nat} {st : Sto} {ρ : Env} {τ : aB} {F F1 F2 : List En}
theorem WS.set (w : WS P h0 n0 H st ρ τ F) {i : Nat} {u : U} {d : T} (hi : ∀ e ∈ F,e.i ≠ i) (p : PX 0 H st u d) : WS P h0 n0 H st (ρ.set i (some u)) (τ.set i (some d)) F:=by
 refine ⟨by rw [List.length_set,List.length_set]; exact w.len,fun j e q=>?_,w.wf,fun e he=>?_,w.nd,w.nv,w.bh,w.bg,w.oh,w.og,w.pl,w.nl⟩
 · rcases get_set q with ⟨rfl,rfl⟩ | ⟨z,q⟩
   · refine ⟨u,List.getElem?_set_self ?_,p.1,fun _=>p.av⟩
     rw [w.len]
     have:=(List.getElem?_eq_some_iff.mp q).1
     rwa [List.length_set] at this
   · obtain ⟨v,e1,r⟩:=w.val j e q
     exact ⟨v,by rw [List.getElem?_set_ne z]; exact e1,r⟩
 · obtain ⟨a,b⟩:=w.ent e he
   exact ⟨by rw [List.getElem?_set_ne (Ne.symm (hi e he))]; exact a,b⟩
theorem WS.lb : ∀ {is : List Nat} {us : List U} {ds : List T} {ρ : Env} {τ τ' : aB},WS P h0 n0 H st ρ τ F → (∀ i ∈ is,∀ e ∈ F,e.i ≠ i) → PXs 0 H st us ds → jy is ds τ = some τ' → ∃ ρ',lb is us ρ = some ρ' ∧ WS P h0 n0 H st ρ' τ' F
 | [],_,_,ρ,τ,τ',w,_,⟨.nil,_⟩,e=>by cases e; exact ⟨ρ,rfl,w⟩
 | [],_,_,ρ,τ,τ',w,_,⟨.cons _ _,_⟩,e=>by cases e
 | i :: is,_,_,ρ,τ,τ',w,_,⟨.nil,_⟩,e=>by cases e
 | i :: is,_,_,ρ,τ,τ',w,hi,⟨.cons (u:=u) (d:=d) (us:=us) r rs,a⟩,e=>by
   rw [jy] at e
   rw [Sv.lb]
   exact WS.lb (w.set (hi i (List.mem_cons_self ..)) ⟨r,a u (List.mem_cons_self ..)⟩) (fun j hj=>hi j (List.mem_cons_of_mem _ hj)) ⟨rs,fun v hv=>a v (List.mem_cons_of_mem _ hv)⟩ e
theorem WS.hZ {t : Tg} {u : U} {d : T} {τ' : aB} (w : WS P h0 n0 H st ρ τ F) (hi : ∀ i ∈ tgN t,∀ e ∈ F,e.i ≠ i) (p : PX 0 H st u d) (e : aA t d τ = some τ') : ∃ ρ',hZ t u ρ = some ρ' ∧ WS P h0 n0 H st ρ' τ' F:=by
 cases t with
 | nm i=>
   cases e
   exact ⟨_,rfl,w.set (hi i (List.mem_singleton_self i)) p⟩
 | tp is=>
   cases d with
   | tup ds=>
     obtain ⟨us,rfl,p'⟩:=ia (k':=0) p
     exact w.lb hi p' e
   | _=>cases e
theorem tm {t : Tg} {own : Own} (h : aX F = Sv.dn (frg t) own) : ∀ i ∈ tgN t,∀ e ∈ F,e.i ≠ i:=fun i hi e he z=>by
 have : (e.i,e.lv) ∈ aX F:=List.mem_map.mpr ⟨e,he,rfl⟩
 rw [h] at this
 have:=Aq this
 unfold frg at this
 rw [z,List.contains_iff_mem.mpr hi] at this
 cases this
theorem WS.take (w : WS P h0 n0 H st ρ τ F) {i lv : Nat} {u : U} {d : T} {H' : Hd} {st' : Sto} (hi : ∀ e ∈ F,e.i ≠ i) (hl : i < τ.length) (g : Gr H st H' st') (f : FrN lv st H' st' u d) :
   ∃ l cs,u = .loc l ∧ WS P h0 n0 H' st' (ρ.set i (some u)) (τ.set i (some d)) (⟨i,l,lv,cs⟩ :: F) ∧ Stp P H st H' st':=by
 obtain ⟨w1,s1⟩:=w.gr g
 obtain ⟨r,l,cs,rfl,en,nl⟩:=f
 have hρ : i < ρ.length:=by rw [w.len]; exact hl
 refine ⟨l,cs,rfl,⟨by rw [List.length_set,List.length_set]; exact w.len,fun j e q=>?_,w1.wf,fun e he=>?_,?_,?_,w1.bh,w1.bg,fun k z=>(w1.oh k z).imp id (Or.imp (fun q=>?_) id),fun k z=>(w1.og k z).imp id (Or.imp (fun q=>?_) id),w1.pl,w1.nl⟩,s1⟩
 · rcases get_set q with ⟨rfl,rfl⟩ | ⟨z,q⟩
   · exact ⟨_,List.getElem?_set_self hρ,r,fun h=>absurd rfl (h ⟨i,l,lv,cs⟩ (List.mem_cons_self ..))⟩
   · obtain ⟨v,e1,r1,a1⟩:=w1.val j e q
     exact ⟨v,by rw [List.getElem?_set_ne z]; exact e1,r1,fun h=>a1 fun e he=>h e (List.mem_cons_of_mem _ he)⟩
 · rcases List.mem_cons.mp he with rfl | he
   · exact ⟨List.getElem?_set_self hρ,en,fun k hk z=>absurd (Nat.lt_of_lt_of_le (w.pl k z) w.nl) (Nat.not_lt.mpr (nl k hk))⟩
   · obtain ⟨a,b⟩:=w1.ent e he
     exact ⟨by rw [List.getElem?_set_ne (Ne.symm (hi e he))]; exact a,b⟩
 · rw [gC]
   refine List.nodup_append.mpr ⟨en.nd,w.nd,fun a ha b hb z=>?_⟩
   subst z
   obtain ⟨e,he,hk⟩:=bH.mp hb
   exact absurd ((w.ent e he).2.1.lt a hk) (Nat.not_lt.mpr (nl a ha))
 · rw [List.map_cons]
   refine List.nodup_cons.mpr ⟨fun z=>?_,w.nv⟩
   obtain ⟨e,he,z⟩:=List.mem_map.mp z
   exact hi e he z
 · rw [gC]; exact List.mem_append_right _ q
 · rw [gC]; exact List.mem_append_right _ q
noncomputable def yN (H : Hd) (F : List En) (e : En) : Hd:=⟨fun k=>k ∈ e.ft ∨ (H.g k ∧ ∀ e' ∈ F,e'.l ≠ k),fun k=>(k ∈ e.ft ∧ H.g k) ∨ (H.g k ∧ ∀ e' ∈ F,e'.l ≠ k),fun k z=>z.imp (·.1) id⟩
theorem WS.yN {e : En} (w : WS P h0 n0 H st ρ τ (F1 ++ e :: F2)) : Wf (yN H (F1 ++ F2) e) st:=by
 have he : e ∈ F1 ++ e :: F2:=List.mem_append_right _ (List.mem_cons_self ..)
 obtain ⟨a1,a2,a3⟩:=w.ent e he
 refine ⟨fun k fz us hk q u hu=>?_,fun k z=>z.elim (fun z=>a2.lt k z) fun z=>w.wf.lt k (H.sub k z.1)⟩
 by_cases hg : H.g k
 · have : ∃ e' ∈ F1 ++ F2,e'.l = k:=Classical.byContradiction fun z=>hk (.inr ⟨hg,fun e' he' z'=>z ⟨e',he',z'⟩⟩)
   obtain ⟨e',he',rfl⟩:=this
   obtain ⟨b1,b2,b3⟩:=w.ent e' (mem_mid he')
   have hz : e'.lv ≠ 1:=fun z=>(b2.one z).1 hg
   obtain ⟨_,_,c3,c4⟩:=b2.two hz
   rw [q] at c3
   cases c3
   obtain ⟨c,hc,rfl⟩:=List.mem_map.mp hu
   refine .loc (b2.lt c (List.mem_cons_of_mem _ hc)) fun z=>?_
   rcases z with z | z
   · exact iM w.nd he' z (List.mem_cons_of_mem _ hc)
   · exact (c4 c hc).2.1 z.1
 · refine (w.wf.av k fz us hg q u hu).imp fun l _ z=>?_
   rcases z with z | z
   · exact a2.hid l z
   · exact H.sub l z.1
theorem WS.lW {e : En} (w : WS P h0 n0 H st ρ τ (F1 ++ e :: F2)) {st' : Sto} (kp : ∀ (k : Nat) c,k ∉ e.ft → st[k]? = some c → st'[k]? = some c) {i : Nat} {d : T} (hi : i ≠ e.i) (hd : τ[i]? = some (some d)) :
   ∃ u,ρ[i]? = some (some u) ∧ Rep st' u d ∧ ((∀ e' ∈ F1 ++ e :: F2,e'.i ≠ i) → Av H st.length u):=by
 obtain ⟨a1,a2,a3⟩:=w.ent e (List.mem_append_right _ (List.mem_cons_self ..))
 obtain ⟨u,e1,r,a⟩:=w.val i d hd
 refine ⟨u,e1,r.keep w.yN (fun k c hk q=>kp k c (fun z=>hk (.inl z)) q) fun k hk z=>?_,a⟩
 by_cases hx : ∃ e' ∈ F1 ++ F2,e'.i = i
 · obtain ⟨e',he',rfl⟩:=hx
   obtain ⟨b1,b2,b3⟩:=w.ent e' (mem_mid he')
   rw [e1] at b1
   have : u = .loc e'.l:=by simpa using b1
   subst this
   have : k = e'.l:=by simpa [locs] using hk
   subst this
   rcases z with z | z
   · exact iM w.nd he' z (List.mem_cons_self ..)
   · exact z.2 e' he' rfl
 · have av:=a fun e' he' q=>by
     rcases cC he' with rfl | he'
     · exact hi q.symm
     · exact hx ⟨e',he',q⟩
   rcases z with z | z
   · exact (av k hk).2 (a2.hid k z)
   · exact (av k hk).2 (H.sub k z.1)
theorem WS.B2 {e : En} (w : WS P h0 n0 H st ρ τ (F1 ++ e :: F2)) {st' : Sto} (kp : ∀ (k : Nat) c,k ∉ e.ft → st[k]? = some c → st'[k]? = some c) {us : List U} {ds : List T} (p : PXs 0 H st us ds) : aK st' us ds:=by
 obtain ⟨a1,a2,a3⟩:=w.ent e (List.mem_append_right _ (List.mem_cons_self ..))
 refine p.1.keep w.yN (fun k c hk q=>kp k c (fun z=>hk (.inl z)) q) fun u hu k hk z=>?_
 have av:=(p.2 u hu).zero
 rcases z with z | z
 · exact (av k hk).2 (a2.hid k z)
 · exact (av k hk).2 (H.sub k z.1)
theorem WS.write {e : En} (w : WS P h0 n0 H st ρ τ (F1 ++ e :: F2)) {m : Nat} {vs : List U} {d : T} (hm : m ∈ e.ft) (hv : ∀ v ∈ vs,Av H st.length v) (hr : Rep (st.set m (false,vs)) (.loc e.l) d) (hE : Ent H (st.set m (false,vs)) e.l e.cs e.lv) :
   WS P h0 n0 H (st.set m (false,vs)) ρ (τ.set e.i (some d)) (F1 ++ e :: F2) ∧ Stp P H st H (st.set m (false,vs)):=by
 have he : e ∈ F1 ++ e :: F2:=List.mem_append_right _ (List.mem_cons_self ..)
 obtain ⟨a1,a2,a3⟩:=w.ent e he
 have hml:=a2.lt m hm
 have kp : ∀ (k : Nat) c,k ∉ e.ft → st[k]? = some c → (st.set m (false,vs))[k]? = some c:=fun k c hk q=>by
   rw [List.getElem?_set_ne (nin hm hk)]; exact q
 refine ⟨⟨by rw [List.length_set]; exact w.len,fun i d' q=>?_,⟨fun k fz us hk q u hu=>?_,fun k z=>by rw [List.length_set]; exact w.wf.lt k z⟩,fun e' he'=>?_,w.nd,w.nv,w.bh,w.bg,w.oh,w.og,w.pl,by rw [List.length_set]; exact w.nl⟩,⟨by rw [List.length_set]; exact Nat.le_refl _,fun k hk=>List.getElem?_set_ne (nip (a3 m hm) hk),fun k c hn q=>?_,fun _ _ z=>z,fun _ _ z=>z⟩⟩
 · rcases get_set q with ⟨rfl,rfl⟩ | ⟨z,q⟩
   · exact ⟨_,a1,hr,fun h=>absurd rfl (h e he)⟩
   · obtain ⟨u,e1,r,a⟩:=w.lW kp (Ne.symm z) q
     exact ⟨u,e1,r,fun h=>by rw [List.length_set]; exact a h⟩
 · rw [List.length_set]
   by_cases z : k = m
   · subst z
     rw [List.getElem?_set_self hml] at q
     cases q
     exact hv u hu
   · rw [List.getElem?_set_ne (Ne.symm z)] at q
     exact w.wf.av k fz us hk q u hu
 · rcases cC he' with rfl | he'
   · exact ⟨a1,hE,a3⟩
   · obtain ⟨b1,b2,b3⟩:=w.ent e' (mem_mid he')
     exact ⟨b1,b2.hd fun k hk=>⟨fun z=>z,fun z=>z,fun z=>z,List.getElem?_set_ne (fun z=>iM w.nd he' hm (by rw [z]; exact hk))⟩,b3⟩
 · exact kp k c (fun z=>hn (a2.hid k z)) q
theorem WS.KR {i l : Nat} (w : WS P h0 n0 H st ρ τ (F1 ++ ⟨i,l,1,[]⟩ :: F2)) {vs : List U} {ds : List T} (p : PXs 0 H st vs ds) :
   WS P h0 n0 H (st.set l (false,vs)) ρ (τ.set i (some (.lst ds))) (F1 ++ ⟨i,l,1,[]⟩ :: F2) ∧ Stp P H st H (st.set l (false,vs)):=by
 obtain ⟨a1,a2,a3⟩:=w.ent _ (List.mem_append_right _ (List.mem_cons_self ..))
 have hl : l < st.length:=a2.lt l (List.mem_cons_self ..)
 have kp : ∀ (k : Nat) c,k ∉ (⟨i,l,1,[]⟩ : En).ft → st[k]? = some c → (st.set l (false,vs))[k]? = some c:=fun k c hk q=>by
   rw [List.getElem?_set_ne (nin (List.mem_cons_self ..) hk)]; exact q
 refine WS.write (e:=⟨i,l,1,[]⟩) w (List.mem_cons_self ..) (fun v hv=>(p.2 v hv).zero) (.loc (List.getElem?_set_self hl) (w.B2 kp p)) ⟨a2.hl,fun z=>⟨(a2.one z).1,rfl,vs,List.getElem?_set_self hl⟩,fun z=>absurd rfl z,a2.nd⟩
theorem WS.KJ {i l q c : Nat} {cs : List Nat} (w : WS P h0 n0 H st ρ τ (F1 ++ ⟨i,l,2,cs⟩ :: F2)) {vs : List U} {xs ds : List T} (hx : τ[i]? = some (some (.lst xs))) (hc : cs[q]? = some c) (p : PXs 0 H st vs ds) :
   WS P h0 n0 H (st.set c (false,vs)) ρ (τ.set i (some (.lst (xs.set q (.lst ds))))) (F1 ++ ⟨i,l,2,cs⟩ :: F2) ∧ Stp P H st H (st.set c (false,vs)):=by
 obtain ⟨a1,a2,a3⟩:=w.ent _ (List.mem_append_right _ (List.mem_cons_self ..))
 obtain ⟨_,gl,e1,e2⟩:=a2.two (show (2 : Nat) ≠ 1 by decide)
 have hcm : c ∈ cs:=List.mem_of_getElem? hc
 have hl : c < st.length:=a2.lt c (List.mem_cons_of_mem _ hcm)
 have ncl : c ≠ l:=fun z=>(List.nodup_cons.mp a2.nd).1 (z ▸ hcm)
 have ndc:=(List.nodup_cons.mp a2.nd).2
 have kp : ∀ (k : Nat) c',k ∉ (⟨i,l,2,cs⟩ : En).ft → st[k]? = some c' → (st.set c (false,vs))[k]? = some c':=fun k c' hk q=>by
   rw [List.getElem?_set_ne (nin (List.mem_cons_of_mem _ hcm) hk)]; exact q
 have cl : (st.set c (false,vs))[l]? = some (false,cs.map .loc):=by rw [List.getElem?_set_ne ncl]; exact e1
 obtain ⟨u,f1,f2,_⟩:=w.val i _ hx
 rw [a1] at f1
 have : u = .loc l:=by simpa using f1.symm
 subst this
 have r0 : aK st (cs.map .loc) xs:=by
   cases f2 with
   | loc e r=>rw [e1] at e; cases e; exact r
 have key : aK (st.set c (false,vs)) (cs.map .loc) (xs.set q (.lst ds)):=by
   refine aK.mk (by rw [List.length_set]; exact r0.length) fun j u d g1 g2=>?_
   rw [List.getElem?_map] at g1
   obtain ⟨c',g3,rfl⟩:=Option.map_eq_some_iff.mp g1
   by_cases hj : j = q
   · subst hj
     rw [hc] at g3; cases g3
     have hjl : j < xs.length:=by
       have:=(List.getElem?_eq_some_iff.mp g2).1
       rwa [List.length_set] at this
     rw [List.getElem?_set_self hjl] at g2
     cases g2
     exact .loc (List.getElem?_set_self hl) (w.B2 kp p)
   · rw [List.getElem?_set_ne (Ne.symm hj)] at g2
     obtain ⟨u,g4,g5⟩:=r0.get g2
     rw [List.getElem?_map,g3] at g4
     cases g4
     have ncc : c ≠ c':=fun z=>hj (by
       subst z
       obtain ⟨h1,h2⟩:=List.getElem?_eq_some_iff.mp g3
       obtain ⟨h3,h4⟩:=List.getElem?_eq_some_iff.mp hc
       exact (List.getElem_inj ndc).mp (h2.trans h4.symm))
     obtain ⟨b1,b2,ws,b3⟩:=e2 c' (List.mem_of_getElem? g3)
     cases g5 with
     | loc e r=>
       rw [b3] at e; cases e
       exact .loc (by rw [List.getElem?_set_ne ncc]; exact b3) (w.B2 kp ⟨r,fun u hu=>.inl (w.wf.av _ _ _ b2 b3 u hu)⟩)
 refine WS.write (e:=⟨i,l,2,cs⟩) w (List.mem_cons_of_mem _ hcm) (fun v hv=>(p.2 v hv).zero) (.loc cl key) ⟨a2.hl,(fun z=>by cases z),fun _=>⟨rfl,gl,cl,fun k hk=>?_⟩,a2.nd⟩
 obtain ⟨b1,b2,ws,b3⟩:=e2 k hk
 refine ⟨b1,b2,?_⟩
 by_cases z : k = c
 · subst z; exact ⟨vs,List.getElem?_set_self hl⟩
 · exact ⟨ws,by rw [List.getElem?_set_ne (Ne.symm z)]; exact b3⟩
theorem jf : ∀ {F : List En} {i : Nat},0 < bY (aX F) i → ∃ F1 e F2,F = F1 ++ e :: F2 ∧ e.i = i ∧ e.lv = bY (aX F) i
 | [],i,h=>by simp [bY,aX] at h
 | e :: F,i,h=>by
   by_cases z : i = e.i
   · subst z
     exact ⟨[],e,F,rfl,rfl,by simp [bY,aX,List.lookup_cons]⟩
   · have e1 : bY (aX (e :: F)) i = bY (aX F) i:=by
       have : (i == e.i) = false:=beq_eq_false_iff_ne.mpr z
       simp [bY,aX,List.lookup_cons,this]
     rw [e1] at h ⊢
     obtain ⟨F1,e',F2,rfl,h2,h3⟩:=jf h
     exact ⟨e :: F1,e',F2,rfl,h2,h3⟩
end
end Sv
namespace Sv
open PySem PySem.Spec L2
open Ev (D aQ aU ai)
structure GrM (X : Nat → Prop) (h : Hd) (st : Sto) (h' : Hd) (st' : Sto) : Prop where
 len : st.length ≤ st'.length
 keep : ∀ k,k < st.length → ¬ X k → st'[k]? = st[k]?
 hm : ∀ k,h.h k → ¬ X k → h'.h k
 gm : ∀ k,h.g k → ¬ X k → h'.g k
 hn : ∀ k,k < st.length → h'.h k → h.h k ∧ ¬ X k
 gn : ∀ k,k < st.length → h'.g k → h.g k ∧ ¬ X k
 wf : Wf h' st'
noncomputable def GdM {α β : Type} (X : Nat → Prop) (h : Hd) (st : Sto) (P : Hd → Sto → α → β → Prop) (x : Rs α) : Ou β → Prop
 | .bad=>True
 | .ok d=>∃ u st' h',x = .ok u st' ∧ GrM X h st h' st' ∧ P h' st' u d
 | .exc c=>∃ st' h',x = .exc c st' ∧ GrM X h st h' st'
noncomputable def nV (md : Md) (F : List U → Sto → Rs U) (G : List T → Ou T) : Prop:=
 0 < md.mv → md.lv = 0 ∧ ∀ h st l cs us x ds,Wf h st → Ent h st l cs md.mv → Rep st (.loc l) x → PXs 0 h st us ds → GdM (fun k=>k ∈ l :: cs) h st (PX 0) (F (.loc l :: us) st) (G (x :: ds))
section
variable {P : Nat → Prop} {h0 H : Hd} {n0 : Nat} {st : Sto} {ρ : Env} {τ : aB} {F F1 F2 : List En}
theorem WS.moved {e : En} (w : WS P h0 n0 H st ρ τ (F1 ++ e :: F2)) {H' : Hd} {st' : Sto} (g : GrM (fun k=>k ∈ e.ft) H st H' st') : WS P h0 n0 H' st' ρ (τ.set e.i none) (F1 ++ F2) ∧ Stp P H st H' st':=by
 have he : e ∈ F1 ++ e :: F2:=List.mem_append_right _ (List.mem_cons_self ..)
 obtain ⟨a1,a2,a3⟩:=w.ent e he
 obtain ⟨nv1,nv2⟩:=tF w.nv
 have kp : ∀ (k : Nat) c,k ∉ e.ft → st[k]? = some c → st'[k]? = some c:=fun k c hk q=>(g.keep k (List.getElem?_eq_some_iff.mp q).1 hk).trans q
 have pk : ∀ k,P k → k ∉ e.ft:=fun k hk z=>a3 k z hk
 have ft : ∀ k,k ∈ foot (F1 ++ e :: F2) → k ∉ e.ft → k ∈ foot (F1 ++ F2):=fun k hk hn=>by
   obtain ⟨e',he',hk'⟩:=bH.mp hk
   rcases cC he' with rfl | he''
   · exact absurd hk' hn
   · exact bH.mpr ⟨e',he'',hk'⟩
 refine ⟨⟨by rw [List.length_set]; exact w.len,fun i d q=>?_,g.wf,fun e' he'=>?_,BH w.nd,nv1,fun k z=>⟨g.hm k (w.bh k z).1 (pk k (w.bh k z).2),(w.bh k z).2⟩,fun k z=>g.gm k (w.bg k z) (pk k (w.bh k (h0.sub k z)).2),fun k z=>?_,fun k z=>?_,w.pl,Nat.le_trans w.nl g.len⟩,
   ⟨g.len,fun k hk=>g.keep k (Nat.lt_of_lt_of_le (w.pl k hk) w.nl) (pk k hk),fun k c hn q=>kp k c (fun z=>hn (a2.hid k z)) q,fun k hk z=>(g.hn k hk z).1,fun k hk z=>(g.gn k hk z).1⟩⟩
 · obtain ⟨ne,q⟩:=get_none q
   obtain ⟨u,e1,r,a⟩:=w.lW kp (Ne.symm ne) q
   refine ⟨u,e1,r,fun hn l hl=>?_⟩
   have av:=a fun e' he'=>by
     rcases cC he' with rfl | he'
     · exact ne
     · exact hn e' he'
   exact ⟨Nat.lt_of_lt_of_le (av l hl).1 g.len,fun z=>(av l hl).2 (g.hn l (av l hl).1 z).1⟩
 · obtain ⟨b1,b2,b3⟩:=w.ent e' (mem_mid he')
   have ap : ∀ k ∈ e'.l :: e'.cs,k ∉ e.ft:=fun k hk z=>iM w.nd he' z hk
   exact ⟨b1,b2.hd fun k hk=>⟨fun z=>g.hm k z (ap k hk),fun z=>g.gm k z (ap k hk),fun z=>(g.gn k (b2.lt k hk) z).1,g.keep k (b2.lt k hk) (ap k hk)⟩,b3⟩
 · rcases Nat.lt_or_ge k st.length with q | q
   · obtain ⟨z1,z2⟩:=g.hn k q z
     exact (w.oh k z1).imp id (Or.imp (fun z=>ft k z z2) id)
   · exact .inr (.inr (Nat.le_trans w.nl q))
 · rcases Nat.lt_or_ge k st.length with q | q
   · obtain ⟨z1,z2⟩:=g.gn k q z
     exact (w.og k z1).imp id (Or.imp (fun z=>ft k z z2) id)
   · exact .inr (.inr (Nat.le_trans w.nl q))
end
theorem xB (g : Nat → Nat → Bool) : ∀ (a b : Own),dn g (a ++ b) = dn g a ++ dn g b
 | [],b=>rfl
 | (i,lv) :: r,b=>by
   rw [List.cons_append,dn,dn,xB g r b]
   split
   · split <;> rfl
   · rfl
theorem vO {g : Nat → Nat → Bool} : ∀ {own : Own},(∀ i lv,(i,lv) ∈ own → g i lv = false) → dn g own = own
 | [],_=>rfl
 | (i,lv) :: r,h=>by
   rw [dn,h i lv (List.mem_cons_self ..),vO fun j k hj=>h j k (List.mem_cons_of_mem _ hj)]; rfl
theorem mN (F G : List En) : aX (F ++ G) = aX F ++ aX G:=List.map_append
theorem vP {F1 F2 : List En} {e : En} (nv : ((F1 ++ e :: F2).map (·.i)).Nodup) : (∀ i lv,(i,lv) ∈ aX F1 → i ≠ e.i) ∧ ∀ i lv,(i,lv) ∈ aX F2 → i ≠ e.i:=by
 have h:=(tF nv).2
 refine ⟨fun i lv hi=>?_,fun i lv hi=>?_⟩ <;> (obtain ⟨e',he',z⟩:=List.mem_map.mp hi; cases z)
 · exact h e' (List.mem_append_left _ he')
 · exact h e' (List.mem_append_right _ he')
theorem Ci {F1 F2 : List En} {e : En} (nv : ((F1 ++ e :: F2).map (·.i)).Nodup) : dn (fun i _=>i == e.i) (aX (F1 ++ e :: F2)) = aX (F1 ++ F2):=by
 obtain ⟨h1,h2⟩:=vP nv
 rw [mN,mN,xB,vO fun i lv hi=>beq_eq_false_iff_ne.mpr (h1 i lv hi)]
 show _ ++ dn _ ((e.i,e.lv) :: aX F2) = _
 rw [dn,if_pos (by simp),if_neg (by simp),vO fun i lv hi=>beq_eq_false_iff_ne.mpr (h2 i lv hi)]
theorem wA {F1 F2 : List En} {e : En} (nv : ((F1 ++ e :: F2).map (·.i)).Nodup) (hl : e.lv = 1 ∨ e.lv = 2) : dn (fun i lv=>i == e.i && lv == 2) (aX (F1 ++ e :: F2)) = aX (F1 ++ ⟨e.i,e.l,1,[]⟩ :: F2):=by
 obtain ⟨h1,h2⟩:=vP nv
 rw [mN,mN,xB,vO fun i lv hi=>by rw [beq_eq_false_iff_ne.mpr (h1 i lv hi)]; rfl]
 show _ ++ dn _ ((e.i,e.lv) :: aX F2) = _ ++ ((e.i,1) :: aX F2)
 have h3 : dn (fun i lv=>i == e.i && lv == 2) (aX F2) = aX F2:=vO fun i lv hi=>by rw [beq_eq_false_iff_ne.mpr (h2 i lv hi)]; rfl
 rcases hl with z | z
 · rw [dn,z,if_neg (by simp),h3]
 · rw [dn,z,if_pos (by simp),if_pos ⟨rfl,by simp⟩,h3]
theorem ua {t : Tg} : ∀ {own : Own} {p : Nat × Nat},p ∈ dn (frg t) own → p ∈ own
 | [],_,h=>by cases h
 | (i,lv) :: r,p,h=>by
   rw [dn] at h
   split at h
   · rename_i hz
     rw [if_neg (fun z=>by have:=z.2; unfold frg at this hz; rw [hz] at this; cases this)] at h
     exact List.mem_cons_of_mem _ (ua h)
   · rcases List.mem_cons.mp h with h | h
     · exact h ▸ List.mem_cons_self ..
     · exact List.mem_cons_of_mem _ (ua h)
section
variable {P : Nat → Prop} {h0 H : Hd} {n0 : Nat} {st : Sto} {ρ : Env} {τ : aB} {F F1 F2 : List En}
theorem WS.sY (w : WS P h0 n0 H st ρ τ F) {e : En} (he : e ∈ F) : e.lv = 1 ∨ e.lv = 2:=by
 by_cases z : e.lv = 1
 · exact .inl z
 · exact .inr ((w.ent e he).2.1.two z).1
theorem WS.to1 {e : En} (w : WS P h0 n0 H st ρ τ (F1 ++ e :: F2)) : ∃ H',WS P h0 n0 H' st ρ τ (F1 ++ ⟨e.i,e.l,1,[]⟩ :: F2) ∧ Stp P H st H' st:=by
 have he : e ∈ F1 ++ e :: F2:=List.mem_append_right _ (List.mem_cons_self ..)
 rcases w.sY he with z | z
 · obtain ⟨i,l,lv,cs⟩:=e
   dsimp only at z
   subst z
   obtain ⟨_,rfl,_⟩:=(w.ent _ he).2.1.one rfl
   exact ⟨H,w,.refl⟩
 · obtain ⟨i,l,lv,cs⟩:=e
   dsimp only at z
   subst z
   exact WS.down w
theorem WS.own (w : WS P h0 n0 H st ρ τ (F1 ++ ⟨v,l,lv,cs⟩ :: F2)) {xs : List T} (hx : τ[v]? = some (some (.lst xs))) : ρ[v]? = some (some (.loc l)) ∧ Rep st (.loc l) (.lst xs) ∧ Ent H st l cs lv:=by
 obtain ⟨a1,a2,_⟩:=w.ent _ (List.mem_append_right _ (List.mem_cons_self ..))
 obtain ⟨u,e1,r,_⟩:=w.val v _ hx
 rw [a1] at e1
 have : u = .loc l:=by simpa using e1.symm
 subst this
 exact ⟨a1,r,a2⟩
end
theorem lD {st : Sto} {l : Nat} {us : List U} {ds : List T} (r : Rep st (.loc l) (.lst ds)) (e : st[l]? = some (false,us)) : aK st us ds:=by
 cases r with
 | loc e' r=>rw [e] at e'; cases e'; exact r
theorem yy {α : Type} : ∀ {xs : List α} {n : Nat} {a x : α},x ∈ xs.insertIdx n a → x = a ∨ x ∈ xs
 | xs,0,a,x,h=>by rw [List.insertIdx_zero] at h; exact List.mem_cons.mp h
 | [],n + 1,a,x,h=>by simp at h
 | y :: ys,n + 1,a,x,h=>by
   rw [List.insertIdx_succ_cons] at h
   rcases List.mem_cons.mp h with h | h
   · exact .inr (h ▸ List.mem_cons_self ..)
   · exact (yy h).imp id (List.mem_cons_of_mem _)
theorem Dg {h : Hd} {st : Sto} {l : Nat} {us vs : List U} {xs ds : List T} {m : Lm} {ys : List T} (e : st[l]? = some (false,us)) (p : PXs 0 h st us xs) (q : PXs 0 h st vs ds) (hz : zM m xs ds = some ys) :
   ∃ ws,evM m (.loc l) vs st = some (st.set l (false,ws)) ∧ PXs 0 h st ws ys:=by
 have hlen:=p.1.length
 have hd:=q.1.length
 cases m with
 | append=>
   match ds,vs,q,hz with
   | [x],[v],q,hz=>
     simp only [zM.eq_def] at hz
     split at hz
     · rename_i hl
       cases hz
       exact ⟨us ++ [v],by simp only [evM.eq_def,e,hlen,if_pos hl],p.append q⟩
     · cases hz
   | [],_,_,hz=>simp [zM.eq_def] at hz
   | _ :: _ :: _,_,_,hz=>simp [zM.eq_def] at hz
 | extend=>match ds,hz with
   | [],hz=>simp [zM.eq_def] at hz
   | _ :: _,hz=>simp [zM.eq_def] at hz
 | insert=>
   match ds,q,hz with
   | [.int i,x],⟨.cons (u:=w1) r1 (.cons (u:=w2) r2 .nil),hq⟩,hz=>
     have:=r1.int_inv; subst this
     simp only [zM.eq_def] at hz
     split at hz
     · rename_i hl
       cases hz
       refine ⟨us.insertIdx i.toNat w2,by simp only [evM.eq_def,e,hlen,if_pos hl],p.1.insert _ r2,fun u hu=>?_⟩
       rcases yy hu with rfl | hu
       · exact hq _ (by simp)
       · exact p.2 u hu
     · cases hz
   | [],_,hz=>simp [zM.eq_def] at hz
   | [a],_,hz=>cases a <;> simp [zM.eq_def] at hz
   | [.non,_],_,hz | [.bl _,_],_,hz | [.str _,_],_,hz | [.tup _,_],_,hz | [.lst _,_],_,hz | [.exo _,_],_,hz=>simp [zM.eq_def] at hz
   | a :: _ :: _ :: _,_,hz=>cases a <;> simp [zM.eq_def] at hz
 | pop=>
   match ds,vs,q,hz with
   | [],[],q,hz=>
     simp only [zM.eq_def] at hz
     split at hz
     · cases hz
     · rename_i hl
       cases hz
       have hne : us ≠ []:=fun z=>hl (by rw [← hlen,z]; rfl)
       refine ⟨us.dropLast,by simp only [evM.eq_def,e,if_neg hne],p.1.dropLast,fun u hu=>p.2 u (List.dropLast_subset us hu)⟩
   | _ :: _,_,_,hz=>simp [zM.eq_def] at hz
 | popAt=>
   match ds,q,hz with
   | [.int i],⟨.cons (u:=w1) r1 .nil,hq⟩,hz=>
     have:=r1.int_inv; subst this
     simp only [zM.eq_def] at hz
     split at hz
     · rename_i hl
       obtain ⟨j,e1,rfl⟩:=Option.map_eq_some_iff.mp hz
       refine ⟨us.eraseIdx j,by simp only [evM.eq_def,e,hlen,if_pos hl,e1,Option.map_some],p.1.erase _,fun u hu=>p.2 u (List.mem_of_mem_eraseIdx hu)⟩
     · cases hz
   | [],_,hz=>simp [zM.eq_def] at hz
   | [.non],_,hz | [.bl _],_,hz | [.str _],_,hz | [.tup _],_,hz | [.lst _],_,hz | [.exo _],_,hz=>simp [zM.eq_def] at hz
   | a :: _ :: _,_,hz=>cases a <;> simp [zM.eq_def] at hz
 | clear=>
   match ds,vs,q,hz with
   | [],[],q,hz=>
     simp only [zM.eq_def,Option.some.injEq] at hz
     subst hz
     exact ⟨[],by simp only [evM.eq_def,e],.nil⟩
   | _ :: _,_,_,hz=>simp [zM.eq_def] at hz
noncomputable def RF (P : Nat → Prop) (h0 : Hd) (S0 : Sto) (lv : Nat) (H : Hd) (st : Sto) : FlT → Fl → Sto → Prop
 | .nx τ' own',.nx ρ',st'=>∃ H' F',aX F' = own' ∧ WS P h0 S0.length H' st' ρ' τ' F' ∧ Stp P H st H' st'
 | .bk τ' own',.bk ρ',st'=>∃ H' F',aX F' = own' ∧ WS P h0 S0.length H' st' ρ' τ' F' ∧ Stp P H st H' st'
 | .ct τ' own',.ct ρ',st'=>∃ H' F',aX F' = own' ∧ WS P h0 S0.length H' st' ρ' τ' F' ∧ Stp P H st H' st'
 | .rt d,.rt u,st'=>∃ H',Fin P h0 S0.length st H' st' ∧ FrR lv S0 H' st' u d
 | _,_,_=>False
noncomputable def GS (P : Nat → Prop) (h0 : Hd) (S0 : Sto) (lv : Nat) (H : Hd) (st : Sto) (x : Rs Fl) : Ou FlT → Prop
 | .bad=>True
 | .exc c=>∃ st' H',x = .exc c st' ∧ Fin P h0 S0.length st H' st'
 | .ok f=>∃ f' st',x = .ok f' st' ∧ RF P h0 S0 lv H st f f' st'
section
variable {P : Nat → Prop} {h0 H H1 : Hd} {S0 : Sto} {lv : Nat} {st st1 : Sto}
theorem Fin.back {n0 : Nat} {H2 : Hd} {st2 : Sto} (s : Stp P H st H1 st1) (o : Fin P h0 n0 st1 H2 st2) : Fin P h0 n0 st H2 st2:=⟨Nat.le_trans s.len o.len,fun k hk=>(o.lo k hk).trans (s.lo k hk),o.wf,o.hm,o.gm,o.hn,o.gn⟩
theorem RF.back {f : FlT} {f' : Fl} {st2 : Sto} (s : Stp P H st H1 st1) (o : RF P h0 S0 lv H1 st1 f f' st2) : RF P h0 S0 lv H st f f' st2:=by
 cases f <;> cases f' <;> first
   | (obtain ⟨H',F',a,b,c⟩:=o; exact ⟨H',F',a,b,s.trans c⟩)
   | (obtain ⟨H',a,b⟩:=o; exact ⟨H',a.back s,b⟩)
   | exact o.elim
theorem GS.back {x : Rs Fl} {r : Ou FlT} (s : Stp P H st H1 st1) (g : GS P h0 S0 lv H1 st1 x r) : GS P h0 S0 lv H st x r:=by
 cases r with
 | bad=>trivial
 | exc c=>obtain ⟨st',H',e,o⟩:=g; exact ⟨st',H',e,o.back s⟩
 | ok f=>obtain ⟨f',st',e,o⟩:=g; exact ⟨f',st',e,o.back s⟩
theorem dW {α β : Type} {Q : Hd → Sto → α → β → Prop} {x : Rs α} {r : Ou β} {f : α → Sto → Rs Fl} {k : β → Ou FlT} {ρ : Env} {τ : aB} {F : List En} (w : WS P h0 S0.length H st ρ τ F) (g : Gd H st Q x r)
   (n : ∀ u d st' H',Gr H st H' st' → WS P h0 S0.length H' st' ρ τ F → Q H' st' u d → GS P h0 S0 lv H' st' (f u st') (k d)) : GS P h0 S0 lv H st (x.bind f) (r.bind k):=by
 cases r with
 | bad=>trivial
 | exc c=>
   obtain ⟨st',H',e,p⟩:=g
   subst e
   obtain ⟨w1,s1⟩:=w.gr p
   obtain ⟨H2,w2,s2⟩:=w1.fin
   exact ⟨st',H2,rfl,(w2.out.back s2).back s1⟩
 | ok d=>
   obtain ⟨u,st',H',e,p,q⟩:=g
   subst e
   obtain ⟨w1,s1⟩:=w.gr p
   exact (n u d st' H' p w1 q).back s1
theorem w8 {x : Rs Fl} {r : Ou FlT} {f : Fl → Sto → Rs Fl} {k : FlT → Ou FlT} (g : GS P h0 S0 lv H st x r) (n : ∀ fl fl' st',RF P h0 S0 lv H st fl fl' st' → GS P h0 S0 lv H st (f fl' st') (k fl)) : GS P h0 S0 lv H st (x.bind f) (r.bind k):=by
 cases r with
 | bad=>trivial
 | exc c=>obtain ⟨st',H',e,o⟩:=g; subst e; exact ⟨st',H',rfl,o⟩
 | ok fl=>
   obtain ⟨fl',st',e,o⟩:=g
   subst e
   exact n fl fl' st' o
theorem GS.noX {x : Rs Fl} {r : Ou FlT} (g : GS P h0 S0 lv H st x r) : GS P h0 S0 lv H st x.noX r.noX:=by
 cases r with
 | bad=>trivial
 | exc c=>trivial
 | ok d=>obtain ⟨u,st',e,q⟩:=g; subst e; exact ⟨u,st',rfl,q⟩
theorem bP {α : Type} {x : Rs Fl} {o : Option α} {k : α → Ou FlT} (n : ∀ a,o = some a → GS P h0 S0 lv H st x (k a)) : GS P h0 S0 lv H st x (bE o k):=by
 cases o with
 | none=>trivial
 | some a=>exact n a rfl
theorem yx {q : Sq} {xs : List T} (wf : Wf H st) (s : Stp P H st H1 st1) (hn : SqN H q) (hq : SqR H st q xs) : SqN H1 q ∧ SqR H1 st1 q xs:=by
 induction q generalizing xs with
 | vals us=>
   refine ⟨trivial,hq.1.keep wf s.keep fun u hu l hl=>((hq.2 u hu).zero l hl).2,fun u hu=>.inl fun l hl=>?_⟩
   have:=(hq.2 u hu).zero l hl
   exact ⟨Nat.lt_of_lt_of_le this.1 s.len,fun z=>this.2 (s.hid l this.1 z)⟩
 | lst l=>
   obtain ⟨ng,fz,us,e,r⟩:=hq
   have hl:=(List.getElem?_eq_some_iff.mp e).1
   exact ⟨fun z=>hn (s.hid l hl z),fun z=>ng (s.gid l hl z),fz,us,s.keep l _ hn e,r.keep wf s.keep fun u hu l hl=>(wf.av _ _ _ ng e u hu l hl).2⟩
 | enu l=>
   obtain ⟨ng,fz,us,ys,e,r,rfl⟩:=hq
   have hl:=(List.getElem?_eq_some_iff.mp e).1
   exact ⟨fun z=>hn (s.hid l hl z),fun z=>ng (s.gid l hl z),fz,us,ys,s.keep l _ hn e,r.keep wf s.keep fun u hu l hl=>(wf.av _ _ _ ng e u hu l hl).2,rfl⟩
 | zip p q ihp ihq=>
   obtain ⟨as,bs,s1,s2,rfl⟩:=hq
   obtain ⟨a1,a2⟩:=ihp hn.1 s1
   obtain ⟨b1,b2⟩:=ihq hn.2 s2
   exact ⟨⟨a1,b1⟩,as,bs,a2,b2,rfl⟩
end
theorem qm {P : Nat → Prop} {h0 : Hd} {S0 : Sto} {lv : Nat} {f : U → Env → Sto → Rs Fl} {g : T → aB → Own → Ou FlT} {q : Sq} {xs : List T}
   (hf : ∀ x u st H ρ τ F,WS P h0 S0.length H st ρ τ F → PX 0 H st u x → GS P h0 S0 lv H st (f u ρ st) (g x τ (aX F))) :
   ∀ (n i : Nat) (st : Sto) (H : Hd) (ρ : Env) (τ : aB) (F : List En),WS P h0 S0.length H st ρ τ F → SqN H q → SqR H st q xs → i ≤ xs.length → i + n = xs.length + 1 → GS P h0 S0 lv H st (loop f q n i ρ st) (dz g (xs.drop i) τ (aX F))
 | 0,i,st,H,ρ,τ,F,_,_,_,hi,e=>by omega
 | n + 1,i,st,H,ρ,τ,F,w,hn,hq,hi,e=>by
   rw [loop]
   rcases hq.at w.wf i with ⟨e1,e2⟩ | ⟨x,u,e1,e2,px⟩
   · rw [e2]
     dsimp only
     rw [List.drop_eq_nil_of_le (List.getElem?_eq_none_iff.mp e1),dz]
     exact ⟨_,_,rfl,H,F,rfl,w,.refl⟩
   · rw [e2]
     dsimp only
     have hl:=(List.getElem?_eq_some_iff.mp e1).1
     have e3 : xs.drop i = x :: xs.drop (i + 1):=by
       rw [List.drop_eq_getElem_cons hl]
       rw [(List.getElem?_eq_some_iff.mp e1).2]
     rw [e3,dz]
     refine w8 (hf x u st H ρ τ F w px) fun fl fl' st' o=>?_
     cases fl <;> cases fl' <;> first | exact o.elim | skip
     · obtain ⟨H1,F1,rfl,w1,s1⟩:=o
       obtain ⟨hn1,hq1⟩:=yx w.wf s1 hn hq
       exact (qm hf n (i + 1) st' _ _ _ _ w1 hn1 hq1 hl (by omega)).back s1
     · exact ⟨_,_,rfl,o⟩
     · exact ⟨_,_,rfl,o⟩
     · obtain ⟨H1,F1,rfl,w1,s1⟩:=o
       obtain ⟨hn1,hq1⟩:=yx w.wf s1 hn hq
       exact (qm hf n (i + 1) st' _ _ _ _ w1 hn1 hq1 hl (by omega)).back s1
theorem mV {P : Nat → Prop} {h0 : Hd} {S0 : Sto} {lv : Nat} {c : Env → Sto → Rs U} {c' : aB → Ou T} {f : Env → Sto → Rs Fl} {g : aB → Own → Ou FlT} {k : Nat → Nat → Bool}
   (hc : ∀ st H ρ τ F,WS P h0 S0.length H st ρ τ F → (∀ i lv,(i,lv) ∈ aX F → k i lv = false) → Gd H st (PX 2) (c ρ st) (c' τ))
   (hf : ∀ st H ρ τ F,WS P h0 S0.length H st ρ τ F → GS P h0 S0 lv H st (f ρ st) (g τ (aX F))) :
   ∀ (n : Nat) (st : Sto) (H : Hd) (ρ : Env) (τ : aB) (F : List En),WS P h0 S0.length H st ρ τ F → GS P h0 S0 lv H st (nX c f n ρ st) (gJ c' k g n τ (aX F))
 | 0,_,_,_,_,_,_=>trivial
 | n + 1,st,H,ρ,τ,F,w=>by
   rw [nX,gJ]
   obtain ⟨H0,F0,e0,w0,s0⟩:=w.dn0 k
   rw [← e0]
   refine (dW w0 (hc st H0 ρ τ F0 w0 fun i lv hi=>Aq (by rw [← e0]; exact hi)) fun u d st1 H1 g1 w1 hu=>?_).back s0
   cases d with
   | bl r=>
     have:=hu.1.iV; subst this
     cases r with
     | false=>exact ⟨_,_,rfl,H1,F0,rfl,w1,.refl⟩
     | true=>
       dsimp only
       refine w8 (hf st1 H1 ρ τ _ w1) fun fl fl' st' o=>?_
       cases fl <;> cases fl' <;> first | exact o.elim | skip
       · obtain ⟨H2,F2,rfl,w2,s2⟩:=o
         exact (mV hc hf n st' _ _ _ _ w2).back s2
       · exact ⟨_,_,rfl,o⟩
       · exact ⟨_,_,rfl,o⟩
       · obtain ⟨H2,F2,rfl,w2,s2⟩:=o
         exact (mV hc hf n st' _ _ _ _ w2).back s2
   | _=>trivial
end Sv
namespace Sv
open PySem PySem.Spec L2
open Ev (D aQ aU ai)
theorem D7 {x : T} (h : 1 ≤ lvT x) : ∃ ds,x = .lst ds:=by
 cases x with
 | lst ds=>exact ⟨ds,rfl⟩
 | _=>simp [lvT] at h
theorem yW {ds : List T} (h : 2 ≤ lvT (.lst ds)) : ds.all isL = true:=by
 simp only [lvT] at h
 split at h
 · assumption
 · omega
theorem A3 (x : T) : lvT x ≤ 2:=by
 cases x with
 | lst ds=>simp only [lvT]; split <;> decide
 | _=>simp [lvT]
theorem j7 {τ : aB} {v : Nat} {x : T} (h : aw τ v = .ok x) : τ[v]? = some (some x):=by
 unfold aw at h
 split at h
 · rename_i d e; cases h; exact e
 · cases h
theorem jm {r : Ou T} {xs : List T} (h : jx r = some xs) : r = .ok (.lst xs):=by
 cases r with
 | ok x=>cases x <;> first | (cases h; rfl) | (cases h; done)
 | _=>cases h
theorem oo {r : T} {xs : List T} (h : kR r = some xs) : r = .lst xs:=by cases r <;> first | (cases h; rfl) | (cases h; done)
theorem je {r : T} {i : Int} (h : intOf r = some i) : r = .int i:=by cases r <;> first | (cases h; rfl) | (cases h; done)
section
variable {Ψ ΨM : FnT} {X : Fx} {n : Nat} {τ : aB} {own : Own}
theorem bF : yS Ψ ΨM X n (.set t (.call f (.var v :: es))) τ own = if 0 < (X.μ f).mv then
       (if (X.μ f).mv ≤ bY (dn (fun i lv=>aY X.μ i lv 0 es) own) v then
         (aw τ v).bind fun x=>(yEs Ψ es τ).bind fun xs=>(ΨM f (x :: xs)).bind fun d=>pw (aA t d (τ.set v none)) (cJ X (dn (fun i _=>i == v) (dn (fun i lv=>aY X.μ i lv 0 es) own)) t (.call f (.var v :: es)) d (τ.set v none))
       else .bad)
     else (yE Ψ (.call f (.var v :: es)) τ).bind fun x=>pw (aA t x τ) (cJ X (dn (fun i lv=>gts X.μ i lv 0 (.call f (.var v :: es))) own) t (.call f (.var v :: es)) x τ):=rfl
theorem fT : yS Ψ ΨM X n (.put (.var v) i e) τ own = (yE Ψ e τ).bind fun z=>bE (jx (aw τ v)) fun xs=>(yE Ψ i τ).bind fun y=>HG τ (dn (fun k lv=>gts X.μ k lv 0 e || gts X.μ k lv 2 i) own) v xs y z:=rfl
theorem dZ : yS Ψ ΨM X n (.put (.ix (.var v) a) i e) τ own = if bY (dn (fun k lv=>gts X.μ k lv 0 e || gts X.μ k lv 2 a || gts X.μ k lv 2 i) own) v = 2 then
     (yE Ψ e τ).bind fun z=>bE (jx (aw τ v)) fun xs=>(yE Ψ a τ).bind fun p=>bE (intOf p) fun p=>bE (L2.ixN xs.length p) fun q=>bE (xs[q]?.bind kR) fun ys=>(yE Ψ i τ).bind fun y=>
       Cn τ (dn (fun k lv=>gts X.μ k lv 0 e || gts X.μ k lv 2 a || gts X.μ k lv 2 i) own) v xs ys q y z
   else .bad:=rfl
theorem fS : yS Ψ ΨM X n (.mth m (.var v) es) τ own = bE (jx (aw τ v)) fun xs=>if 0 < bY (dn (fun k lv=>aY X.μ k lv 0 es) own) v then (yEs Ψ es τ).bind fun ds=>sA m τ (dn (fun k lv=>aY X.μ k lv 0 es) own) v xs ds else .bad:=rfl
theorem eg : yS Ψ ΨM X n (.mth m (.ix (.var v) a) es) τ own = bE (jx (aw τ v)) fun xs=>if bY (dn (fun k lv=>gts X.μ k lv 2 a || aY X.μ k lv 0 es) own) v = 2 then
     (yE Ψ a τ).bind fun p=>bE (intOf p) fun p=>bE (L2.ixN xs.length p) fun q=>bE (xs[q]?.bind kR) fun ys=>(yEs Ψ es τ).bind fun ds=>v5 m τ (dn (fun k lv=>gts X.μ k lv 2 a || aY X.μ k lv 0 es) own) v xs ys ds q
   else .bad:=rfl
theorem e8 : yS Ψ ΨM X n (.ret e) τ own = (yE Ψ e τ).bind fun x=>if X.lv = 0 ∨ isL x = false then .ok (.rt x) else match e with
   | .var i=>if X.lv ≤ bY own i then .ok (.rt x) else .bad
   | e=>if X.lv ≤ min (cm X.μ e) (lvT x) then .ok (.rt x) else .bad:=rfl
theorem el : yS Ψ ΨM X n (.retN) τ own = .ok (.rt .non):=rfl
theorem eY : yS Ψ ΨM X n (.ite c a b) τ own = (yE Ψ c τ).bind fun x=>match x with
   | .bl true=>ySs Ψ ΨM X n a τ (dn (fun k lv=>gts X.μ k lv 2 c) own)
   | .bl false=>ySs Ψ ΨM X n b τ (dn (fun k lv=>gts X.μ k lv 2 c) own)
   | _=>.bad:=rfl
theorem fP : yS Ψ ΨM X n (.for t it body) τ own = ((yIt Ψ it τ).bind fun xs=>dz (fun x τ' own'=>match aA t x τ' with
     | some τ2=>ySs Ψ ΨM X n body τ2 (dn (frg t) own')
     | none=>.bad) xs τ (dn (fun k lv=>dY X.μ k lv 0 it) own)).noX:=rfl
theorem cX : yS Ψ ΨM X n (.while c body) τ own = (gJ (fun τ'=>yE Ψ c τ') (fun k lv=>gts X.μ k lv 2 c) (fun τ' own'=>ySs Ψ ΨM X n body τ' own') n τ own).noX:=rfl
theorem bj : yS Ψ ΨM X n (.expr (.call f (.var v :: es))) τ own = if 0 < (X.μ f).mv then
       (if (X.μ f).mv ≤ bY (dn (fun i lv=>aY X.μ i lv 0 es) own) v then
         (aw τ v).bind fun x=>(yEs Ψ es τ).bind fun xs=>(ΨM f (x :: xs)).bind fun _=>.ok (.nx (τ.set v none) (dn (fun i _=>i == v) (dn (fun i lv=>aY X.μ i lv 0 es) own)))
       else .bad)
     else (yE Ψ (.call f (.var v :: es)) τ).bind fun _=>.ok (.nx τ (dn (fun i lv=>gts X.μ i lv 0 (.call f (.var v :: es))) own)):=rfl
theorem cW : yS Ψ ΨM X n (.raise c) τ own = .exc c:=rfl
theorem fV : yS Ψ ΨM X n (.brk) τ own = .ok (.bk τ own):=rfl
theorem ef : yS Ψ ΨM X n (.cont) τ own = .ok (.ct τ own):=rfl
theorem fW : yS Ψ ΨM X n (.pas) τ own = .ok (.nx τ own):=rfl
theorem fR : yS Ψ ΨM X n (.nev) τ own = .bad:=rfl
end
section
variable {Φ : Fn} {Ψ ΨM : FnT} {X : Fx} (HP : ∀ f,Pure (X.μ f) (Φ f) (Ψ f)) (HM : ∀ f,nV (X.μ f) (Φ f) (ΨM f)) {P : Nat → Prop} {h0 : Hd} {S0 : Sto}
theorem fF {F : List En} {own : Own} {g : Nat → Nat → Bool} (h : aX F = dn g own) : ∀ i lv,(i,lv) ∈ aX F → g i lv = false:=fun i lv hi=>Aq (by rw [← h]; exact hi)
include HP
theorem Hn {H : Hd} {st : Sto} {ρ : Env} {τ : aB} {F : List En} (t : Tg) (e : E) (w : WS P h0 S0.length H st ρ τ F) (ng : ∀ i lv,(i,lv) ∈ aX F → gts X.μ i lv 0 e = false) :
   GS P h0 S0 X.lv H st ((xE Φ e ρ st).bind fun x st1=>match hZ t x ρ with | some ρ'=>.ok (.nx ρ') st1 | none=>.bad) ((yE Ψ e τ).bind fun x=>pw (aA t x τ) (cJ X (aX F) t e x τ)):=by
 obtain ⟨H1,F1,e1,w1,s1⟩:=w.dn0 (frg t)
 have ng1 : ∀ i lv,(i,lv) ∈ aX F1 → gts X.μ i lv 0 e = false:=fun i lv hi=>ng i lv (ua (by rw [← e1]; exact hi))
 have ord : GS P h0 S0 X.lv H st ((xE Φ e ρ st).bind fun x st1=>match hZ t x ρ with | some ρ'=>.ok (.nx ρ') st1 | none=>.bad) ((yE Ψ e τ).bind fun x=>pw (aA t x τ) (aX F1)):=by
   refine (dW w1 (gE HP e 0 w1.we w1.wf ng1) fun u d st2 H2 g2 w2 hu=>?_).back s1
   cases z : aA t d τ with
   | none=>trivial
   | some τ'=>
     obtain ⟨ρ',f1,w3⟩:=w2.hZ (tm e1) hu z
     rw [f1]
     exact ⟨_,_,rfl,H2,F1,rfl,w3,.refl⟩
 cases hy : yE Ψ e τ with
 | bad=>trivial
 | exc c=>rw [hy] at ord; exact ord
 | ok x=>
   rw [hy,Ou.aa] at ord
   rw [Ou.aa]
   cases t with
   | tp is=>simp only [cJ]; rw [← e1]; exact ord
   | nm i=>
     simp only [cJ]
     split
     · rename_i hc
       rw [Bool.and_eq_true] at hc
       split
       · rw [← e1]; exact ord
       · rename_i hz
         have l1 : 1 ≤ lvT x:=by omega
         obtain ⟨ds,rfl⟩:=D7 l1
         have hl : i < τ.length:=by
           have:=hc.2
           rcases Nat.lt_or_ge i τ.length with q | q
           · exact q
           · rw [List.getElem?_eq_none q] at this; cases this
         have key : ∃ u st' H',xE Φ e ρ st = .ok u st' ∧ Gr H1 st H' st' ∧ FrN (min (cm X.μ e) (lvT (.lst ds))) st H' st' u (.lst ds):=by
           have:=A3 (.lst ds)
           rcases (by omega : min (cm X.μ e) (lvT (.lst ds)) = 1 ∨ min (cm X.μ e) (lvT (.lst ds)) = 2) with z | z
           · rw [z]; exact gN1 HP e w1.we w1.wf ng1 (by omega) ds hy
           · rw [z]; exact gN2 HP e w1.we w1.wf ng1 (by omega) ds hy (yW (by omega))
         obtain ⟨u,st',H',f1,g1,fn⟩:=key
         obtain ⟨l,cs,rfl,w2,s2⟩:=w1.take (tm e1 i (List.mem_singleton_self i)) hl g1 fn
         rw [f1,Rs.aa]
         refine ⟨_,_,rfl,H',_,?_,w2,s1.trans s2⟩
         rw [← e1]; rfl
     · rw [← e1]; exact ord
theorem Jl {H : Hd} {st : Sto} {ρ : Env} {τ : aB} {F : List En} (hP : X.lv ≠ 0 → ∀ k,k < S0.length → P k) (e : E) (w : WS P h0 S0.length H st ρ τ F) (n : Nat) : GS P h0 S0 X.lv H st (xS Φ n (.ret e) ρ st) (yS Ψ ΨM X n (.ret e) τ (aX F)):=by
 simp only [xS,bF,fT,dZ,fS,eg,e8,el,eY,fP,cX,bj,cW,fV,ef,fW,fR]
 obtain ⟨H1,w1,s1⟩:=w.fin
 cases hy : yE Ψ e τ with
 | bad=>trivial
 | exc c=>
   have:=(gE HP e 0 w1.we w1.wf fun _ _ z=>nomatch z)
   rw [hy] at this
   obtain ⟨st',H',e1,g⟩:=this
   obtain ⟨w2,s2⟩:=w1.gr g
   exact ⟨st',H',by rw [e1]; rfl,(w2.out.back s2).back s1⟩
 | ok x=>
   rw [Ou.aa]
   have new : ∀ {lv : Nat},lv = X.lv → (∃ u st' H',xE Φ e ρ st = .ok u st' ∧ Gr H1 st H' st' ∧ FrN lv st H' st' u x) → lv ≠ 0 → isL x = true → GS P h0 S0 X.lv H st ((xE Φ e ρ st).bind fun x st1=>.ok (.rt x) st1) (.ok (.rt x)):=fun {lv} hlv ⟨u,st',H',e1,g,fn⟩ h1 h2=>by
     subst hlv
     obtain ⟨w2,s2⟩:=w1.gr g
     refine ⟨.rt u,st',by rw [e1]; rfl,H',(w2.out.back s2).back s1,FrN.r ?_ h1 h2⟩
     obtain ⟨r,l,cs,z,en,nl⟩:=fn
     exact ⟨r,l,cs,z,en,fun k hk=>Nat.le_trans w1.nl (nl k hk)⟩
   split
   · rename_i hc
     obtain ⟨u,st',H',e1,g,p⟩:=(gE HP e 0 w1.we w1.wf fun _ _ z=>nomatch z).inv hy
     obtain ⟨w2,s2⟩:=w1.gr g
     refine ⟨.rt u,st',by rw [e1]; rfl,H',(w2.out.back s2).back s1,?_⟩
     unfold FrR
     rw [if_pos hc]
     exact p
   · rename_i hc
     rw [not_or] at hc
     have hl : isL x = true:=by
       cases h : isL x with
       | true=>rfl
       | false=>exact absurd h hc.2
     split
     · rename_i i
       split
       · rename_i hlv
         obtain ⟨xs,rfl⟩ : ∃ xs,x = .lst xs:=by cases x <;> first | exact ⟨_,rfl⟩ | cases hl
         have hx : τ[i]? = some (some (.lst xs)):=j7 (by simpa only [yE] using hy)
         obtain ⟨Fa,en,Fb,rfl,rfl,hen⟩:=jf (F:=F) (i:=i) (by omega)
         rw [← hen] at hlv
         have drop1 : ∀ (Fa Fb : List En) {H : Hd},WS P h0 S0.length H st ρ τ (Fa ++ en :: Fb) → ∃ H',WS P h0 S0.length H' st ρ τ [en] ∧ Stp P H st H' st:=by
           intro Fa Fb
           induction Fa with
           | nil=>
             induction Fb with
             | nil=>exact fun {H} w=>⟨H,w,.refl⟩
             | cons b Fb ih=>
               intro H w
               rw [show ([] : List En) ++ en :: b :: Fb = [en] ++ b :: Fb by simp] at w
               obtain ⟨H',w',s'⟩:=w.drop
               obtain ⟨H2,w2,s2⟩:=ih w'
               exact ⟨H2,w2,s'.trans s2⟩
           | cons a Fa ih=>
             intro H w
             rw [show (a :: Fa) ++ en :: Fb = [] ++ a :: (Fa ++ en :: Fb) by simp] at w
             obtain ⟨H',w',s'⟩:=w.drop
             obtain ⟨H2,w2,s2⟩:=ih w'
             exact ⟨H2,w2,s'.trans s2⟩
         obtain ⟨H2,w2,s2⟩:=drop1 Fa Fb w
         have sY:=w2.sY (List.mem_singleton_self en)
         have key : ∃ H3 cs,WS P h0 S0.length H3 st ρ τ [⟨en.i,en.l,X.lv,cs⟩] ∧ Stp P H2 st H3 st:=by
           rcases (by omega : X.lv = en.lv ∨ (X.lv = 1 ∧ en.lv = 2)) with z | z
           · exact ⟨H2,en.cs,by rw [z]; exact w2,.refl⟩
           · obtain ⟨H3,w3,s3⟩:=WS.to1 (F1:=[]) (F2:=[]) w2
             exact ⟨H3,[],by rw [z.1]; exact w3,s3⟩
         obtain ⟨H3,cs,w3,s3⟩:=key
         obtain ⟨a1,a2,a3⟩:=w3.own (F1:=[]) (F2:=[]) hx
         obtain ⟨_,_,b3⟩:=w3.ent _ (List.mem_singleton_self _)
         have big : ∀ k ∈ en.l :: cs,S0.length ≤ k:=fun k hk=>Nat.not_lt.mp fun z=>b3 k hk (hP hc.1 k z)
         refine ⟨.rt (.loc en.l),st,by simp only [xE,su,a1,Rs.aa],H3,?_,FrN.r ⟨a2,en.l,cs,rfl,a3,big⟩ hc.1 rfl⟩
         refine Fin.back (s2.trans s3) ⟨Nat.le_refl _,fun _ _=>rfl,w3.wf,fun k z=>(w3.bh k z).1,w3.bg,fun k hk z=>(w3.oh k z).elim id fun q=>q.elim (fun q=>?_) fun q=>absurd hk (Nat.not_lt.mpr q),fun k hk z=>(w3.og k z).elim id fun q=>q.elim (fun q=>?_) fun q=>absurd hk (Nat.not_lt.mpr q)⟩
         · obtain ⟨e',he',hk'⟩:=bH.mp q
           rw [List.mem_singleton] at he'
           subst he'
           exact absurd hk (Nat.not_lt.mpr (big k hk'))
         · obtain ⟨e',he',hk'⟩:=bH.mp q
           rw [List.mem_singleton] at he'
           subst he'
           exact absurd hk (Nat.not_lt.mpr (big k hk'))
       · trivial
     · split
       · rename_i hlv
         obtain ⟨xs,rfl⟩ : ∃ xs,x = .lst xs:=by cases x <;> first | exact ⟨_,rfl⟩ | cases hl
         have:=A3 (.lst xs)
         rcases (by omega : X.lv = 1 ∨ X.lv = 2) with z | z
         · exact new z.symm (gN1 HP e w1.we w1.wf (fun _ _ z=>nomatch z) (by omega) xs hy) (by decide) rfl
         · exact new z.symm (gN2 HP e w1.we w1.wf (fun _ _ z=>nomatch z) (by omega) xs hy (yW (by omega))) (by decide) rfl
       · trivial
theorem y7 {H : Hd} {st : Sto} {ρ : Env} {τ : aB} {F : List En} (HM : ∀ f,nV (X.μ f) (Φ f) (ΨM f)) {f v : Nat} {es : List E} {k : U → Sto → Rs Fl} {kT : T → Ou FlT} (w : WS P h0 S0.length H st ρ τ F) (hm : 0 < (X.μ f).mv)
   (n : ∀ u d st' H' F',aX F' = dn (fun i _=>i == v) (dn (fun i lv=>aY X.μ i lv 0 es) (aX F)) → WS P h0 S0.length H' st' ρ (τ.set v none) F' → PX 0 H' st' u d → GS P h0 S0 X.lv H' st' (k u st') (kT d)) :
   GS P h0 S0 X.lv H st ((xE Φ (.call f (.var v :: es)) ρ st).bind k) (if (X.μ f).mv ≤ bY (dn (fun i lv=>aY X.μ i lv 0 es) (aX F)) v then (aw τ v).bind fun x=>(yEs Ψ es τ).bind fun xs=>(ΨM f (x :: xs)).bind kT else .bad):=by
 split
 · rename_i hlv
   obtain ⟨H1,F1,e1,w1,s1⟩:=w.dn0 fun i lv=>aY X.μ i lv 0 es
   rw [← e1] at hlv n
   obtain ⟨Fa,en,Fb,rfl,rfl,hen⟩:=jf (F:=F1) (i:=v) (by omega)
   rw [← hen] at hlv
   cases hg : aw τ en.i with
   | bad=>trivial
   | exc c=>unfold aw at hg; split at hg <;> cases hg
   | ok x=>
     rw [Ou.aa]
     have hx:=j7 hg
     obtain ⟨u0,f0,r0,_⟩:=w1.val _ _ hx
     obtain ⟨a1,a2,a3⟩:=w1.ent en (List.mem_append_right _ (List.mem_cons_self ..))
     rw [a1] at f0
     have : u0 = .loc en.l:=by simpa using f0.symm
     subst this
     have sY:=w1.sY (e:=en) (List.mem_append_right _ (List.mem_cons_self ..))
     have hE : ∀ z,xE Φ (.call f (.var en.i :: es)) ρ st = z → z = ((xEs Φ es ρ st).bind fun us st1=>Φ f (.loc en.l :: us) st1):=fun z hz=>by
       rw [← hz]
       simp only [xE,xEs,su,a1,Rs.aa]
       cases xEs Φ es ρ st <;> rfl
     rw [hE _ rfl]
     have hA:=gEs HP es 0 w1.we w1.wf (fF e1)
     generalize xEs Φ es ρ st = xa at hA
     generalize yEs Ψ es τ = ya at hA
     cases ya with
     | bad=>trivial
     | exc c=>
       obtain ⟨st',H',e,g⟩:=hA
       subst e
       obtain ⟨w2,s2⟩:=w1.gr g
       obtain ⟨H3,w3,s3⟩:=w2.fin
       exact ⟨st',H3,rfl,((w3.out.back s3).back s2).back s1⟩
     | ok xs=>
       obtain ⟨us,st2,H2,e,g2,p2⟩:=hA
       subst e
       rw [Ou.aa,Rs.aa]
       obtain ⟨w2,s2⟩:=w1.gr g2
       have p2':=p2
       have key : ∃ H3 cs,WS P h0 S0.length H3 st2 ρ τ (Fa ++ ⟨en.i,en.l,(X.μ f).mv,cs⟩ :: Fb) ∧ Stp P H2 st2 H3 st2:=by
         rcases (by omega : (X.μ f).mv = en.lv ∨ ((X.μ f).mv = 1 ∧ en.lv = 2)) with z | z
         · exact ⟨H2,en.cs,by rw [z]; exact w2,.refl⟩
         · obtain ⟨H3,w3,s3⟩:=WS.to1 w2
           exact ⟨H3,[],by rw [z.1]; exact w3,s3⟩
       obtain ⟨H3,cs,w3,s3⟩:=key
       have p3 : PXs 0 H3 st2 us xs:=⟨p2.1,fun u hu=>.inl fun l hl=>⟨((p2.2 u hu).zero l hl).1,fun z=>((p2.2 u hu).zero l hl).2 (s3.hid l ((p2.2 u hu).zero l hl).1 z)⟩⟩
       obtain ⟨b1,b2,b3⟩:=w3.ent _ (List.mem_append_right _ (List.mem_cons_self ..))
       have gm:=(HM f hm).2 H3 st2 en.l cs us x xs w3.wf b2 (r0.ext g2.pre) p3
       have own : aX (Fa ++ Fb) = dn (fun i _=>i == en.i) (aX (Fa ++ en :: Fb)):=(Ci w1.nv).symm
       generalize ΨM f (x :: xs) = y at gm
       cases y with
       | bad=>trivial
       | exc c=>
         obtain ⟨st',H',e,g⟩:=gm
         rw [e]
         obtain ⟨w4,s4⟩:=w3.moved g
         obtain ⟨H5,w5,s5⟩:=w4.fin
         exact ⟨st',H5,rfl,((((w5.out.back s5).back s4).back s3).back s2).back s1⟩
       | ok d=>
         obtain ⟨u,st',H',e,g,p⟩:=gm
         rw [e,Rs.aa,Ou.aa]
         obtain ⟨w4,s4⟩:=w3.moved g
         exact ((((n u d st' H' _ own w4 p).back s4).back s3).back s2).back s1
 · trivial
end
end Sv
namespace Sv
open PySem PySem.Spec L2
open Ev (D aQ aU ai)
section
variable {Φ : Fn} {Ψ ΨM : FnT} {X : Fx} (HP : ∀ f,Pure (X.μ f) (Φ f) (Ψ f)) (HM : ∀ f,nV (X.μ f) (Φ f) (ΨM f)) {P : Nat → Prop} {h0 : Hd} {S0 : Sto} (hP : X.lv ≠ 0 → ∀ k,k < S0.length → P k) (n : Nat)
include HP
theorem Ha {H : Hd} {st : Sto} {ρ : Env} {τ : aB} {F : List En} (v : Nat) (i e : E) (w : WS P h0 S0.length H st ρ τ F) : GS P h0 S0 X.lv H st (xS Φ n (.put (.var v) i e) ρ st) (yS Ψ ΨM X n (.put (.var v) i e) τ (aX F)):=by
 simp only [xS,bF,fT,dZ,fS,eg,e8,el,eY,fP,cX,bj,cW,fV,ef,fW,fR]
 obtain ⟨H0,F0,e0,w0,s0⟩:=w.dn0 fun k lv=>gts X.μ k lv 0 e || gts X.μ k lv 2 i
 rw [← e0]
 refine (dW w0 (gE HP e 0 w0.we w0.wf fun k lv hk=>(bB (fF e0 k lv hk)).1) fun z z' st1 H1 g1 w1 hz=>?_).back s0
 refine bP fun xs hxs=>?_
 have hx:=j7 (jm hxs)
 obtain ⟨u,f0,r0,_⟩:=w1.val _ _ hx
 simp only [xE,su,f0,Rs.aa]
 refine dW w1 (gE HP i 2 w1.we w1.wf fun k lv hk=>(bB (fF e0 k lv hk)).2) fun y y' st2 H2 g2 w2 hy=>?_
 unfold HG
 refine bP fun k hk=>bP fun j hj=>?_
 have:=je hk; subst this
 have:=hy.1.int_inv; subst this
 split
 · rename_i hlv
   obtain ⟨Fa,en,Fb,rfl,rfl,hen⟩:=jf (F:=F0) (i:=v) hlv
   obtain ⟨H3,w3,s3⟩:=WS.to1 w2
   obtain ⟨a1,a2,a3⟩:=w3.own hx
   rw [f0] at a1
   have : u = .loc en.l:=by simpa using a1
   subst this
   obtain ⟨ng,_,us,cell⟩:=a3.one rfl
   have rs:=lD a2 cell
   have hz2:=hz.gr g2
   have hz3 : PX 0 H3 st2 z z':=.of hz2.1 fun l hl=>⟨(hz2.av l hl).1,fun q=>(hz2.av l hl).2 (s3.hid l (hz2.av l hl).1 q)⟩
   obtain ⟨w4,s4⟩:=w3.KR (vs:=us.set j z) (ds:=xs.set j z') ⟨rs.set j hz3.1,fun u hu=>by
     rcases List.mem_or_eq_of_mem_set hu with hu | rfl
     · exact .inl (w3.wf.av _ _ _ ng cell u hu)
     · exact hz3.2⟩
   refine ⟨.nx ρ,st2.set en.l (false,us.set j z),?_,H3,_,(wA w2.nv (w2.sY (List.mem_append_right _ (List.mem_cons_self ..)))).symm,w4,s3.trans s4⟩
   simp only [evP.eq_def,cell,rs.length,hj,Option.map_some,ofS]
 · trivial
omit HP in
theorem uJ {H : Hd} {st : Sto} {ρ : Env} {τ : aB} {Fa Fb : List En} {v l : Nat} {cs : List Nat} {xs ys : List T} {p : Int} {q : Nat} (w : WS P h0 S0.length H st ρ τ (Fa ++ ⟨v,l,2,cs⟩ :: Fb)) (hx : τ[v]? = some (some (.lst xs))) (hq : L2.ixN xs.length p = some q) (hy : xs[q]? = some (.lst ys)) :
   ∃ c us,evI (.loc l) (.int p) st = .ok (.loc c) st ∧ cs[q]? = some c ∧ st[c]? = some (false,us) ∧ PXs 0 H st us ys:=by
 obtain ⟨a1,a2,a3⟩:=w.own hx
 obtain ⟨_,gl,e1,e2⟩:=a3.two (by decide)
 have rs:=lD a2 e1
 obtain ⟨u,g1,g2⟩:=rs.get hy
 rw [List.getElem?_map] at g1
 obtain ⟨c,g3,rfl⟩:=Option.map_eq_some_iff.mp g1
 obtain ⟨b1,b2,ws,b3⟩:=e2 c (List.mem_of_getElem? g3)
 refine ⟨c,ws,?_,g3,b3,lD g2 b3,fun u hu=>.inl (w.wf.av _ _ _ b2 b3 u hu)⟩
 have hl:=rs.length
 simp only [evI.eq_def,seq?,e1,Option.map_some,L2.atI]
 rw [hl,hq,Option.bind_some,List.getElem?_map,g3]
 rfl
omit HP in
theorem vU {α β γ : Type} (x : Rs α) (f : α → Sto → Rs β) (g : β → Sto → Rs γ) : (x.bind f).bind g = x.bind fun a s=>(f a s).bind g:=by cases x <;> rfl
theorem EL {H : Hd} {st : Sto} {ρ : Env} {τ : aB} {F : List En} (v : Nat) (a i e : E) (w : WS P h0 S0.length H st ρ τ F) : GS P h0 S0 X.lv H st (xS Φ n (.put (.ix (.var v) a) i e) ρ st) (yS Ψ ΨM X n (.put (.ix (.var v) a) i e) τ (aX F)):=by
 simp only [xS,bF,fT,dZ,fS,eg,e8,el,eY,fP,cX,bj,cW,fV,ef,fW,fR]
 obtain ⟨H0,F0,e0,w0,s0⟩:=w.dn0 fun k lv=>gts X.μ k lv 0 e || gts X.μ k lv 2 a || gts X.μ k lv 2 i
 rw [← e0]
 split
 · rename_i hlv
   obtain ⟨Fa,⟨v',l,lv,cs⟩,Fb,rfl,rfl,hen⟩:=jf (F:=F0) (i:=v) (by omega)
   rw [hlv] at hen
   dsimp only at hen
   subst hen
   refine (dW w0 (gE HP e 0 w0.we w0.wf fun k lv hk=>(bB (bB (fF e0 k lv hk)).1).1) fun z z' st1 H1 g1 w1 hz=>?_).back s0
   refine bP fun xs hxs=>?_
   have hx:=j7 (jm hxs)
   obtain ⟨a1,a2,a3⟩:=w1.own hx
   have hE : ∀ y,xE Φ (.ix (.var v') a) ρ st1 = y → y = (xE Φ a ρ st1).bind fun p st2=>evI (.loc l) p st2:=fun y hy=>by
     rw [← hy]; simp only [xE,su,a1,Rs.aa]
   rw [hE _ rfl,vU]
   refine dW w1 (gE HP a 2 w1.we w1.wf fun k lv hk=>(bB (bB (fF e0 k lv hk)).1).2) fun p p' st2 H2 g2 w2 hp=>?_
   refine bP fun pi hpi=>bP fun q hq=>bP fun ys hys=>?_
   have:=je hpi; subst this
   have:=hp.1.int_inv; subst this
   obtain ⟨yt,hy1,hy2⟩:=Option.bind_eq_some_iff.mp hys
   have:=oo hy2; subst this
   obtain ⟨c,us,c1,c2,c3,c4⟩:=uJ w2 hx hq hy1
   rw [c1,Rs.aa]
   refine dW w2 (gE HP i 2 w2.we w2.wf fun k lv hk=>(bB (fF e0 k lv hk)).2) fun y y' st3 H3 g3 w3 hy=>?_
   unfold Cn
   refine bP fun k hk=>bP fun j hj=>?_
   have:=je hk; subst this
   have:=hy.1.int_inv; subst this
   have hz3:=(hz.gr g2).gr g3
   have c3':=gg g3.pre _ _ c3
   have c4':=c4.gr g3
   obtain ⟨w4,s4⟩:=w3.KJ (vs:=us.set j z) (ds:=ys.set j z') hx c2 ⟨c4'.1.set j hz3.1,fun u hu=>by
     rcases List.mem_or_eq_of_mem_set hu with hu | rfl
     · exact c4'.2 u hu
     · exact hz3.2⟩
   refine ⟨.nx ρ,st3.set c (false,us.set j z),?_,H3,_,rfl,w4,s4⟩
   simp only [evP.eq_def,c3',c4'.1.length,hj,Option.map_some,ofS]
 · trivial
theorem II {H : Hd} {st : Sto} {ρ : Env} {τ : aB} {F : List En} (m : Lm) (v : Nat) (es : List E) (w : WS P h0 S0.length H st ρ τ F) : GS P h0 S0 X.lv H st (xS Φ n (.mth m (.var v) es) ρ st) (yS Ψ ΨM X n (.mth m (.var v) es) τ (aX F)):=by
 simp only [xS,bF,fT,dZ,fS,eg,e8,el,eY,fP,cX,bj,cW,fV,ef,fW,fR]
 obtain ⟨H0,F0,e0,w0,s0⟩:=w.dn0 fun k lv=>aY X.μ k lv 0 es
 rw [← e0]
 refine bP fun xs hxs=>?_
 have hx:=j7 (jm hxs)
 split
 · rename_i hlv
   obtain ⟨Fa,⟨v',l,lv,cs⟩,Fb,rfl,rfl,hen⟩:=jf (F:=F0) (i:=v) hlv
   obtain ⟨a1,a2,a3⟩:=w0.own hx
   simp only [xE,su,a1,Rs.aa]
   rw [if_pos (a3.lt l (List.mem_cons_self ..))]
   refine (dW w0 (gEs HP es 0 w0.we w0.wf (fF e0)) fun y ds st2 H2 g2 w2 hy=>?_).back s0
   unfold sA
   refine bP fun ys hz=>?_
   obtain ⟨H3,w3,s3⟩:=WS.to1 w2
   obtain ⟨b1,b2,b3⟩:=w3.own hx
   obtain ⟨ng,_,us,cell⟩:=b3.one rfl
   have rs:=lD b2 cell
   have hy3 : PXs 0 H3 st2 y ds:=⟨hy.1,fun u hu=>.inl fun l hl=>⟨((hy.2 u hu).zero l hl).1,fun q=>((hy.2 u hu).zero l hl).2 (s3.hid l ((hy.2 u hu).zero l hl).1 q)⟩⟩
   obtain ⟨ws,e5,p5⟩:=Dg cell ⟨rs,fun u hu=>.inl (w3.wf.av _ _ _ ng cell u hu)⟩ hy3 hz
   obtain ⟨w4,s4⟩:=w3.KR p5
   refine ⟨.nx ρ,st2.set l (false,ws),by rw [e5]; rfl,H3,_,(wA w2.nv (w2.sY (List.mem_append_right _ (List.mem_cons_self ..)))).symm,w4,s3.trans s4⟩
 · trivial
theorem D8 {H : Hd} {st : Sto} {ρ : Env} {τ : aB} {F : List En} (m : Lm) (v : Nat) (a : E) (es : List E) (w : WS P h0 S0.length H st ρ τ F) : GS P h0 S0 X.lv H st (xS Φ n (.mth m (.ix (.var v) a) es) ρ st) (yS Ψ ΨM X n (.mth m (.ix (.var v) a) es) τ (aX F)):=by
 simp only [xS,bF,fT,dZ,fS,eg,e8,el,eY,fP,cX,bj,cW,fV,ef,fW,fR]
 obtain ⟨H0,F0,e0,w0,s0⟩:=w.dn0 fun k lv=>gts X.μ k lv 2 a || aY X.μ k lv 0 es
 rw [← e0]
 refine bP fun xs hxs=>?_
 have hx:=j7 (jm hxs)
 split
 · rename_i hlv
   obtain ⟨Fa,⟨v',l,lv,cs⟩,Fb,rfl,rfl,hen⟩:=jf (F:=F0) (i:=v) (by omega)
   rw [hlv] at hen
   dsimp only at hen
   subst hen
   obtain ⟨a1,a2,a3⟩:=w0.own hx
   have hE : ∀ y,xE Φ (.ix (.var v') a) ρ st = y → y = (xE Φ a ρ st).bind fun p st2=>evI (.loc l) p st2:=fun y hy=>by
     rw [← hy]; simp only [xE,su,a1,Rs.aa]
   rw [hE _ rfl,vU]
   refine (dW w0 (gE HP a 2 w0.we w0.wf fun k lv hk=>(bB (fF e0 k lv hk)).1) fun p p' st2 H2 g2 w2 hp=>?_).back s0
   refine bP fun pi hpi=>bP fun q hq=>bP fun ys hys=>?_
   have:=je hpi; subst this
   have:=hp.1.int_inv; subst this
   obtain ⟨yt,hy1,hy2⟩:=Option.bind_eq_some_iff.mp hys
   have:=oo hy2; subst this
   obtain ⟨c,us,c1,c2,c3,c4⟩:=uJ w2 hx hq hy1
   rw [c1,Rs.aa]
   dsimp only
   rw [if_pos (List.getElem?_eq_some_iff.mp c3).1]
   refine dW w2 (gEs HP es 0 w2.we w2.wf fun k lv hk=>(bB (fF e0 k lv hk)).2) fun y ds st3 H3 g3 w3 hy=>?_
   unfold v5
   refine bP fun zs hz=>?_
   obtain ⟨ws,e5,p5⟩:=Dg (gg g3.pre _ _ c3) (c4.gr g3) hy hz
   obtain ⟨w4,s4⟩:=w3.KJ hx c2 p5
   exact ⟨.nx ρ,st3.set c (false,ws),by rw [e5]; rfl,H3,_,rfl,w4,s4⟩
 · trivial
include HM hP
mutual
theorem gS : ∀ (s : S) {H : Hd} {st : Sto} {ρ : Env} {τ : aB} {F : List En},WS P h0 S0.length H st ρ τ F → GS P h0 S0 X.lv H st (xS Φ n s ρ st) (yS Ψ ΨM X n s τ (aX F))
 | .set t e,H,st,ρ,τ,F,w=>by
   have gen : ∀ (r : Ou FlT),r = ((yE Ψ e τ).bind fun x=>pw (aA t x τ) (cJ X (dn (fun i lv=>gts X.μ i lv 0 e) (aX F)) t e x τ)) → GS P h0 S0 X.lv H st (xS Φ n (.set t e) ρ st) r:=fun r hr=>by
     subst hr
     simp only [xS]
     obtain ⟨H0,F0,e0,w0,s0⟩:=w.dn0 fun i lv=>gts X.μ i lv 0 e
     rw [← e0]
     exact (Hn HP t e w0 (fF e0)).back s0
   by_cases hc : ∃ f v es,e = .call f (.var v :: es)
   · obtain ⟨f,v,es,rfl⟩:=hc
     by_cases hm : 0 < (X.μ f).mv
     · simp only [xS,bF,fT,dZ,fS,eg,e8,el,eY,fP,cX,bj,cW,fV,ef,fW,fR]
       rw [if_pos hm]
       refine y7 HP HM w hm fun u d st' H' F' e' w' p=>?_
       have lv0 : cm X.μ (.call f (.var v :: es)) = 0:=(HM f hm).1
       have own0 : ∀ F x,cJ X (aX F) t (.call f (.var v :: es)) x (τ.set v none) = dn (frg t) (aX F):=fun F x=>by
         cases t with
         | tp is=>rfl
         | nm i=>simp only [cJ,lv0,Nat.zero_min,if_true]; split <;> rfl
       rw [← e',own0]
       obtain ⟨H1,F1,e1,w1,s1⟩:=w'.dn0 (frg t)
       rw [← e1]
       have p1 : PX 0 H1 st' u d:=.of p.1 fun l hl=>⟨(p.av l hl).1,fun q=>(p.av l hl).2 (s1.hid l (p.av l hl).1 q)⟩
       refine GS.back s1 ?_
       cases z : aA t d (τ.set v none) with
       | none=>trivial
       | some τ'=>
         obtain ⟨ρ',f1,w3⟩:=w1.hZ (tm e1) p1 z
         rw [f1]
         exact ⟨_,_,rfl,H1,F1,rfl,w3,.refl⟩
     · refine gen _ ?_
       exact if_neg hm
   · refine gen _ ?_
     cases e with
     | call f es=>
       cases es with
       | nil=>rfl
       | cons a r=>
         cases a with
         | var v=>exact absurd ⟨f,v,r,rfl⟩ hc
         | _=>rfl
     | _=>rfl
 | .put a i e,H,st,ρ,τ,F,w=>by
   cases a with
   | var v=>exact Ha HP n v i e w
   | ix b c=>
     cases b with
     | var v=>exact EL HP n v c i e w
     | _=>trivial
   | _=>trivial
 | .mth m a es,H,st,ρ,τ,F,w=>by
   cases a with
   | var v=>exact II HP n m v es w
   | ix b c=>
     cases b with
     | var v=>exact D8 HP n m v c es w
     | _=>trivial
   | _=>trivial
 | .ret e,H,st,ρ,τ,F,w=>Jl HP hP e w n
 | .retN,H,st,ρ,τ,F,w=>by
   obtain ⟨H1,w1,s1⟩:=w.fin
   refine ⟨.rt .non,st,rfl,H1,w1.out.back s1,?_⟩
   unfold FrR
   rw [if_pos (.inr rfl)]
   exact .of .non .non
 | .ite c a d,H,st,ρ,τ,F,w=>by
   simp only [xS,bF,fT,dZ,fS,eg,e8,el,eY,fP,cX,bj,cW,fV,ef,fW,fR]
   obtain ⟨H0,F0,e0,w0,s0⟩:=w.dn0 fun k lv=>gts X.μ k lv 2 c
   rw [← e0]
   refine (dW w0 (gE HP c 2 w0.we w0.wf (fF e0)) fun x x' st1 H1 g1 w1 hx=>?_).back s0
   cases x' with
   | bl r=>
     have:=hx.1.iV; subst this
     cases r with
     | true=>exact gSs a w1
     | false=>exact gSs d w1
   | _=>trivial
 | .for t it body,H,st,ρ,τ,F,w=>by
   simp only [xS,bF,fT,dZ,fS,eg,e8,el,eY,fP,cX,bj,cW,fV,ef,fW,fR]
   obtain ⟨H0,F0,e0,w0,s0⟩:=w.dn0 fun k lv=>dY X.μ k lv 0 it
   rw [← e0]
   refine (GS.noX (dW w0 (gIt HP it 0 (Nat.zero_le _) w0.we w0.wf (fF e0)) fun q xs st1 H1 g1 w1 hq=>?_)).back s0
   rw [hq.2.len]
   have:=qm (P:=P) (h0:=h0) (S0:=S0) (lv:=X.lv) (f:=fun x ρ' st'=>match hZ t x ρ' with | some ρ2=>xSs Φ n body ρ2 st' | none=>.bad) (g:=fun x τ' own'=>match aA t x τ' with | some τ2=>ySs Ψ ΨM X n body τ2 (dn (frg t) own') | none=>.bad) (q:=q) (xs:=xs) (fun x u st H ρ τ F w px=>by
     cases z : aA t x τ with
     | none=>trivial
     | some τ'=>
       obtain ⟨H2,F2,e2,w2,s2⟩:=w.dn0 (frg t)
       have p2 : PX 0 H2 st u x:=.of px.1 fun l hl=>⟨(px.av l hl).1,fun q=>(px.av l hl).2 (s2.hid l (px.av l hl).1 q)⟩
       obtain ⟨ρ',e1,w3⟩:=w2.hZ (tm e2) p2 z
       rw [e1]
       dsimp only
       rw [← e2]
       exact (gSs body w3).back s2) (xs.length + 1) 0 st1 H1 ρ τ F0 w1 (by cases q <;> first | exact hq.1 rfl | trivial) hq.2 (Nat.zero_le _) (Nat.zero_add _)
   exact this
 | .while c body,H,st,ρ,τ,F,w=>by
   simp only [xS,bF,fT,dZ,fS,eg,e8,el,eY,fP,cX,bj,cW,fV,ef,fW,fR]
   exact GS.noX (mV (fun st H ρ τ F w hk=>gE HP c 2 w.we w.wf hk) (fun st H ρ τ F w=>gSs body w) n st H ρ τ F w)
 | .expr e,H,st,ρ,τ,F,w=>by
   have gen : ∀ (r : Ou FlT),r = ((yE Ψ e τ).bind fun _=>.ok (.nx τ (dn (fun i lv=>gts X.μ i lv 0 e) (aX F)))) → GS P h0 S0 X.lv H st (xS Φ n (.expr e) ρ st) r:=fun r hr=>by
     subst hr
     simp only [xS]
     obtain ⟨H0,F0,e0,w0,s0⟩:=w.dn0 fun i lv=>gts X.μ i lv 0 e
     rw [← e0]
     refine (dW w0 (gE HP e 0 w0.we w0.wf (fF e0)) fun u d st1 H1 g1 w1 hu=>?_).back s0
     exact ⟨_,_,rfl,H1,F0,rfl,w1,.refl⟩
   by_cases hc : ∃ f v es,e = .call f (.var v :: es)
   · obtain ⟨f,v,es,rfl⟩:=hc
     by_cases hm : 0 < (X.μ f).mv
     · simp only [xS,bF,fT,dZ,fS,eg,e8,el,eY,fP,cX,bj,cW,fV,ef,fW,fR]
       rw [if_pos hm]
       refine y7 HP HM w hm fun u d st' H' F' e' w' p=>?_
       rw [← e']
       exact ⟨_,_,rfl,H',F',rfl,w',.refl⟩
     · refine gen _ ?_
       exact if_neg hm
   · refine gen _ ?_
     cases e with
     | call f es=>
       cases es with
       | nil=>rfl
       | cons a r=>
         cases a with
         | var v=>exact absurd ⟨f,v,r,rfl⟩ hc
         | _=>rfl
     | _=>rfl
 | .raise c,H,st,ρ,τ,F,w=>by
   obtain ⟨H1,w1,s1⟩:=w.fin
   exact ⟨st,H1,rfl,w1.out.back s1⟩
 | .brk,H,st,ρ,τ,F,w=>⟨_,_,rfl,H,F,rfl,w,.refl⟩
 | .cont,H,st,ρ,τ,F,w=>⟨_,_,rfl,H,F,rfl,w,.refl⟩
 | .pas,H,st,ρ,τ,F,w=>⟨_,_,rfl,H,F,rfl,w,.refl⟩
 | .nev,H,st,ρ,τ,F,w=>trivial
theorem gSs : ∀ (s : List S) {H : Hd} {st : Sto} {ρ : Env} {τ : aB} {F : List En},WS P h0 S0.length H st ρ τ F → GS P h0 S0 X.lv H st (xSs Φ n s ρ st) (ySs Ψ ΨM X n s τ (aX F))
 | [],H,st,ρ,τ,F,w=>⟨_,_,rfl,H,F,rfl,w,.refl⟩
 | s :: ss,H,st,ρ,τ,F,w=>by
   simp only [xSs,ySs]
   refine w8 (gS s w) fun fl fl' st' o=>?_
   cases fl <;> cases fl' <;> first | exact o.elim | skip
   · obtain ⟨H1,F1,rfl,w1,s1⟩:=o
     exact (gSs ss w1).back s1
   · exact ⟨_,_,rfl,o⟩
   · exact ⟨_,_,rfl,o⟩
   · exact ⟨_,_,rfl,o⟩
end
end
end Sv
namespace Sv
open PySem PySem.Spec L2
open Ev (D aQ aU ai)
noncomputable def cy (md : Md) : Ou FlT → Ou T
 | .ok (.rt d)=>if md.sc && !pG md.lv d then .bad else .ok d
 | .ok (.nx _ _)=>.ok .non
 | _=>.bad
noncomputable def DX : T → Nat
 | .int i=>i.natAbs
 | _=>0
noncomputable def bt : List T → Nat
 | []=>1
 | d :: r=>DX d + bt r
noncomputable def Bf (md : Md) : Own:=if md.mv = 0 then [] else [(0,md.mv)]
noncomputable def mkT (Ψ ΨM : FnT) (μ : Nat → Md) (md : Md) (need : List Nat) (ir : List S) (np nl : Nat) (ds : List T) : Ou T:=
 if ds.length = np then cy md (ySs Ψ ΨM ⟨μ,need,md.lv⟩ (bt ds) ir (ds.map some ++ List.replicate (nl - np) none) (Bf md)) else .bad
noncomputable def aV (fs : List (List T → Ou T)) (i : Nat) : List T → Ou T:=fs.getD i fun _=>.bad
noncomputable def cR (fs : List Md) (i : Nat) : Md:=fs.getD i {}
theorem Ft {st : Sto} {u : U} {d : T} (r : Rep st u d) : J6 u = DX d:=by cases r <;> rfl
theorem wL {st : Sto} : ∀ {us : List U} {ds : List T},aK st us ds → fuel us = bt ds
 | _,_,.nil=>rfl
 | _,_,.cons h r=>by rw [fuel,bt,Ft h,wL r]
theorem pre_of {st st' : Sto} (hl : st.length ≤ st'.length) (e : ∀ k,k < st.length → st'[k]? = st[k]?) : st <+: st':=by
 refine ⟨st'.drop st.length,?_⟩
 apply List.ext_getElem?
 intro k
 rcases Nat.lt_or_ge k st.length with h | h
 · rw [List.getElem?_append_left h,e k h]
 · rw [List.getElem?_append_right h,List.getElem?_drop]
   congr 1; omega
theorem D2 {us : List U} {ds : List T} {st : Sto} (r : aK st us ds) {n i : Nat} {d : T} (e : (ds.map some ++ List.replicate n none)[i]? = some (some d)) : ∃ u,(us.map some ++ List.replicate n none)[i]? = some (some u) ∧ us[i]? = some u ∧ ds[i]? = some d ∧ Rep st u d:=by
 by_cases q : i < ds.length
 · rw [List.getElem?_append_left (by rw [List.length_map]; exact q),List.getElem?_map] at e
   cases z : ds[i]? with
   | none=>rw [z] at e; cases e
   | some y=>
     rw [z] at e; cases e
     obtain ⟨v,h1,h2⟩:=r.get z
     refine ⟨v,?_,h1,rfl,h2⟩
     rw [List.getElem?_append_left (by rw [List.length_map,r.length]; exact q),List.getElem?_map,h1]; rfl
 · rw [List.getElem?_append_right (by rw [List.length_map]; omega)] at e
   have:=List.mem_of_getElem? e
   rw [List.mem_replicate] at this
   cases this.2
theorem Dc {h : Hd} {st : Sto} {us : List U} {ds : List T} (wf : Wf h st) (p : PXs 0 h st us ds) (n : Nat) :
   WS (fun k=>k < st.length) h st.length h st (us.map some ++ List.replicate n none) (ds.map some ++ List.replicate n none) []:=
 ⟨by simp [p.1.length],fun i d e=>let ⟨u,e1,e2,_,r⟩:=D2 p.1 e; ⟨u,e1,r,fun _=>(p.2 u (List.mem_of_getElem? e2)).zero⟩,wf,(fun _ z=>nomatch z),List.nodup_nil,List.nodup_nil,fun k z=>⟨z,wf.lt k z⟩,fun _ z=>z,fun _ z=>.inl z,fun _ z=>.inl z,fun _ z=>z,Nat.le_refl _⟩
section
variable {Φ : Fn} {Ψ ΨM : FnT} {μ : Nat → Md} (HP : ∀ f,Pure (μ f) (Φ f) (Ψ f)) (HM : ∀ f,nV (μ f) (Φ f) (ΨM f))
theorem Ae {md : Md} {r : Ou FlT} {d : T} (hs : md.sc = true) (h : cy md r = .ok d) : pG md.lv d = true:=by
 match r,h with
 | .ok (.rt x),h=>
   simp only [cy] at h
   split at h
   · cases h
   · rename_i hc
     cases h
     rw [hs,Bool.true_and,Bool.not_eq_true',Bool.not_eq_false] at hc
     exact hc
 | .ok (.nx _ _),h=>cases h; rfl
 | .ok (.bk _ _),h=>cases h
 | .ok (.ct _ _),h=>cases h
 | .exc _,h=>cases h
 | .bad,h=>cases h
include HP HM
theorem yX (md : Md) (hm : md.mv = 0) (need : List Nat) (ir : List S) (np nl : Nat) : Pure md (mk Φ ir np nl) (mkT Ψ ΨM μ md need ir np nl):=by
 refine ⟨fun hs ds d h=>?_,fun h st us ds wf p=>?_⟩
 · unfold mkT at h
   split at h
   · exact Ae hs h
   · cases h
 · unfold mk mkT
   rw [p.1.length,wL p.1]
   split
   · have g:=gSs (X:=⟨μ,need,md.lv⟩) HP HM (S0:=st) (fun _ k hk=>hk) (bt ds) ir (Dc wf p (nl - np))
     have e0 : aX ([] : List En) = Bf md:=by unfold Bf; rw [if_pos hm]; rfl
     rw [e0] at g
     generalize ySs Ψ ΨM ⟨μ,need,md.lv⟩ (bt ds) ir (ds.map some ++ List.replicate (nl - np) none) (Bf md) = y at g ⊢
     have fin : ∀ {H' : Hd} {st' : Sto},Fin (fun k=>k < st.length) h st.length st H' st' → Gr h st H' st':=fun {H' st'} f=>⟨pre_of f.len f.lo,f.hm,f.gm,f.hn,f.gn,f.wf⟩
     cases y with
     | bad=>trivial
     | exc c=>trivial
     | ok f=>
       obtain ⟨f',st',e,o⟩:=g
       rw [e]
       cases f <;> cases f' <;> first | exact o.elim | trivial | skip
       · obtain ⟨H1,F1,_,w,s⟩:=o
         obtain ⟨H2,w2,s2⟩:=w.fin
         refine ⟨_,_,H2,rfl,fin ((w2.out.back s2).back s),?_⟩
         unfold FrR
         rw [if_pos (.inr rfl)]
         exact .of .non .non
       · obtain ⟨H1,f1,r1⟩:=o
         simp only [cy]
         split
         · trivial
         · exact ⟨_,_,H1,rfl,fin f1,r1⟩
   · trivial
end
theorem BC {md : Md} {F : List U → Sto → Rs U} : Pure md F fun _=>.bad:=⟨(fun _ _ _ h=>by cases h),fun _ _ _ _ _ _=>trivial⟩
theorem pR {md : Md} {F : List U → Sto → Rs U} {G : List T → Ou T} (h : md.mv = 0) : nV md F G:=fun z=>absurd z (by omega)
inductive bV : List (List U → Sto → Rs U) → List Md → List (List T → Ou T) → List (List T → Ou T) → Prop where
 | nil : bV [] [] [] []
 | cons {f : List U → Sto → Rs U} {m : Md} {g g' : List T → Ou T} {fs : List (List U → Sto → Rs U)} {ms : List Md} {gs gs' : List (List T → Ou T)} (h : Pure m f g) (h' : nV m f g') (r : bV fs ms gs gs') : bV (f :: fs) (m :: ms) (g :: gs) (g' :: gs')
theorem bV.at : ∀ {fs : List (List U → Sto → Rs U)} {ms : List Md} {gs gs' : List (List T → Ou T)},bV fs ms gs gs' → (∀ i,Pure (cR ms i) (tab fs i) (aV gs i)) ∧ ∀ i,nV (cR ms i) (tab fs i) (aV gs' i)
 | _,_,_,_,.nil=>⟨fun i=>by unfold aV; simp only [List.getD_nil]; exact BC,fun i=>pR (by simp [cR])⟩
 | _,_,_,_,.cons h h' r=>by
   obtain ⟨r1,r2⟩:=r.at
   refine ⟨fun i=>?_,fun i=>?_⟩
   · cases i with
     | zero=>exact h
     | succ i=>
       have:=r1 i
       unfold tab aV cR at this ⊢
       simpa using this
   · cases i with
     | zero=>exact h'
     | succ i=>
       have:=r2 i
       unfold tab aV cR at this ⊢
       simpa using this
theorem bV.snoc : ∀ {fs : List (List U → Sto → Rs U)} {ms : List Md} {gs gs' : List (List T → Ou T)} {f : List U → Sto → Rs U} {m : Md} {g g' : List T → Ou T},bV fs ms gs gs' → Pure m f g → nV m f g' → bV (fs ++ [f]) (ms ++ [m]) (gs ++ [g]) (gs' ++ [g'])
 | _,_,_,_,_,_,_,_,.nil,h,h'=>.cons h h' .nil
 | _,_,_,_,_,_,_,_,.cons a b r,h,h'=>.cons a b (r.snoc h h')
theorem bV.def {fs : List (List U → Sto → Rs U)} {ms : List Md} {gs gs' : List (List T → Ou T)} (p : bV fs ms gs gs') (md : Md) (hm : md.mv = 0) (need : List Nat) (ir : List S) (np nl : Nat) : bV (fs ++ [mk (tab fs) ir np nl]) (ms ++ [md]) (gs ++ [mkT (aV gs) (aV gs') (cR ms) md need ir np nl]) (gs' ++ [fun _=>.bad]):=
 p.snoc (yX p.at.1 p.at.2 md hm need ir np nl) (pR hm)
theorem bT {Ψ ΨM : FnT} {μ : Nat → Md} {md : Md} {need : List Nat} {ir : List S} {np nl : Nat} {ds : List T} (h : ds.length = np) : mkT Ψ ΨM μ md need ir np nl ds = cy md (ySs Ψ ΨM ⟨μ,need,md.lv⟩ (bt ds) ir (ds.map some ++ List.replicate (nl - np) none) (Bf md)):=if_pos h
noncomputable def dfT (n : Nat) (i : Int) (G : List T → Ou T) : List T → Ou T:=fun ds=>if ds.length = n then G (ds ++ [.int i]) else G ds
theorem Pure.df {md : Md} {F : List U → Sto → Rs U} {G : List T → Ou T} (p : Pure md F G) (n : Nat) (i : Int) : Pure md (dfU n i F) (dfT n i G):=by
 refine ⟨fun hs ds d h=>?_,fun h st us ds wf hp=>?_⟩
 · unfold dfT at h
   split at h
   · exact p.1 hs _ _ h
   · exact p.1 hs _ _ h
 · unfold dfU dfT
   rw [hp.1.length]
   split
   · refine p.2 _ _ _ _ wf ⟨hp.1.append (.cons .int .nil),fun u hu=>?_⟩
     rcases List.mem_append.mp hu with hu | hu
     · exact hp.2 u hu
     · cases List.mem_singleton.mp hu
       exact .inl .int
   · exact p.2 _ _ _ _ wf hp
theorem bV.df {fs : List (List U → Sto → Rs U)} {ms : List Md} {gs gs' : List (List T → Ou T)} (p : bV fs ms gs gs') (n : Nat) (i : Int) (md : Md) (hm : md.mv = 0) (need : List Nat) (ir : List S) (np nl : Nat) : bV (fs ++ [dfU n i (mk (tab fs) ir np nl)]) (ms ++ [md]) (gs ++ [dfT n i (mkT (aV gs) (aV gs') (cR ms) md need ir np nl)]) (gs' ++ [fun _=>.bad]):=
 p.snoc ((yX p.at.1 p.at.2 md hm need ir np nl).df n i) (pR hm)
end Sv
namespace Sv
open PySem PySem.Spec L2
open Ev (D aQ aU ai)
section
variable (Ψ ΨM : FnT) (X : Fx) (n : Nat) (τ : aB) (own : Own)
noncomputable def Ju (c : E) : aB → Ou T:=fun τ=>yE Ψ c τ
noncomputable def GO (body : List S) : aB → Own → Ou FlT:=fun τ own=>ySs Ψ ΨM X n body τ own
noncomputable def dC (t : Tg) (body : List S) : T → aB → Own → Ou FlT:=fun x τ own=>match aA t x τ with
 | some τ2=>ySs Ψ ΨM X n body τ2 (dn (frg t) own)
 | none=>.bad
noncomputable def jO (caps : List (Option Nat)) (t : Tg) (ifs : List E) (elt : E) : T → Ou (Option T):=fun x=>match aA t x (eT τ caps ++ [none]) with
 | none=>.bad
 | some τ1=>(yIf Ψ ifs τ1).bind fun b=>if b then (yE Ψ elt τ1).bind fun y=>.ok (some y) else .ok none
theorem DS (c : E) : Ju Ψ c τ = yE Ψ c τ:=rfl
theorem Ew (body : List S) : GO Ψ ΨM X n body τ own = ySs Ψ ΨM X n body τ own:=rfl
theorem eU (t : Tg) (body : List S) (x : T) : dC Ψ ΨM X n t body x τ own = match aA t x τ with | some τ2=>ySs Ψ ΨM X n body τ2 (dn (frg t) own) | none=>.bad:=rfl
theorem aq (caps : List (Option Nat)) (t : Tg) (ifs : List E) (elt : E) (x : T) : jO Ψ τ caps t ifs elt x = match aA t x (eT τ caps ++ [none]) with
 | none=>.bad
 | some τ1=>(yIf Ψ ifs τ1).bind fun b=>if b then (yE Ψ elt τ1).bind fun y=>.ok (some y) else .ok none:=rfl
theorem j4 (caps : List (Option Nat)) (t : Tg) (it : It) (ifs : List E) (elt : E) : yE Ψ (.comp caps t it ifs elt) τ = (yIt Ψ it τ).bind fun xs=>if xs.length < ai then ((ei (jO Ψ τ caps t ifs elt) xs).bind fun ys=>.ok (.lst ys)).noX else .bad:=by
 rw [yE]
 all_goals rfl
theorem af (i : Nat) : yE Ψ (.var i) τ = aw τ i:=by rw [yE]
theorem ie (b : Bool) : yE Ψ (.cB b) τ = .ok (.bl b):=by rw [yE]
theorem aG (i : Int) : yE Ψ (.cI i) τ = .ok (.int i):=by rw [yE]
theorem cx (o : Op2) (a b : E) : yE Ψ (.op o a b) τ = (yE Ψ a τ).bind fun x=>(yE Ψ b τ).bind fun y=>z2 o x y:=by rw [yE]
noncomputable def K1 : T → Ou T
 | .int i=>.ok (.int (-i))
 | _=>.bad
noncomputable def Kb : T → Ou T
 | .bl i=>.ok (.bl (!i))
 | _=>.bad
theorem IQ (a : E) : yE Ψ (.neg a) τ = (yE Ψ a τ).bind K1:=by
 rw [yE]
 all_goals first | rfl | (congr 1; funext x; cases x <;> rfl) | (congr 1; done)
theorem dF (a : E) : yE Ψ (.not a) τ = (yE Ψ a τ).bind Kb:=by
 rw [yE]
 all_goals first | rfl | (congr 1; funext x; cases x <;> rfl) | (congr 1; done)
theorem aW (o : Cm) (a b : E) : yE Ψ (.cmp o a b) τ = (yE Ψ a τ).bind fun x=>(yE Ψ b τ).bind fun y=>ofB (zC o x y):=by rw [yE]
noncomputable def chT (o : Option Bool) (r : Ou T) : Ou T:=match o with
 | some true=>r
 | some false=>.ok (.bl false)
 | none=>.bad
theorem pV (o o' : Cm) (a b c : E) : yE Ψ (.chain o o' a b c) τ = (yE Ψ a τ).bind fun x=>(yE Ψ b τ).bind fun y=>chT (zC o x y) ((yE Ψ c τ).bind fun u=>ofB (zC o' y u)):=by
 rw [yE]
 all_goals first | rfl | (congr 1; funext x; congr 1; funext y; cases zC o x y <;> first | rfl | (rename_i z; cases z <;> rfl)) | (congr 1; done)
noncomputable def Ig (x : T) (r : Ou T) : Ou T:=match x with
 | .bl true=>r
 | .bl false=>.ok (.bl false)
 | _=>.bad
noncomputable def orT (x : T) (r : Ou T) : Ou T:=match x with
 | .bl true=>.ok (.bl true)
 | .bl false=>r
 | _=>.bad
noncomputable def zh {α : Type} (x : T) (r s : Ou α) : Ou α:=match x with
 | .bl true=>r
 | .bl false=>s
 | _=>.bad
theorem jQ (a b : E) : yE Ψ (.and a b) τ = (yE Ψ a τ).bind fun x=>Ig x (yE Ψ b τ):=by
 rw [yE]
 all_goals first | rfl | (congr 1; funext x; cases x <;> first | rfl | (rename_i z; cases z <;> rfl)) | (congr 1; done)
theorem gM (a b : E) : yE Ψ (.or a b) τ = (yE Ψ a τ).bind fun x=>orT x (yE Ψ b τ):=by
 rw [yE]
 all_goals first | rfl | (congr 1; funext x; cases x <;> first | rfl | (rename_i z; cases z <;> rfl)) | (congr 1; done)
noncomputable def qi (f : List T → T) (xs : List T) : Ou T:=if xs.length < ai then .ok (f xs) else .bad
theorem iE (es : List E) : yE Ψ (.tup es) τ = (yEs Ψ es τ).bind (qi .tup):=by rw [yE]; rfl
theorem kG (es : List E) : yE Ψ (.lst es) τ = (yEs Ψ es τ).bind (qi .lst):=by rw [yE]; rfl
theorem dB (a i : E) : yE Ψ (.ix a i) τ = (yE Ψ a τ).bind fun x=>(yE Ψ i τ).bind fun y=>zI x y:=by rw [yE]
theorem aM (f : Nat) (es : List E) : yE Ψ (.call f es) τ = (yEs Ψ es τ).bind (Ψ f):=by rw [yE]
theorem bu (b : Bi) (es : List E) : yE Ψ (.bi b es) τ = (yEs Ψ es τ).bind (zB b):=by rw [yE]
noncomputable def sI (t : Ty) : T → Ou T
 | .exo _=>.bad
 | x=>.ok (.bl (iL t x))
theorem fJ (a : E) (t : Ty) : yE Ψ (.isi a t) τ = (yE Ψ a τ).bind (sI t):=by
 rw [yE]
 all_goals first | rfl | (congr 1; funext x; cases x <;> rfl) | (congr 1; done)
theorem FO (a l h : E) : yE Ψ (.sl a l h) τ = (yE Ψ a τ).bind fun x=>(yE Ψ l τ).bind fun y=>bE (nO l y) fun lo=>(yE Ψ h τ).bind fun z=>bE (nO h z) fun hi=>zSl x lo hi:=by
 rw [yE]
 all_goals first | rfl | (congr 1; funext x; congr 1; funext y; cases nO l y <;> first | rfl | (dsimp only [bE]; congr 1; funext z; cases nO h z <;> rfl)) | (congr 1; done)
theorem ah : yEs Ψ [] τ = .ok []:=by rw [yEs]
theorem ae (e : E) (es : List E) : yEs Ψ (e :: es) τ = (yE Ψ e τ).bind fun x=>(yEs Ψ es τ).bind fun xs=>.ok (x :: xs):=by rw [yEs]
theorem bM : yIf Ψ [] τ = .ok true:=by rw [yIf]
noncomputable def Ke : T → Ou (List T)
 | .lst xs=>.ok xs
 | .tup xs=>.ok xs
 | _=>.bad
noncomputable def JJ : T → Ou (List T)
 | .int j=>if -(2 ^ 62) ≤ j ∧ j < 2 ^ 62 then .ok (rangeT 0 j.toNat) else .bad
 | _=>.bad
noncomputable def enT : T → Ou (List T)
 | .lst xs=>.ok (lj 0 xs)
 | _=>.bad
theorem dk (e : E) : yIt Ψ (.seq e) τ = (yE Ψ e τ).bind Ke:=by
 rw [yIt]
 all_goals first | rfl | (congr 1; funext x; cases x <;> rfl) | (congr 1; done)
theorem DG (e : E) : yIt Ψ (.rng e) τ = (yE Ψ e τ).bind JJ:=by
 rw [yIt]
 all_goals first | rfl | (congr 1; funext x; cases x <;> rfl) | (congr 1; done)
theorem EO (e : E) : yIt Ψ (.enu e) τ = (yE Ψ e τ).bind enT:=by
 rw [yIt]
 all_goals first | rfl | (congr 1; funext x; cases x <;> rfl) | (congr 1; done)
theorem sO (a b : E) : yIt Ψ (.zip a b) τ = (yE Ψ a τ).bind fun x=>(yE Ψ b τ).bind fun y=>zpT x y:=by
 rw [yIt]
theorem Kq (xs ys : List T) : zpT (.lst xs) (.lst ys) = .ok (kU xs ys):=rfl
noncomputable def gU (μ : Nat → Md) (k : Nat) (e : E) : Nat → Nat → Bool:=fun i lv=>gts μ i lv k e
noncomputable def gUL (μ : Nat → Md) (k : Nat) (es : List E) : Nat → Nat → Bool:=fun i lv=>aY μ i lv k es
noncomputable def gUI (μ : Nat → Md) (k : Nat) (it : It) : Nat → Nat → Bool:=fun i lv=>dY μ i lv k it
noncomputable def gM2 (μ : Nat → Md) (a : E) (es : List E) : Nat → Nat → Bool:=fun k lv=>gts μ k lv 2 a || aY μ k lv 0 es
theorem iU (μ : Nat → Md) (k : Nat) (e : E) (i lv : Nat) : gU μ k e i lv = gts μ i lv k e:=rfl
theorem qa (μ : Nat → Md) (k : Nat) (e : List E) (i lv : Nat) : gUL μ k e i lv = aY μ i lv k e:=rfl
theorem qh (μ : Nat → Md) (k : Nat) (e : It) (i lv : Nat) : gUI μ k e i lv = dY μ i lv k e:=rfl
theorem JG (μ : Nat → Md) (a : E) (es : List E) (k lv : Nat) : gM2 μ a es k lv = (gts μ k lv 2 a || aY μ k lv 0 es):=rfl
theorem nr {α : Type} {a : α} : a = a:=of_eq_true (eq_self a)
noncomputable def yn : E → Bool
 | .var _=>true
 | _=>false
noncomputable def Bu : List E → Bool
 | []=>false
 | e :: _=>yn e
noncomputable def kH (X : Fx) : E → Bool
 | .call f es=>Bu es && decide (0 < (X.μ f).mv)
 | _=>false
theorem bJ (f : Nat) (es : List E) : kH X (.call f es) = (Bu es && decide (0 < (X.μ f).mv)):=nr
theorem bR (e : E) (es : List E) : Bu (e :: es) = yn e:=nr
theorem AR (f : Nat) (es : List E) : yn (.call f es) = false:=nr
theorem vp (i : Nat) : kH X (.var i) = false:=nr
theorem d0 (i : Nat) : yn (.var i) = true:=nr
theorem yP (μ : Nat → Md) (i : Nat) : cm μ (.var i) = 0:=rfl
theorem uk (i : Int) : kH X (.cI i) = false:=nr
theorem x5 (μ : Nat → Md) (i : Int) : cm μ (.cI i) = 0:=rfl
theorem gp (o : Op2) (a b : E) : kH X (.op o a b) = false:=nr
theorem zz (o : Op2) (a b : E) : yn (.op o a b) = false:=nr
theorem Bp (a : E) : kH X (.neg a) = false:=nr
theorem Fu (μ : Nat → Md) (a : E) : cm μ (.neg a) = 0:=rfl
theorem jJ (es : List E) : kH X (.lst es) = false:=nr
theorem EV (a i : E) : kH X (.ix a i) = false:=nr
theorem FT (μ : Nat → Md) (a i : E) : cm μ (.ix a i) = 0:=rfl
theorem EE (a b c : E) : kH X (.sl a b c) = false:=nr
theorem zb (o : Bi) (es : List E) : kH X (.bi o es) = false:=nr
theorem nh (cs : List (Option Nat)) (t : Tg) (it : It) (fs : List E) (e : E) : kH X (.comp cs t it fs e) = false:=nr
theorem oS (μ : Nat → Md) (es : List E) : cm μ (.lst es) = 1:=by simp only [cm]
theorem Bs (μ : Nat → Md) (cs : List (Option Nat)) (t : Tg) (it : It) (fs : List E) (e : E) : cm μ (.comp cs t it fs e) = if cm μ e = 0 then 1 else 2:=by simp only [cm]
theorem iT (μ : Nat → Md) (f : Nat) (es : List E) : cm μ (.call f es) = (μ f).lv:=by simp only [cm]
theorem D9 (μ : Nat → Md) (a b : E) : cm μ (.op .add a b) = 1:=by simp only [cm]
theorem mO (μ : Nat → Md) (a b : E) : cm μ (.op .mul a b) = 0:=rfl
theorem vV (μ : Nat → Md) (a b : E) : cm μ (.op .fdiv a b) = 0:=rfl
theorem sr (μ : Nat → Md) (a b : E) : cm μ (.op .mod a b) = 0:=rfl
theorem wK (μ : Nat → Md) (es : List E) : cm μ (.bi .abs es) = 0:=rfl
theorem oQ (xs : List T) : lvT (.lst xs) = if xs.all isL then 2 else 1:=rfl
theorem bI (t : Tg) (e : E) (hm : kH X e = false) : yS Ψ ΨM X n (.set t e) τ own = (yE Ψ e τ).bind fun x=>pw (aA t x τ) (cJ X (dn (gU X.μ 0 e) own) t e x τ):=by
 cases e with
 | call f es=>
   cases es with
   | nil=>rfl
   | cons a r=>
     cases a with
     | var v=>exact if_neg (by simpa [kH,Bu,yn] using hm)
     | _=>rfl
 | _=>rfl
theorem Eh (e : E) (hm : kH X e = false) : yS Ψ ΨM X n (.expr e) τ own = (yE Ψ e τ).bind fun _=>.ok (.nx τ (dn (gU X.μ 0 e) own)):=by
 cases e with
 | call f es=>
   cases es with
   | nil=>rfl
   | cons a r=>
     cases a with
     | var v=>exact if_neg (by simpa [kH,Bu,yn] using hm)
     | _=>rfl
 | _=>rfl
theorem pj (m : Lm) (v : Nat) (es : List E) : yS Ψ ΨM X n (.mth m (.var v) es) τ own = bE (jx (aw τ v)) fun xs=>if 0 < bY (dn (gUL X.μ 0 es) own) v then (yEs Ψ es τ).bind fun ds=>sA m τ (dn (gUL X.μ 0 es) own) v xs ds else .bad:=by rfl
theorem Fj (m : Lm) (v : Nat) (a : E) (es : List E) : yS Ψ ΨM X n (.mth m (.ix (.var v) a) es) τ own = bE (jx (aw τ v)) fun xs=>if bY (dn (gM2 X.μ a es) own) v = 2 then
     (yE Ψ a τ).bind fun p=>bE (intOf p) fun p=>bE (L2.ixN xs.length p) fun q=>bE (xs[q]?.bind kR) fun ys=>(yEs Ψ es τ).bind fun ds=>v5 m τ (dn (gM2 X.μ a es) own) v xs ys ds q
   else .bad:=by rfl
noncomputable def tE (X : Fx) (own : Own) (e : E) (x : T) : Ou FlT:=if X.lv = 0 ∨ isL x = false then .ok (.rt x) else if X.lv ≤ (match e with | .var i=>bY own i | e=>min (cm X.μ e) (lvT x)) then .ok (.rt x) else .bad
theorem aE (e : E) : yS Ψ ΨM X n (.ret e) τ own = (yE Ψ e τ).bind (tE X own e):=by
 rw [e8]
 congr 1
 funext x
 unfold tE
 split
 · rfl
 · cases e <;> rfl
theorem ba (c : E) (a b : List S) : yS Ψ ΨM X n (.ite c a b) τ own = (yE Ψ c τ).bind fun x=>zh x (ySs Ψ ΨM X n a τ (dn (gU X.μ 2 c) own)) (ySs Ψ ΨM X n b τ (dn (gU X.μ 2 c) own)):=by
 rw [eY]
 all_goals first | rfl | (congr 1; funext x; cases x <;> first | rfl | (rename_i z; cases z <;> rfl)) | (congr 1; done)
theorem lh (t : Tg) (it : It) (body : List S) : yS Ψ ΨM X n (.for t it body) τ own = ((yIt Ψ it τ).bind fun xs=>dz (dC Ψ ΨM X n t body) xs τ (dn (gUI X.μ 0 it) own)).noX:=by
 rfl
theorem vB (c : E) (body : List S) : yS Ψ ΨM X n (.while c body) τ own = (gJ (Ju Ψ c) (gU X.μ 2 c) (GO Ψ ΨM X n body) n τ own).noX:=by
 rfl
theorem aC : ySs Ψ ΨM X n [] τ own = .ok (.nx τ own):=by rw [ySs]
noncomputable def HD (r : FlT) (k : aB → Own → Ou FlT) : Ou FlT:=match r with
 | .nx τ own=>k τ own
 | r=>.ok r
theorem ag (s : S) (ss : List S) : ySs Ψ ΨM X n (s :: ss) τ own = (yS Ψ ΨM X n s τ own).bind fun r=>HD r (ySs Ψ ΨM X n ss):=by
 rw [ySs]
 all_goals first | rfl | (congr 1; funext r; cases r <;> rfl) | (congr 1; done)
end
theorem ay (τ : aB) (own : Own) (k : aB → Own → Ou FlT) : HD (.nx τ own) k = k τ own:=rfl
theorem ar (d : T) (k : aB → Own → Ou FlT) : HD (.rt d) k = .ok (.rt d):=rfl
theorem aN (τ : aB) (own : Own) : pw (some τ) own = .ok (.nx τ own):=rfl
theorem cw {α β : Type} (a : α) (f : α → Ou β) : bE (some a) f = f a:=rfl
theorem iI (xs : List T) : jx (.ok (.lst xs)) = some xs:=rfl
theorem pM (r : Ou T) : Ig (.bl true) r = r:=rfl
theorem uf (r : Ou T) : Ig (.bl false) r = .ok (.bl false):=rfl
theorem yY (r : Ou T) : orT (.bl true) r = .ok (.bl true):=rfl
theorem iH (r : Ou T) : orT (.bl false) r = r:=rfl
theorem eC {α : Type} (r s : Ou α) : zh (.bl true) r s = r:=rfl
theorem cv {α : Type} (r s : Ou α) : zh (.bl false) r s = s:=rfl
theorem K7 (r : Ou T) : chT (some true) r = r:=rfl
theorem Ko (r : Ou T) : chT (some false) r = .ok (.bl false):=rfl
theorem dH (b : Bool) : Kb (.bl b) = .ok (.bl (!b)):=rfl
theorem JA (b : Int) : K1 (.int b) = .ok (.int (-b)):=rfl
theorem ax (b : Bool) : ofB (some b) = .ok (.bl b):=rfl
theorem tH (t : Ty) (i : Int) : sI t (.int i) = .ok (.bl (iL t (.int i))):=rfl
theorem xR (t : Ty) (i : Bool) : sI t (.bl i) = .ok (.bl (iL t (.bl i))):=rfl
theorem sx (t : Ty) : sI t .non = .ok (.bl (iL t .non)):=rfl
theorem uq (t : Ty) (x : Str) : sI t (.str x) = .ok (.bl (iL t (.str x))):=rfl
theorem ij (t : Ty) (x : List T) : sI t (.tup x) = .ok (.bl (iL t (.tup x))):=rfl
theorem oV (t : Ty) (x : List T) : sI t (.lst x) = .ok (.bl (iL t (.lst x))):=rfl
theorem kN (xs : List T) : Ke (.lst xs) = .ok xs:=rfl
theorem KU (xs : List T) : enT (.lst xs) = .ok (lj 0 xs):=rfl
theorem bQ (lv mv : Nat) (d : T) : cy ⟨false,lv,mv⟩ (.ok (.rt d)) = .ok d:=rfl
theorem cf (md : Md) (b : Bool) : cy md (.ok (.rt (.bl b))) = .ok (.bl b):=by cases md; rename_i s _ _; cases s <;> rfl
theorem gb (md : Md) (b : Int) : cy md (.ok (.rt (.int b))) = .ok (.int b):=by cases md; rename_i s _ _; cases s <;> rfl
theorem Ek (md : Md) (τ : aB) (own : Own) : cy md (.ok (.nx τ own)) = .ok .non:=rfl
theorem aF (μ : Nat → Md) (need : List Nat) (own : Own) (e : E) (x : T) : tE ⟨μ,need,0⟩ own e x = .ok (.rt x):=if_pos (.inl rfl)
theorem au (g : Nat → Nat → Bool) : dn g [] = []:=rfl
theorem bL (g : Nat → Nat → Bool) (i lv : Nat) (r : Own) : dn g ((i,lv) :: r) = if g i lv then (if lv = 2 ∧ g i 1 = false then (i,1) :: dn g r else dn g r) else (i,lv) :: dn g r:=by rw [dn]
theorem oX (f : List T → T) : qi f [] = .ok (f []):=rfl
theorem ic (f : List T → T) (a b : T) : qi f [a,b] = .ok (f [a,b]):=rfl
theorem Ej (f : List T → T) (a b c d : T) : qi f [a,b,c,d] = .ok (f [a,b,c,d]):=rfl
theorem oZ (i : Int) : eqK (.int i):=⟨rfl,Nat.zero_le _⟩
theorem bS (i j : Int) : zC .eq (.int i) (.int j) = some (decide (i = j)):=by
 show (if eqK (.int i) ∧ eqK (.int j) then some (eqT (.int i) (.int j)) else none) = _
 rw [if_pos ⟨oZ i,oZ j⟩,eqT,Bool.beq_eq_decide_eq]
theorem cF (i j : Int) : zC .ne (.int i) (.int j) = some (!decide (i = j)):=by
 show (if eqK (.int i) ∧ eqK (.int j) then some (!eqT (.int i) (.int j)) else none) = _
 rw [if_pos ⟨oZ i,oZ j⟩,eqT,Bool.beq_eq_decide_eq]
theorem kg (i j : Int) : zC .lt (.int i) (.int j) = some (decide (i < j)):=rfl
theorem mS (i j : Int) : zC .le (.int i) (.int j) = some (decide (i ≤ j)):=rfl
theorem j6 (i j : Int) : zC .gt (.int i) (.int j) = some (decide (j < i)):=rfl
theorem gB (i j : Int) : zC .ge (.int i) (.int j) = some (decide (j ≤ i)):=rfl
theorem iF (i j : Int) : z2 .add (.int i) (.int j) = .ok (.int (i + j)):=rfl
theorem wR (i j : Int) : z2 .sub (.int i) (.int j) = .ok (.int (i - j)):=rfl
theorem gP {i j : Int} (h : 0 < j) : z2 .mod (.int i) (.int j) = .ok (.int (i % j)):=by
 show (if j ≠ 0 then Ou.ok (T.int (i.fmod j)) else .bad) = _
 rw [if_pos (by omega),Int.fmod_eq_emod_of_nonneg i (by omega)]
theorem yA {α : Type} {xs : List α} {k : Nat} {d : α} (h : xs[k]? = some d) : L2.atI xs (k : Int) = some d:=by
 have hl:=(List.getElem?_eq_some_iff.mp h).1
 unfold L2.atI L2.ixN
 rw [if_pos (by omega),if_pos (by omega)]
 simpa using h
theorem iX {xs : List T} {k : Nat} {d : T} (h : xs[k]? = some d) : zI (.lst xs) (.int (k : Nat)) = .ok d:=by
 rw [zI,yA h]
theorem CP {xs : List T} {k : Nat} {d : T} (h : xs[k]? = some d) : zI (.tup xs) (.int (k : Nat)) = .ok d:=by
 rw [zI,yA h]
theorem vw (x0 : T) (xs : List T) : zI (.lst (x0 :: xs)) (.int 0) = .ok x0:=iX (k:=0) rfl
theorem oi (x0 : T) (xs : List T) : zI (.tup (x0 :: xs)) (.int 0) = .ok x0:=CP (k:=0) rfl
theorem FL (x0 x1 : T) (xs : List T) : zI (.lst (x0 :: x1 :: xs)) (.int 1) = .ok x1:=iX (k:=1) rfl
theorem ml (x0 x1 : T) (xs : List T) : zI (.tup (x0 :: x1 :: xs)) (.int 1) = .ok x1:=CP (k:=1) rfl
theorem KQ (x0 x1 x2 : T) (xs : List T) : zI (.lst (x0 :: x1 :: x2 :: xs)) (.int 2) = .ok x2:=iX (k:=2) rfl
theorem KG (x0 x1 x2 x3 : T) (xs : List T) : zI (.lst (x0 :: x1 :: x2 :: x3 :: xs)) (.int 3) = .ok x3:=iX (k:=3) rfl
noncomputable def big : Nat:=10 ^ 1000
theorem pD {n : Nat} (h : n < big) : n.log2 < 9000:=by
 rcases Nat.eq_zero_or_pos n with h0 | hp
 · subst h0; decide
 · refine (Nat.log2_lt (by omega)).mpr (Nat.lt_of_lt_of_le h ?_)
   unfold big
   exact Nat.le_of_ble_eq_true (by decide +kernel)
theorem gu {n : Nat} (h : n < 10 ^ 200) : n < big:=Nat.lt_of_lt_of_le h (Nat.pow_le_pow_right (by decide) (by decide))
theorem AX {j : Int} (h0 : j ≠ 0) (h : j.natAbs < big) : aU j:=⟨h0,pD h⟩
theorem mulOk_of {i j : Int} (h : i.natAbs < big) (h' : j.natAbs < big) : aQ i j:=.inr (.inr ⟨Nat.lt_of_lt_of_le (pD h) (by decide),Nat.lt_of_lt_of_le (pD h') (by decide)⟩)
theorem eS {i j : Int} (h : j.natAbs < 2 ^ 64) : aQ i j:=.inr (.inl (by
 rcases Nat.eq_zero_or_pos j.natAbs with h0 | hp
 · rw [h0]; decide
 · exact (Nat.log2_lt (by omega)).mpr h))
theorem fK {i j : Int} (h : i.natAbs < 2 ^ 64) : aQ i j:=.inl (by
 rcases Nat.eq_zero_or_pos i.natAbs with h0 | hp
 · rw [h0]; decide
 · exact (Nat.log2_lt (by omega)).mpr h)
theorem eA {i j : Int} (h : 0 < j) (h' : j.natAbs < big) : z2 .fdiv (.int i) (.int j) = .ok (.int (i / j)):=by
 show (if aU j then Ou.ok (T.int (i.fdiv j)) else .bad) = _
 rw [if_pos (AX (by omega) h'),Int.fdiv_eq_ediv_of_nonneg i (by omega)]
theorem eW {i j : Int} (h : aQ i j) : z2 .mul (.int i) (.int j) = .ok (.int (i * j)):=by
 show (if aQ i j then Ou.ok (T.int (i * j)) else .bad) = _
 rw [if_pos h]
theorem Hy {i : Int} {n : Nat} (h : n ≤ 1000000) (h' : i.natAbs < 2 ^ 64) : z2 .pow (.int i) (.int (n : Int)) = .ok (.int (i ^ n)):=by
 show (if 0 ≤ (n : Int) ∧ (n : Int) ≤ 1000000 ∧ i.natAbs < 2 ^ 64 then Ou.ok (T.int (i ^ (n : Int).toNat)) else .bad) = _
 rw [if_pos ⟨by omega,by omega,h'⟩]
 rfl
theorem nC (i : Int) : zB .abs [.int i] = .ok (.int (i.natAbs : Int)):=by
 show Ou.ok (T.int (if i < 0 then -i else i)) = _
 congr 2
 split <;> omega
theorem fZ (xs : List T) : zB .len [.lst xs] = .ok (.int (xs.length : Nat)):=rfl
theorem gX (xs : List T) : zB .len [.tup xs] = .ok (.int (xs.length : Nat)):=rfl
theorem Ht (i j : Int) : zB .max [.int i,.int j] = .ok (.int (max i j)):=by
 show Ou.ok (T.int (if j > i then j else i)) = _
 congr 2; rw [Int.max_def]; split <;> split <;> omega
theorem Ck (i j : Int) : zB .min [.int i,.int j] = .ok (.int (min i j)):=by
 show Ou.ok (T.int (if j < i then j else i)) = _
 congr 2; rw [Int.min_def]; split <;> split <;> omega
theorem oP (b : Bool) : zB .int [.bl b] = .ok (.int (if b then 1 else 0)):=rfl
theorem zG (xs : List T) : zB .list [.lst xs] = .ok (.lst xs):=rfl
theorem Bv {α : Type} (xs : List α) (f : α → Bool) : sE (xs.map fun x=>.bl (f x)) = some (xs.all f):=by
 induction xs with
 | nil=>rfl
 | cons x xs ih=>simp only [List.map_cons,sE,ih,Option.map_some,List.all_cons]
theorem yk {α : Type} (xs : List α) (f : α → Bool) : zB .all [.lst (xs.map fun x=>.bl (f x))] = .ok (.bl (xs.all f)):=by
 show ofB (sE _) = _
 rw [Bv]; rfl
theorem bw {α : Type} (xs : List α) {g : α → T} {f : T → Ou (Option T)} {k : α → T} (h : ∀ x ∈ xs,f (g x) = .ok (some (k x))) : ei f (xs.map g) = .ok (xs.map k):=by
 induction xs with
 | nil=>rfl
 | cons x xs ih=>
   rw [List.map_cons,ei,h x (List.mem_cons_self ..),ih fun y hy=>h y (List.mem_cons_of_mem _ hy)]
   rfl
theorem yF (xs : List T) {f : T → Ou (Option T)} {k : T → T} (h : ∀ x ∈ xs,f x = .ok (some (k x))) : ei f xs = .ok (xs.map k):=by
 have:=bw (g:=id) xs h
 rwa [List.map_id] at this
theorem Ds (a b : Nat) (h : b ≠ 0) : Nat.gcd b (a % b) = Nat.gcd a b:=by
 rw [Nat.gcd_comm a b,Nat.gcd_rec b a,Nat.gcd_comm]
end Sv
namespace Sv
open PySem PySem.Spec L2
open Ev (D aQ aU ai)
noncomputable def Dt (r : FlT) (k : aB → Own → Ou FlT) : Ou FlT:=match r with
 | .nx τ own=>k τ own
 | .ct τ own=>k τ own
 | .bk τ own=>.ok (.nx τ own)
 | .rt d=>.ok (.rt d)
theorem ed (τ : aB) (own : Own) (k : aB → Own → Ou FlT) : Dt (.nx τ own) k = k τ own:=rfl
theorem gF (f : T → aB → Own → Ou FlT) (τ : aB) (own : Own) : dz f [] τ own = .ok (.nx τ own):=by rw [dz]
theorem cH (f : T → aB → Own → Ou FlT) (x : T) (xs : List T) (τ : aB) (own : Own) : dz f (x :: xs) τ own = (f x τ own).bind fun r=>Dt r (dz f xs):=by
 rw [dz]
 all_goals first | rfl | (congr 1; funext r; cases r <;> rfl) | (congr 1; done)
theorem uR (c : aB → Ou T) (g : Nat → Nat → Bool) (f : aB → Own → Ou FlT) (n : Nat) (τ : aB) (own : Own) :
   gJ c g f (n + 1) τ own = (c τ).bind fun x=>zh x ((f τ (dn g own)).bind fun r=>Dt r (gJ c g f n)) (.ok (.nx τ (dn g own))):=by
 rw [gJ]
 all_goals first | rfl | (congr 1; done) | (congr 1; funext x; cases x <;> first | rfl | (rename_i z; cases z <;> first | rfl | (show Ou.bind _ _ = Ou.bind _ _; congr 1; funext r; cases r <;> rfl)))
theorem uy (Ψ ΨM : FnT) (X : Fx) (n : Nat) (c : E) (body : List S) (g : Nat → Nat → Bool) (mkE : T → T → Option T → aB)
   (hc : ∀ (a b : Nat) r,yE Ψ c (mkE (.int a) (.int b) r) = .ok (.bl (decide (b ≠ 0))))
   (hb : ∀ (a b : Nat) r,b ≠ 0 → ySs Ψ ΨM X n body (mkE (.int a) (.int b) r) [] = .ok (.nx (mkE (.int b) (.int ((a % b : Nat) : Int)) (some (.int ((a % b : Nat) : Int)))) [])) :
   ∀ (m a b : Nat) (r : Option T),b < m → ∃ r',gJ (Ju Ψ c) g (GO Ψ ΨM X n body) m (mkE (.int a) (.int b) r) [] = .ok (.nx (mkE (.int (Nat.gcd a b : Nat)) (.int 0) r') []):=by
 intro m
 induction m with
 | zero=>intro a b r h; omega
 | succ m ih=>
   intro a b r h
   rw [uR,DS,hc,Ou.aa]
   by_cases hb0 : b = 0
   · subst hb0
     exact ⟨r,by rw [Nat.gcd_zero_right]; rfl⟩
   · obtain ⟨r',e⟩:=ih b (a % b) (some (.int ((a % b : Nat) : Int))) (by have:=Nat.mod_lt a (show 0 < b by omega); omega)
     refine ⟨r',?_⟩
     rw [decide_eq_true hb0,eC,au,Ew,hb a b r hb0,Ou.aa,ed,e,Ds a b hb0]
noncomputable def mX : List S:=[.set (.nm 0) (.bi .abs [(.var 0)]),.set (.nm 1) (.bi .abs [(.var 1)]),.while (.cmp .gt (.var 1) (.cI 0)) [.set (.nm 2) (.op .mod (.var 0) (.var 1)),.set (.nm 0) (.var 1),.set (.nm 1) (.var 2)],.ret (.var 0)]
noncomputable def pz : List S:=[.set (.nm 2) (.bi .abs [(.var 0)]),.set (.nm 3) (.bi .abs [(.var 1)]),.while (.cmp .ne (.var 3) (.cI 0)) [.set (.nm 4) (.op .mod (.var 2) (.var 3)),.set (.nm 2) (.var 3),.set (.nm 3) (.var 4)],.ret (.var 2)]
theorem zp (a b : Nat) (h : b ≠ 0) : z2 .mod (.int (a : Int)) (.int (b : Int)) = .ok (.int ((a % b : Nat) : Int)):=by
 rw [gP (by omega)]; rfl
theorem xm (Ψ ΨM : FnT) (μ : Nat → Md) (sc : Bool) (a b : Int) : mkT Ψ ΨM μ ⟨sc,0,0⟩ [] mX 2 3 [.int a,.int b] = .ok (.int (Int.gcd a b : Nat)):=by
 obtain ⟨r',e⟩:=uy Ψ ΨM ⟨μ,[],0⟩ (bt [.int a,.int b]) (.cmp .gt (.var 1) (.cI 0)) [.set (.nm 2) (.op .mod (.var 0) (.var 1)),.set (.nm 0) (.var 1),.set (.nm 1) (.var 2)] (gU μ 2 (.cmp .gt (.var 1) (.cI 0))) (fun x y r=>[some x,some y,r])
   (fun a b r=>by
     simp only [af,aG,aW,ax,Ou.aa,aw,j6,List.getElem?_cons_zero,List.getElem?_cons_succ]
     congr 2
     exact decide_eq_decide.mpr (by omega))
   (fun a b r hb=>by simp only [af,cx,bI,aC,ag,vp,yP,gp,sr,ay,aN,au,Ou.aa,aw,aA.eq_def,cJ,List.getElem?_cons_zero,List.getElem?_cons_succ,List.set_cons_zero,List.set_cons_succ,List.contains_nil,Option.isSome_some,Bool.and_true,Bool.false_eq_true,if_false,Nat.min_def,and_true,zp a b hb]) (bt [.int a,.int b]) a.natAbs b.natAbs none (by simp only [bt,DX]; omega)
 show cy ⟨sc,0,0⟩ (ySs Ψ ΨM ⟨μ,[],0⟩ _ mX [some (.int a),some (.int b),none] []) = _
 simp only [mX,af,bu,ah,ae,bI,vB,ag,zb,wK,ay,aN,au,Ou.aa,aw,aA.eq_def,cJ,nC,List.getElem?_cons_zero,List.getElem?_cons_succ,List.set_cons_zero,List.set_cons_succ,List.contains_nil,Option.isSome_some,Bool.and_true,Bool.false_eq_true,if_false,Nat.min_def,and_true]
 simp only [e,af,aE,ag,ay,ar,gb,aF,Ou.aa,Ou.fu,aw,List.getElem?_cons_zero]
 rfl
theorem qZ (Ψ ΨM : FnT) (μ : Nat → Md) (sc : Bool) (a b : Int) : mkT Ψ ΨM μ ⟨sc,0,0⟩ [] pz 2 5 [.int a,.int b] = .ok (.int (Int.gcd a b : Nat)):=by
 obtain ⟨r',e⟩:=uy Ψ ΨM ⟨μ,[],0⟩ (bt [.int a,.int b]) (.cmp .ne (.var 3) (.cI 0)) [.set (.nm 4) (.op .mod (.var 2) (.var 3)),.set (.nm 2) (.var 3),.set (.nm 3) (.var 4)] (gU μ 2 (.cmp .ne (.var 3) (.cI 0))) (fun x y r=>[some (.int a),some (.int b),some x,some y,r])
   (fun a b r=>by
     simp only [af,aG,aW,ax,Ou.aa,aw,cF,List.getElem?_cons_zero,List.getElem?_cons_succ]
     congr 2
     rw [← decide_not]
     exact decide_eq_decide.mpr (by omega))
   (fun a b r hb=>by simp only [af,cx,bI,aC,ag,vp,yP,gp,sr,ay,aN,au,Ou.aa,aw,aA.eq_def,cJ,List.getElem?_cons_zero,List.getElem?_cons_succ,List.set_cons_zero,List.set_cons_succ,List.contains_nil,Option.isSome_some,Bool.and_true,Bool.false_eq_true,if_false,Nat.min_def,and_true,zp a b hb]) (bt [.int a,.int b]) a.natAbs b.natAbs none (by simp only [bt,DX]; omega)
 show cy ⟨sc,0,0⟩ (ySs Ψ ΨM ⟨μ,[],0⟩ _ pz [some (.int a),some (.int b),none,none,none] []) = _
 simp only [pz,af,bu,ah,ae,bI,vB,ag,zb,wK,ay,aN,au,Ou.aa,aw,aA.eq_def,cJ,nC,List.getElem?_cons_zero,List.getElem?_cons_succ,List.set_cons_zero,List.set_cons_succ,List.contains_nil,Option.isSome_some,Bool.and_true,Bool.false_eq_true,if_false,Nat.min_def,and_true]
 simp only [e,af,aE,ag,ay,ar,gb,aF,Ou.aa,Ou.fu,aw,List.getElem?_cons_zero,List.getElem?_cons_succ]
 rfl
noncomputable def tT : List S:=[.ite (.cmp .lt (.var 1) (.bi .len [(.var 0)])) [.ret (.ix (.var 0) (.var 1))] [],.ret (.cI 0)]
noncomputable def inT (ns : List Int) : T:=.lst (ns.map .int)
theorem DP (Ψ ΨM : FnT) (μ : Nat → Md) (sc : Bool) (ns : List Int) (k : Nat) : ∃ c : Int,mkT Ψ ΨM μ ⟨sc,0,0⟩ [] tT 2 2 [inT ns,.int (k : Nat)] = .ok (.int c):=by
 show ∃ c : Int,cy ⟨sc,0,0⟩ (ySs Ψ ΨM ⟨μ,[],0⟩ _ tT [some (inT ns),some (.int (k : Nat))] []) = _
 unfold inT
 by_cases h : (k : Int) < ((ns.map T.int).length : Nat)
 · have hk' : k < ns.length:=by rw [List.length_map] at h; omega
   have g : zI (.lst (ns.map .int)) (.int (k : Nat)) = .ok (.int ns[k]):=iX (by rw [List.getElem?_map,List.getElem?_eq_getElem hk']; rfl)
   exact ⟨ns[k],by simp only [tT,af,aW,dB,bu,ah,ae,aE,ba,aC,ag,ar,eC,ax,gb,aF,au,Ou.aa,aw,kg,fZ,List.getElem?_cons_zero,List.getElem?_cons_succ,decide_true,h,decide_true,g]⟩
 · exact ⟨0,by simp only [tT,af,aG,aW,dB,bu,ah,ae,aE,ba,aC,ag,ay,ar,cv,ax,gb,aF,au,Ou.aa,aw,kg,fZ,List.getElem?_cons_zero,List.getElem?_cons_succ,decide_false,h,decide_false]⟩
noncomputable def ug : List S:=[.ite (.cmp .ge (.bi .abs [(.var 0)]) (.op .pow (.cI 10) (.cI 18))) [.ret (.op .fdiv (.var 0) (.var 1))] [],.ret (.op .add (.var 0) (.var 1))]
theorem Dx (i : Int) (n : Nat) (h' : i.natAbs < 2 ^ 64:=by decide) (h : n ≤ 1000000:=by decide) : z2 .pow (.int i) (.int (n : Int)) = .ok (.int (i ^ n)):=Hy h h'
theorem p18 : z2 .pow (.int 10) (.int 18) = .ok (.int (10 ^ 18)):=Dx 10 18
theorem p40 : z2 .pow (.int 10) (.int 40) = .ok (.int (10 ^ 40)):=Dx 10 40
theorem Es (Ψ ΨM : FnT) (μ : Nat → Md) (sc : Bool) (c u : Int) (h0 : 0 < u) (h1 : u.natAbs < 10 ^ 200) : ∃ r : Int,mkT Ψ ΨM μ ⟨sc,0,0⟩ [] ug 2 2 [.int c,.int u] = .ok (.int r):=by
 show ∃ c' : Int,cy ⟨sc,0,0⟩ (ySs Ψ ΨM ⟨μ,[],0⟩ _ ug [some (.int c),some (.int u)] []) = _
 by_cases h : (10 : Int) ^ 18 ≤ (c.natAbs : Int)
 · exact ⟨c / u,by simp only [ug,af,aG,cx,aW,bu,ah,ae,aE,ba,aC,ag,ar,eC,ax,gb,aF,au,Ou.aa,aw,gB,nC,List.getElem?_cons_zero,List.getElem?_cons_succ,decide_true,p18,h,decide_true,eA h0 (gu h1)]⟩
 · exact ⟨c + u,by simp only [ug,af,aG,cx,aW,bu,ah,ae,aE,ba,aC,ag,ay,ar,cv,ax,gb,aF,au,Ou.aa,aw,gB,iF,nC,List.getElem?_cons_zero,List.getElem?_cons_succ,decide_false,p18,h,decide_false]⟩
noncomputable def Dig : List Int → List Int → Prop
 | [],[]=>True
 | r :: rs,b :: bs=>(0 ≤ r ∧ r < b) ∧ Dig rs bs
 | _,_=>False
theorem Dig.length : ∀ {rs bs : List Int},Dig rs bs → rs.length = bs.length
 | [],[],_=>rfl
 | _ :: _,_ :: _,h=>congrArg (· + 1) h.2.length
theorem JR (l : List T) (d : T) : (l ++ [d]).length = l.length + 1:=by rw [List.length_append,List.length_singleton]
theorem td {l : List T} {d : T} (h : l.length < ai) : zM .append l [d] = some (l ++ [d]):=by
 show (if l.length < ai then some (l ++ [d]) else none) = _
 rw [if_pos h]
noncomputable def zy : List S:=[.mth .append (.var 2) [(.op .mod (.var 0) (.var 3))],.set (.nm 0) (.op .fdiv (.var 0) (.var 3))]
noncomputable def zA : List S:=[.set (.nm 5) (.op .mod (.op .add (.op .add (.op .add (.op .mul (.var 0) (.cI 48271)) (.op .mul (.op .mul (.var 4) (.var 4)) (.cI 69621))) (.op .mul (.var 4) (.cI 16807))) (.cI 11)) (.cI 2147483647)),.mth .append (.var 2) [(.op .mod (.op .fdiv (.op .mod (.op .add (.op .add (.op .mul (.var 5) (.cI 40692)) (.var 0)) (.op .mul (.cI 31) (.var 4))) (.cI 2147483399)) (.cI 7)) (.var 3))]]
noncomputable def ka : List S:=[.set (.nm 2) (.lst []),.ite (.cmp .ge (.bi .abs [(.var 0)]) (.op .pow (.cI 10) (.cI 18))) [.for (.nm 3) (.seq (.var 1)) zy,.ret (.var 2)] [],.for (.tp [4,3]) (.enu (.var 1)) zA,.ret (.var 2)]
theorem rZ (Ψ ΨM : FnT) (μ : Nat → Md) (n : Nat) : ∀ (bs : List Int) (c : Int) (x r3 r4 r5 : Option T) (row : List T),(∀ b ∈ bs,0 < b ∧ b.natAbs < big) → row.length + bs.length < ai →
   ∃ (rs : List Int) (c' : Int) (r3' : Option T),Dig rs bs ∧ dz (dC Ψ ΨM ⟨μ,[2],0⟩ n (.nm 3) zy) (bs.map T.int) [some (.int c),x,some (.lst row),r3,r4,r5] [(2,1)]
     = .ok (.nx [some (.int c'),x,some (.lst (row ++ rs.map T.int)),r3',r4,r5] [(2,1)])
 | [],c,x,r3,r4,r5,row,_,_=>⟨[],c,r3,trivial,by simp only [List.map_nil,gF,List.append_nil]⟩
 | b :: bs,c,x,r3,r4,r5,row,hb,hl=>by
   obtain ⟨h0,h1⟩:=hb b (by simp)
   simp only [List.length_cons] at hl
   obtain ⟨rs,c',r3',dg,e⟩:=rZ Ψ ΨM μ n bs (c / b) x (some (.int b)) r4 r5 (row ++ [.int (c % b)]) (fun y hy=>hb y (by simp [hy])) (by rw [JR]; omega)
   refine ⟨(c % b) :: rs,c',r3',⟨⟨Int.emod_nonneg _ (by omega),Int.emod_lt_of_pos _ h0⟩,dg⟩,?_⟩
   have hlt : row.length < ai:=by omega
   rw [List.map_cons,cH]
   have e1 : dC Ψ ΨM ⟨μ,[2],0⟩ n (.nm 3) zy (.int b) [some (.int c),x,some (.lst row),r3,r4,r5] [(2,1)] = .ok (.nx [some (.int (c / b)),x,some (.lst (row ++ [.int (c % b)])),some (.int b),r4,r5] [(2,1)]):=by
     simp only [zy,af,cx,ah,ae,bI,pj,aC,ag,gp,vV,ay,aN,cw,iI,au,bL,Ou.aa,aw,aA.eq_def,cJ,frg,bY,iU,qa,gts,aY,tgN,sA,eU,List.getElem?_cons_zero,List.getElem?_cons_succ,List.set_cons_zero,List.set_cons_succ,List.contains_cons,List.contains_nil,List.lookup_cons,Option.getD_some,Option.isSome_some,Bool.and_true,Bool.and_false,Bool.or_false,Bool.false_eq_true,if_true,if_false,beq_self_eq_true,Nat.reduceBEq,Nat.reduceLT,Nat.min_def,Nat.lt_irrefl,decide_false,and_true,and_false,Nat.reduceEqDiff,gP h0,eA h0 h1,td hlt]
   rw [e1,Ou.aa,ed,e]
   simp only [List.append_assoc,List.cons_append,List.nil_append,List.map_cons]
theorem rY (Ψ ΨM : FnT) (μ : Nat → Md) (n : Nat) : ∀ (bs : List Int) (k : Nat) (c : Int) (x r3 r4 r5 : Option T) (row : List T),(∀ b ∈ bs,0 < b ∧ b.natAbs < big) → row.length + bs.length < ai → k + bs.length < ai →
   ∃ (rs : List Int) (r3' r4' r5' : Option T),Dig rs bs ∧ dz (dC Ψ ΨM ⟨μ,[2],0⟩ n (.tp [4,3]) zA) (lj k (bs.map T.int)) [some (.int c),x,some (.lst row),r3,r4,r5] [(2,1)]
     = .ok (.nx [some (.int c),x,some (.lst (row ++ rs.map T.int)),r3',r4',r5'] [(2,1)])
 | [],k,c,x,r3,r4,r5,row,_,_,_=>⟨[],r3,r4,r5,trivial,by simp only [List.map_nil,lj,gF,List.append_nil]⟩
 | b :: bs,k,c,x,r3,r4,r5,row,hb,hl,hk=>by
   obtain ⟨h0,h1⟩:=hb b (by simp)
   simp only [List.length_cons] at hl hk
   have hlt : row.length < ai:=by omega
   have lm : ai = 1000000:=rfl
   have kk : (k : Int) < 1000000:=by omega
   have k2 : (k : Int) * (k : Int) < 1000000 * 1000000:=by
     rcases Nat.eq_zero_or_pos k with z | z
     · subst z; decide
     · exact Int.mul_lt_mul kk (by omega) (by omega) (by decide)
   have k3 : (0 : Int) ≤ (k : Int) * (k : Int):=Int.mul_nonneg (by omega) (by omega)
   have m1 : z2 .mul (.int c) (.int 48271) = .ok (.int (c * 48271)):=eW (eS (by decide))
   have m2 : z2 .mul (.int (k : Int)) (.int (k : Int)) = .ok (.int ((k : Int) * (k : Int))):=eW (eS (by omega))
   have m3 : z2 .mul (.int ((k : Int) * (k : Int))) (.int 69621) = .ok (.int ((k : Int) * (k : Int) * 69621)):=eW (eS (by decide))
   have m4 : z2 .mul (.int (k : Int)) (.int 16807) = .ok (.int ((k : Int) * 16807)):=eW (eS (by decide))
   have m5 : ∀ z : Int,z2 .mul (.int z) (.int 40692) = .ok (.int (z * 40692)):=fun z=>eW (eS (by decide))
   have m6 : z2 .mul (.int 31) (.int (k : Int)) = .ok (.int (31 * (k : Int))):=eW (fK (by decide))
   have m7 : ∀ z : Int,z2 .mod (.int z) (.int 2147483647) = .ok (.int (z % 2147483647)):=fun z=>gP (by decide)
   have m8 : ∀ z : Int,z2 .mod (.int z) (.int 2147483399) = .ok (.int (z % 2147483399)):=fun z=>gP (by decide)
   have m9 : ∀ z : Int,z2 .fdiv (.int z) (.int 7) = .ok (.int (z / 7)):=fun z=>eA (by decide) (gu (by decide))
   generalize hv : ((((c * 48271 + (k : Int) * (k : Int) * 69621 + (k : Int) * 16807 + 11) % 2147483647 * 40692 + c + 31 * (k : Int)) % 2147483399 / 7) % b) = v
   obtain ⟨rs,r3',r4',r5',dg,e⟩:=rY Ψ ΨM μ n bs (k + 1) c x (some (.int b)) (some (.int (k : Int))) (some (.int ((c * 48271 + (k : Int) * (k : Int) * 69621 + (k : Int) * 16807 + 11) % 2147483647))) (row ++ [.int v]) (fun y hy=>hb y (by simp [hy])) (by rw [JR]; omega) (by omega)
   refine ⟨v :: rs,r3',r4',r5',⟨⟨by rw [← hv]; exact Int.emod_nonneg _ (by omega),by rw [← hv]; exact Int.emod_lt_of_pos _ h0⟩,dg⟩,?_⟩
   rw [List.map_cons,lj,cH]
   have e1 : dC Ψ ΨM ⟨μ,[2],0⟩ n (.tp [4,3]) zA (.tup [.int (k : Nat),.int b]) [some (.int c),x,some (.lst row),r3,r4,r5] [(2,1)] = .ok (.nx [some (.int c),x,some (.lst (row ++ [.int v])),some (.int b),some (.int (k : Int)),some (.int ((c * 48271 + (k : Int) * (k : Int) * 69621 + (k : Int) * 16807 + 11) % 2147483647))] [(2,1)]):=by
     simp only [zA,af,aG,cx,ah,ae,bI,pj,aC,ag,gp,sr,ay,aN,cw,iI,au,bL,Ou.aa,aw,aA.eq_def,jy,cJ,frg,bY,iU,qa,gts,aY,tgN,sA,iF,eU,List.getElem?_cons_zero,List.getElem?_cons_succ,List.set_cons_zero,List.set_cons_succ,List.contains_cons,List.contains_nil,List.lookup_cons,Option.getD_some,Option.isSome_some,Bool.and_true,Bool.and_false,Bool.or_false,Bool.false_eq_true,if_true,if_false,beq_self_eq_true,Nat.reduceBEq,Nat.reduceLT,Nat.min_def,Nat.lt_irrefl,decide_false,and_true,and_false,Nat.reduceEqDiff,m1,m2,m3,m4,m5,m6,m7,m8,m9,gP h0,td hlt,hv]
   rw [e1,Ou.aa,ed,e]
   simp only [List.append_assoc,List.cons_append,List.nil_append,List.map_cons]
theorem xn (Ψ ΨM : FnT) (μ : Nat → Md) (c : Int) (bs : List Int) (hb : ∀ b ∈ bs,0 < b ∧ b.natAbs < 10 ^ 200) (hl : bs.length < ai) : ∃ rs : List Int,Dig rs bs ∧ mkT Ψ ΨM μ ⟨false,0,0⟩ [2] ka 2 6 [.int c,inT bs] = .ok (inT rs):=by
 have hb' : ∀ b ∈ bs,0 < b ∧ b.natAbs < big:=fun b h=>⟨(hb b h).1,gu (hb b h).2⟩
 show ∃ rs : List Int,Dig rs bs ∧ cy ⟨false,0,0⟩ (ySs Ψ ΨM ⟨μ,[2],0⟩ _ ka [some (.int c),some (.lst (bs.map .int)),none,none,none,none] []) = .ok (.lst (rs.map .int))
 by_cases h : (10 : Int) ^ 18 ≤ (c.natAbs : Int)
 · obtain ⟨rs,c',r3',dg,e⟩:=rZ Ψ ΨM μ (bt [.int c,inT bs]) bs c (some (.lst (bs.map T.int))) none none none [] hb' (by simpa using hl)
   refine ⟨rs,dg,?_⟩
   simp only [ka,af,aG,cx,aW,kG,bu,ah,ae,dk,bI,ba,lh,aC,ag,jJ,oS,oQ,ay,aN,eC,ax,kN,au,bL,oX,Ou.aa,aw,aA.eq_def,cJ,iU,qh,gts,aY,dY,gB,nC,List.getElem?_cons_zero,List.getElem?_cons_succ,List.set_cons_zero,List.set_cons_succ,List.contains_cons,List.contains_nil,List.all_nil,Option.isSome_some,Bool.and_true,Bool.and_false,Bool.or_false,Bool.false_eq_true,if_true,if_false,beq_self_eq_true,Nat.reduceBEq,Nat.reduceLT,Nat.min_def,Nat.lt_irrefl,decide_true,decide_false,and_true,and_false,reduceCtorEq,Nat.reduceEqDiff,Nat.reduceLeDiff,p18,h,decide_true]
   simp only [e,af,aE,ag,ay,ar,bQ,aF,Ou.aa,Ou.fu,aw,List.getElem?_cons_zero,List.getElem?_cons_succ,List.nil_append]
 · obtain ⟨rs,r3',r4',r5',dg,e⟩:=rY Ψ ΨM μ (bt [.int c,inT bs]) bs 0 c (some (.lst (bs.map T.int))) none none none [] hb' (by simpa using hl) (by simpa using hl)
   refine ⟨rs,dg,?_⟩
   simp only [ka,af,aG,cx,aW,kG,bu,ah,ae,dk,EO,bI,ba,lh,aC,ag,jJ,oS,oQ,ay,aN,cv,ax,kN,KU,au,bL,oX,Ou.aa,aw,aA.eq_def,cJ,iU,qh,gts,aY,dY,gB,nC,List.getElem?_cons_zero,List.getElem?_cons_succ,List.set_cons_zero,List.set_cons_succ,List.contains_cons,List.contains_nil,List.all_nil,Option.isSome_some,Bool.and_true,Bool.and_false,Bool.or_false,Bool.false_eq_true,if_true,if_false,beq_self_eq_true,Nat.reduceBEq,Nat.reduceLT,Nat.min_def,Nat.lt_irrefl,decide_true,decide_false,and_true,and_false,reduceCtorEq,Nat.reduceEqDiff,Nat.reduceLeDiff,p18,h,decide_false]
   simp only [e,af,aE,ag,ay,ar,bQ,aF,Ou.aa,Ou.fu,aw,List.getElem?_cons_zero,List.getElem?_cons_succ,List.nil_append]
structure Low (t b : Int) : Prop where
 pos : 1 ≤ b
 cop : Int.gcd t b = 1
theorem EW {t b : Int} (hb : 0 < b) : Low (t / (Int.gcd t b : Int)) (b / (Int.gcd t b : Int)) ∧ t / (Int.gcd t b : Int) * b = t * (b / (Int.gcd t b : Int)):=by
 have hg : 0 < Int.gcd t b:=Int.gcd_pos_of_ne_zero_right _ (by omega)
 obtain ⟨t',ht⟩:=Int.gcd_dvd_left t b
 obtain ⟨b',hb'⟩:=Int.gcd_dvd_right t b
 have g0 : (Int.gcd t b : Int) ≠ 0:=by omega
 have e1 : t / (Int.gcd t b : Int) = t':=by rw [Int.ediv_eq_iff_eq_mul_right g0 (Int.gcd_dvd_left t b)]; exact ht
 have e2 : b / (Int.gcd t b : Int) = b':=by rw [Int.ediv_eq_iff_eq_mul_right g0 (Int.gcd_dvd_right t b)]; exact hb'
 rw [e1,e2]
 refine ⟨⟨?_,?_⟩,?_⟩
 · have : 0 < (Int.gcd t b : Int) * b':=by rw [← hb']; exact hb
   have : 0 < b':=by
     rcases Int.lt_or_le 0 b' with h | h
     · exact h
     · have:=Int.mul_nonpos_of_nonneg_of_nonpos (show (0 : Int) ≤ (Int.gcd t b : Int) by omega) h
       omega
   omega
 · have:=Int.gcd_mul_left (Int.gcd t b : Int) t' b'
   rw [← ht,← hb'] at this
   simp only [Int.natAbs_natCast] at this
   have h2 : Int.gcd t b * 1 = Int.gcd t b * Int.gcd t' b':=by omega
   exact (Nat.eq_of_mul_eq_mul_left hg h2).symm
 · generalize hG : (Int.gcd t b : Int) = G at *
   calc t' * b = t' * (G * b'):=by rw [← hb']
     _ = (G * t') * b':=by rw [← Int.mul_assoc,Int.mul_comm t' G]
     _ = t * b':=by rw [← ht]
noncomputable def gW (t b : Int) : T:=.tup [.int t,.int b]
noncomputable def AZ (Ψ : FnT) (dv : Nat) : Prop:=∀ a b : Int,Ψ dv [.int a,.int b] = .ok (.int (Int.gcd a b : Nat))
theorem A9 (t b : Int) (hb : b ≠ 0) : Int.gcd t b ≤ b.natAbs:=Nat.le_of_dvd (by omega) (Int.natAbs_dvd_natAbs.mpr (Int.gcd_dvd_right t b))
noncomputable def xf (dv : Nat) : List S:=[.set (.nm 2) (.call dv [(.var 0),(.var 1)]),.ret (.tup [(.op .fdiv (.var 0) (.var 2)),(.op .fdiv (.var 1) (.var 2))])]
theorem Ez (sc : Bool) (a b : Int) : cy ⟨sc,0,0⟩ (.ok (.rt (.tup [.int a,.int b]))) = .ok (gW a b):=by cases sc <;> rfl
theorem Ec {Ψ ΨM : FnT} {μ : Nat → Md} {sc : Bool} {dv : Nat} (hmv : (μ dv).mv = 0) (hd : AZ Ψ dv) (t b : Int) (hb : 0 < b) (hs : b.natAbs < big) : mkT Ψ ΨM μ ⟨sc,0,0⟩ [] (xf dv) 2 3 [.int t,.int b] = .ok (gW (t / (Int.gcd t b : Int)) (b / (Int.gcd t b : Int))):=by
 have hg : 0 < Int.gcd t b:=Int.gcd_pos_of_ne_zero_right _ (by omega)
 have hl:=A9 t b (by omega)
 have d1 : ∀ i : Int,z2 .fdiv (.int i) (.int (Int.gcd t b : Int)) = .ok (.int (i / (Int.gcd t b : Int))):=fun i=>eA (by omega) (by rw [Int.natAbs_natCast]; omega)
 show cy ⟨sc,0,0⟩ (ySs Ψ ΨM ⟨μ,[],0⟩ _ (xf dv) [some (.int t),some (.int b),none] []) = _
 simp only [xf,af,cx,iE,aM,ah,ae,bI,aE,ag,bJ,bR,d0,iT,ay,ar,aN,aF,au,ic,Ou.aa,aw,aA.eq_def,cJ,List.getElem?_cons_zero,List.getElem?_cons_succ,List.set_cons_zero,List.set_cons_succ,List.contains_nil,Option.isSome_some,Bool.and_true,Bool.and_false,Bool.false_eq_true,if_false,Nat.min_def,Nat.lt_irrefl,decide_false,and_true,and_false,hmv,hd t b,d1,Ez]
structure Nu (t b : Int) : Prop where
 low : Low t b
 st : t.natAbs ≤ 10 ^ 40
 sb : b.natAbs ≤ 10 ^ 40
theorem sZ (i : Int) (j : Int) (h : 0 < j:=by decide) : z2 .mod (.int i) (.int j) = .ok (.int (i % j)):=gP h
end Sv
namespace Sv
open PySem PySem.Spec L2
open Ev (D aQ aU ai)
mutual
noncomputable def nx : T → Bool
 | .exo _=>false
 | .tup xs=>nxs xs
 | .lst xs=>nxs xs
 | _=>true
noncomputable def nxs : List T → Bool
 | []=>true
 | x :: xs=>nx x && nxs xs
end
theorem tI : ∀ {xs : List T} {x : T},nxs xs = true → x ∈ xs → nx x = true
 | y :: ys,x,h,hx=>by
   rw [nxs,Bool.and_eq_true] at h
   rcases List.mem_cons.mp hx with rfl | hx
   · exact h.1
   · exact tI h.2 hx
theorem Cp : ∀ {xs : List T},(∀ x ∈ xs,nx x = true) → nxs xs = true
 | [],_=>rfl
 | x :: xs,h=>by rw [nxs,h x (List.mem_cons_self ..),Cp fun y hy=>h y (List.mem_cons_of_mem _ hy)]; rfl
theorem CJ {xs : List T} (h : ∀ x ∈ xs,nx x = true) : nx (.lst xs) = true:=by rw [nx]; exact Cp h
theorem Fy {xs : List T} (h : nx (.lst xs) = true) : ∀ x ∈ xs,nx x = true:=fun x hx=>tI (by rwa [nx] at h) hx
theorem CG {xs : List T} (h : nx (.tup xs) = true) : ∀ x ∈ xs,nx x = true:=fun x hx=>tI (by rwa [nx] at h) hx
noncomputable def sJ : T → Bool
 | .int _=>true
 | _=>false
theorem v7 {d : T} (h : sJ d = true) : ∃ i,d = .int i:=by
 cases d with
 | int i=>exact ⟨i,rfl⟩
 | _=>cases h
noncomputable def tN : List S:=[.ret (.and (.isi (.var 0) .int) (.not (.isi (.var 0) .bool)))]
noncomputable def J4 (Ψ : FnT) (w : Nat) : Prop:=∀ d,nx d = true → Ψ w [d] = .ok (.bl (sJ d))
theorem pv {Ψ ΨM : FnT} {μ : Nat → Md} {sc : Bool} (d : T) (h : nx d = true) : mkT Ψ ΨM μ ⟨sc,0,0⟩ [] tN 1 1 [d] = .ok (.bl (sJ d)):=by
 show cy ⟨sc,0,0⟩ (ySs Ψ ΨM ⟨μ,[],0⟩ _ tN [some d] []) = _
 cases d <;> first | (simp [nx] at h; done) | (simp only [tN,af,dF,jQ,fJ,aE,ag,ar,pM,uf,dH,tH,xR,sx,uq,ij,oV,cf,aF,Ou.aa,aw,iL.eq_def,List.getElem?_cons_zero,Bool.not_true,Bool.not_false,sJ])
noncomputable def ph : T → Bool
 | .tup [.int a,.int b]=>decide (1 ≤ b) && decide (Int.gcd a b = 1)
 | _=>false
theorem BY {xs : List T} (h : xs.length ≠ 2) : ph (.tup xs) = false:=by
 match xs,h with
 | [],_=>rfl
 | [a],_=>cases a <;> rfl
 | [a,b],h=>simp at h
 | a :: b :: c :: r,_=>cases a <;> first | rfl | (cases b <;> rfl)
theorem vT {a b : T} (h : (sJ a && sJ b) = false) : ph (.tup [a,b]) = false:=by
 cases a <;> cases b <;> first | rfl | (simp [sJ] at h)
noncomputable def iw (wh cd : Nat) : List S:=[.ite (.or (.not (.isi (.var 0) .tuple)) (.cmp .ne (.bi .len [(.var 0)]) (.cI 2))) [.ret (.cB false)] [],.ite (.or (.not (.call wh [(.ix (.var 0) (.cI 0))])) (.not (.call wh [(.ix (.var 0) (.cI 1))]))) [.ret (.cB false)] [],.ret (.and (.cmp .ge (.ix (.var 0) (.cI 1)) (.cI 1)) (.cmp .eq (.call cd [(.ix (.var 0) (.cI 0)),(.ix (.var 0) (.cI 1))]) (.cI 1)))]
noncomputable def Lc (Ψ : FnT) (f : Nat) : Prop:=∀ d,nx d = true → Ψ f [d] = .ok (.bl (ph d))
theorem LS {xs : List T} (h : xs.length = 2) : ∃ a b,xs = [a,b]:=by
 match xs,h with
 | [a,b],_=>exact ⟨a,b,rfl⟩
theorem ne2 {xs : List T} (h : xs.length ≠ 2) : ¬ ((xs.length : Nat) : Int) = 2:=by omega
section
variable {Ψ ΨM : FnT} {μ : Nat → Md} {sc : Bool} {wh cd : Nat}
theorem Cq (hw : J4 Ψ wh) (hc : AZ Ψ cd) (d : T) (h : nx d = true) : mkT Ψ ΨM μ ⟨sc,0,0⟩ [] (iw wh cd) 1 1 [d] = .ok (.bl (ph d)):=by
 show cy ⟨sc,0,0⟩ (ySs Ψ ΨM ⟨μ,[],0⟩ _ (iw wh cd) [some d] []) = _
 cases d with
 | exo c=>simp [nx] at h
 | tup xs=>
   by_cases hl : xs.length = 2
   · obtain ⟨a,b,rfl⟩:=LS hl
     have ha:=CG h a (by simp)
     have hb:=CG h b (by simp)
     have l2 : ((([a,b] : List T).length : Nat) : Int) = 2:=rfl
     cases wa : sJ a with
     | false=>simp only [iw,af,ie,aG,dF,aW,gM,dB,aM,bu,fJ,ah,ae,aE,ba,aC,ag,ay,ar,yY,iH,eC,cv,dH,ax,ij,cf,aF,au,Ou.aa,aw,cF,oi,ml,gX,iL,List.getElem?_cons_zero,Bool.not_true,Bool.not_false,decide_true,l2,hw a ha,hw b hb,wa,vT (a:=a) (b:=b) (by rw [wa]; rfl)]
     | true=>
       cases wb : sJ b with
       | false=>simp only [iw,af,ie,aG,dF,aW,gM,dB,aM,bu,fJ,ah,ae,aE,ba,aC,ag,ay,ar,iH,eC,cv,dH,ax,ij,cf,aF,au,Ou.aa,aw,cF,oi,ml,gX,iL,List.getElem?_cons_zero,Bool.and_false,Bool.not_true,Bool.not_false,decide_true,and_false,l2,hw a ha,hw b hb,wa,wb,vT (a:=a) (b:=b) (by rw [wb,Bool.and_false])]
       | true=>
         obtain ⟨i,rfl⟩:=v7 wa
         obtain ⟨j,rfl⟩:=v7 wb
         by_cases hj : 1 ≤ j
         · simp only [iw,af,ie,aG,dF,aW,jQ,gM,dB,aM,bu,fJ,ah,ae,aE,ba,aC,ag,ay,ar,pM,iH,cv,dH,ax,ij,cf,aF,au,Ou.aa,aw,bS,cF,gB,oi,ml,gX,iL.eq_def,List.getElem?_cons_zero,Bool.true_and,Bool.not_true,decide_true,true_and,l2,hw _ ha,hw _ hb,wa,wb,hj,hc i j,ph]
           congr 2
           exact decide_eq_decide.mpr (by omega)
         · simp only [iw,af,ie,aG,dF,aW,jQ,gM,dB,aM,bu,fJ,ah,ae,aE,ba,aC,ag,ay,ar,uf,iH,cv,dH,ax,ij,cf,aF,au,Ou.aa,aw,bS,cF,gB,oi,ml,gX,iL.eq_def,List.getElem?_cons_zero,Bool.false_and,Bool.not_true,decide_true,decide_false,false_and,l2,hw _ ha,hw _ hb,wa,wb,hj,hc i j,ph]
   · simp only [iw,af,ie,aG,dF,aW,gM,bu,fJ,ah,ae,aE,ba,aC,ag,ar,iH,eC,dH,ax,ij,cf,aF,au,Ou.aa,aw,cF,gX,iL.eq_def,List.getElem?_cons_zero,Bool.not_true,Bool.not_false,decide_false,ne2 hl,BY hl]
 | _=>simp only [iw,af,ie,aG,dF,aW,gM,bu,fJ,ah,ae,aE,ba,aC,ag,ar,yY,eC,dH,ax,tH,xR,sx,uq,oV,cf,aF,au,Ou.aa,aw,cF,fZ,iL.eq_def,List.getElem?_cons_zero,Bool.not_false,ph]
end
end Sv
namespace Sv
open PySem PySem.Spec L2
open Ev (D aQ aU ai)
noncomputable def nk : T → Bool
 | .lst xs=>decide (1 ≤ xs.length) && decide (xs.length ≤ 7)
 | _=>false
noncomputable def mL (p : T → Bool) : T → Bool
 | .lst xs=>xs.all p
 | _=>false
noncomputable def oM (d : T) : Bool:=nk d && mL ph d
noncomputable def qy : T → Nat
 | .lst xs=>xs.length
 | _=>0
noncomputable def hdT : T → T
 | .lst (x :: _)=>x
 | _=>.non
noncomputable def w6 (d : T) : Bool:=nk d && mL oM d && mL (fun r=>decide (qy r = qy (hdT d))) d
theorem qo {d : T} (h : nk d = true) : ∃ x xs,d = .lst (x :: xs) ∧ (x :: xs).length ≤ 7:=by
 cases d with
 | lst ys=>
   simp only [nk,Bool.and_eq_true,decide_eq_true_eq] at h
   cases ys with
   | nil=>simp at h
   | cons x xs=>exact ⟨x,xs,rfl,h.2⟩
 | _=>cases h
theorem Bt {d : T} (h : oM d = true) : ∃ xs,d = .lst xs ∧ xs.length ≤ 7:=by
 unfold oM at h
 rw [Bool.and_eq_true] at h
 obtain ⟨x,xs,rfl,hl⟩:=qo h.1
 exact ⟨_,rfl,hl⟩
theorem cL {n : Nat} (h : n ≤ 7) : n < ai:=Nat.lt_of_le_of_lt h (by decide)
noncomputable def mK : List S:=[.ret (.and (.isi (.var 0) .list) (.chain .le .le (.cI 1) (.bi .len [(.var 0)]) (.cI 7)))]
noncomputable def y8 (sl fr : Nat) : List S:=[.ret (.and (.call sl [(.var 0)]) (.bi .all [(.comp [none] (.nm 0) (.seq (.var 0)) [] (.call fr [(.var 0)]))]))]
noncomputable def jI (sl rw : Nat) : List S:=[.ite (.or (.not (.call sl [(.var 0)])) (.not (.bi .all [(.comp [none] (.nm 0) (.seq (.var 0)) [] (.call rw [(.var 0)]))]))) [.ret (.cB false)] [],.ret (.bi .all [(.comp [none,some 0] (.nm 0) (.seq (.var 0)) [] (.cmp .eq (.bi .len [(.var 0)]) (.bi .len [(.ix (.var 1) (.cI 0))])))])]
noncomputable def Jm (Ψ : FnT) (f : Nat) : Prop:=∀ d,nx d = true → Ψ f [d] = .ok (.bl (nk d))
noncomputable def Kn (Ψ : FnT) (f : Nat) : Prop:=∀ d,nx d = true → Ψ f [d] = .ok (.bl (oM d))
section
variable {Ψ ΨM : FnT} {μ : Nat → Md} {sc : Bool} {sl fr rw' : Nat}
theorem zF (d : T) (h : nx d = true) : mkT Ψ ΨM μ ⟨sc,0,0⟩ [] mK 1 1 [d] = .ok (.bl (nk d)):=by
 show cy ⟨sc,0,0⟩ (ySs Ψ ΨM ⟨μ,[],0⟩ _ mK [some d] []) = _
 cases d with
 | exo c=>simp [nx] at h
 | lst xs=>
   by_cases h1 : 1 ≤ xs.length
   · have h1' : (1 : Int) ≤ ((xs.length : Nat) : Int):=by omega
     simp only [mK,af,aG,pV,jQ,bu,fJ,ah,ae,aE,ag,ar,pM,K7,ax,oV,cf,aF,Ou.aa,aw,mS,fZ,iL.eq_def,List.getElem?_cons_zero,Bool.true_and,decide_true,true_and,h1',nk,h1]
     congr 2
     exact decide_eq_decide.mpr (by omega)
   · have h1' : ¬ (1 : Int) ≤ ((xs.length : Nat) : Int):=by omega
     simp only [mK,af,aG,pV,jQ,bu,fJ,ah,ae,aE,ag,ar,pM,Ko,ax,oV,cf,aF,Ou.aa,aw,mS,fZ,iL.eq_def,List.getElem?_cons_zero,Bool.false_and,decide_false,false_and,h1',nk,h1]
 | _=>simp only [mK,af,aG,pV,jQ,bu,fJ,ah,ae,aE,ag,ar,uf,ax,tH,xR,sx,uq,ij,cf,aF,Ou.aa,aw,mS,gX,iL.eq_def,List.getElem?_cons_zero,nk]
theorem rp {f : Nat} {p : T → Bool} {τ : aB} {xs : List T} (hf : ∀ x ∈ xs,Ψ f [x] = .ok (.bl (p x))) : ei (jO Ψ τ [none] (.nm 0) [] (.call f [(.var 0)])) xs = .ok (xs.map fun x=>.bl (p x)):=
 yF xs fun x hx=>by simp only [af,aM,ah,ae,bM,Ou.aa,aw,aA.eq_def,eT,aq,List.getElem?_cons_zero,List.set_cons_zero,List.map_cons,List.map_nil,List.nil_append,List.cons_append,Option.bind_none,if_true,hf x hx]
theorem HY (hs : Jm Ψ sl) (hf : Lc Ψ fr) (d : T) (h : nx d = true) : mkT Ψ ΨM μ ⟨sc,0,0⟩ [] (y8 sl fr) 1 1 [d] = .ok (.bl (oM d)):=by
 show cy ⟨sc,0,0⟩ (ySs Ψ ΨM ⟨μ,[],0⟩ _ (y8 sl fr) [some d] []) = _
 cases hd : nk d with
 | false=>simp only [y8,af,jQ,aM,bu,j4,ah,ae,dk,aE,ag,ar,uf,cf,aF,Ou.aa,aw,List.getElem?_cons_zero,Bool.false_and,false_and,hs d h,hd,oM]
 | true=>
   obtain ⟨x,xs,rfl,hl⟩:=qo hd
   have hc:=rp (Ψ:=Ψ) (f:=fr) (p:=ph) (τ:=[some (.lst (x :: xs))]) (xs:=x :: xs) fun y hy=>hf y (Fy h y hy)
   simp only [y8,af,jQ,aM,bu,j4,ah,ae,dk,aE,ag,pM,kN,Ou.aa,aw,List.getElem?_cons_zero,Bool.true_and,true_and,hs _ h,hd,oM,if_pos (cL hl)]
   simp only [List.map_cons] at hc
   simp only [hc,Ou.aa,Ou.fu,List.all_cons,mL]
   have:=yk (x :: xs) ph
   simp only [List.map_cons,List.all_cons] at this
   simp only [this,ar,cf,aF,Ou.aa]
theorem Aw (hs : Jm Ψ sl) (hr : Kn Ψ rw') (d : T) (h : nx d = true) : mkT Ψ ΨM μ ⟨sc,0,0⟩ [] (jI sl rw') 1 1 [d] = .ok (.bl (w6 d)):=by
 show cy ⟨sc,0,0⟩ (ySs Ψ ΨM ⟨μ,[],0⟩ _ (jI sl rw') [some d] []) = _
 cases hd : nk d with
 | false=>simp only [jI,af,ie,dF,gM,aM,bu,j4,ah,ae,dk,aE,ba,aC,ag,ar,yY,eC,dH,cf,aF,au,Ou.aa,aw,List.getElem?_cons_zero,Bool.false_and,Bool.not_false,false_and,hs d h,hd,w6]
 | true=>
   obtain ⟨x,xs,rfl,hl⟩:=qo hd
   have hc:=rp (Ψ:=Ψ) (f:=rw') (p:=oM) (τ:=[some (.lst (x :: xs))]) (xs:=x :: xs) fun y hy=>hr y (Fy h y hy)
   have ha:=yk (x :: xs) oM
   generalize hX : x :: xs = X at *
   cases hA : X.all oM with
   | false=>
     rw [hA] at ha
     simp only [jI,af,ie,dF,gM,aM,bu,j4,ah,ae,dk,aE,ba,aC,ag,ar,iH,eC,dH,kN,cf,aF,au,Ou.aa,Ou.fu,aw,List.getElem?_cons_zero,Bool.false_and,Bool.and_false,Bool.not_true,Bool.not_false,and_false,false_and,hs _ h,hd,w6,if_pos (cL hl),hc,ha,mL,hA]
   | true=>
     rw [hA] at ha
     have hx0 : zI (.lst X) (.int 0) = .ok x:=by rw [← hX]; exact vw x xs
     have hrow : ∀ y ∈ X,∃ ys,y = .lst ys:=fun y hy=>let ⟨ys,e,_⟩:=Bt (List.all_eq_true.mp hA y hy); ⟨ys,e⟩
     obtain ⟨zs,hz⟩:=hrow x (by rw [← hX]; exact List.mem_cons_self ..)
     have hh : hdT (.lst X) = x:=by rw [← hX]; rfl
     have h2 : ei (jO Ψ [some (.lst X)] [none,some 0] (.nm 0) [] (.cmp .eq (.bi .len [(.var 0)]) (.bi .len [(.ix (.var 1) (.cI 0))]))) X = .ok (X.map fun r=>.bl (decide (qy r = qy x))):=
       yF X fun y hy=>by
         obtain ⟨ys,rfl⟩:=hrow y hy
         subst hz
         simp only [af,aG,aW,dB,bu,ah,ae,bM,ax,Ou.aa,aw,aA.eq_def,eT,bS,fZ,aq,List.getElem?_cons_zero,List.getElem?_cons_succ,List.set_cons_zero,List.map_cons,List.map_nil,List.nil_append,List.cons_append,Option.bind_some,Option.bind_none,Option.join_some,if_true,hx0,qy]
         congr 3
         exact decide_eq_decide.mpr (by omega)
     have h3:=yk X fun r=>decide (qy r = qy x)
     simp only [jI,af,ie,dF,gM,aM,bu,j4,ah,ae,dk,aE,ba,aC,ag,ay,ar,iH,cv,dH,kN,cf,aF,au,Ou.aa,Ou.fu,aw,List.getElem?_cons_zero,Bool.true_and,Bool.and_true,Bool.not_true,and_true,true_and,hs _ h,hd,w6,if_pos (cL hl),hc,ha,mL,hA,h2,h3,hh]
end
end Sv
namespace Sv
open PySem PySem.Spec L2
open Ev (D aQ aU ai)
noncomputable def De (Ψ : FnT) (nb : Nat) : Prop:=∀ (c : Int) (bs : List Int),(∀ b ∈ bs,0 < b ∧ b.natAbs < 10 ^ 200) → bs.length < ai → ∃ rs : List Int,Dig rs bs ∧ Ψ nb [.int c,inT bs] = .ok (inT rs)
noncomputable def fr2 (p : Int × Int) : T:=gW p.1 p.2
noncomputable def Tbl (rows : List (List (Int × Int))) (m w : Nat) : Prop:=rows.length = m ∧ ∀ r ∈ rows,r.length = w ∧ ∀ p ∈ r,Nu p.1 p.2
noncomputable def CA (nb nu : Nat) : List S:=[.set (.nm 4) (.ix (.lst [(.cI 114),(.cI 5),(.cI 60),(.op .mul (.op .mul (.cI 2) (.op .pow (.cI 10) (.cI 40))) (.op .pow (.cI 10) (.cI 40)))]) (.var 3)),.set (.nm 5) (.call nb [(.var 0),(.comp [none,some 4] (.nm 0) (.rng (.op .mul (.var 1) (.var 2))) [] (.var 1))]),.ret (.comp [none,some 3,some 5,some 2] (.nm 0) (.rng (.var 1)) [] (.comp [none,some 0,some 1,some 2,some 3] (.nm 0) (.rng (.var 3)) [] (.call nu [(.var 2),(.ix (.var 3) (.op .add (.op .mul (.var 4) (.var 1)) (.var 0)))])))]
theorem Em (n : Nat) (h : n < 1000000) : JJ (.int (n : Nat)) = .ok ((List.range n).map fun k=>.int (k : Nat)):=by
 rw [JJ,if_pos (by omega),Int.toNat_natCast]
 unfold rangeT
 congr 2
 funext k
 rw [Int.zero_add]
theorem iW {Ψ : FnT} {e : E} {τ : aB} {n : Nat} (h : yE Ψ e τ = .ok (.int (n : Nat))) (hn : n < 1000000) : yIt Ψ (.rng e) τ = .ok ((List.range n).map fun k=>.int (k : Nat)):=by
 rw [DG,h,Ou.aa,Em n hn]
noncomputable def gi (k : Nat) : Int:=if k = 0 then 114 else if k = 1 then 5 else if k = 2 then 60 else 2 * 10 ^ 40 * 10 ^ 40
theorem Cr (k : Nat) : 0 < gi k ∧ (gi k).natAbs < 10 ^ 200:=by
 unfold gi
 split
 · decide
 split
 · decide
 split
 · decide
 · exact ⟨by decide,by decide +kernel⟩
theorem E0 (k : Nat) (h : k < 4) : zI (.lst [.int 114,.int 5,.int 60,.int (2 * 10 ^ 40 * 10 ^ 40)]) (.int (k : Nat)) = .ok (.int (gi k)):=by
 match k,h with
 | 0,_=>exact vw _ _
 | 1,_=>exact FL _ _ _
 | 2,_=>exact KQ _ _ _ _
 | 3,_=>exact KG _ _ _ _ _
theorem cb {Ψ : FnT} {τ : aB} {caps : List (Option Nat)} {t : Tg} {it : It} {ifs : List E} {elt : E} {xs ys : List T} (h1 : yIt Ψ it τ = .ok xs) (h2 : xs.length < ai) (h3 : ei (jO Ψ τ caps t ifs elt) xs = .ok ys) : yE Ψ (.comp caps t it ifs elt) τ = .ok (.lst ys):=by
 rw [j4,h1,Ou.aa,if_pos h2,h3]; rfl
theorem EZ {Ψ ΨM : FnT} {μ : Nat → Md} {nb nu : Nat} {R : Int → Int → Prop} (hmv : (μ nb).mv = 0) (hn : De Ψ nb) (c : Int) (m w k : Nat) (hm : m ≤ 7) (hw : w ≤ 7) (hk : k < 4) (hu : ∀ p : Int,∃ t b,Ψ nu [.int (k : Nat),.int p] = .ok (gW t b) ∧ R t b) :
   ∃ F : Nat → Nat → Int × Int,(∀ i j,R (F i j).1 (F i j).2) ∧ mkT Ψ ΨM μ ⟨false,0,0⟩ [] (CA nb nu) 4 6 [.int c,.int (m : Nat),.int (w : Nat),.int (k : Nat)] = .ok (.lst ((List.range m).map fun i=>.lst ((List.range w).map fun j=>fr2 (F i j)))):=by
 show ∃ F : Nat → Nat → Int × Int,_ ∧ cy ⟨false,0,0⟩ (ySs Ψ ΨM ⟨μ,[],0⟩ _ (CA nb nu) [some (.int c),some (.int (m : Nat)),some (.int (w : Nat)),some (.int (k : Nat)),none,none] []) = _
 have mw : m * w ≤ 49:=Nat.mul_le_mul hm hw
 obtain ⟨rs,dg,e⟩:=hn c (List.replicate (m * w) (gi k)) (fun b hb=>by rw [List.eq_of_mem_replicate hb]; exact Cr k) (by rw [List.length_replicate]; exact Nat.lt_of_le_of_lt mw (by decide))
 have hl : rs.length = m * w:=by rw [dg.length,List.length_replicate]
 obtain ⟨f,hf⟩:=Classical.axiomOfChoice fun p : Int=>show ∃ q : Int × Int,Ψ nu [.int (k : Nat),.int p] = .ok (gW q.1 q.2) ∧ R q.1 q.2 from let ⟨t,b,h1,h2⟩:=hu p; ⟨(t,b),h1,h2⟩
 have t40 : z2 .mul (.int 2) (.int (10 ^ 40)) = .ok (.int (2 * 10 ^ 40)):=eW (fK (by decide))
 have t80 : z2 .mul (.int (2 * 10 ^ 40)) (.int (10 ^ 40)) = .ok (.int (2 * 10 ^ 40 * 10 ^ 40)):=eW (mulOk_of (gu (by decide)) (gu (by decide)))
 have tmw : z2 .mul (.int (m : Nat)) (.int (w : Nat)) = .ok (.int ((m * w : Nat) : Int)):=by rw [eW (fK (by omega)),Int.natCast_mul]
 have c1 : ei (jO Ψ [some (.int c),some (.int (m : Nat)),some (.int (w : Nat)),some (.int (k : Nat)),some (.int (gi k)),none] [none,some 4] (.nm 0) [] (.var 1)) ((List.range (m * w)).map fun j=>.int (j : Nat)) = .ok ((List.range (m * w)).map fun _=>.int (gi k)):=
   bw _ fun j _=>by simp only [af,bM,Ou.aa,aw,aA.eq_def,eT,aq,List.getElem?_cons_zero,List.getElem?_cons_succ,List.set_cons_zero,List.map_cons,List.map_nil,List.nil_append,List.cons_append,Option.bind_some,Option.bind_none,Option.join_some,if_true]
 have r1 : ((List.range (m * w)).map fun _=>T.int (gi k)) = (List.replicate (m * w) (gi k)).map .int:=by
   rw [List.map_replicate,List.map_const',List.length_range]
 have inner : ∀ i,i < m → ∀ (x : Option T),ei (jO Ψ [some (.int (i : Nat)),some (.int (k : Nat)),some (inT rs),some (.int (w : Nat)),x] [none,some 0,some 1,some 2,some 3] (.nm 0) [] (.call nu [(.var 2),(.ix (.var 3) (.op .add (.op .mul (.var 4) (.var 1)) (.var 0)))])) ((List.range w).map fun j=>.int (j : Nat))
     = .ok ((List.range w).map fun j=>fr2 (f (rs.getD (w * i + j) 0))):=fun i hi x=>bw _ fun j hj=>by
   have hj:=List.mem_range.mp hj
   have hlt : w * i + j < rs.length:=by
     rw [hl,Nat.mul_comm m w]
     exact Nat.lt_of_lt_of_le (Nat.add_lt_add_left hj _) (by rw [← Nat.mul_succ]; exact Nat.mul_le_mul_left w hi)
   have g1 : z2 .mul (.int (w : Nat)) (.int (i : Nat)) = .ok (.int ((w * i : Nat) : Int)):=by rw [eW (fK (by omega)),Int.natCast_mul]
   have g2 : ((w * i : Nat) : Int) + (j : Nat) = ((w * i + j : Nat) : Int):=by omega
   have g3 : zI (inT rs) (.int ((w * i + j : Nat) : Int)) = .ok (.int (rs.getD (w * i + j) 0)):=iX (by
     rw [List.getElem?_map,List.getElem?_eq_getElem hlt,List.getD_eq_getElem?_getD,List.getElem?_eq_getElem hlt]; rfl)
   simp only [af,cx,dB,aM,ah,ae,bM,Ou.aa,aw,aA.eq_def,eT,iF,aq,List.getElem?_cons_zero,List.getElem?_cons_succ,List.set_cons_zero,List.map_cons,List.map_nil,List.nil_append,List.cons_append,Option.bind_some,Option.bind_none,Option.join_some,if_true,g1,g2,g3,(hf _).1,fr2]
 refine ⟨fun i j=>f (rs.getD (w * i + j) 0),fun i j=>(hf _).2,?_⟩
 · have lw : ((List.range w).map fun j=>T.int (j : Nat)).length < ai:=by rw [List.length_map,List.length_range]; exact cL hw
   have lm : ((List.range m).map fun j=>T.int (j : Nat)).length < ai:=by rw [List.length_map,List.length_range]; exact cL hm
   have lmw : ((List.range (m * w)).map fun j=>T.int (j : Nat)).length < ai:=by rw [List.length_map,List.length_range]; exact Nat.lt_of_le_of_lt mw (by decide)
   have ci : ∀ i,i < m → yE Ψ (.comp [none,some 0,some 1,some 2,some 3] (.nm 0) (.rng (.var 3)) [] (.call nu [(.var 2),(.ix (.var 3) (.op .add (.op .mul (.var 4) (.var 1)) (.var 0)))])) [some (.int (i : Nat)),some (.int (k : Nat)),some (inT rs),some (.int (w : Nat)),none] = .ok (.lst ((List.range w).map fun j=>fr2 (f (rs.getD (w * i + j) 0)))):=fun i hi=>
     cb (iW (by rw [af]; rfl) (Nat.lt_of_le_of_lt hw (by decide))) lw (inner i hi none)
   have outer : ei (jO Ψ [some (.int c),some (.int (m : Nat)),some (.int (w : Nat)),some (.int (k : Nat)),some (.int (gi k)),some (inT rs)] [none,some 3,some 5,some 2] (.nm 0) [] (.comp [none,some 0,some 1,some 2,some 3] (.nm 0) (.rng (.var 3)) [] (.call nu [(.var 2),(.ix (.var 3) (.op .add (.op .mul (.var 4) (.var 1)) (.var 0)))]))) ((List.range m).map fun j=>.int (j : Nat))
       = .ok ((List.range m).map fun i=>.lst ((List.range w).map fun j=>fr2 (f (rs.getD (w * i + j) 0)))):=bw _ fun i hi=>by
     simp only [bM,Ou.aa,aA.eq_def,eT,aq,List.getElem?_cons_zero,List.getElem?_cons_succ,List.set_cons_zero,List.map_cons,List.map_nil,List.nil_append,List.cons_append,Option.bind_some,Option.bind_none,Option.join_some,if_true,ci i (List.mem_range.mp hi)]
   have co:=cb (Ψ:=Ψ) (it:=.rng (.var 1)) (iW (by rw [af]; rfl) (Nat.lt_of_le_of_lt hm (by decide))) lm outer
   have c1':=cb (Ψ:=Ψ) (it:=.rng (.op .mul (.var 1) (.var 2))) (iW (by rw [cx,af,af]; exact tmw) (Nat.lt_of_le_of_lt mw (by decide))) lmw c1
   have e' : Ψ nb [.int c,.lst ((List.range (m * w)).map fun _=>.int (gi k))] = .ok (inT rs):=by rw [r1]; exact e
   have e1 : yE Ψ (.ix (.lst [(.cI 114),(.cI 5),(.cI 60),(.op .mul (.op .mul (.cI 2) (.op .pow (.cI 10) (.cI 40))) (.op .pow (.cI 10) (.cI 40)))]) (.var 3)) [some (.int c),some (.int (m : Nat)),some (.int (w : Nat)),some (.int (k : Nat)),none,none] = .ok (.int (gi k)):=by
     simp only [dB,kG,ae,ah,aG,cx,Ou.aa,af,aw,List.getElem?_cons_succ,List.getElem?_cons_zero,p40,t40,t80,Ej]
     exact E0 k hk
   have e2 : yE Ψ (.call nb [(.var 0),(.comp [none,some 4] (.nm 0) (.rng (.op .mul (.var 1) (.var 2))) [] (.var 1))]) [some (.int c),some (.int (m : Nat)),some (.int (w : Nat)),some (.int (k : Nat)),some (.int (gi k)),none] = .ok (inT rs):=by
     rw [aM,ae,af,ae,c1',ah]
     exact e'
   have s1 : ∀ n,yS Ψ ΨM ⟨μ,[],0⟩ n (.set (.nm 4) (.ix (.lst [(.cI 114),(.cI 5),(.cI 60),(.op .mul (.op .mul (.cI 2) (.op .pow (.cI 10) (.cI 40))) (.op .pow (.cI 10) (.cI 40)))]) (.var 3))) [some (.int c),some (.int (m : Nat)),some (.int (w : Nat)),some (.int (k : Nat)),none,none] [] = .ok (.nx [some (.int c),some (.int (m : Nat)),some (.int (w : Nat)),some (.int (k : Nat)),some (.int (gi k)),none] []):=fun n=>by
     rw [bI _ _ _ _ _ _ _ _ nr,e1]; rfl
   have s2 : ∀ n,yS Ψ ΨM ⟨μ,[],0⟩ n (.set (.nm 5) (.call nb [(.var 0),(.comp [none,some 4] (.nm 0) (.rng (.op .mul (.var 1) (.var 2))) [] (.var 1))])) [some (.int c),some (.int (m : Nat)),some (.int (w : Nat)),some (.int (k : Nat)),some (.int (gi k)),none] [] = .ok (.nx [some (.int c),some (.int (m : Nat)),some (.int (w : Nat)),some (.int (k : Nat)),some (.int (gi k)),some (inT rs)] []):=fun n=>by
     rw [bI _ _ _ _ _ _ _ _ (by rw [bJ]; simp only [hmv]; rfl),e2]; rfl
   rw [CA,ag,s1,Ou.aa,ay,ag,s2,Ou.aa,ay,ag,aE,co,Ou.aa,aF,Ou.aa,ar,bQ]
end Sv
namespace Sv
open PySem PySem.Spec PyProof.Rows L2
theorem uI {Z : Zt} {m : List Addr} {H : Hp} : ∀ ns : List Int,ak Z m H (ns.map V.int) (ns.map U.int)
 | []=>.nil
 | _ :: r=>.cons .int (uI r)
theorem ux {st : Sto} : ∀ ns : List Int,aK st (ns.map U.int) (ns.map T.int)
 | []=>.nil
 | _ :: r=>.cons .int (ux r)
theorem Jp {md : Md} {F : List U → Sto → Rs U} {G : List T → Ou T} (p : Pure md F G) (hG : ∀ ns : List Int,ns.length ≤ 63 → G [inT ns] = .ok (.bl true)) {K : Params → PySem.W.Frag} {cl : Nat → Addr} (w : World) (H : Hp) (a : Addr) (ns : List Int) (hl : ns.length ≤ 63) (hO : Fe H) (hS : SqL (K w.params) H a (ns.map V.int)) :
   spU ⟨K w.params,cl⟩ F [.ref a] H (fun v _=>v = .bl true) fun _ _ _=>False:=by
 have hF : SqF (K w.params) H a (ns.map V.int):=by
   rcases hS with (h | ⟨o,h⟩) | h
   · rcases hO a with z | ⟨o,xs,z⟩
     · rw [z] at h; cases h
     · rw [z] at h; cases h
   · exact .inl ⟨o,h⟩
   · exact .inr (.inr h)
 have g:=p.plain (h:=⟨fun _=>False,fun _=>False,fun _ z=>z⟩) (st:=[]) (us:=[.kl (ns.map .int)]) (ds:=[inT ns]) ⟨fun k fz us _ e=>by simp at e,fun _ z=>z.elim⟩
   (.cons (.of (.kl (ux ns)) (Av.kl.mpr fun u hu=>by obtain ⟨i,_,rfl⟩:=List.mem_map.mp hu; exact .int)) .nil)
 rw [hG ns hl] at g
 obtain ⟨u,st',h',e,_,r,_⟩:=g
 have:=r.iV
 subst this
 refine ⟨[],[],[.kl (ns.map .int)],⟨rfl,fun i j a e=>by simp at e,fun l a fz ds e=>by simp at e⟩,.cons (.kl hF (uI ns)) .nil,?_⟩
 rw [e]
 exact fun m' H' v _ _ dv=>jq dv
theorem _root_.L2.Fun.HR {K : PySem.W.Frag} {x qual : Str} {st : Stmt} {f T : Addr} {fd : FuncData} {ps : List Str} {c : Value} {d : Option Addr} {items : Array Value} {n : Nat} {sl : Array (Option Value)} (_ : L2.Fun K x qual st f fd) (hd : fd.defaults = .ref T) (lT : K.lookup T = some ⟨c,d,.seq items n,sl⟩)
   (h : ∀ us : List Value,us.length = ps.length → ∃ k,bindArgs fd ⟨us,[]⟩ = seqItems? fd.defaults >>= k ∧ k (some items) = pure (ps.zip us)) : L2.Binds K fd ps []:=fun s us X hl=>by
 rw [List.append_nil] at hl ⊢
 obtain ⟨k,h1,h2⟩:=h us hl
 exact .of_defaults hd (X _ _ lT) rfl h1 h2
theorem _root_.L2.Fun.GB {K : PySem.W.Frag} {x qual : Str} {st : Stmt} {f T : Addr} {fd : FuncData} {p : Str} {ps : List Str} {c d : Value} {dd : Option Addr} {items : Array Value} {n : Nat} {sl : Array (Option Value)} (_ : L2.Fun K x qual st f fd) (hd : fd.defaults = .ref T) (lT : K.lookup T = some ⟨c,dd,.seq items n,sl⟩)
   (h : ∀ us : List Value,us.length = ps.length → ∃ k,bindArgs fd ⟨us,[]⟩ = seqItems? fd.defaults >>= k ∧ k (some items) = pure ((p :: ps).zip (us ++ [d]))) : L2.Binds K fd (p :: ps) [d]:=fun s us X hl=>by
 obtain ⟨k,h1,h2⟩:=h us (by simpa using hl)
 exact .of_defaults hd (X _ _ lT) rfl h1 h2
end Sv
namespace Sv
open PySem PySem.Spec L2
open Ev (D aQ aU ai)
structure Ch (cs : List Nat) (n : Nat) : Prop where
 ne : cs ≠ []
 up : ∀ (i j a b : Nat),cs[i]? = some a → cs[j]? = some b → i < j → a < b
 lt : ∀ a ∈ cs,a < n
theorem Ch.len {cs : List Nat} {n : Nat} (h : Ch cs n) : cs.length ≤ n:=by
 have key : ∀ (i a : Nat),cs[i]? = some a → i ≤ a:=by
   intro i
   induction i with
   | zero=>intro a _; exact Nat.zero_le _
   | succ i ih=>
     intro a ha
     have hi : i < cs.length:=by have:=(List.getElem?_eq_some_iff.mp ha).1; omega
     have:=ih _ (List.getElem?_eq_getElem hi)
     have:=h.up i (i + 1) _ _ (List.getElem?_eq_getElem hi) ha (by omega)
     omega
 rcases Nat.eq_zero_or_pos cs.length with z | z
 · omega
 · have hl : cs.length - 1 < cs.length:=by omega
   have h1:=key _ _ (List.getElem?_eq_getElem hl)
   have h2:=h.lt _ (List.getElem_mem hl)
   omega
theorem Ep {α : Type} {xs : List α} {i : Nat} {d : α} (h : i < xs.length) : xs[i]? = some (xs.getD i d):=by
 rw [List.getD_eq_getElem?_getD,List.getElem?_eq_getElem h,Option.getD_some]
noncomputable def FD (rows : List (List (Int × Int))) (w : Nat) : List (List (Int × Int)):=(List.range w).map fun j=>rows.map fun r=>r.getD j (0,1)
theorem Tbl.turn {rows : List (List (Int × Int))} {m w : Nat} (h : Tbl rows m w) : Tbl (FD rows w) w m:=by
 refine ⟨by simp [FD],fun r hr=>?_⟩
 obtain ⟨j,hj,rfl⟩:=List.mem_map.mp hr
 refine ⟨by rw [List.length_map,h.1],fun p hp=>?_⟩
 obtain ⟨r,hr',rfl⟩:=List.mem_map.mp hp
 have hj' : j < r.length:=by rw [(h.2 r hr').1]; exact List.mem_range.mp hj
 exact (h.2 r hr').2 _ (List.mem_of_getElem? (Ep hj'))
end Sv
namespace K12
open PySem PySem.Spec L2 Sv
noncomputable def lF0 : List (List U → Sto → Rs U):=[]
noncomputable def ld0 : List Md:=[]
noncomputable def lG0 : List (List T → Ou T):=[]
noncomputable def lH0 : List (List T → Ou T):=[]
noncomputable def lS0 : List Str:=[]
noncomputable def j9 : List S:=[.ite (.cmp .lt (.var 1) (.bi .len [(.var 0)])) [.ret (.ix (.var 0) (.var 1))] [],.ret (.cI 0)]
noncomputable def Cf : Fn:=tab lF0
noncomputable def vC : List U → Sto → Rs U:=mk Cf j9 2 2
noncomputable def BO : FnT:=aV lG0
noncomputable def Bc : FnT:=aV lH0
noncomputable def BP : Nat → Md:=cR ld0
noncomputable def Df : Md:=⟨false,0,0⟩
noncomputable def o8 : List T → Ou T:=mkT BO Bc BP ⟨false,0,0⟩ [] j9 2 2
noncomputable def Dd : List T → Ou T:=fun _=>.bad
noncomputable def lF1 : List (List U → Sto → Rs U):=lF0 ++ [vC]
noncomputable def ld1 : List Md:=ld0 ++ [Df]
noncomputable def lG1 : List (List T → Ou T):=lG0 ++ [o8]
noncomputable def lH1 : List (List T → Ou T):=lH0 ++ [Dd]
noncomputable def lS1 : List Str:=lS0 ++ [("_law_cell" : Str)]
theorem A8 : bV lF1 ld1 lG1 lH1:=bV.nil.def ⟨false,0,0⟩ rfl [] j9 2 2
noncomputable def gj : List S:=[.set (.nm 2) (.lst []),.ite (.cmp .ge (.bi .abs [(.var 0)]) (.op .pow (.cI 10) (.cI 18))) [.for (.nm 3) (.seq (.var 1)) [.mth .append (.var 2) [(.op .mod (.var 0) (.var 3))],.set (.nm 0) (.op .fdiv (.var 0) (.var 3))],.ret (.var 2)] [],.for (.tp [4,3]) (.enu (.var 1)) [.set (.nm 5) (.op .mod (.op .add (.op .add (.op .add (.op .mul (.var 0) (.cI 48271)) (.op .mul (.op .mul (.var 4) (.var 4)) (.cI 69621))) (.op .mul (.var 4) (.cI 16807))) (.cI 11)) (.cI 2147483647)),.mth .append (.var 2) [(.op .mod (.op .fdiv (.op .mod (.op .add (.op .add (.op .mul (.var 5) (.cI 40692)) (.var 0)) (.op .mul (.cI 31) (.var 4))) (.cI 2147483399)) (.cI 7)) (.var 3))]],.ret (.var 2)]
noncomputable def wF : Fn:=tab lF1
noncomputable def oy : List U → Sto → Rs U:=mk wF gj 2 6
noncomputable def u4 : FnT:=aV lG1
noncomputable def vS : FnT:=aV lH1
noncomputable def vL : Nat → Md:=cR ld1
noncomputable def uK : Md:=⟨false,0,0⟩
noncomputable def oq : List T → Ou T:=mkT u4 vS vL ⟨false,0,0⟩ [2] gj 2 6
noncomputable def vI : List T → Ou T:=fun _=>.bad
noncomputable def lF2 : List (List U → Sto → Rs U):=lF1 ++ [oy]
noncomputable def ld2 : List Md:=ld1 ++ [uK]
noncomputable def lG2 : List (List T → Ou T):=lG1 ++ [oq]
noncomputable def lH2 : List (List T → Ou T):=lH1 ++ [vI]
noncomputable def lS2 : List Str:=lS1 ++ [("_law_numbers" : Str)]
theorem vR : bV lF2 ld2 lG2 lH2:=A8.def ⟨false,0,0⟩ rfl [2] gj 2 6
noncomputable def eD : List S:=[.ite (.cmp .eq (.ix (.var 0) (.cI 0)) (.cI 1)) [.ret (.comp [none] (.nm 0) (.seq (.sl (.var 0) (.cI 5) (.cI 9))) [] (.op .add (.cI 1) (.var 0)))] [],.ret (.comp [none] (.nm 0) (.seq (.sl (.var 0) (.cI 1) (.cI 5))) [] (.op .add (.cI 1) (.var 0)))]
noncomputable def zZ : Fn:=tab lF2
noncomputable def rq : List U → Sto → Rs U:=mk zZ eD 1 1
noncomputable def iN : FnT:=aV lG2
noncomputable def qY : FnT:=aV lH2
noncomputable def rf : Nat → Md:=cR ld2
noncomputable def zR : Md:=⟨false,0,0⟩
noncomputable def kf : List T → Ou T:=mkT iN qY rf ⟨false,0,0⟩ [] eD 1 1
noncomputable def zQ : List T → Ou T:=fun _=>.bad
theorem tf (x0 : T) : kf [x0] = cy ⟨false,0,0⟩ (ySs iN qY ⟨rf,[],0⟩ (bt [x0]) eD [some x0] []):=bT rfl
noncomputable def lF3 : List (List U → Sto → Rs U):=lF2 ++ [rq]
noncomputable def ld3 : List Md:=ld2 ++ [zR]
noncomputable def lG3 : List (List T → Ou T):=lG2 ++ [kf]
noncomputable def lH3 : List (List T → Ou T):=lH2 ++ [zQ]
noncomputable def lS3 : List Str:=lS2 ++ [("_law_sizes" : Str)]
theorem As : bV lF3 ld3 lG3 lH3:=vR.def ⟨false,0,0⟩ rfl [] eD 1 1
noncomputable def gk : List S:=[.set (.nm 0) (.bi .abs [(.var 0)]),.set (.nm 1) (.bi .abs [(.var 1)]),.while (.cmp .gt (.var 1) (.cI 0)) [.set (.nm 2) (.op .mod (.var 0) (.var 1)),.set (.nm 0) (.var 1),.set (.nm 1) (.var 2)],.ret (.var 0)]
noncomputable def vo : Fn:=tab lF3
noncomputable def oa : List U → Sto → Rs U:=mk vo gk 2 3
noncomputable def wq : FnT:=aV lG3
noncomputable def uY : FnT:=aV lH3
noncomputable def vx : Nat → Md:=cR ld3
noncomputable def vb : Md:=⟨false,0,0⟩
noncomputable def iA : List T → Ou T:=mkT wq uY vx ⟨false,0,0⟩ [] gk 2 3
noncomputable def uz : List T → Ou T:=fun _=>.bad
noncomputable def lF4 : List (List U → Sto → Rs U):=lF3 ++ [oa]
noncomputable def ld4 : List Md:=ld3 ++ [vb]
noncomputable def lG4 : List (List T → Ou T):=lG3 ++ [iA]
noncomputable def lH4 : List (List T → Ou T):=lH3 ++ [uz]
noncomputable def lS4 : List Str:=lS3 ++ [("_law_divisor" : Str)]
theorem vv : bV lF4 ld4 lG4 lH4:=As.def ⟨false,0,0⟩ rfl [] gk 2 3
noncomputable def kc : List S:=[.set (.nm 2) (.call 3 [(.var 0),(.var 1)]),.ret (.tup [(.op .fdiv (.var 0) (.var 2)),(.op .fdiv (.var 1) (.var 2))])]
noncomputable def BK : Fn:=tab lF4
noncomputable def uT : List U → Sto → Rs U:=mk BK kc 2 3
noncomputable def u3 : FnT:=aV lG4
noncomputable def uZ : FnT:=aV lH4
noncomputable def vz : Nat → Md:=cR ld4
noncomputable def BM : Md:=⟨false,0,0⟩
noncomputable def ql : List T → Ou T:=mkT u3 uZ vz ⟨false,0,0⟩ [] kc 2 3
noncomputable def CC : List T → Ou T:=fun _=>.bad
noncomputable def lF5 : List (List U → Sto → Rs U):=lF4 ++ [uT]
noncomputable def ld5 : List Md:=ld4 ++ [BM]
noncomputable def lG5 : List (List T → Ou T):=lG4 ++ [ql]
noncomputable def lH5 : List (List T → Ou T):=lH4 ++ [CC]
noncomputable def lS5 : List Str:=lS4 ++ [("_law_made" : Str)]
theorem BS : bV lF5 ld5 lG5 lH5:=vv.def ⟨false,0,0⟩ rfl [] kc 2 3
noncomputable def cc : List S:=[.ite (.cmp .eq (.var 0) (.cI 1)) [.ret (.tup [(.op .sub (.op .mod (.var 1) (.cI 5)) (.cI 2)),(.cI 1)])] [],.ite (.cmp .eq (.var 0) (.cI 3)) [.set (.nm 2) (.op .mul (.op .mod (.op .fdiv (.var 1) (.cI 2)) (.op .pow (.cI 10) (.cI 40))) (.op .sub (.cI 1) (.op .mul (.cI 2) (.op .mod (.var 1) (.cI 2))))),.ret (.call 4 [(.var 2),(.op .add (.cI 1) (.op .mod (.op .fdiv (.var 1) (.op .mul (.cI 2) (.op .pow (.cI 10) (.cI 40)))) (.op .sub (.op .pow (.cI 10) (.cI 40)) (.cI 1))))])] [],.ite (.cmp .eq (.var 0) (.cI 2)) [.ret (.call 4 [(.op .mod (.var 1) (.cI 10)),(.op .add (.cI 1) (.op .mod (.op .fdiv (.var 1) (.cI 10)) (.cI 6)))])] [],.ret (.call 4 [(.op .sub (.op .mod (.var 1) (.cI 19)) (.cI 9)),(.op .add (.cI 1) (.op .mod (.op .fdiv (.var 1) (.cI 19)) (.cI 6)))])]
noncomputable def xV : Fn:=tab lF5
noncomputable def qd : List U → Sto → Rs U:=mk xV cc 2 3
noncomputable def lr : FnT:=aV lG5
noncomputable def pg : FnT:=aV lH5
noncomputable def pL : Nat → Md:=cR ld5
noncomputable def yp : Md:=⟨false,0,0⟩
noncomputable def dO : List T → Ou T:=mkT lr pg pL ⟨false,0,0⟩ [] cc 2 3
noncomputable def xQ : List T → Ou T:=fun _=>.bad
theorem fO (x0 x1 : T) : dO [x0,x1] = cy ⟨false,0,0⟩ (ySs lr pg ⟨pL,[],0⟩ (bt [x0,x1]) cc [some x0,some x1,none] []):=bT rfl
theorem eX : lr 4 = ql:=rfl
noncomputable def lF6 : List (List U → Sto → Rs U):=lF5 ++ [qd]
noncomputable def ld6 : List Md:=ld5 ++ [yp]
noncomputable def lG6 : List (List T → Ou T):=lG5 ++ [dO]
noncomputable def lH6 : List (List T → Ou T):=lH5 ++ [xQ]
noncomputable def lS6 : List Str:=lS5 ++ [("_law_number" : Str)]
theorem wY : bV lF6 ld6 lG6 lH6:=BS.def ⟨false,0,0⟩ rfl [] cc 2 3
noncomputable def jt : List S:=[.set (.nm 4) (.ix (.lst [(.cI 114),(.cI 5),(.cI 60),(.op .mul (.op .mul (.cI 2) (.op .pow (.cI 10) (.cI 40))) (.op .pow (.cI 10) (.cI 40)))]) (.var 3)),.set (.nm 5) (.call 1 [(.var 0),(.comp [none,some 4] (.nm 0) (.rng (.op .mul (.var 1) (.var 2))) [] (.var 1))]),.ret (.comp [none,some 3,some 5,some 2] (.nm 0) (.rng (.var 1)) [] (.comp [none,some 0,some 1,some 2,some 3] (.nm 0) (.rng (.var 3)) [] (.call 5 [(.var 2),(.ix (.var 3) (.op .add (.op .mul (.var 4) (.var 1)) (.var 0)))])))]
noncomputable def Ap : Fn:=tab lF6
noncomputable def rH : List U → Sto → Rs U:=mk Ap jt 4 6
noncomputable def ni : FnT:=aV lG6
noncomputable def rh : FnT:=aV lH6
noncomputable def rm : Nat → Md:=cR ld6
noncomputable def Ag : Md:=⟨false,0,0⟩
noncomputable def nj : List T → Ou T:=mkT ni rh rm ⟨false,0,0⟩ [] jt 4 6
noncomputable def AL : List T → Ou T:=fun _=>.bad
theorem kK : ni 5 = dO:=rfl
noncomputable def lF7 : List (List U → Sto → Rs U):=lF6 ++ [rH]
noncomputable def ld7 : List Md:=ld6 ++ [Ag]
noncomputable def lG7 : List (List T → Ou T):=lG6 ++ [nj]
noncomputable def lH7 : List (List T → Ou T):=lH6 ++ [AL]
noncomputable def lS7 : List Str:=lS6 ++ [("_law_table" : Str)]
theorem zO : bV lF7 ld7 lG7 lH7:=wY.def ⟨false,0,0⟩ rfl [] jt 4 6
noncomputable def iQ : List S:=[.set (.nm 2) (.lst []),.for (.nm 3) (.seq (.var 0)) [.set (.nm 4) (.lst []),.for (.nm 5) (.rng (.bi .len [(.ix (.var 1) (.cI 0))])) [.set (.nm 6) (.cI 0),.set (.nm 7) (.cI 1),.for (.nm 8) (.rng (.bi .len [(.var 1)])) [.set (.nm 9) (.ix (.ix (.var 1) (.var 8)) (.var 5)),.set (.nm 10) (.op .mul (.ix (.ix (.var 3) (.var 8)) (.cI 1)) (.ix (.var 9) (.cI 1))),.set (.nm 6) (.op .add (.op .mul (.var 6) (.var 10)) (.op .mul (.op .mul (.ix (.ix (.var 3) (.var 8)) (.cI 0)) (.ix (.var 9) (.cI 0))) (.var 7))),.set (.nm 7) (.op .mul (.var 7) (.var 10)),.set (.nm 11) (.call 3 [(.var 6),(.var 7)]),.set (.nm 6) (.op .fdiv (.var 6) (.var 11)),.set (.nm 7) (.op .fdiv (.var 7) (.var 11))],.mth .append (.var 4) [(.tup [(.var 6),(.var 7)])]],.mth .append (.var 2) [(.var 4)]],.ret (.var 2)]
noncomputable def D1 : Fn:=tab lF7
noncomputable def zj : List U → Sto → Rs U:=mk D1 iQ 2 12
noncomputable def bo : FnT:=aV lG7
noncomputable def bU : FnT:=aV lH7
noncomputable def bG : Nat → Md:=cR ld7
noncomputable def Fg : Md:=⟨false,0,0⟩
noncomputable def j8 : List T → Ou T:=mkT bo bU bG ⟨false,0,0⟩ [2,4] iQ 2 12
noncomputable def EJ : List T → Ou T:=fun _=>.bad
theorem yr (x0 x1 : T) : j8 [x0,x1] = cy ⟨false,0,0⟩ (ySs bo bU ⟨bG,[2,4],0⟩ (bt [x0,x1]) iQ [some x0,some x1,none,none,none,none,none,none,none,none,none,none] []):=bT rfl
theorem lM : bo 3 = iA:=rfl
theorem lA : bG 3 = ⟨false,0,0⟩:=rfl
noncomputable def lF8 : List (List U → Sto → Rs U):=lF7 ++ [zj]
noncomputable def ld8 : List Md:=ld7 ++ [Fg]
noncomputable def lG8 : List (List T → Ou T):=lG7 ++ [j8]
noncomputable def lH8 : List (List T → Ou T):=lH7 ++ [EJ]
noncomputable def lS8 : List Str:=lS7 ++ [("_law_due" : Str)]
theorem ER : bV lF8 ld8 lG8 lH8:=zO.def ⟨false,0,0⟩ rfl [2,4] iQ 2 12
noncomputable def dU : List S:=[.ret (.and (.isi (.var 0) .list) (.chain .le .le (.cI 1) (.bi .len [(.var 0)]) (.cI 7)))]
noncomputable def oB : Fn:=tab lF8
noncomputable def jA : List U → Sto → Rs U:=mk oB dU 1 1
noncomputable def oN : FnT:=aV lG8
noncomputable def oE : FnT:=aV lH8
noncomputable def oJ : Nat → Md:=cR ld8
noncomputable def oA : Md:=⟨false,0,0⟩
noncomputable def jz : List T → Ou T:=mkT oN oE oJ ⟨false,0,0⟩ [] dU 1 1
noncomputable def oI : List T → Ou T:=fun _=>.bad
noncomputable def lF9 : List (List U → Sto → Rs U):=lF8 ++ [jA]
noncomputable def ld9 : List Md:=ld8 ++ [oA]
noncomputable def lG9 : List (List T → Ou T):=lG8 ++ [jz]
noncomputable def lH9 : List (List T → Ou T):=lH8 ++ [oI]
noncomputable def lS9 : List Str:=lS8 ++ [("is_short_list" : Str)]
theorem oK : bV lF9 ld9 lG9 lH9:=ER.def ⟨false,0,0⟩ rfl [] dU 1 1
noncomputable def iB : List S:=[.ret (.and (.isi (.var 0) .int) (.not (.isi (.var 0) .bool)))]
noncomputable def wQ : Fn:=tab lF9
noncomputable def pE : List U → Sto → Rs U:=mk wQ iB 1 1
noncomputable def xX : FnT:=aV lG9
noncomputable def x6 : FnT:=aV lH9
noncomputable def xx : Nat → Md:=cR ld9
noncomputable def xA : Md:=⟨false,0,0⟩
noncomputable def jj : List T → Ou T:=mkT xX x6 xx ⟨false,0,0⟩ [] iB 1 1
noncomputable def xt : List T → Ou T:=fun _=>.bad
noncomputable def E8 : List (List U → Sto → Rs U):=lF9 ++ [pE]
noncomputable def FW : List Md:=ld9 ++ [xA]
noncomputable def GD : List (List T → Ou T):=lG9 ++ [jj]
noncomputable def IZ : List (List T → Ou T):=lH9 ++ [xt]
noncomputable def IX : List Str:=lS9 ++ [("is_whole" : Str)]
theorem xP : bV E8 FW GD IZ:=oK.def ⟨false,0,0⟩ rfl [] iB 1 1
noncomputable def dm : List S:=[.set (.nm 2) (.bi .abs [(.var 0)]),.set (.nm 3) (.bi .abs [(.var 1)]),.while (.cmp .ne (.var 3) (.cI 0)) [.set (.nm 4) (.op .mod (.var 2) (.var 3)),.set (.nm 2) (.var 3),.set (.nm 3) (.var 4)],.ret (.var 2)]
noncomputable def nN : Fn:=tab E8
noncomputable def iJ : List U → Sto → Rs U:=mk nN dm 2 5
noncomputable def mW : FnT:=aV GD
noncomputable def nQ : FnT:=aV IZ
noncomputable def mZ : Nat → Md:=cR FW
noncomputable def nF : Md:=⟨false,0,0⟩
noncomputable def cE : List T → Ou T:=mkT mW nQ mZ ⟨false,0,0⟩ [] dm 2 5
noncomputable def mR : List T → Ou T:=fun _=>.bad
noncomputable def EG : List (List U → Sto → Rs U):=E8 ++ [iJ]
noncomputable def IU : List Md:=FW ++ [nF]
noncomputable def JP : List (List T → Ou T):=GD ++ [cE]
noncomputable def Ie : List (List T → Ou T):=IZ ++ [mR]
noncomputable def GH : List Str:=IX ++ [("common_divisor" : Str)]
theorem nc : bV EG IU JP Ie:=xP.def ⟨false,0,0⟩ rfl [] dm 2 5
noncomputable def fj : List S:=[.ite (.or (.not (.isi (.var 0) .tuple)) (.cmp .ne (.bi .len [(.var 0)]) (.cI 2))) [.ret (.cB false)] [],.ite (.or (.not (.call 9 [(.ix (.var 0) (.cI 0))])) (.not (.call 9 [(.ix (.var 0) (.cI 1))]))) [.ret (.cB false)] [],.ret (.and (.cmp .ge (.ix (.var 0) (.cI 1)) (.cI 1)) (.cmp .eq (.call 10 [(.ix (.var 0) (.cI 0)),(.ix (.var 0) (.cI 1))]) (.cI 1)))]
noncomputable def qT : Fn:=tab EG
noncomputable def kv : List U → Sto → Rs U:=mk qT fj 1 1
noncomputable def kr : FnT:=aV JP
noncomputable def qS : FnT:=aV Ie
noncomputable def qV : Nat → Md:=cR IU
noncomputable def qW : Md:=⟨false,0,0⟩
noncomputable def kn : List T → Ou T:=mkT kr qS qV ⟨false,0,0⟩ [] fj 1 1
noncomputable def qz : List T → Ou T:=fun _=>.bad
noncomputable def Eg : List (List U → Sto → Rs U):=EG ++ [kv]
noncomputable def Gf : List Md:=IU ++ [qW]
noncomputable def FR : List (List T → Ou T):=JP ++ [kn]
noncomputable def Gk : List (List T → Ou T):=Ie ++ [qz]
noncomputable def Jy : List Str:=GH ++ [("is_fraction" : Str)]
theorem qI : bV Eg Gf FR Gk:=nc.def ⟨false,0,0⟩ rfl [] fj 1 1
noncomputable def kd : List S:=[.ret (.and (.call 8 [(.var 0)]) (.bi .all [(.comp [none] (.nm 0) (.seq (.var 0)) [] (.call 11 [(.var 0)]))]))]
noncomputable def Bj : Fn:=tab Eg
noncomputable def vn : List U → Sto → Rs U:=mk Bj kd 1 1
noncomputable def Di : FnT:=aV FR
noncomputable def CO : FnT:=aV Gk
noncomputable def A7 : Nat → Md:=cR Gf
noncomputable def Bh : Md:=⟨false,0,0⟩
noncomputable def uS : List T → Ou T:=mkT Di CO A7 ⟨false,0,0⟩ [] kd 1 1
noncomputable def AY : List T → Ou T:=fun _=>.bad
noncomputable def DQ : List (List U → Sto → Rs U):=Eg ++ [vn]
noncomputable def GQ : List Md:=Gf ++ [Bh]
noncomputable def IT : List (List T → Ou T):=FR ++ [uS]
noncomputable def Jw : List (List T → Ou T):=Gk ++ [AY]
noncomputable def Jx : List Str:=Jy ++ [("is_row" : Str)]
theorem A5 : bV DQ GQ IT Jw:=qI.def ⟨false,0,0⟩ rfl [] kd 1 1
noncomputable def ig : List S:=[.ite (.or (.not (.call 8 [(.var 0)])) (.not (.bi .all [(.comp [none] (.nm 0) (.seq (.var 0)) [] (.call 12 [(.var 0)]))]))) [.ret (.cB false)] [],.ret (.bi .all [(.comp [none,some 0] (.nm 0) (.seq (.var 0)) [] (.cmp .eq (.bi .len [(.var 0)]) (.bi .len [(.ix (.var 1) (.cI 0))])))])]
noncomputable def xu : Fn:=tab DQ
noncomputable def p0 : List U → Sto → Rs U:=mk xu ig 1 1
noncomputable def xv : FnT:=aV IT
noncomputable def xw : FnT:=aV Jw
noncomputable def yf : Nat → Md:=cR GQ
noncomputable def xy : Md:=⟨false,0,0⟩
noncomputable def kY : List T → Ou T:=mkT xv xw yf ⟨false,0,0⟩ [] ig 1 1
noncomputable def yu : List T → Ou T:=fun _=>.bad
noncomputable def D6 : List (List U → Sto → Rs U):=DQ ++ [p0]
noncomputable def HW : List Md:=GQ ++ [xy]
noncomputable def JD : List (List T → Ou T):=IT ++ [kY]
noncomputable def JC : List (List T → Ou T):=Jw ++ [yu]
noncomputable def IW : List Str:=Jx ++ [("is_table" : Str)]
theorem xO : bV D6 HW JD JC:=A5.def ⟨false,0,0⟩ rfl [] ig 1 1
noncomputable def cV : List S:=[.ite (.not (.call 13 [(.var 0)])) [.nev] []]
noncomputable def sH : Fn:=tab D6
noncomputable def mx : List U → Sto → Rs U:=mk sH cV 1 1
noncomputable def ju : FnT:=aV JD
noncomputable def lB : FnT:=aV JC
noncomputable def my : Nat → Md:=cR HW
noncomputable def tM : Md:=⟨false,0,0⟩
noncomputable def gx : List T → Ou T:=mkT ju lB my ⟨false,0,0⟩ [] cV 1 1
noncomputable def sR : List T → Ou T:=fun _=>.bad
theorem oF (x0 : T) : gx [x0] = cy ⟨false,0,0⟩ (ySs ju lB ⟨my,[],0⟩ (bt [x0]) cV [some x0] []):=bT rfl
theorem jG : ju 13 = kY:=rfl
noncomputable def DT : List (List U → Sto → Rs U):=D6 ++ [mx]
noncomputable def JO : List Md:=HW ++ [tM]
noncomputable def Hg : List (List T → Ou T):=JD ++ [gx]
noncomputable def Ii : List (List T → Ou T):=JC ++ [sR]
noncomputable def GV : List Str:=IW ++ [("look_table" : Str)]
theorem sW : bV DT JO Hg Ii:=xO.def ⟨false,0,0⟩ rfl [] cV 1 1
noncomputable def dX : List S:=[.ret (.comp [none,some 1] (.nm 0) (.seq (.var 0)) [] (.ix (.var 0) (.var 1)))]
noncomputable def v9 : Fn:=tab DT
noncomputable def nU : List U → Sto → Rs U:=mk v9 dX 2 2
noncomputable def j3 : FnT:=aV Hg
noncomputable def nZ : FnT:=aV Ii
noncomputable def nR : Nat → Md:=cR JO
noncomputable def wu : Md:=⟨false,0,0⟩
noncomputable def iq : List T → Ou T:=mkT j3 nZ nR ⟨false,0,0⟩ [] dX 2 2
noncomputable def uQ : List T → Ou T:=fun _=>.bad
theorem qk (x0 x1 : T) : iq [x0,x1] = cy ⟨false,0,0⟩ (ySs j3 nZ ⟨nR,[],0⟩ (bt [x0,x1]) dX [some x0,some x1] []):=bT rfl
noncomputable def ES : List (List U → Sto → Rs U):=DT ++ [nU]
noncomputable def Iy : List Md:=JO ++ [wu]
noncomputable def Ji : List (List T → Ou T):=Hg ++ [iq]
noncomputable def Gs : List (List T → Ou T):=Ii ++ [uQ]
noncomputable def GW : List Str:=GV ++ [("column_of" : Str)]
theorem wI : bV ES Iy Ji Gs:=sW.def ⟨false,0,0⟩ rfl [] dX 2 2
noncomputable def de : List S:=[.ret (.comp [none,some 0] (.nm 0) (.rng (.bi .len [(.ix (.var 0) (.cI 0))])) [] (.call 15 [(.var 1),(.var 0)]))]
noncomputable def tq : Fn:=tab ES
noncomputable def mP : List U → Sto → Rs U:=mk tq de 1 1
noncomputable def gz : FnT:=aV Ji
noncomputable def mI : FnT:=aV Gs
noncomputable def mG : Nat → Md:=cR Iy
noncomputable def sN : Md:=⟨false,0,0⟩
noncomputable def ff : List T → Ou T:=mkT gz mI mG ⟨false,0,0⟩ [] de 1 1
noncomputable def sv : List T → Ou T:=fun _=>.bad
theorem oG (x0 : T) : ff [x0] = cy ⟨false,0,0⟩ (ySs gz mI ⟨mG,[],0⟩ (bt [x0]) de [some x0] []):=bT rfl
theorem jl : gz 15 = iq:=rfl
noncomputable def Et : List (List U → Sto → Rs U):=ES ++ [mP]
noncomputable def Gp : List Md:=Iy ++ [sN]
noncomputable def Ik : List (List T → Ou T):=Ji ++ [ff]
noncomputable def Im : List (List T → Ou T):=Gs ++ [sv]
noncomputable def Iz : List Str:=GW ++ [("columns_of" : Str)]
theorem tY : bV Et Gp Ik Im:=wI.def ⟨false,0,0⟩ rfl [] de 1 1
noncomputable def dQ : List S:=[.ret (.comp [none,some 1] (.nm 0) (.seq (.var 0)) [] (.op .mul (.ix (.var 0) (.cI 0)) (.op .fdiv (.var 1) (.ix (.var 0) (.cI 1)))))]
noncomputable def uU : Fn:=tab Et
noncomputable def ot : List U → Sto → Rs U:=mk uU dQ 2 2
noncomputable def j2 : FnT:=aV Ik
noncomputable def om : FnT:=aV Im
noncomputable def nS : Nat → Md:=cR Gp
noncomputable def wM : Md:=⟨false,0,0⟩
noncomputable def fX : List T → Ou T:=mkT j2 om nS ⟨false,0,0⟩ [] dQ 2 2
noncomputable def uO : List T → Ou T:=fun _=>.bad
theorem pN (x0 x1 : T) : fX [x0,x1] = cy ⟨false,0,0⟩ (ySs j2 om ⟨nS,[],0⟩ (bt [x0,x1]) dQ [some x0,some x1] []):=bT rfl
noncomputable def EY : List (List U → Sto → Rs U):=Et ++ [ot]
noncomputable def GF : List Md:=Gp ++ [wM]
noncomputable def Iw : List (List T → Ou T):=Ik ++ [fX]
noncomputable def IF : List (List T → Ou T):=Im ++ [uO]
noncomputable def Hw : List Str:=Iz ++ [("whole_row" : Str)]
theorem vE : bV EY GF Iw IF:=tY.def ⟨false,0,0⟩ rfl [] dQ 2 2
noncomputable def cY : List S:=[.ret (.comp [none,none] (.tp [0,1]) (.zip (.var 0) (.var 1)) [] (.call 17 [(.var 0),(.var 1)]))]
noncomputable def tQ : Fn:=tab EY
noncomputable def lC : List U → Sto → Rs U:=mk tQ cY 2 2
noncomputable def gv : FnT:=aV Iw
noncomputable def mf : FnT:=aV IF
noncomputable def mj : Nat → Md:=cR GF
noncomputable def tV : Md:=⟨false,0,0⟩
noncomputable def eZ : List T → Ou T:=mkT gv mf mj ⟨false,0,0⟩ [] cY 2 2
noncomputable def sM : List T → Ou T:=fun _=>.bad
theorem oD (x0 x1 : T) : eZ [x0,x1] = cy ⟨false,0,0⟩ (ySs gv mf ⟨mj,[],0⟩ (bt [x0,x1]) cY [some x0,some x1] []):=bT rfl
theorem jr : gv 17 = fX:=rfl
noncomputable def DB : List (List U → Sto → Rs U):=EY ++ [lC]
noncomputable def HJ : List Md:=GF ++ [tV]
noncomputable def Io : List (List T → Ou T):=Iw ++ [eZ]
noncomputable def JF : List (List T → Ou T):=IF ++ [sM]
noncomputable def ID : List Str:=Hw ++ [("whole_rows" : Str)]
theorem tX : bV DB HJ Io JF:=vE.def ⟨false,0,0⟩ rfl [] cY 2 2
noncomputable def eR : List S:=[.set (.nm 1) (.cI 1),.for (.nm 2) (.seq (.var 0)) [.set (.nm 1) (.op .mul (.op .fdiv (.var 1) (.call 10 [(.var 1),(.ix (.var 2) (.cI 1))])) (.ix (.var 2) (.cI 1)))],.ret (.var 1)]
noncomputable def wO : Fn:=tab DB
noncomputable def pQ : List U → Sto → Rs U:=mk wO eR 1 3
noncomputable def eF : FnT:=aV Io
noncomputable def gQ : FnT:=aV JF
noncomputable def fw : Nat → Md:=cR HJ
noncomputable def xY : Md:=⟨false,0,0⟩
noncomputable def fE : List T → Ou T:=mkT eF gQ fw ⟨false,0,0⟩ [] eR 1 3
noncomputable def xD : List T → Ou T:=fun _=>.bad
theorem qD (x0 : T) : fE [x0] = cy ⟨false,0,0⟩ (ySs eF gQ ⟨fw,[],0⟩ (bt [x0]) eR [some x0,none,none] []):=bT rfl
theorem hV : eF 10 = cE:=rfl
theorem hU : fw 10 = ⟨false,0,0⟩:=rfl
noncomputable def Fd : List (List U → Sto → Rs U):=DB ++ [pQ]
noncomputable def HB : List Md:=HJ ++ [xY]
noncomputable def Ic : List (List T → Ou T):=Io ++ [fE]
noncomputable def Jv : List (List T → Ou T):=JF ++ [xD]
noncomputable def Ia : List Str:=ID ++ [("scale_of" : Str)]
theorem yq : bV Fd HB Ic Jv:=tX.def ⟨false,0,0⟩ rfl [] eR 1 3
noncomputable def bz : List S:=[.set (.nm 2) (.call 10 [(.var 0),(.var 1)]),.ite (.cmp .lt (.var 1) (.cI 0)) [.set (.nm 2) (.neg (.var 2))] [],.ret (.tup [(.op .fdiv (.var 0) (.var 2)),(.op .fdiv (.var 1) (.var 2))])]
noncomputable def mz : Fn:=tab Fd
noncomputable def ib : List U → Sto → Rs U:=mk mz bz 2 3
noncomputable def eV : FnT:=aV Ic
noncomputable def iD : FnT:=aV Jv
noncomputable def fg : Nat → Md:=cR HB
noncomputable def lu : Md:=⟨false,0,0⟩
noncomputable def dj : List T → Ou T:=mkT eV iD fg ⟨false,0,0⟩ [] bz 2 3
noncomputable def lZ : List T → Ou T:=fun _=>.bad
theorem jY (x0 x1 : T) : dj [x0,x1] = cy ⟨false,0,0⟩ (ySs eV iD ⟨fg,[],0⟩ (bt [x0,x1]) bz [some x0,some x1,none] []):=bT rfl
theorem fm : eV 10 = cE:=rfl
theorem fo : fg 10 = ⟨false,0,0⟩:=rfl
noncomputable def EH : List (List U → Sto → Rs U):=Fd ++ [ib]
noncomputable def Gx : List Md:=HB ++ [lu]
noncomputable def Jf : List (List T → Ou T):=Ic ++ [dj]
noncomputable def Hi : List (List T → Ou T):=Jv ++ [lZ]
noncomputable def FQ : List Str:=Ia ++ [("in_lowest_terms" : Str)]
theorem mn : bV EH Gx Jf Hi:=yq.def ⟨false,0,0⟩ rfl [] bz 2 3
noncomputable def eK : List S:=[.ite (.or (.not (.call 9 [(.var 0)])) (.not (.call 9 [(.var 1)]))) [.nev] [],.ite (.cmp .eq (.var 1) (.cI 0)) [.nev] [],.ret (.call 20 [(.var 0),(.var 1)])]
noncomputable def yc : Fn:=tab EH
noncomputable def pW : List U → Sto → Rs U:=mk yc eK 2 2
noncomputable def i6 : FnT:=aV Jf
noncomputable def qe : FnT:=aV Hi
noncomputable def pO : Nat → Md:=cR Gx
noncomputable def xq : Md:=⟨false,0,0⟩
noncomputable def gR : List T → Ou T:=mkT i6 qe pO ⟨false,0,0⟩ [] eK 2 2
noncomputable def ym : List T → Ou T:=fun _=>.bad
theorem qx (x0 x1 : T) : gR [x0,x1] = cy ⟨false,0,0⟩ (ySs i6 qe ⟨pO,[],0⟩ (bt [x0,x1]) eK [some x0,some x1] []):=bT rfl
theorem gY : i6 20 = dj:=rfl
theorem kh : i6 9 = jj:=rfl
noncomputable def Fv : List (List U → Sto → Rs U):=EH ++ [dfU 1 (1) pW]
noncomputable def GK : List Md:=Gx ++ [xq]
noncomputable def Il : List (List T → Ou T):=Jf ++ [dfT 1 (1) gR]
noncomputable def Jj : List (List T → Ou T):=Hi ++ [ym]
noncomputable def FY : List Str:=FQ ++ [("fraction" : Str)]
theorem xl : bV Fv GK Il Jj:=mn.df 1 (1) ⟨false,0,0⟩ rfl [] eK 2 2
noncomputable def bD : List S:=[.ret (.bi .sum [(.comp [none,none] (.tp [0,1]) (.zip (.var 0) (.var 1)) [] (.op .mul (.var 0) (.var 1)))])]
noncomputable def mC : Fn:=tab Fv
noncomputable def iu : List U → Sto → Rs U:=mk mC bD 2 2
noncomputable def fv : FnT:=aV Il
noncomputable def ip : FnT:=aV Jj
noncomputable def ik : Nat → Md:=cR GK
noncomputable def lN : Md:=⟨false,0,0⟩
noncomputable def dt : List T → Ou T:=mkT fv ip ik ⟨false,0,0⟩ [] bD 2 2
noncomputable def lO : List T → Ou T:=fun _=>.bad
theorem jP (x0 x1 : T) : dt [x0,x1] = cy ⟨false,0,0⟩ (ySs fv ip ⟨ik,[],0⟩ (bt [x0,x1]) bD [some x0,some x1] []):=bT rfl
noncomputable def Fo : List (List U → Sto → Rs U):=Fv ++ [iu]
noncomputable def Jc : List Md:=GK ++ [lN]
noncomputable def Iu : List (List T → Ou T):=Il ++ [dt]
noncomputable def GX : List (List T → Ou T):=Jj ++ [lO]
noncomputable def Jh : List Str:=FY ++ [("sum_of_products" : Str)]
theorem mB : bV Fo Jc Iu GX:=xl.def ⟨false,0,0⟩ rfl [] bD 2 2
noncomputable def cD : List S:=[.set (.nm 3) (.call 19 [(.var 0)]),.set (.nm 4) (.call 17 [(.var 0),(.var 3)]),.ret (.comp [none,none,some 4,some 3] (.tp [0,1]) (.zip (.var 1) (.var 2)) [] (.call 21 [(.call 22 [(.var 2),(.var 0)]),(.op .mul (.var 3) (.var 1))]))]
noncomputable def qA : Fn:=tab Fo
noncomputable def ko : List U → Sto → Rs U:=mk qA cD 3 5
noncomputable def cq : FnT:=aV Iu
noncomputable def km : FnT:=aV GX
noncomputable def cZ : Nat → Md:=cR Jc
noncomputable def qE : Md:=⟨false,1,0⟩
noncomputable def ej : List T → Ou T:=mkT cq km cZ ⟨false,1,0⟩ [] cD 3 5
noncomputable def qG : List T → Ou T:=fun _=>.bad
theorem nL (x0 x1 x2 : T) : ej [x0,x1,x2] = cy ⟨false,1,0⟩ (ySs cq km ⟨cZ,[],1⟩ (bt [x0,x1,x2]) cD [some x0,some x1,some x2,none,none] []):=bT rfl
theorem jg : cq 19 = fE:=rfl
theorem ja : cZ 19 = ⟨false,0,0⟩:=rfl
theorem iK : cq 17 = fX:=rfl
theorem iG : cZ 17 = ⟨false,0,0⟩:=rfl
theorem i9 : cq 21 = dfT 1 (1) gR:=rfl
theorem i8 : cZ 21 = ⟨false,0,0⟩:=rfl
theorem gc : cq 22 = dt:=rfl
noncomputable def DN : List (List U → Sto → Rs U):=Fo ++ [ko]
noncomputable def Jb : List Md:=Jc ++ [qE]
noncomputable def FZ : List (List T → Ou T):=Iu ++ [ej]
noncomputable def IC : List (List T → Ou T):=GX ++ [qG]
noncomputable def JI : List Str:=Jh ++ [("product_row" : Str)]
theorem qJ : bV DN Jb FZ IC:=mB.def ⟨false,1,0⟩ rfl [] cD 3 5
noncomputable def fL : List S:=[.expr (.call 14 [(.var 0)]),.expr (.call 14 [(.var 1)]),.ite (.cmp .ne (.bi .len [(.ix (.var 0) (.cI 0))]) (.bi .len [(.var 1)])) [.nev] [],.set (.nm 2) (.call 16 [(.var 1)]),.set (.nm 3) (.comp [none] (.nm 0) (.seq (.var 2)) [] (.call 19 [(.var 0)])),.set (.nm 4) (.call 18 [(.var 2),(.var 3)]),.ret (.comp [none,some 3,some 4] (.nm 0) (.seq (.var 0)) [] (.call 23 [(.var 0),(.var 2),(.var 1)]))]
noncomputable def AJ : Fn:=tab DN
noncomputable def rb : List U → Sto → Rs U:=mk AJ fL 2 5
noncomputable def dR : FnT:=aV FZ
noncomputable def rF : FnT:=aV IC
noncomputable def eL : Nat → Md:=cR Jb
noncomputable def zV : Md:=⟨true,2,0⟩
noncomputable def bc : List T → Ou T:=mkT dR rF eL ⟨true,2,0⟩ [] fL 2 5
noncomputable def Ay : List T → Ou T:=fun _=>.bad
theorem ud (x0 x1 : T) : bc [x0,x1] = cy ⟨true,2,0⟩ (ySs dR rF ⟨eL,[],2⟩ (bt [x0,x1]) fL [some x0,some x1,none,none,none] []):=bT rfl
theorem jT : dR 14 = gx:=rfl
theorem jS : eL 14 = ⟨false,0,0⟩:=rfl
theorem jR : dR 16 = ff:=rfl
theorem jV : eL 16 = ⟨false,0,0⟩:=rfl
theorem jX : dR 18 = eZ:=rfl
theorem j0 : eL 18 = ⟨false,0,0⟩:=rfl
theorem kM : dR 19 = fE:=rfl
theorem kZ : eL 19 = ⟨false,0,0⟩:=rfl
theorem jH : dR 23 = ej:=rfl
theorem jE : eL 23 = ⟨false,1,0⟩:=rfl
noncomputable def DV : List (List U → Sto → Rs U):=DN ++ [rb]
noncomputable def JE : List Md:=Jb ++ [zV]
noncomputable def Jd : List (List T → Ou T):=FZ ++ [bc]
noncomputable def IB : List (List T → Ou T):=IC ++ [Ay]
noncomputable def Ga : List Str:=JI ++ [("product" : Str)]
theorem zD : bV DV JE Jd IB:=qJ.def ⟨true,2,0⟩ rfl [] fL 2 5
noncomputable def kb : List S:=[.ite (.cmp .ge (.bi .abs [(.var 0)]) (.op .pow (.cI 10) (.cI 18))) [.ret (.op .fdiv (.var 0) (.var 1))] [],.ret (.op .add (.var 0) (.var 1))]
noncomputable def Bk : Fn:=tab DV
noncomputable def uX : List U → Sto → Rs U:=mk Bk kb 2 2
noncomputable def CH : FnT:=aV Jd
noncomputable def A2 : FnT:=aV IB
noncomputable def CW : Nat → Md:=cR JE
noncomputable def BI : Md:=⟨false,0,0⟩
noncomputable def o3 : List T → Ou T:=mkT CH A2 CW ⟨false,0,0⟩ [] kb 2 2
noncomputable def B1 : List T → Ou T:=fun _=>.bad
noncomputable def EB : List (List U → Sto → Rs U):=DV ++ [uX]
noncomputable def HZ : List Md:=JE ++ [BI]
noncomputable def IJ : List (List T → Ou T):=Jd ++ [o3]
noncomputable def Hj : List (List T → Ou T):=IB ++ [B1]
noncomputable def Ge : List Str:=Ga ++ [("_law_rest" : Str)]
theorem BL : bV EB HZ IJ Hj:=zD.def ⟨false,0,0⟩ rfl [] kb 2 2
noncomputable def jd : List S:=[.ret (.and (.isi (.var 0) .int) (.not (.isi (.var 0) .bool)))]
noncomputable def Aj : Fn:=tab EB
noncomputable def rG : List U → Sto → Rs U:=mk Aj jd 1 1
noncomputable def zL : FnT:=aV IJ
noncomputable def Af : FnT:=aV Hj
noncomputable def zW : Nat → Md:=cR HZ
noncomputable def AM : Md:=⟨false,0,0⟩
noncomputable def nq : List T → Ou T:=mkT zL Af zW ⟨false,0,0⟩ [] jd 1 1
noncomputable def Ah : List T → Ou T:=fun _=>.bad
noncomputable def EF : List (List U → Sto → Rs U):=EB ++ [rG]
noncomputable def HK : List Md:=HZ ++ [AM]
noncomputable def FX : List (List T → Ou T):=IJ ++ [nq]
noncomputable def Gv : List (List T → Ou T):=Hj ++ [Ah]
noncomputable def HE : List Str:=Ge ++ [("_law_whole" : Str)]
theorem AS : bV EF HK FX Gv:=BL.def ⟨false,0,0⟩ rfl [] jd 1 1
noncomputable def cA : List S:=[.ite (.or (.not (.isi (.var 0) .tuple)) (.or (.cmp .ne (.bi .len [(.var 0)]) (.cI 2)) (.or (.not (.call 26 [(.ix (.var 0) (.cI 0))])) (.not (.call 26 [(.ix (.var 0) (.cI 1))]))))) [.ret (.cB false)] [],.ite (.or (.cmp .lt (.ix (.var 0) (.cI 1)) (.cI 1)) (.cmp .ne (.call 3 [(.ix (.var 0) (.cI 0)),(.ix (.var 0) (.cI 1))]) (.cI 1))) [.ret (.cB false)] [],.ret (.cmp .eq (.op .mul (.ix (.var 0) (.cI 0)) (.var 2)) (.op .mul (.var 1) (.ix (.var 0) (.cI 1))))]
noncomputable def qs : Fn:=tab EF
noncomputable def ky : List U → Sto → Rs U:=mk qs cA 3 3
noncomputable def fQ : FnT:=aV FX
noncomputable def kx : FnT:=aV Gv
noncomputable def kD : Nat → Md:=cR HK
noncomputable def qU : Md:=⟨false,0,0⟩
noncomputable def ez : List T → Ou T:=mkT fQ kx kD ⟨false,0,0⟩ [] cA 3 3
noncomputable def qB : List T → Ou T:=fun _=>.bad
theorem mT (x0 x1 x2 : T) : ez [x0,x1,x2] = cy ⟨false,0,0⟩ (ySs fQ kx ⟨kD,[],0⟩ (bt [x0,x1,x2]) cA [some x0,some x1,some x2] []):=bT rfl
theorem jD : fQ 26 = nq:=rfl
theorem iR : fQ 3 = iA:=rfl
noncomputable def D5 : List (List U → Sto → Rs U):=EF ++ [ky]
noncomputable def Hx : List Md:=HK ++ [qU]
noncomputable def Ih : List (List T → Ou T):=FX ++ [ez]
noncomputable def Hc : List (List T → Ou T):=Gv ++ [qB]
noncomputable def Hs : List Str:=HE ++ [("_law_is_number" : Str)]
theorem qt : bV D5 Hx Ih Hc:=AS.def ⟨false,0,0⟩ rfl [] cA 3 3
noncomputable def dS : List S:=[.ite (.or (.not (.isi (.var 0) .list)) (.cmp .ne (.bi .len [(.var 0)]) (.bi .len [(.var 1)]))) [.ret (.cB false)] [],.for (.tp [2,3]) (.zip (.var 0) (.var 1)) [.ite (.or (.not (.isi (.var 2) .list)) (.cmp .ne (.bi .len [(.var 2)]) (.bi .len [(.var 3)]))) [.ret (.cB false)] [],.for (.tp [4,5]) (.zip (.var 2) (.var 3)) [.ite (.not (.call 27 [(.var 4),(.ix (.var 5) (.cI 0)),(.ix (.var 5) (.cI 1))])) [.ret (.cB false)] []]],.ret (.cB true)]
noncomputable def u6 : Fn:=tab D5
noncomputable def oj : List U → Sto → Rs U:=mk u6 dS 2 6
noncomputable def dP : FnT:=aV Ih
noncomputable def eQ : FnT:=aV Hc
noncomputable def eP : Nat → Md:=cR Hx
noncomputable def vG : Md:=⟨true,0,0⟩
noncomputable def dE : List T → Ou T:=mkT dP eQ eP ⟨true,0,0⟩ [] dS 2 6
noncomputable def uD : List T → Ou T:=fun _=>.bad
theorem pq (x0 x1 : T) : dE [x0,x1] = cy ⟨true,0,0⟩ (ySs dP eQ ⟨eP,[],0⟩ (bt [x0,x1]) dS [some x0,some x1,none,none,none,none] []):=bT rfl
theorem iP : dP 27 = ez:=rfl
noncomputable def Fh : List (List U → Sto → Rs U):=D5 ++ [oj]
noncomputable def Ij : List Md:=Hx ++ [vG]
noncomputable def Jz : List (List T → Ou T):=Ih ++ [dE]
noncomputable def GY : List (List T → Ou T):=Hc ++ [uD]
noncomputable def Ib : List Str:=Hs ++ [("_law_is_like" : Str)]
theorem vZ : bV Fh Ij Jz GY:=qt.def ⟨true,0,0⟩ rfl [] dS 2 6
noncomputable def gG : List S:=[.ret (.comp [none,some 0] (.nm 0) (.rng (.var 0)) [] (.comp [none,some 0] (.nm 0) (.rng (.var 1)) [] (.tup [(.bi .int [(.cmp .eq (.var 1) (.var 0))]),(.cI 1)])))]
noncomputable def Dk : Fn:=tab Fh
noncomputable def wg : List U → Sto → Rs U:=mk Dk gG 1 1
noncomputable def mJ : FnT:=aV Jz
noncomputable def wd : FnT:=aV GY
noncomputable def wG : Nat → Md:=cR Ij
noncomputable def B3 : Md:=⟨false,0,0⟩
noncomputable def lU : List T → Ou T:=mkT mJ wd wG ⟨false,0,0⟩ [] gG 1 1
noncomputable def CL : List T → Ou T:=fun _=>.bad
theorem uB (x0 : T) : lU [x0] = cy ⟨false,0,0⟩ (ySs mJ wd ⟨wG,[],0⟩ (bt [x0]) gG [some x0] []):=bT rfl
noncomputable def EN : List (List U → Sto → Rs U):=Fh ++ [wg]
noncomputable def HU : List Md:=Ij ++ [B3]
noncomputable def FU : List (List T → Ou T):=Jz ++ [lU]
noncomputable def HV : List (List T → Ou T):=GY ++ [CL]
noncomputable def KD : List Str:=Ib ++ [("_law_unit" : Str)]
theorem BA : bV EN HU FU HV:=vZ.def ⟨false,0,0⟩ rfl [] gG 1 1
noncomputable def mY : List S:=[.for (.nm 1) (.rng (.bi .max [(.cI 1),(.bi .min [(.cI 8),(.bi .len [(.var 0)])])])) [.set (.nm 2) (.call 0 [(.var 0),(.var 1)]),.set (.nm 3) (.call 1 [(.var 2),(.lst [(.cI 8),(.cI 4),(.cI 4),(.cI 4),(.cI 4),(.cI 7),(.cI 7),(.cI 7),(.cI 7),(.cI 4),(.cI 4),(.cI 4)])]),.set (.nm 4) (.call 2 [(.var 3)]),.ite (.cmp .gt (.var 1) (.cI 0)) [.set (.nm 4) (.comp [none] (.nm 0) (.seq (.var 4)) [] (.bi .min [(.var 0),(.cI 4)]))] [],.set (.nm 5) (.sl (.var 3) (.cI 9) (.cI 11)),.ite (.or (.cmp .gt (.bi .max [(.var 4)]) (.cI 3)) (.cmp .gt (.var 1) (.cI 0))) [.set (.nm 5) (.comp [none] (.nm 0) (.seq (.var 5)) [] (.op .mod (.var 0) (.cI 3)))] [],.set (.nm 6) (.call 6 [(.call 25 [(.var 2),(.cI 314703872)]),(.ix (.var 4) (.cI 0)),(.ix (.var 4) (.cI 1)),(.ix (.var 5) (.cI 0))]),.set (.nm 7) (.call 6 [(.op .add (.call 0 [(.var 0),(.op .add (.var 1) (.cI 1))]) (.cI 1)),(.ix (.var 4) (.cI 1)),(.ix (.var 4) (.cI 2)),(.ix (.var 5) (.cI 1))]),.set (.nm 8) (.call 6 [(.op .add (.call 0 [(.var 0),(.op .add (.var 1) (.cI 2))]) (.cI 2)),(.ix (.var 4) (.cI 2)),(.ix (.var 4) (.cI 3)),(.op .mod (.ix (.var 3) (.cI 11)) (.cI 3))]),.set (.nm 9) (.lst [(.comp [none] (.nm 0) (.seq (.var 6)) [] (.bi .list [(.var 0)])),(.comp [none] (.nm 0) (.seq (.var 7)) [] (.bi .list [(.var 0)]))]),.set (.nm 10) (.call 7 [(.var 6),(.var 7)]),.set (.nm 11) (.call 24 [(.var 6),(.var 7)]),.ite (.or (.not (.call 28 [(.var 11),(.var 10)])) (.cmp .ne (.lst [(.var 6),(.var 7)]) (.var 9))) [.ret (.cB false)] [],.ite (.cmp .ne (.call 24 [(.var 11),(.var 8)]) (.call 24 [(.var 6),(.call 24 [(.var 7),(.var 8)])])) [.ret (.cB false)] [],.mth .append (.ix (.var 11) (.cI 0)) [(.tup [(.cI 5),(.cI 1)])],.mth .pop (.var 11) [],.ite (.or (.not (.call 28 [(.call 24 [(.var 6),(.var 7)]),(.var 10)])) (.cmp .ne (.lst [(.var 6),(.var 7)]) (.var 9))) [.ret (.cB false)] [],.ite (.or (.cmp .ne (.call 24 [(.var 6),(.call 29 [(.ix (.var 4) (.cI 1))])]) (.var 6)) (.cmp .ne (.call 24 [(.call 29 [(.ix (.var 4) (.cI 0))]),(.var 6)]) (.var 6))) [.ret (.cB false)] []],.ret (.cB true)]
noncomputable def K5 : Fn:=tab EN
noncomputable def vX : List U → Sto → Rs U:=mk K5 mY 1 12
noncomputable def aP : FnT:=aV FU
noncomputable def bO : FnT:=aV HV
noncomputable def aO : Nat → Md:=cR HU
noncomputable def La : Md:=⟨false,0,0⟩
noncomputable def B5 : List T → Ou T:=mkT aP bO aO ⟨false,0,0⟩ [11] mY 1 12
noncomputable def Kc : List T → Ou T:=fun _=>.bad
theorem Ba (x0 : T) : B5 [x0] = cy ⟨false,0,0⟩ (ySs aP bO ⟨aO,[11],0⟩ (bt [x0]) mY [some x0,none,none,none,none,none,none,none,none,none,none,none] []):=bT rfl
theorem tO : aP 0 = o8:=rfl
theorem gA : aO 0 = ⟨false,0,0⟩:=rfl
theorem jw : aO 1 = ⟨false,0,0⟩:=rfl
theorem qX : aP 2 = kf:=rfl
theorem kz : aO 2 = ⟨false,0,0⟩:=rfl
theorem qH : aP 6 = nj:=rfl
theorem dh : aO 6 = ⟨false,0,0⟩:=rfl
theorem u7 : aP 7 = j8:=rfl
theorem oz : aO 7 = ⟨false,0,0⟩:=rfl
theorem fU : aP 24 = bc:=rfl
theorem ee : aO 24 = ⟨true,2,0⟩:=rfl
theorem sF : aP 25 = o3:=rfl
theorem tx : aO 25 = ⟨false,0,0⟩:=rfl
theorem jB : aP 28 = dE:=rfl
theorem jv : aO 28 = ⟨true,0,0⟩:=rfl
theorem sC : aP 29 = lU:=rfl
theorem tj : aO 29 = ⟨false,0,0⟩:=rfl
noncomputable def Le : List (List U → Sto → Rs U):=EN ++ [vX]
noncomputable def LM : List Md:=HU ++ [La]
noncomputable def LG : List (List T → Ou T):=FU ++ [B5]
noncomputable def LR : List (List T → Ou T):=HV ++ [Kc]
theorem Ld : bV Le LM LG LR:=BA.def ⟨false,0,0⟩ rfl [11] mY 1 12
end K12
namespace K12
noncomputable def aT (f : Nat → Rat) : Nat → Rat
 | 0=>0
 | n + 1=>aT f n + f n
theorem qb {f g : Nat → Rat} : ∀ {n : Nat},(∀ k < n,f k = g k) → aT f n = aT g n
 | 0,_=>rfl
 | n + 1,h=>by rw [aT,aT,qb fun k hk=>h k (by omega),h n (by omega)]
theorem vg (c : Rat) (f : Nat → Rat) : ∀ n : Nat,c * aT f n = aT (fun k=>c * f k) n
 | 0=>Rat.mul_zero c
 | n + 1=>by rw [aT,aT,Rat.mul_add,vg c f n]
theorem pZ (c : Rat) (f : Nat → Rat) : ∀ n : Nat,aT f n * c = aT (fun k=>f k * c) n
 | 0=>Rat.zero_mul c
 | n + 1=>by rw [aT,aT,Rat.add_mul,pZ c f n]
theorem vK (f g : Nat → Rat) : ∀ n : Nat,aT (fun k=>f k + g k) n = aT f n + aT g n
 | 0=>(Rat.add_zero 0).symm
 | n + 1=>by rw [aT,aT,aT,vK f g n]; grind
theorem rK : ∀ n : Nat,aT (fun _=>0) n = 0
 | 0=>rfl
 | n + 1=>by rw [aT,rK n,Rat.add_zero]
theorem rN (f : Nat → Nat → Rat) (m : Nat) : ∀ n : Nat,aT (fun k=>aT (fun l=>f k l) m) n = aT (fun l=>aT (fun k=>f k l) n) m
 | 0=>by simp only [aT]; exact (rK m).symm
 | n + 1=>by simp only [aT]; rw [rN f m n,← vK]
theorem xg (A : Nat → Rat) (B : Nat → Nat → Rat) (C : Nat → Rat) (m n : Nat) : aT (fun k=>aT (fun l=>A l * B l k) m * C k) n = aT (fun l=>A l * aT (fun k=>B l k * C k) n) m:=by
 have e1 : (fun k=>aT (fun l=>A l * B l k) m * C k) = fun k=>aT (fun l=>A l * B l k * C k) m:=by
   funext k; exact pZ _ _ _
 have e2 : (fun l=>A l * aT (fun k=>B l k * C k) n) = fun l=>aT (fun k=>A l * B l k * C k) n:=by
   funext l
   rw [vg]
   congr 1
   funext k
   rw [Rat.mul_assoc]
 rw [e1,e2,rN]
noncomputable def dq (i j : Nat) : Rat:=if i = j then 1 else 0
theorem wH (A : Nat → Rat) (j : Nat) : ∀ n : Nat,n ≤ j → aT (fun k=>A k * dq k j) n = 0
 | 0,_=>rfl
 | n + 1,h=>by
   rw [aT,wH A j n (by omega),dq,if_neg (by omega),Rat.mul_zero,Rat.add_zero]
theorem nD (A : Nat → Rat) (j : Nat) : ∀ n : Nat,j < n → aT (fun k=>A k * dq k j) n = A j
 | n + 1,h=>by
   rw [aT]
   by_cases e : j = n
   · subst e
     rw [wH A j j (Nat.le_refl _),dq,if_pos rfl,Rat.mul_one,Rat.zero_add]
   · rw [nD A j n (by omega),dq,if_neg (by omega),Rat.mul_zero,Rat.add_zero]
theorem xJ (A : Nat → Rat) (i n : Nat) (h : i < n) : aT (fun k=>dq i k * A k) n = A i:=by
 rw [← nD A i n h]
 congr 1
 funext k
 rw [Rat.mul_comm,dq,dq]
 by_cases e : i = k
 · rw [if_pos e,if_pos e.symm]
 · rw [if_neg e,if_neg fun z=>e z.symm]
theorem se (f : Nat → Int) : ∀ n : Nat,((((List.range n).map f).sum : Int) : Rat) = aT (fun k=>(f k : Rat)) n
 | 0=>rfl
 | n + 1=>by
   rw [List.range_succ,List.map_append,List.sum_append,Rat.intCast_add,se f n,aT]
   simp
theorem o1 (x : Rat) : x * (((x.den : Nat) : Int) : Rat) = (x.num : Rat):=by
 have h : mkRat x.num x.den = x:=by rw [← Rat.normalize_eq_mkRat x.den_nz]; exact Rat.normalize_self x
 rw [Rat.mkRat_eq_div] at h
 have hd : ((x.den : Nat) : Rat) ≠ 0:=fun z=>x.den_nz (Rat.natCast_eq_zero_iff.mp z)
 rw [Rat.intCast_natCast]
 conv=>lhs; lhs; rw [← h]
 exact Rat.div_mul_cancel hd
theorem yj {t b : Int} {x : Rat} (hb : 0 < b) (h : (t : Rat) = x * (b : Rat)) : x.num = t / (Int.gcd t b : Int) ∧ ((x.den : Nat) : Int) = b / (Int.gcd t b : Int):=by
 have hb0 : ((b.toNat : Nat) : Rat) ≠ 0:=fun z=>by have:=Rat.natCast_eq_zero_iff.mp z; omega
 have hbb : ((b : Int) : Rat) = ((b.toNat : Nat) : Rat):=by rw [← Rat.intCast_natCast,Int.toNat_of_nonneg (by omega)]
 have e : x = mkRat t b.toNat:=by
   rw [Rat.mkRat_eq_div,h,hbb,Rat.mul_div_cancel hb0]
 have g : b.toNat.gcd t.natAbs = Int.gcd t b:=by
   rw [Int.gcd,Nat.gcd_comm,show b.natAbs = b.toNat by omega]
 have nz : ¬ b.toNat = 0:=by omega
 constructor
 · rw [e,Rat.num_mkRat,if_neg nz,g]
 · rw [e,Rat.den_mkRat,if_neg nz,g,Int.natCast_ediv,Int.toNat_of_nonneg (by omega)]
structure Sz (a b : Nat) (x : Rat) : Prop where
 num : x.num.natAbs ≤ 2 ^ a
 den : x.den ≤ 2 ^ b
theorem Sz.mono {a b a' b' : Nat} {x : Rat} (h : Sz a b x) (ha : a ≤ a') (hb : b ≤ b') : Sz a' b' x:=
 ⟨Nat.le_trans h.num (Nat.pow_le_pow_right (by decide) ha),Nat.le_trans h.den (Nat.pow_le_pow_right (by decide) hb)⟩
theorem Sz.mul {a b c d : Nat} {x y : Rat} (h : Sz a b x) (g : Sz c d y) : Sz (a + c) (b + d) (x * y):=by
 constructor
 · rw [Rat.num_mul]
   refine Nat.le_trans (Int.natAbs_ediv_le_natAbs _ _) ?_
   rw [Int.natAbs_mul,Nat.pow_add]
   exact Nat.mul_le_mul h.num g.num
 · rw [Rat.den_mul,Nat.pow_add]
   exact Nat.le_trans (Nat.div_le_self _ _) (Nat.mul_le_mul h.den g.den)
theorem Sz.add {a b c d e : Nat} {x y : Rat} (h : Sz a b x) (g : Sz c d y) (h1 : a + d ≤ e) (h2 : c + b ≤ e) : Sz (e + 1) (b + d) (x + y):=by
 constructor
 · rw [Rat.num_add]
   refine Nat.le_trans (Int.natAbs_ediv_le_natAbs _ _) (Nat.le_trans (Int.natAbs_add_le _ _) ?_)
   rw [Int.natAbs_mul,Int.natAbs_mul,Int.natAbs_natCast,Int.natAbs_natCast,Nat.pow_succ,Nat.mul_two]
   refine Nat.add_le_add (Nat.le_trans (Nat.mul_le_mul h.num g.den) ?_) (Nat.le_trans (Nat.mul_le_mul g.num h.den) ?_)
   · rw [← Nat.pow_add]; exact Nat.pow_le_pow_right (by decide) h1
   · rw [← Nat.pow_add]; exact Nat.pow_le_pow_right (by decide) h2
 · rw [Rat.den_add,Nat.pow_add]
   exact Nat.le_trans (Nat.div_le_self _ _) (Nat.mul_le_mul h.den g.den)
theorem Sz.sum {a b : Nat} {f : Nat → Rat} : ∀ {n : Nat},(∀ k < n,Sz a b (f k)) → Sz (a + n * b + n) (n * b) (aT f n)
 | 0,_=>⟨by rw [aT]; exact Nat.zero_le _,by rw [aT]; exact Nat.one_le_two_pow⟩
 | n + 1,h=>by
   have r:=(Sz.sum fun k hk=>h k (Nat.lt_succ_of_lt hk)).add (h n (Nat.lt_succ_self n)) (e:=a + (n + 1) * b + n) (by rw [Nat.succ_mul]; omega) (by rw [Nat.succ_mul]; omega)
   rw [aT]
   exact r.mono (by omega) (by rw [Nat.succ_mul]; omega)
end K12
namespace K12
open PySem PySem.Spec L2 Sv
open Ev (D aQ aU ai)
theorem LP {Ψ : FnT} {i : Nat} (e : Ψ i = cE) : AZ Ψ i:=fun a b=>by rw [e]; exact qZ _ _ _ _ a b
theorem Du {Ψ : FnT} {i : Nat} (e : Ψ i = oq) : De Ψ i:=fun c bs hb hl=>by rw [e]; exact xn _ _ _ c bs hb hl
theorem LC {Ψ : FnT} {i : Nat} (e : Ψ i = jj) : J4 Ψ i:=fun d h=>by rw [e]; exact pv d h
theorem LI {Ψ : FnT} {i : Nat} (e : Ψ i = kn) : Lc Ψ i:=fun d h=>by rw [e]; exact Cq (Ψ:=kr) (wh:=9) (cd:=10) (LC rfl) (LP rfl) d h
theorem K3 {Ψ : FnT} {i : Nat} (e : Ψ i = jz) : Jm Ψ i:=fun d h=>by rw [e]; exact zF d h
theorem Lz {Ψ : FnT} {i : Nat} (e : Ψ i = uS) : Kn Ψ i:=fun d h=>by rw [e]; exact HY (sl:=8) (fr:=11) (K3 rfl) (LI rfl) d h
theorem J5 (d : T) (h : nx d = true) : kY [d] = .ok (.bl (w6 d)):=Aw (sl:=8) (rw':=12) (K3 rfl) (Lz rfl) d h
theorem tZ (ns : List Int) (k : Nat) : ∃ c : Int,o8 [inT ns,.int (k : Nat)] = .ok (.int c):=DP _ _ _ _ ns k
theorem DK (c u : Int) (h0 : 0 < u) (h1 : u.natAbs < 10 ^ 200) : ∃ r : Int,o3 [.int c,.int u] = .ok (.int r):=Es _ _ _ _ c u h0 h1
theorem Fz (a b : Int) : cE [.int a,.int b] = .ok (.int (Int.gcd a b : Nat)):=qZ _ _ _ _ a b
theorem Cy (a b : Int) : iA [.int a,.int b] = .ok (.int (Int.gcd a b : Nat)):=xm _ _ _ _ a b
theorem Gm (i : Int) : jj [.int i] = .ok (.bl true):=pv _ rfl
theorem JK (i : Int) : nq [.int i] = .ok (.bl true):=pv _ rfl
theorem K0 : (2 : Nat) ^ 3300 < big:=by decide +kernel
theorem dv {n b : Nat} (h : n ≤ 2 ^ b) (hb : b ≤ 3300) : n < big:=Nat.lt_of_le_of_lt h (Nat.lt_of_le_of_lt (Nat.pow_le_pow_right (by decide) hb) K0)
theorem lg {n b : Nat} (h : n ≤ 2 ^ b) (hb : b ≤ 900000) : n.log2 < 1000000:=by
 by_cases e : n = 0
 · subst e; rw [Nat.log2_zero]; decide
 · rw [Nat.log2_lt e]
   exact Nat.lt_of_le_of_lt h (Nat.pow_lt_pow_right (by decide) (by omega))
theorem mo {i j : Int} {a b : Nat} (h : i.natAbs ≤ 2 ^ a) (g : j.natAbs ≤ 2 ^ b) (ha : a ≤ 900000) (hb : b ≤ 900000) : z2 .mul (.int i) (.int j) = .ok (.int (i * j)):=eW (.inr (.inr ⟨lg h ha,lg g hb⟩))
noncomputable def fq (x : Rat) : T:=gW x.num ((x.den : Nat) : Int)
theorem FE (x : Rat) : Low x.num ((x.den : Nat) : Int):=⟨by have:=x.den_pos; omega,by rw [Int.gcd,Int.natAbs_natCast]; exact x.reduced⟩
noncomputable def tel (t b : Int) : T:=gW (t / (Int.gcd t b : Int)) (b / (Int.gcd t b : Int))
theorem K9 {t b : Int} {x : Rat} (hb : 0 < b) (h : (t : Rat) = x * (b : Rat)) : tel t b = fq x:=by
 obtain ⟨h1,h2⟩:=yj hb h
 unfold tel fq
 rw [h1,h2]
theorem uj {t b : Int} (hb : b ≠ 0) (h : b.natAbs < big) : Int.gcd t b < big:=Nat.lt_of_le_of_lt (A9 t b hb) h
theorem KO {t b : Int} (hb : 0 < b) (sb : b.natAbs < big) : gR [.int t,.int b] = .ok (tel t b):=by
 have g1 : 0 < Int.gcd t b:=Int.gcd_pos_of_ne_zero_right _ (by omega)
 have f : ∀ i : Int,z2 .fdiv (.int i) (.int (Int.gcd t b : Int)) = .ok (.int (i / (Int.gcd t b : Int))):=fun i=>eA (by omega) (by rw [Int.natAbs_natCast]; exact uj (by omega) sb)
 have hn : ¬ b < 0:=by omega
 have h0 : ¬ b = 0:=by omega
 have il : dj [.int t,.int b] = .ok (tel t b):=by
   rw [jY]
   simp only [bz,tel,gW,af,aG,cx,IQ,aW,iE,aM,ah,ae,bI,aE,ba,aC,ag,bJ,bR,d0,Bp,Fu,iT,ay,ar,aN,cv,JA,ax,bQ,aF,au,ic,Ou.aa,aw,aA,cJ,kg,List.getElem?_cons_zero,List.getElem?_cons_succ,List.set_cons_zero,List.set_cons_succ,List.contains_nil,Option.isSome_some,Bool.and_true,Bool.and_false,Bool.false_eq_true,if_false,Nat.min_def,Nat.lt_irrefl,decide_false,and_true,and_false,fm,fo,Fz,hn,decide_false,f]
 rw [qx]
 simp only [eK,af,aG,dF,aW,gM,aM,ah,ae,aE,ba,aC,ag,ay,ar,iH,cv,dH,ax,bQ,aF,au,Ou.aa,aw,bS,List.getElem?_cons_zero,List.getElem?_cons_succ,Bool.not_true,decide_false,kh,gY,Gm,h0,decide_false,il,tel,gW]
noncomputable def line (n : Nat) (F : Nat → T) : T:=.lst ((List.range n).map F)
noncomputable def g8 (m w : Nat) (F : Nat → Nat → T) : T:=line m fun i=>line w (F i)
theorem i7 {n j : Nat} {F : Nat → T} (hj : j < n) : zI (line n F) (.int (j : Nat)) = .ok (F j):=iX (by rw [List.getElem?_map,List.getElem?_range hj]; rfl)
theorem gL (n : Nat) (F : Nat → T) : zB .len [line n F] = .ok (.int (n : Nat)):=by rw [line,fZ,List.length_map,List.length_range]
theorem pC {n : Nat} {F H : Nat → T} (h : ∀ j < n,F j = H j) : line n F = line n H:=by
 unfold line
 congr 1
 exact List.map_congr_left fun j hj=>h j (List.mem_range.mp hj)
theorem kO {m w : Nat} {F H : Nat → Nat → T} (h : ∀ i < m,∀ j < w,F i j = H i j) : g8 m w F = g8 m w H:=
 pC fun i hi=>pC fun j hj=>h i hi j hj
theorem AN {w m i : Nat} {F : Nat → Nat → T} (hw : w ≤ 7) (hi : i < m) : iq [g8 w m F,.int (i : Nat)] = .ok (line w fun j=>F j i):=by
 have cp : yE j3 (.comp [none,some 1] (.nm 0) (.seq (.var 0)) [] (.ix (.var 0) (.var 1))) [some (g8 w m F),some (.int (i : Nat))] = .ok (line w fun j=>F j i):=by
   refine cb (xs:=(List.range w).map fun j=>line m (F j)) (by rw [dk,af]; rfl) (by rw [List.length_map,List.length_range]; exact cL hw) (bw _ fun j hj=>?_)
   simp only [af,dB,bM,Ou.aa,aw,aA,eT,aq,List.getElem?_cons_zero,List.getElem?_cons_succ,List.set_cons_zero,List.map_cons,List.map_nil,List.nil_append,List.cons_append,Option.bind_some,Option.bind_none,Option.join_some,if_true,aq,i7 hi]
 rw [qk,dX,ag,aE,cp]
 simp only [ar,bQ,aF,Ou.aa,line]
theorem xc {w m : Nat} {F : Nat → Nat → T} (hw : 1 ≤ w ∧ w ≤ 7) (hm : m ≤ 7) : ff [g8 w m F] = .ok (g8 m w fun i j=>F j i):=by
 have e0 : zI (g8 w m F) (.int 0) = .ok (line m (F 0)):=i7 (j:=0) (by omega)
 have cp : yE gz (.comp [none,some 0] (.nm 0) (.rng (.bi .len [(.ix (.var 0) (.cI 0))])) [] (.call 15 [(.var 1),(.var 0)])) [some (g8 w m F)] = .ok (g8 m w fun i j=>F j i):=by
   refine cb (iW (n:=m) (by simp only [af,aG,dB,bu,ah,ae,Ou.aa,aw,List.getElem?_cons_zero,e0,gL]) (by omega)) (by rw [List.length_map,List.length_range]; exact cL hm) (bw _ fun j hj=>?_)
   have hj':=List.mem_range.mp hj
   simp only [af,aM,ah,ae,bM,Ou.aa,aw,aA,eT,aq,List.getElem?_cons_zero,List.getElem?_cons_succ,List.set_cons_zero,List.map_cons,List.map_nil,List.nil_append,List.cons_append,Option.bind_some,Option.bind_none,Option.join_some,if_true,aq,jl,AN hw.2 hj']
 rw [oG,de,ag,aE,cp]
 simp only [ar,bQ,aF,Ou.aa,g8,line]
noncomputable def gq (m w : Nat) (F : Nat → Nat → Rat) : T:=g8 m w fun i j=>fq (F i j)
theorem Iq {m w : Nat} {F : Nat → Nat → Rat} (hm : 1 ≤ m ∧ m ≤ 7) (hw : 1 ≤ w ∧ w ≤ 7) : w6 (gq m w F) = true ∧ nx (gq m w F) = true:=by
 have hr : ∀ i,oM (line w fun j=>fq (F i j)) = true:=fun i=>by
   unfold oM
   rw [Bool.and_eq_true]
   refine ⟨by simp only [line,nk,List.length_map,List.length_range,Bool.and_eq_true,decide_eq_true_eq]; exact hw,?_⟩
   simp only [line,mL,List.all_map,List.all_eq_true]
   intro j hj
   have lo:=FE (F i j)
   simp only [Function.comp,fq,gW,ph,Bool.and_eq_true,decide_eq_true_eq]
   exact ⟨lo.pos,lo.cop⟩
 have hl : ∀ i,qy (line w fun j=>fq (F i j)) = w:=fun i=>by simp only [line,qy,List.length_map,List.length_range]
 constructor
 · unfold w6
   rw [Bool.and_eq_true,Bool.and_eq_true]
   refine ⟨⟨by simp only [gq,g8,line,nk,List.length_map,List.length_range,Bool.and_eq_true,decide_eq_true_eq]; exact hm,?_⟩,?_⟩
   · simp only [gq,g8,mL,line,List.all_map,List.all_eq_true]
     intro i _
     exact hr i
   · have hh : qy (hdT (gq m w F)) = w:=by
       obtain ⟨m',rfl⟩ : ∃ m',m = m' + 1:=⟨m - 1,by omega⟩
       unfold gq g8
       unfold line
       rw [List.range_succ_eq_map,List.map_cons]
       exact hl 0
     rw [hh]
     simp only [gq,g8,mL,line,List.all_map,List.all_eq_true]
     intro i _
     exact decide_eq_true (hl i)
 · exact CJ fun x hx=>by
     obtain ⟨i,_,rfl⟩:=List.mem_map.mp hx
     exact CJ fun y hy=>by obtain ⟨j,_,rfl⟩:=List.mem_map.mp hy; rfl
theorem zr {m w : Nat} {F : Nat → Nat → Rat} (hm : 1 ≤ m ∧ m ≤ 7) (hw : 1 ≤ w ∧ w ≤ 7) : gx [gq m w F] = .ok .non:=by
 obtain ⟨h1,h2⟩:=Iq (F:=F) hm hw
 have h3:=J5 _ h2
 rw [h1] at h3
 rw [oF]
 simp only [cV,af,dF,aM,ah,ae,ba,aC,ag,ay,cv,dH,Ek,au,Ou.aa,aw,List.getElem?_cons_zero,Bool.not_true,jG,h3]
noncomputable def sc : List Rat → Int → Int
 | [],s=>s
 | x :: xs,s=>sc xs (s / (Int.gcd s ((x.den : Nat) : Int) : Int) * ((x.den : Nat) : Int))
theorem yM {s : Int} {d : Nat} (hs : 0 < s) (hd : 0 < d) : 0 < s / (Int.gcd s ((d : Nat) : Int) : Int) * ((d : Nat) : Int) ∧ s ∣ s / (Int.gcd s ((d : Nat) : Int) : Int) * ((d : Nat) : Int) ∧ ((d : Nat) : Int) ∣ s / (Int.gcd s ((d : Nat) : Int) : Int) * ((d : Nat) : Int):=by
 have g0 : 0 < Int.gcd s ((d : Nat) : Int):=Int.gcd_pos_of_ne_zero_left _ (by omega)
 obtain ⟨a,ha⟩:=Int.gcd_dvd_left s ((d : Nat) : Int)
 obtain ⟨b,hb⟩:=Int.gcd_dvd_right s ((d : Nat) : Int)
 have e : s / (Int.gcd s ((d : Nat) : Int) : Int) = a:=by
   conv=>lhs; lhs; rw [ha]
   rw [Int.mul_ediv_cancel_left _ (by omega)]
 refine ⟨?_,?_,Int.dvd_mul_left _ _⟩
 · rw [e]
   have : 0 < a:=by
     rcases Int.lt_trichotomy a 0 with z | z | z
     · have:=Int.mul_neg_of_pos_of_neg (show (0 : Int) < (Int.gcd s ((d : Nat) : Int) : Int) by omega) z
       omega
     · subst z; rw [Int.mul_zero] at ha; omega
     · exact z
   exact Int.mul_pos this (by omega)
 · rw [e]
   refine ⟨b,?_⟩
   conv=>lhs; rw [hb]
   conv=>rhs; lhs; rw [ha]
   rw [← Int.mul_assoc,Int.mul_comm a]
theorem FH : ∀ (xs : List Rat) (s : Int),0 < s → 0 < sc xs s ∧ s ∣ sc xs s ∧ ∀ x ∈ xs,((x.den : Nat) : Int) ∣ sc xs s
 | [],s,h=>⟨h,Int.dvd_refl s,fun _ h=>by cases h⟩
 | x :: xs,s,h=>by
   obtain ⟨h1,h2,h3⟩:=yM h x.den_pos
   obtain ⟨g1,g2,g3⟩:=FH xs _ h1
   refine ⟨g1,Int.dvd_trans h2 g2,fun y hy=>?_⟩
   rcases List.mem_cons.mp hy with rfl | hy
   · exact Int.dvd_trans h3 g2
   · exact g3 y hy
theorem FJ {b : Nat} : ∀ (xs : List Rat) (s : Int) (c : Nat),(∀ x ∈ xs,x.den ≤ 2 ^ b) → s.natAbs ≤ 2 ^ c → (sc xs s).natAbs ≤ 2 ^ (c + xs.length * b)
 | [],s,c,_,h=>by rw [List.length_nil,Nat.zero_mul]; exact h
 | x :: xs,s,c,hx,h=>by
   have r:=FJ xs (s / (Int.gcd s ((x.den : Nat) : Int) : Int) * ((x.den : Nat) : Int)) (c + b) (fun y hy=>hx y (List.mem_cons_of_mem _ hy)) (by
     rw [Int.natAbs_mul,Nat.pow_add,Int.natAbs_natCast]
     exact Nat.mul_le_mul (Nat.le_trans (Int.natAbs_ediv_le_natAbs _ _) h) (hx x (List.mem_cons_self ..)))
   rw [List.length_cons,Nat.succ_mul]
   exact Nat.le_trans r (Nat.pow_le_pow_right (by decide) (by omega))
noncomputable def yI : List S:=[.set (.nm 1) (.op .mul (.op .fdiv (.var 1) (.call 10 [(.var 1),(.ix (.var 2) (.cI 1))])) (.ix (.var 2) (.cI 1)))]
theorem pb (n : Nat) (a : Option T) {b : Nat} : ∀ (xs : List Rat) (s : Int) (c : Nat) (r : Option T),0 < s → s.natAbs ≤ 2 ^ c → (∀ x ∈ xs,x.den ≤ 2 ^ b) → c + xs.length * b ≤ 3300 → b ≤ 3300 → ∃ r',dz (dC eF gQ ⟨fw,[],0⟩ n (.nm 2) yI) (xs.map fq) [a,some (.int s),r] [] = .ok (.nx [a,some (.int (sc xs s)),r'] [])
 | [],s,c,r,_,_,_,_,_=>⟨r,by rw [List.map_nil,gF]; rfl⟩
 | x :: xs,s,c,r,h0,hs,hx,hc,hb=>by
   have hd:=hx x (List.mem_cons_self ..)
   rw [List.length_cons,Nat.succ_mul] at hc
   have hs' : (s / (Int.gcd s ((x.den : Nat) : Int) : Int)).natAbs ≤ 2 ^ c:=Nat.le_trans (Int.natAbs_ediv_le_natAbs _ _) hs
   obtain ⟨r',e⟩:=pb n a xs (s / (Int.gcd s ((x.den : Nat) : Int) : Int) * ((x.den : Nat) : Int)) (c + b) (some (fq x)) (yM h0 x.den_pos).1 (by
     rw [Int.natAbs_mul,Nat.pow_add,Int.natAbs_natCast]
     exact Nat.mul_le_mul hs' hd) (fun y hy=>hx y (List.mem_cons_of_mem _ hy)) (by omega) hb
   refine ⟨r',?_⟩
   have f : z2 .fdiv (.int s) (.int (Int.gcd s ((x.den : Nat) : Int) : Nat)) = .ok (.int (s / (Int.gcd s ((x.den : Nat) : Int) : Int))):=eA (by have:=Int.gcd_pos_of_ne_zero_left ((x.den : Nat) : Int) (show s ≠ 0 by omega); omega) (by
     rw [Int.natAbs_natCast]
     exact uj (by have:=x.den_pos; omega) (by rw [Int.natAbs_natCast]; exact dv hd hb))
   have m:=mo (j:=((x.den : Nat) : Int)) hs' (by rw [Int.natAbs_natCast]; exact hd) (by omega) (by omega)
   have t : dC eF gQ ⟨fw,[],0⟩ n (.nm 2) yI (fq x) [a,some (.int s),r] [] = .ok (.nx [a,some (.int (s / (Int.gcd s ((x.den : Nat) : Int) : Int) * ((x.den : Nat) : Int))),some (fq x)] []):=by
     unfold fq gW
     simp only [yI,af,aG,cx,dB,aM,ah,ae,bI,aC,ag,gp,mO,ay,aN,au,Ou.aa,aw,aA,cJ,ml,eU,List.getElem?_cons_zero,List.getElem?_cons_succ,List.set_cons_zero,List.set_cons_succ,List.contains_nil,Option.isSome_some,Bool.and_true,Bool.false_eq_true,if_false,Nat.min_def,and_true,hV,hU,Fz,f,m]
   rw [List.map_cons,cH,t,Ou.aa,ed,e]
   rfl
theorem ve {b n : Nat} {f : Nat → Rat} (hn : n ≤ 7) (h : ∀ k < n,(f k).den ≤ 2 ^ b) (hb : n * b ≤ 3300) (hb' : b ≤ 3300) : fE [line n fun k=>fq (f k)] = .ok (.int (sc ((List.range n).map f) 1)):=by
 rw [qD]
 obtain ⟨r',e⟩:=pb (b:=b) (bt [line n fun k=>fq (f k)]) (some (line n fun k=>fq (f k))) ((List.range n).map f) 1 0 none (by decide) (by decide) (fun x hx=>by
   obtain ⟨k,hk,rfl⟩:=List.mem_map.mp hx
   exact h k (List.mem_range.mp hk)) (by rw [List.length_map,List.length_range]; omega) hb'
 rw [show eR = [.set (.nm 1) (.cI 1),.for (.nm 2) (.seq (.var 0)) yI,.ret (.var 1)] from rfl]
 have h1 : yS eF gQ ⟨fw,[],0⟩ (bt [line n fun k=>fq (f k)]) (.set (.nm 1) (.cI 1)) [some (line n fun k=>fq (f k)),none,none] [] = .ok (.nx [some (line n fun k=>fq (f k)),some (.int 1),none] []):=by
   simp only [aG,bI,uk,x5,aN,au,Ou.aa,aA,cJ,List.getElem?_cons_zero,List.getElem?_cons_succ,List.set_cons_zero,List.set_cons_succ,List.contains_nil,Option.isSome_some,Bool.and_true,Bool.false_eq_true,if_false,Nat.min_def,and_true]
 have hi : yIt eF (.seq (.var 0)) [some (line n fun k=>fq (f k)),some (.int 1),none] = .ok (((List.range n).map f).map fq):=by
   rw [dk,af,List.map_map]
   rfl
 rw [ag,h1,Ou.aa,ay,ag,lh,hi,Ou.aa,au,e,Ou.fu,Ou.aa,ay]
 simp only [af,aE,ag,ar,gb,aF,Ou.aa,aw,List.getElem?_cons_zero,List.getElem?_cons_succ]
end K12
namespace K12
open PySem PySem.Spec L2 Sv
open Ev (D aQ aU ai)
noncomputable def vec (n : Nat) (f : Nat → Int) : T:=line n fun i=>.int (f i)
noncomputable def wr (f : Nat → Rat) (s : Int) (k : Nat) : Int:=(f k).num * (s / (((f k).den : Nat) : Int))
theorem Kp {f : Nat → Rat} {s : Int} {k : Nat} (h : (((f k).den : Nat) : Int) ∣ s) : (wr f s k : Rat) = f k * (s : Rat):=by
 obtain ⟨c,rfl⟩:=h
 unfold wr
 rw [Int.mul_ediv_cancel_left _ (by have:=(f k).den_pos; omega),Rat.intCast_mul,Rat.intCast_mul,← Rat.mul_assoc,o1]
theorem Fw {f : Nat → Rat} {s : Int} {k a c : Nat} (h : (f k).num.natAbs ≤ 2 ^ a) (hs : s.natAbs ≤ 2 ^ c) : (wr f s k).natAbs ≤ 2 ^ (a + c):=by
 unfold wr
 rw [Int.natAbs_mul,Nat.pow_add]
 exact Nat.mul_le_mul h (Nat.le_trans (Int.natAbs_ediv_le_natAbs _ _) hs)
theorem lX {n a b c : Nat} {f : Nat → Rat} {s : Int} (hn : n ≤ 7) (h : ∀ k < n,Sz a b (f k)) (hs : s.natAbs ≤ 2 ^ c) (ha : a ≤ 9000) (hb : b ≤ 3300) (hc : c ≤ 9000) : fX [line n fun k=>fq (f k),.int s] = .ok (vec n (wr f s)):=by
 have cp : yE j2 (.comp [none,some 1] (.nm 0) (.seq (.var 0)) [] (.op .mul (.ix (.var 0) (.cI 0)) (.op .fdiv (.var 1) (.ix (.var 0) (.cI 1))))) [some (line n fun k=>fq (f k)),some (.int s)] = .ok (vec n (wr f s)):=by
   refine cb (xs:=(List.range n).map fun k=>fq (f k)) (by rw [dk,af]; rfl) (by rw [List.length_map,List.length_range]; exact cL hn) (bw _ fun k hk=>?_)
   have z:=h k (List.mem_range.mp hk)
   have d : z2 .fdiv (.int s) (.int (((f k).den : Nat) : Int)) = .ok (.int (s / (((f k).den : Nat) : Int))):=eA (by have:=(f k).den_pos; omega) (by rw [Int.natAbs_natCast]; exact dv z.den hb)
   have m:=mo (j:=s / (((f k).den : Nat) : Int)) z.num (Nat.le_trans (Int.natAbs_ediv_le_natAbs _ _) hs) (by omega) (by omega)
   unfold fq gW
   simp only [af,aG,cx,dB,bM,Ou.aa,aw,aA,eT,oi,ml,aq,List.getElem?_cons_zero,List.getElem?_cons_succ,List.set_cons_zero,List.map_cons,List.map_nil,List.nil_append,List.cons_append,Option.bind_some,Option.bind_none,Option.join_some,if_true,aq,d,m]
   rfl
 rw [pN,dQ,ag,aE,cp]
 simp only [ar,bQ,aF,Ou.aa,vec,line]
theorem zip_map (F H : Nat → T) : ∀ ks : List Nat,kU (ks.map F) (ks.map H) = ks.map fun i=>.tup [F i,H i]
 | []=>rfl
 | k :: ks=>by rw [List.map_cons,List.map_cons,List.map_cons,kU,zip_map F H ks]
theorem wV {Ψ : FnT} {e1 e2 : E} {τ : aB} {n : Nat} {F H : Nat → T} (h1 : yE Ψ e1 τ = .ok (line n F)) (h2 : yE Ψ e2 τ = .ok (line n H)) : yIt Ψ (.zip e1 e2) τ = .ok ((List.range n).map fun i=>.tup [F i,H i]):=by
 rw [sO,h1,Ou.aa,h2,Ou.aa,line,line,Kq,zip_map]
theorem qN {w n a b c : Nat} {H : Nat → Nat → Rat} {s : Nat → Int} (hw : w ≤ 7) (hn : n ≤ 7) (h : ∀ j < w,∀ k < n,Sz a b (H j k)) (hs : ∀ j < w,(s j).natAbs ≤ 2 ^ c) (ha : a ≤ 9000) (hb : b ≤ 3300) (hc : c ≤ 9000) : eZ [gq w n H,vec w s] = .ok (line w fun j=>vec n (wr (H j) (s j))):=by
 have cp : yE gv (.comp [none,none] (.tp [0,1]) (.zip (.var 0) (.var 1)) [] (.call 17 [(.var 0),(.var 1)])) [some (gq w n H),some (vec w s)] = .ok (line w fun j=>vec n (wr (H j) (s j))):=by
   refine cb (wV (n:=w) (F:=fun j=>line n fun k=>fq (H j k)) (H:=fun j=>.int (s j)) (by rw [af]; rfl) (by rw [af]; rfl)) (by rw [List.length_map,List.length_range]; exact cL hw) (bw _ fun j hj=>?_)
   have hj:=List.mem_range.mp hj
   have r:=lX hn (h j hj) (hs j hj) ha hb hc
   simp only [af,aM,ah,ae,bM,Ou.aa,aw,aA,jy,eT,aq,List.getElem?_cons_zero,List.getElem?_cons_succ,List.set_cons_zero,List.set_cons_succ,List.map_cons,List.map_nil,List.nil_append,List.cons_append,Option.bind_none,if_true,aq,jr,r]
 rw [oD,cY,ag,aE,cp]
 simp only [ar,bQ,aF,Ou.aa,line]
theorem ints_map (f : Nat → Int) : ∀ ks : List Nat,jL (ks.map fun k=>.int (f k)) = some (ks.map f)
 | []=>rfl
 | k :: ks=>by rw [List.map_cons,jL,ints_map f ks]; rfl
theorem GA {n a : Nat} {x y : Nat → Int} (hn : n ≤ 7) (hx : ∀ k < n,(x k).natAbs ≤ 2 ^ a) (hy : ∀ k < n,(y k).natAbs ≤ 2 ^ a) (ha : a ≤ 20000) : dt [vec n x,vec n y] = .ok (.int ((List.range n).map fun k=>x k * y k).sum):=by
 have cp : yE fv (.comp [none,none] (.tp [0,1]) (.zip (.var 0) (.var 1)) [] (.op .mul (.var 0) (.var 1))) [some (vec n x),some (vec n y)] = .ok (vec n fun k=>x k * y k):=by
   refine cb (wV (n:=n) (F:=fun k=>.int (x k)) (H:=fun k=>.int (y k)) (by rw [af]; rfl) (by rw [af]; rfl)) (by rw [List.length_map,List.length_range]; exact cL hn) (bw _ fun j hj=>?_)
   have hj:=List.mem_range.mp hj
   have m:=mo (hx j hj) (hy j hj) (by omega) (by omega)
   simp only [af,cx,bM,Ou.aa,aw,aA,jy,eT,aq,List.getElem?_cons_zero,List.getElem?_cons_succ,List.set_cons_zero,List.set_cons_succ,List.map_cons,List.map_nil,List.nil_append,List.cons_append,Option.bind_none,if_true,aq,m]
 have sm : zB .sum [vec n fun k=>x k * y k] = .ok (.int ((List.range n).map fun k=>x k * y k).sum):=by
   show KL (jL ((List.range n).map fun k=>T.int (x k * y k))) = _
   rw [ints_map]
   rfl
 rw [jP,bD,ag,aE,bu,ae,cp]
 simp only [ah,ar,gb,aF,Ou.aa,sm]
noncomputable def scl (n : Nat) (f : Nat → Rat) : Int:=sc ((List.range n).map f) 1
theorem B7 (n : Nat) (f : Nat → Rat) : 0 < scl n f ∧ ∀ k < n,(((f k).den : Nat) : Int) ∣ scl n f:=by
 obtain ⟨h1,_,h3⟩:=FH ((List.range n).map f) 1 (by decide)
 exact ⟨h1,fun k hk=>h3 _ (List.mem_map.mpr ⟨k,List.mem_range.mpr hk,rfl⟩)⟩
theorem xH {n b : Nat} {f : Nat → Rat} (h : ∀ k < n,(f k).den ≤ 2 ^ b) : (scl n f).natAbs ≤ 2 ^ (n * b):=by
 have:=FJ (b:=b) ((List.range n).map f) 1 0 (fun x hx=>by
   obtain ⟨k,hk,rfl⟩:=List.mem_map.mp hx
   exact h k (List.mem_range.mp hk)) (by decide)
 rw [List.length_map,List.length_range,Nat.zero_add] at this
 exact this
theorem Kl {μ : Nat → Md} {own : Own} {e : E} {w : Nat} {F : Nat → T} (hv : ∀ i,e ≠ .var i) (hf : 1 ≤ cm μ e) : tE ⟨μ,[],1⟩ own e (line w F) = .ok (.rt (line w F)):=by
 unfold tE
 rw [if_neg (by simp [line,isL]),if_pos]
 have hh : 1 ≤ min (cm μ e) (lvT (line w F)):=by
   have : 1 ≤ lvT (line w F):=by
     show 1 ≤ (if _ then 2 else 1)
     split <;> decide
   exact Nat.le_min.mpr ⟨hf,this⟩
 cases e with
 | var i=>exact absurd rfl (hv i)
 | _=>exact hh
structure Fit (n a b c d : Nat) : Prop where
 n7 : n ≤ 7
 ha : a ≤ 5000
 hc : c ≤ 5000
 hb : b ≤ 3300
 hd : d ≤ 3300
 bd : n * b + n * d ≤ 3300
theorem DW {n w a b c d : Nat} {f : Nat → Rat} {H : Nat → Nat → Rat} (ft : Fit n a b c d) (hw : w ≤ 7) (h : ∀ k < n,Sz a b (f k)) (g : ∀ j < w,∀ k < n,Sz c d (H j k)) :
   ej [line n fun k=>fq (f k),line w fun j=>vec n (wr (H j) (scl n (H j))),vec w fun j=>scl n (H j)] = .ok (line w fun j=>fq (aT (fun k=>f k * H j k) n)):=by
 have hn:=ft.n7
 have bd:=ft.bd
 have s1:=ve hn (fun k hk=>(h k hk).den) (by omega) ft.hb
 have sl:=xH fun k hk=>(h k hk).den
 have w1:=lX hn h sl (by have:=ft.ha; omega) ft.hb (by omega)
 have cp : ∀ r0,yE cq (.comp [none,none,some 4,some 3] (.tp [0,1]) (.zip (.var 1) (.var 2)) [] (.call 21 [(.call 22 [(.var 2),(.var 0)]),(.op .mul (.var 3) (.var 1))])) [r0,some (line w fun j=>vec n (wr (H j) (scl n (H j)))),some (vec w fun j=>scl n (H j)),some (.int (scl n f)),some (vec n (wr f (scl n f)))] = .ok (line w fun j=>fq (aT (fun k=>f k * H j k) n)):=fun r0=>by
   refine cb (wV (n:=w) (F:=fun j=>vec n (wr (H j) (scl n (H j)))) (H:=fun j=>.int (scl n (H j))) (by rw [af]; rfl) (by rw [af]; rfl)) (by rw [List.length_map,List.length_range]; exact cL hw) (bw _ fun j hj=>?_)
   have hj:=List.mem_range.mp hj
   have tl:=xH fun k hk=>(g j hj k hk).den
   have m:=mo sl tl (by omega) (by omega)
   have fa:=ft.ha
   have fc:=ft.hc
   have so:=GA (n:=n) (a:=9000) (x:=wr f (scl n f)) (y:=wr (H j) (scl n (H j))) hn (fun k hk=>Nat.le_trans (Fw (h k hk).num sl) (Nat.pow_le_pow_right (by decide) (by omega))) (fun k hk=>Nat.le_trans (Fw (g j hj k hk).num tl) (Nat.pow_le_pow_right (by decide) (by omega))) (by decide)
   have p1:=B7 n f
   have p2:=B7 n (H j)
   have pos : 0 < scl n f * scl n (H j):=Int.mul_pos p1.1 p2.1
   have fr : dfT 1 1 gR [.int ((List.range n).map fun k=>wr f (scl n f) k * wr (H j) (scl n (H j)) k).sum,.int (scl n f * scl n (H j))] = .ok (fq (aT (fun k=>f k * H j k) n)):=by
     refine (KO pos ?_).trans (congrArg Ou.ok (K9 pos ?_))
     · rw [Int.natAbs_mul]
       refine dv (b:=n * b + n * d) ?_ bd
       rw [Nat.pow_add]
       exact Nat.mul_le_mul sl tl
     · rw [se,pZ]
       refine qb fun k hk=>?_
       rw [Rat.intCast_mul,Rat.intCast_mul,Kp (p1.2 k hk),Kp (p2.2 k hk)]
       grind
   simp only [af,cx,aM,ah,ae,bM,Ou.aa,aw,aA,jy,eT,aq,List.getElem?_cons_zero,List.getElem?_cons_succ,List.set_cons_zero,List.set_cons_succ,List.map_cons,List.map_nil,List.nil_append,List.cons_append,Option.bind_some,Option.bind_none,Option.join_some,if_true,aq,i9,gc,so,m,fr]
 have rt : ∀ own,tE ⟨cZ,[],1⟩ own (.comp [none,none,some 4,some 3] (.tp [0,1]) (.zip (.var 1) (.var 2)) [] (.call 21 [(.call 22 [(.var 2),(.var 0)]),(.op .mul (.var 3) (.var 1))])) (line w fun j=>fq (aT (fun k=>f k * H j k) n)) = .ok (.rt (line w fun j=>fq (aT (fun k=>f k * H j k) n))):=fun own=>Kl (fun _=>by intro z; cases z) (by simp [cm,i8])
 rw [nL]
 have s1 : fE [line n fun k=>fq (f k)] = .ok (.int (scl n f)):=s1
 simp only [cD,af,aM,ah,ae,bI,aE,ag,bJ,bR,d0,iT,ay,ar,aN,bQ,au,Ou.aa,aw,aA,cJ,List.getElem?_cons_zero,List.getElem?_cons_succ,List.set_cons_zero,List.set_cons_succ,List.contains_nil,Option.isSome_some,Bool.and_true,Bool.and_false,Bool.false_eq_true,if_false,Nat.min_def,Nat.lt_irrefl,decide_false,and_true,and_false,jg,iK,ja,iG,s1,w1,cp,rt]
end K12
namespace K12
open PySem PySem.Spec L2 Sv
open Ev (D aQ aU ai)
noncomputable def mulQ (n : Nat) (F H : Nat → Nat → Rat) (i j : Nat) : Rat:=aT (fun k=>F i k * H k j) n
theorem yG {n a b c d i j : Nat} {F H : Nat → Nat → Rat} (h : ∀ k < n,Sz a b (F i k)) (g : ∀ k < n,Sz c d (H k j)) : Sz (a + c + n * (b + d) + n) (n * (b + d)) (mulQ n F H i j):=Sz.sum fun k hk=>(h k hk).mul (g k hk)
theorem vc (m w : Nat) (F : Nat → Nat → T) : lvT (g8 m w F) = 2:=by
 show (if ((List.range m).map fun i=>line w (F i)).all isL = true then 2 else 1) = 2
 rw [if_pos]
 rw [List.all_map,List.all_eq_true]
 intro r _
 rfl
theorem KN {μ : Nat → Md} {own : Own} {e : E} {m w : Nat} {F : Nat → Nat → T} (hv : ∀ i,e ≠ .var i) (hf : cm μ e = 2) : tE ⟨μ,[],2⟩ own e (g8 m w F) = .ok (.rt (g8 m w F)):=by
 unfold tE
 rw [if_neg (by simp [g8,line,isL]),if_pos]
 have hh : 2 ≤ min (cm μ e) (lvT (g8 m w F)):=by rw [hf,vc]; decide
 cases e with
 | var i=>exact absurd rfl (hv i)
 | _=>exact hh
theorem KY (m w : Nat) (F : Nat → Nat → Rat) : pG 2 (gq m w F) = true:=by
 show ((List.range m).map fun i=>line w fun j=>fq (F i j)).all B4 = true
 rw [List.all_map,List.all_eq_true]
 intro i _
 show ox ((List.range w).map fun j=>fq (F i j)) = true
 induction List.range w with
 | nil=>rfl
 | cons k ks ih=>rw [List.map_cons]; simp only [ox,ih]; rfl
theorem Kr {d : T} (sc : Bool) (h : pG 2 d = true) : cy ⟨sc,2,0⟩ (.ok (.rt d)) = .ok d:=by
 simp only [cy,h,Bool.not_true,Bool.and_false]
 rfl
section
variable {m n w a b c d : Nat} {F H : Nat → Nat → Rat}
theorem um {Ψ : FnT} {e : E} {τ : aB} {G : Nat → T} (h : yE Ψ e τ = .ok (line n G)) : yIt Ψ (.seq e) τ = .ok ((List.range n).map G):=by
 rw [dk,h,Ou.aa,line,kN]
theorem zK {r0 r1 r3 r4 : Option T} (ft : Fit n a b c d) (hw : w ≤ 7) (g : ∀ k < n,∀ j < w,Sz c d (H k j)) : yE dR (.comp [none] (.nm 0) (.seq (.var 2)) [] (.call 19 [(.var 0)])) [r0,r1,some (gq w n fun j k=>H k j),r3,r4] = .ok (vec w fun j=>scl n fun k=>H k j):=by
 refine cb (um (n:=w) (G:=fun j=>line n fun k=>fq (H k j)) (by rw [af]; rfl)) (by rw [List.length_map,List.length_range]; exact cL hw) (bw _ fun j hj=>?_)
 have hj:=List.mem_range.mp hj
 have bd:=ft.bd
 have s:=ve ft.n7 (fun k hk=>(g k hk j hj).den) (by omega) ft.hd
 simp only [af,aM,ah,ae,bM,Ou.aa,aw,aA,eT,aq,List.getElem?_cons_zero,List.set_cons_zero,List.map_cons,List.map_nil,List.nil_append,List.cons_append,Option.bind_none,if_true,aq,kM,s]
 rfl
theorem fH (ft : Fit n a b c d) (hm : 1 ≤ m ∧ m ≤ 7) (hn : 1 ≤ n) (hw : 1 ≤ w ∧ w ≤ 7) (h : ∀ i < m,∀ k < n,Sz a b (F i k)) (g : ∀ k < n,∀ j < w,Sz c d (H k j)) : bc [gq m n F,gq n w H] = .ok (gq m w (mulQ n F H)):=by
 have n7:=ft.n7
 have bd:=ft.bd
 have l1:=zr (F:=F) hm ⟨hn,n7⟩
 have l2:=zr (F:=H) ⟨hn,n7⟩ hw
 have cl : ff [gq n w H] = .ok (gq w n fun j k=>H k j):=xc ⟨hn,n7⟩ hw.2
 have wc : eZ [gq w n fun j k=>H k j,vec w fun j=>scl n fun k=>H k j] = .ok (line w fun j=>vec n (wr (fun k=>H k j) (scl n fun k=>H k j))):=qN (c:=n * d) hw.2 n7 (fun j hj k hk=>g k hk j hj) (fun j hj=>xH fun k hk=>(g k hk j hj).den) (by have:=ft.hc; omega) ft.hd (by omega)
 have rw' : ∀ i < m,ej [line n fun k=>fq (F i k),line w fun j=>vec n (wr (fun k=>H k j) (scl n fun k=>H k j)),vec w fun j=>scl n fun k=>H k j] = .ok (line w fun j=>fq (mulQ n F H i j)):=fun i hi=>DW (H:=fun j k=>H k j) ft hw.2 (h i hi) fun j hj k hk=>g k hk j hj
 have cp : ∀ r1 r2,yE dR (.comp [none,some 3,some 4] (.nm 0) (.seq (.var 0)) [] (.call 23 [(.var 0),(.var 2),(.var 1)])) [some (gq m n F),r1,r2,some (vec w fun j=>scl n fun k=>H k j),some (line w fun j=>vec n (wr (fun k=>H k j) (scl n fun k=>H k j)))] = .ok (gq m w (mulQ n F H)):=fun r1 r2=>by
   refine cb (um (n:=m) (G:=fun i=>line n fun k=>fq (F i k)) (by rw [af]; rfl)) (by rw [List.length_map,List.length_range]; exact cL hm.2) (bw _ fun i hi=>?_)
   simp only [af,aM,ah,ae,bM,Ou.aa,aw,aA,eT,aq,List.getElem?_cons_zero,List.getElem?_cons_succ,List.set_cons_zero,List.map_cons,List.map_nil,List.nil_append,List.cons_append,Option.bind_some,Option.bind_none,Option.join_some,if_true,aq,jH,rw' i (List.mem_range.mp hi)]
 have rt : ∀ own,tE ⟨eL,[],2⟩ own (.comp [none,some 3,some 4] (.nm 0) (.seq (.var 0)) [] (.call 23 [(.var 0),(.var 2),(.var 1)])) (gq m w (mulQ n F H)) = .ok (.rt (gq m w (mulQ n F H))):=fun own=>KN (fun _=>by intro z; cases z) (by simp [cm,jE])
 have e0 : zI (gq m n F) (.int 0) = .ok (line n fun k=>fq (F 0 k)):=i7 (j:=0) (by omega)
 have e1 : zB .len [gq n w H] = .ok (.int (n : Nat)):=gL n _
 have sc:=fun r0 r1 r3 r4=>zK (r0:=r0) (r1:=r1) (r3:=r3) (r4:=r4) ft hw.2 g
 rw [ud]
 simp only [fL,af,aG,aW,dB,aM,bu,ah,ae,bI,aE,ba,Eh,aC,ag,bJ,bR,d0,nh,Bs,iT,ay,ar,aN,cv,ax,au,Ou.aa,aw,aA,cJ,cF,List.getElem?_cons_zero,List.getElem?_cons_succ,List.set_cons_zero,List.set_cons_succ,List.contains_nil,Option.isSome_some,Bool.and_true,Bool.and_false,Bool.not_true,Bool.false_eq_true,if_true,if_false,Nat.min_def,Nat.lt_irrefl,decide_true,decide_false,and_true,and_false,jT,jR,jX,jS,jV,j0,kZ,l1,l2,e0,e1,gL,cl,sc,wc,cp,rt,Kr true (KY _ _ _)]
end
end K12
namespace K12
open PySem PySem.Spec L2 Sv
open Ev (D aQ aU ai)
noncomputable def wD : List S:=[.set (.nm 9) (.ix (.ix (.var 1) (.var 8)) (.var 5)),.set (.nm 10) (.op .mul (.ix (.ix (.var 3) (.var 8)) (.cI 1)) (.ix (.var 9) (.cI 1))),.set (.nm 6) (.op .add (.op .mul (.var 6) (.var 10)) (.op .mul (.op .mul (.ix (.ix (.var 3) (.var 8)) (.cI 0)) (.ix (.var 9) (.cI 0))) (.var 7))),.set (.nm 7) (.op .mul (.var 7) (.var 10)),.set (.nm 11) (.call 3 [(.var 6),(.var 7)]),.set (.nm 6) (.op .fdiv (.var 6) (.var 11)),.set (.nm 7) (.op .fdiv (.var 7) (.var 11))]
section
variable {m n w a b c d : Nat} {F H : Nat → Nat → Rat}
theorem Hv {N : Nat} {a2 a4 r8 r9 r10 r11 a0 : Option T} {f : Nat → Rat} {j k : Nat} {S : Rat} {p q : Nat} (ft : Fit n a b c d) (hk : k < n) (hj : j < w) (hf : Sz a b (f k)) (hh : Sz c d (H k j)) (hS : Sz p q S) (hp : p ≤ 20000) (hq : q + (b + d) ≤ 3300) :
   dC bo bU ⟨bG,[2,4],0⟩ N (.nm 8) wD (.int (k : Nat)) [a0,some (gq n w H),a2,some (line n fun k=>fq (f k)),a4,some (.int (j : Nat)),some (.int S.num),some (.int ((S.den : Nat) : Int)),r8,r9,r10,r11] [(4,1),(2,1)] = .ok (.nx [a0,some (gq n w H),a2,some (line n fun k=>fq (f k)),a4,some (.int (j : Nat)),some (.int (S + f k * H k j).num),some (.int (((S + f k * H k j).den : Nat) : Int)),some (.int (k : Nat)),some (fq (H k j)),some (.int ((((f k).den : Nat) : Int) * (((H k j).den : Nat) : Int))),some (.int (Int.gcd (S.num * ((((f k).den : Nat) : Int) * (((H k j).den : Nat) : Int)) + (f k).num * (H k j).num * ((S.den : Nat) : Int)) (((S.den : Nat) : Int) * ((((f k).den : Nat) : Int) * (((H k j).den : Nat) : Int))) : Nat))] [(4,1),(2,1)]):=by
 generalize ht : S.num * ((((f k).den : Nat) : Int) * (((H k j).den : Nat) : Int)) + (f k).num * (H k j).num * ((S.den : Nat) : Int) = t
 generalize hb : ((S.den : Nat) : Int) * ((((f k).den : Nat) : Int) * (((H k j).den : Nat) : Int)) = u
 have fa:=ft.ha
 have fb:=ft.hb
 have fc:=ft.hc
 have fd:=ft.hd
 have i1 : zI (gq n w H) (.int (k : Nat)) = .ok (line w fun j=>fq (H k j)):=i7 (F:=fun i=>line w fun j=>fq (H i j)) hk
 have i2 : zI (line w fun j=>fq (H k j)) (.int (j : Nat)) = .ok (fq (H k j)):=i7 (F:=fun j=>fq (H k j)) hj
 have i3 : zI (line n fun k=>fq (f k)) (.int (k : Nat)) = .ok (fq (f k)):=i7 (F:=fun k=>fq (f k)) hk
 have i4 : ∀ x : Rat,zI (fq x) (.int 0) = .ok (.int x.num):=fun x=>oi _ _
 have i5 : ∀ x : Rat,zI (fq x) (.int 1) = .ok (.int ((x.den : Nat) : Int)):=fun x=>ml _ _ _
 have na : ∀ (x : Nat) {y : Nat},x ≤ 2 ^ y → ((x : Nat) : Int).natAbs ≤ 2 ^ y:=fun x y h=>by rw [Int.natAbs_natCast]; exact h
 have pp : ((((f k).den : Nat) : Int) * (((H k j).den : Nat) : Int)).natAbs ≤ 2 ^ (b + d):=by
   rw [Int.natAbs_mul,Nat.pow_add]
   exact Nat.mul_le_mul (na _ hf.den) (na _ hh.den)
 have qq : ((f k).num * (H k j).num).natAbs ≤ 2 ^ (a + c):=by
   rw [Int.natAbs_mul,Nat.pow_add]
   exact Nat.mul_le_mul hf.num hh.num
 have m1:=mo (na _ hf.den) (na _ hh.den) (by omega) (by omega)
 have m2:=mo hS.num pp (by omega) (by omega)
 have m3:=mo hf.num hh.num (by omega) (by omega)
 have m4:=mo qq (na _ hS.den) (by omega) (by omega)
 have m5:=mo (na _ hS.den) pp (by omega) (by omega)
 have u0 : 0 < u:=by
   rw [← hb]
   exact Int.mul_pos (by have:=S.den_pos; omega) (Int.mul_pos (by have:=(f k).den_pos; omega) (by have:=(H k j).den_pos; omega))
 have ub : u.natAbs < big:=by
   refine dv (b:=q + (b + d)) ?_ hq
   rw [← hb,Int.natAbs_mul,Nat.pow_add]
   exact Nat.mul_le_mul (na _ hS.den) pp
 have g0 : 0 < Int.gcd t u:=Int.gcd_pos_of_ne_zero_right _ (by omega)
 have dd : ∀ i : Int,z2 .fdiv (.int i) (.int (Int.gcd t u : Nat)) = .ok (.int (i / (Int.gcd t u : Int))):=fun i=>eA (by omega) (by rw [Int.natAbs_natCast]; exact uj (by omega) ub)
 obtain ⟨e1,e2⟩:=yj (x:=S + f k * H k j) (t:=t) u0 (by
   rw [← ht,← hb]
   simp only [Rat.intCast_mul,Rat.intCast_add]
   have h1:=o1 S
   have h2:=o1 (f k)
   have h3:=o1 (H k j)
   grind)
 simp only [wD,af,aG,cx,dB,aM,ah,ae,bI,aC,ag,bJ,bR,d0,gp,EV,FT,iT,D9,mO,vV,ay,aN,au,bL,Ou.aa,aw,aA,cJ,frg,iU,gts,aY,tgN,iF,eU,List.getElem?_cons_zero,List.getElem?_cons_succ,List.set_cons_zero,List.set_cons_succ,List.contains_cons,List.contains_nil,Option.isSome_some,Bool.and_true,Bool.and_false,Bool.or_false,Bool.false_eq_true,if_false,Nat.reduceBEq,Nat.reduceLT,Nat.min_def,Nat.lt_irrefl,decide_true,decide_false,and_true,and_false,Nat.reduceEqDiff,i1,i2,i3,i4,i5,m1,m2,m3,m4,m5,ht,hb,lM,lA,Cy,dd,e1,e2]
theorem BB {N : Nat} {a2 a4 a0 : Option T} {f : Nat → Rat} {j : Nat} (ft : Fit n a b c d) (hj : j < w) (hf : ∀ k < n,Sz a b (f k)) (hh : ∀ k < n,Sz c d (H k j)) : ∀ (l s : Nat) (r8 r9 r10 r11 : Option T),s + l = n → ∃ s8 s9 s10 s11,
   dz (dC bo bU ⟨bG,[2,4],0⟩ N (.nm 8) wD) ((List.range' s l).map fun k=>.int (k : Nat)) [a0,some (gq n w H),a2,some (line n fun k=>fq (f k)),a4,some (.int (j : Nat)),some (.int (aT (fun k=>f k * H k j) s).num),some (.int (((aT (fun k=>f k * H k j) s).den : Nat) : Int)),r8,r9,r10,r11] [(4,1),(2,1)] = .ok (.nx [a0,some (gq n w H),a2,some (line n fun k=>fq (f k)),a4,some (.int (j : Nat)),some (.int (aT (fun k=>f k * H k j) n).num),some (.int (((aT (fun k=>f k * H k j) n).den : Nat) : Int)),s8,s9,s10,s11] [(4,1),(2,1)])
 | 0,s,r8,r9,r10,r11,h=>⟨r8,r9,r10,r11,by rw [show s = n by omega]; rfl⟩
 | l + 1,s,r8,r9,r10,r11,h=>by
   obtain ⟨s8,s9,s10,s11,e⟩:=BB (N:=N) (a2:=a2) (a4:=a4) (a0:=a0) ft hj hf hh l (s + 1) (some (.int (s : Nat))) (some (fq (H s j))) (some (.int ((((f s).den : Nat) : Int) * (((H s j).den : Nat) : Int)))) (some (.int (Int.gcd ((aT (fun k=>f k * H k j) s).num * ((((f s).den : Nat) : Int) * (((H s j).den : Nat) : Int)) + (f s).num * (H s j).num * (((aT (fun k=>f k * H k j) s).den : Nat) : Int)) ((((aT (fun k=>f k * H k j) s).den : Nat) : Int) * ((((f s).den : Nat) : Int) * (((H s j).den : Nat) : Int))) : Nat))) (by omega)
   refine ⟨s8,s9,s10,s11,?_⟩
   have sz:=Sz.sum (n:=s) (f:=fun k=>f k * H k j) fun k hk=>(hf k (by omega)).mul (hh k (by omega))
   have bd:=ft.bd
   have b1 : (s + 1) * (b + d) ≤ 3300:=Nat.le_trans (Nat.mul_le_mul_right _ (show s + 1 ≤ n by omega)) (by rw [Nat.mul_add]; exact bd)
   rw [Nat.succ_mul] at b1
   have n7:=ft.n7
   have fa:=ft.ha
   have fc:=ft.hc
   have t:=Hv (N:=N) (a0:=a0) (a2:=a2) (a4:=a4) (r8:=r8) (r9:=r9) (r10:=r10) (r11:=r11) (f:=f) (H:=H) (j:=j) (k:=s) ft (by omega) hj (hf s (by omega)) (hh s (by omega)) (sz.mono (a':=14000) (b':=s * (b + d)) (by omega) (Nat.le_refl _)) (by decide) b1
   rw [List.range'_succ,List.map_cons,cH,t,Ou.aa,ed]
   exact e
end
end K12
namespace K12
open PySem PySem.Spec L2 Sv
open Ev (D aQ aU ai)
noncomputable def pS : List S:=[.set (.nm 6) (.cI 0),.set (.nm 7) (.cI 1),.for (.nm 8) (.rng (.bi .len [(.var 1)])) wD,.mth .append (.var 4) [(.tup [(.var 6),(.var 7)])]]
noncomputable def qr : List S:=[.set (.nm 4) (.lst []),.for (.nm 5) (.rng (.bi .len [(.ix (.var 1) (.cI 0))])) pS,.mth .append (.var 2) [(.var 4)]]
theorem rL {s : Nat} {G : Nat → T} (h : s ≤ 7) : zM .append ((List.range s).map G) [G s] = some ((List.range (s + 1)).map G):=by
 rw [td (by rw [List.length_map,List.length_range]; exact cL h),List.range_succ,List.map_append]
 rfl
section
variable {m n w a b c d : Nat} {F H : Nat → Nat → Rat}
theorem n8 {N : Nat} {s : S} {ss : List S} {τ τ' : aB} {own own' : Own} (h : yS bo bU ⟨bG,[2,4],0⟩ N s τ own = .ok (.nx τ' own')) : ySs bo bU ⟨bG,[2,4],0⟩ N (s :: ss) τ own = ySs bo bU ⟨bG,[2,4],0⟩ N ss τ' own':=by
 rw [ag,h,Ou.aa,ay]
theorem wU {N : Nat} {t : Tg} {it : Sv.It} {xs : List T} {bd : List S} {τ τ' : aB} {own own' : Own} (hi : yIt bo it τ = .ok xs) (hd : dn (gUI bG 0 it) own = own) (hl : dz (dC bo bU ⟨bG,[2,4],0⟩ N t bd) xs τ own = .ok (.nx τ' own')) : yS bo bU ⟨bG,[2,4],0⟩ N (.for t it bd) τ own = .ok (.nx τ' own'):=by
 rw [lh,hi,Ou.aa]
 show Ou.noX (dz _ xs τ (dn (gUI bG 0 it) own)) = _
 rw [hd,hl,Ou.fu]
theorem Hu {N : Nat} {a2 r5 r6 r7 r8 r9 r10 r11 a0 : Option T} {f : Nat → Rat} {j : Nat} (ft : Fit n a b c d) (hj : j < w) (hw : w ≤ 7) (hf : ∀ k < n,Sz a b (f k)) (hh : ∀ k < n,Sz c d (H k j)) : ∃ s6 s7 s8 s9 s10 s11,
   dC bo bU ⟨bG,[2,4],0⟩ N (.nm 5) pS (.int (j : Nat)) [a0,some (gq n w H),a2,some (line n fun k=>fq (f k)),some (line j fun j=>fq (aT (fun k=>f k * H k j) n)),r5,r6,r7,r8,r9,r10,r11] [(4,1),(2,1)] = .ok (.nx [a0,some (gq n w H),a2,some (line n fun k=>fq (f k)),some (line (j + 1) fun j=>fq (aT (fun k=>f k * H k j) n)),some (.int (j : Nat)),s6,s7,s8,s9,s10,s11] [(4,1),(2,1)]):=by
 obtain ⟨s8,s9,s10,s11,e⟩:=BB (N:=N) (a2:=a2) (a4:=some (line j fun j=>fq (aT (fun k=>f k * H k j) n))) (a0:=a0) ft hj hf hh n 0 r8 r9 r10 r11 (by omega)
 refine ⟨some (.int (aT (fun k=>f k * H k j) n).num),some (.int (((aT (fun k=>f k * H k j) n).den : Nat) : Int)),s8,s9,s10,s11,?_⟩
 have n7:=ft.n7
 have l1 : zB .len [gq n w H] = .ok (.int (n : Nat)):=gL n _
 have hi : yIt bo (.rng (.bi .len [(.var 1)])) [a0,some (gq n w H),a2,some (line n fun k=>fq (f k)),some (line j fun j=>fq (aT (fun k=>f k * H k j) n)),some (.int (j : Nat)),some (.int 0),some (.int 1),r8,r9,r10,r11] = .ok ((List.range' 0 n).map fun k=>.int (k : Nat)):=by
   rw [← List.range_eq_range']
   exact iW (by rw [bu,ae,af,show aw [a0,some (gq n w H),a2,some (line n fun k=>fq (f k)),some (line j fun j=>fq (aT (fun k=>f k * H k j) n)),some (.int (j : Nat)),some (.int 0),some (.int 1),r8,r9,r10,r11] 1 = .ok (gq n w H) from rfl,Ou.aa,ah,Ou.aa,Ou.aa,l1]) (by omega)
 have st:=wU (N:=N) (t:=.nm 8) (bd:=wD) (own:=[(4,1),(2,1)]) (own':=[(4,1),(2,1)]) hi (by simp only [au,bL,qh,gts,aY,dY,Bool.and_true,Bool.and_false,Bool.or_false,Bool.false_eq_true,if_false,Nat.reduceBEq,Nat.reduceLT,decide_false,and_true,and_false,Nat.reduceEqDiff]) e
 have ap:=rL (s:=j) (G:=fun j=>fq (aT (fun k=>f k * H k j) n)) (by omega)
 have t0 : dC bo bU ⟨bG,[2,4],0⟩ N (.nm 5) pS (.int (j : Nat)) [a0,some (gq n w H),a2,some (line n fun k=>fq (f k)),some (line j fun j=>fq (aT (fun k=>f k * H k j) n)),r5,r6,r7,r8,r9,r10,r11] [(4,1),(2,1)] = ySs bo bU ⟨bG,[2,4],0⟩ N pS [a0,some (gq n w H),a2,some (line n fun k=>fq (f k)),some (line j fun j=>fq (aT (fun k=>f k * H k j) n)),some (.int (j : Nat)),r6,r7,r8,r9,r10,r11] [(4,1),(2,1)]:=by
   rw [eU]
   rfl
 rw [t0,pS]
 rw [n8 (τ':=[a0,some (gq n w H),a2,some (line n fun k=>fq (f k)),some (line j fun j=>fq (aT (fun k=>f k * H k j) n)),some (.int (j : Nat)),some (.int 0),r7,r8,r9,r10,r11]) (own':=[(4,1),(2,1)]) (by simp only [aG,bI,uk,x5,aN,au,bL,Ou.aa,aA,cJ,frg,iU,gts,tgN,List.getElem?_cons_zero,List.getElem?_cons_succ,List.set_cons_zero,List.set_cons_succ,List.contains_cons,List.contains_nil,Option.isSome_some,Bool.and_true,Bool.or_false,Bool.false_eq_true,if_false,Nat.reduceBEq,Nat.min_def,and_true,Nat.reduceEqDiff])]
 rw [n8 (τ':=[a0,some (gq n w H),a2,some (line n fun k=>fq (f k)),some (line j fun j=>fq (aT (fun k=>f k * H k j) n)),some (.int (j : Nat)),some (.int 0),some (.int 1),r8,r9,r10,r11]) (own':=[(4,1),(2,1)]) (by simp only [aG,bI,uk,x5,aN,au,bL,Ou.aa,aA,cJ,frg,iU,gts,tgN,List.getElem?_cons_zero,List.getElem?_cons_succ,List.set_cons_zero,List.set_cons_succ,List.contains_cons,List.contains_nil,Option.isSome_some,Bool.and_true,Bool.or_false,Bool.false_eq_true,if_false,Nat.reduceBEq,Nat.min_def,and_true,Nat.reduceEqDiff])]
 rw [n8 st]
 unfold line
 unfold fq gW at ap ⊢
 simp only [af,iE,ah,ae,pj,aC,ag,ay,cw,iI,au,bL,ic,Ou.aa,aw,bY,qa,gts,aY,sA,List.getElem?_cons_zero,List.getElem?_cons_succ,List.set_cons_zero,List.set_cons_succ,List.lookup_cons,Option.getD_some,Bool.and_true,Bool.and_false,Bool.or_false,Bool.false_eq_true,if_true,if_false,beq_self_eq_true,Nat.reduceBEq,Nat.reduceLT,decide_true,and_true,and_false,Nat.reduceEqDiff,ap]
theorem BG {N : Nat} {a2 a0 : Option T} {f : Nat → Rat} (ft : Fit n a b c d) (hw : w ≤ 7) (hf : ∀ k < n,Sz a b (f k)) (hh : ∀ k < n,∀ j < w,Sz c d (H k j)) : ∀ (l s : Nat) (r5 r6 r7 r8 r9 r10 r11 : Option T),s + l = w → ∃ s5 s6 s7 s8 s9 s10 s11,
   dz (dC bo bU ⟨bG,[2,4],0⟩ N (.nm 5) pS) ((List.range' s l).map fun k=>.int (k : Nat)) [a0,some (gq n w H),a2,some (line n fun k=>fq (f k)),some (line s fun j=>fq (aT (fun k=>f k * H k j) n)),r5,r6,r7,r8,r9,r10,r11] [(4,1),(2,1)] = .ok (.nx [a0,some (gq n w H),a2,some (line n fun k=>fq (f k)),some (line w fun j=>fq (aT (fun k=>f k * H k j) n)),s5,s6,s7,s8,s9,s10,s11] [(4,1),(2,1)])
 | 0,s,r5,r6,r7,r8,r9,r10,r11,h=>⟨r5,r6,r7,r8,r9,r10,r11,by rw [show s = w by omega]; rfl⟩
 | l + 1,s,r5,r6,r7,r8,r9,r10,r11,h=>by
   obtain ⟨t6,t7,t8,t9,t10,t11,t⟩:=Hu (N:=N) (a0:=a0) (a2:=a2) (r5:=r5) (r6:=r6) (r7:=r7) (r8:=r8) (r9:=r9) (r10:=r10) (r11:=r11) ft (show s < w by omega) hw hf fun k hk=>hh k hk s (by omega)
   obtain ⟨s5,s6,s7,s8,s9,s10,s11,e⟩:=BG (N:=N) (a2:=a2) (a0:=a0) ft hw hf hh l (s + 1) (some (.int (s : Nat))) t6 t7 t8 t9 t10 t11 (by omega)
   refine ⟨s5,s6,s7,s8,s9,s10,s11,?_⟩
   rw [List.range'_succ,List.map_cons,cH,t,Ou.aa,ed]
   exact e
end
end K12
namespace K12
open PySem PySem.Spec L2 Sv
open Ev (D aQ aU ai)
section
variable {m n w a b c d : Nat} {F H : Nat → Nat → Rat}
theorem GZ {N : Nat} {r3 r4 r5 r6 r7 r8 r9 r10 r11 a0 : Option T} {i : Nat} (ft : Fit n a b c d) (hn : 1 ≤ n) (hi : i < 7) (hw : w ≤ 7) (hf : ∀ k < n,Sz a b (F i k)) (hh : ∀ k < n,∀ j < w,Sz c d (H k j)) : ∃ s4 s5 s6 s7 s8 s9 s10 s11,
   dC bo bU ⟨bG,[2,4],0⟩ N (.nm 3) qr (line n fun k=>fq (F i k)) [a0,some (gq n w H),some (gq i w (mulQ n F H)),r3,r4,r5,r6,r7,r8,r9,r10,r11] [(2,1)] = .ok (.nx [a0,some (gq n w H),some (gq (i + 1) w (mulQ n F H)),some (line n fun k=>fq (F i k)),s4,s5,s6,s7,s8,s9,s10,s11] [(2,1)]):=by
 obtain ⟨s5,s6,s7,s8,s9,s10,s11,e⟩:=BG (N:=N) (a2:=some (gq i w (mulQ n F H))) (a0:=a0) ft hw hf hh w 0 r5 r6 r7 r8 r9 r10 r11 (by omega)
 refine ⟨some (line w fun j=>fq (mulQ n F H i j)),s5,s6,s7,s8,s9,s10,s11,?_⟩
 have e0 : zI (gq n w H) (.int 0) = .ok (line w fun k=>fq (H 0 k)):=i7 (j:=0) (by omega)
 have hi : yIt bo (.rng (.bi .len [(.ix (.var 1) (.cI 0))])) [a0,some (gq n w H),some (gq i w (mulQ n F H)),some (line n fun k=>fq (F i k)),some (.lst []),r5,r6,r7,r8,r9,r10,r11] = .ok ((List.range' 0 w).map fun k=>.int (k : Nat)):=by
   rw [← List.range_eq_range']
   exact iW (by rw [bu,ae,dB,af,show aw [a0,some (gq n w H),some (gq i w (mulQ n F H)),some (line n fun k=>fq (F i k)),some (.lst []),r5,r6,r7,r8,r9,r10,r11] 1 = .ok (gq n w H) from rfl,Ou.aa,aG,Ou.aa,e0,Ou.aa,ah,Ou.aa,Ou.aa,gL]) (by omega)
 have st:=wU (N:=N) (t:=.nm 5) (bd:=pS) (own:=[(4,1),(2,1)]) (own':=[(4,1),(2,1)]) hi (by simp only [au,bL,qh,gts,aY,dY,Bool.and_true,Bool.and_false,Bool.or_false,Bool.false_eq_true,if_false,Nat.reduceBEq,and_true,and_false,Nat.reduceEqDiff]) e
 have ap:=rL (s:=i) (G:=fun i=>line w fun j=>fq (mulQ n F H i j)) (by omega)
 have t0 : dC bo bU ⟨bG,[2,4],0⟩ N (.nm 3) qr (line n fun k=>fq (F i k)) [a0,some (gq n w H),some (gq i w (mulQ n F H)),r3,r4,r5,r6,r7,r8,r9,r10,r11] [(2,1)] = ySs bo bU ⟨bG,[2,4],0⟩ N qr [a0,some (gq n w H),some (gq i w (mulQ n F H)),some (line n fun k=>fq (F i k)),r4,r5,r6,r7,r8,r9,r10,r11] [(2,1)]:=by
   rw [eU]
   rfl
 rw [t0,qr]
 rw [n8 (τ':=[a0,some (gq n w H),some (gq i w (mulQ n F H)),some (line n fun k=>fq (F i k)),some (.lst []),r5,r6,r7,r8,r9,r10,r11]) (own':=[(4,1),(2,1)]) (by simp only [kG,ah,bI,jJ,oS,oQ,aN,au,bL,oX,Ou.aa,aA,cJ,frg,iU,gts,aY,tgN,List.getElem?_cons_zero,List.getElem?_cons_succ,List.set_cons_zero,List.set_cons_succ,List.contains_cons,List.contains_nil,List.all_nil,Option.isSome_some,Bool.and_true,Bool.or_false,Bool.or_true,Bool.false_eq_true,if_true,if_false,beq_self_eq_true,Nat.reduceBEq,Nat.min_def,and_true,reduceCtorEq,Nat.reduceEqDiff,Nat.reduceLeDiff])]
 rw [n8 st]
 have l1 : ∀ x y : Option T,yS bo bU ⟨bG,[2,4],0⟩ N (.mth .append (.var 2) [(.var 4)]) [a0,x,some (.lst ((List.range i).map fun i=>line w fun j=>fq (mulQ n F H i j))),y,some (line w fun j=>fq (mulQ n F H i j)),s5,s6,s7,s8,s9,s10,s11] [(4,1),(2,1)] = .ok (.nx [a0,x,some (.lst ((List.range (i + 1)).map fun i=>line w fun j=>fq (mulQ n F H i j))),y,some (line w fun j=>fq (mulQ n F H i j)),s5,s6,s7,s8,s9,s10,s11] [(2,1)]):=fun x y=>by
   simp only [af,ah,ae,pj,cw,iI,au,bL,Ou.aa,aw,bY,qa,gts,aY,sA,List.getElem?_cons_zero,List.getElem?_cons_succ,List.set_cons_zero,List.set_cons_succ,List.lookup_cons,Option.getD_some,Bool.and_true,Bool.and_false,Bool.or_false,Bool.false_eq_true,if_true,if_false,beq_self_eq_true,Nat.reduceBEq,Nat.reduceLT,decide_true,and_true,and_false,reduceCtorEq,Nat.reduceEqDiff,ap]
 have l2:=l1 (some (gq n w H)) (some (line n fun k=>fq (F i k)))
 exact (n8 l2).trans (by rw [aC]; rfl)
theorem Ct {N : Nat} {a0 : Option T} (ft : Fit n a b c d) (hn : 1 ≤ n) (hm : m ≤ 7) (hw : w ≤ 7) (hf : ∀ i < m,∀ k < n,Sz a b (F i k)) (hh : ∀ k < n,∀ j < w,Sz c d (H k j)) : ∀ (l s : Nat) (r3 r4 r5 r6 r7 r8 r9 r10 r11 : Option T),s + l = m → ∃ s3 s4 s5 s6 s7 s8 s9 s10 s11,
   dz (dC bo bU ⟨bG,[2,4],0⟩ N (.nm 3) qr) ((List.range' s l).map fun i=>line n fun k=>fq (F i k)) [a0,some (gq n w H),some (gq s w (mulQ n F H)),r3,r4,r5,r6,r7,r8,r9,r10,r11] [(2,1)] = .ok (.nx [a0,some (gq n w H),some (gq m w (mulQ n F H)),s3,s4,s5,s6,s7,s8,s9,s10,s11] [(2,1)])
 | 0,s,r3,r4,r5,r6,r7,r8,r9,r10,r11,h=>⟨r3,r4,r5,r6,r7,r8,r9,r10,r11,by rw [show s = m by omega]; rfl⟩
 | l + 1,s,r3,r4,r5,r6,r7,r8,r9,r10,r11,h=>by
   obtain ⟨t4,t5,t6,t7,t8,t9,t10,t11,t⟩:=GZ (N:=N) (a0:=a0) (r3:=r3) (r4:=r4) (r5:=r5) (r6:=r6) (r7:=r7) (r8:=r8) (r9:=r9) (r10:=r10) (r11:=r11) (F:=F) (i:=s) ft hn (by omega) hw (hf s (by omega)) hh
   obtain ⟨s3,s4,s5,s6,s7,s8,s9,s10,s11,e⟩:=Ct (N:=N) (a0:=a0) ft hn hm hw hf hh l (s + 1) (some (line n fun k=>fq (F s k))) t4 t5 t6 t7 t8 t9 t10 t11 (by omega)
   refine ⟨s3,s4,s5,s6,s7,s8,s9,s10,s11,?_⟩
   rw [List.range'_succ,List.map_cons,cH,t,Ou.aa,ed]
   exact e
theorem HN (ft : Fit n a b c d) (hn : 1 ≤ n) (hm : m ≤ 7) (hw : w ≤ 7) (hf : ∀ i < m,∀ k < n,Sz a b (F i k)) (hh : ∀ k < n,∀ j < w,Sz c d (H k j)) : j8 [gq m n F,gq n w H] = .ok (gq m w (mulQ n F H)):=by
 obtain ⟨s3,s4,s5,s6,s7,s8,s9,s10,s11,e⟩:=Ct (N:=bt [gq m n F,gq n w H]) (a0:=some (gq m n F)) ft hn hm hw hf hh m 0 none none none none none none none none none (by omega)
 rw [yr,show iQ = [.set (.nm 2) (.lst []),.for (.nm 3) (.seq (.var 0)) qr,.ret (.var 2)] from rfl]
 have hi : yIt bo (.seq (.var 0)) [some (gq m n F),some (gq n w H),some (.lst []),none,none,none,none,none,none,none,none,none] = .ok ((List.range' 0 m).map fun i=>line n fun k=>fq (F i k)):=by
   rw [← List.range_eq_range']
   exact um (by rw [af]; rfl)
 have st:=wU (N:=bt [gq m n F,gq n w H]) (t:=.nm 3) (bd:=qr) (own:=[(2,1)]) (own':=[(2,1)]) hi (by simp only [au,bL,qh,gts,dY,Bool.and_true,Bool.and_false,Bool.false_eq_true,if_false,Nat.reduceBEq,Nat.reduceLT,decide_true,and_true,and_false,Nat.reduceEqDiff]) e
 rw [n8 (τ':=[some (gq m n F),some (gq n w H),some (.lst []),none,none,none,none,none,none,none,none,none]) (own':=[(2,1)]) (by simp only [kG,ah,bI,jJ,oS,oQ,aN,au,oX,Ou.aa,aA,cJ,List.getElem?_cons_zero,List.getElem?_cons_succ,List.set_cons_zero,List.set_cons_succ,List.contains_cons,List.contains_nil,List.all_nil,Option.isSome_some,Bool.and_true,Bool.or_false,if_true,if_false,beq_self_eq_true,Nat.reduceBEq,Nat.min_def,and_true,reduceCtorEq,Nat.reduceLeDiff]),n8 st]
 simp only [af,aE,ag,ar,bQ,aF,Ou.aa,aw,List.getElem?_cons_zero,List.getElem?_cons_succ,gq,g8,line]
end
end K12
namespace K12
open PySem PySem.Spec L2 Sv
open Ev (D aQ aU ai)
theorem Cj (p q : Int) (lo : Low p q) (m1 : z2 .mul (.int p) (.int q) = .ok (.int (p * q))) : ez [gW p q,.int p,.int q] = .ok (.bl true):=by
 have h1 : ¬ q < 1:=by have:=lo.pos; omega
 have h2 : ((Int.gcd p q : Nat) : Int) = 1:=by rw [lo.cop]; rfl
 have l2 : (((0 + 1 + 1 : Nat) : Int) = 2) = True:=eq_true rfl
 rw [mT]
 simp only [cA,gW,af,ie,aG,cx,dF,aW,gM,dB,aM,bu,fJ,ah,ae,aE,ba,aC,ag,ay,ar,iH,cv,dH,ax,ij,cf,aF,au,Ou.aa,aw,bS,cF,kg,oi,ml,gX,iL,List.getElem?_cons_zero,List.getElem?_cons_succ,Bool.not_true,decide_true,decide_false,jD,iR,JK,Cy,m1,h1,h2,l2,decide_false,decide_true,List.length_cons,List.length_nil]
noncomputable def y4 : List S:=[.ite (.not (.call 27 [(.var 4),(.ix (.var 5) (.cI 0)),(.ix (.var 5) (.cI 1))])) [.ret (.cB false)] []]
noncomputable def yJ : List S:=[.ite (.or (.not (.isi (.var 2) .list)) (.cmp .ne (.bi .len [(.var 2)]) (.bi .len [(.var 3)]))) [.ret (.cB false)] [],.for (.tp [4,5]) (.zip (.var 2) (.var 3)) y4]
noncomputable def Ok (x : Rat) : Prop:=ez [fq x,.int x.num,.int ((x.den : Nat) : Int)] = .ok (.bl true)
theorem Ok.of {x : Rat} {a b : Nat} (h : Sz a b x) (ha : a ≤ 90000) (hb : b ≤ 90000) : Ok x:=Cj _ _ (FE x) (mo h.num (by rw [Int.natAbs_natCast]; exact h.den) (by omega) (by omega))
theorem yU (n : Nat) (a b c d : Option T) (F : Nat → Rat) : ∀ (ks : List Nat) (r4 r5 : Option T),(∀ j ∈ ks,Ok (F j)) → ∃ s4 s5,dz (dC dP eQ ⟨eP,[],0⟩ n (.tp [4,5]) y4) (ks.map fun j=>.tup [fq (F j),fq (F j)]) [a,b,c,d,r4,r5] [] = .ok (.nx [a,b,c,d,s4,s5] [])
 | [],r4,r5,_=>⟨r4,r5,by rw [List.map_nil,gF]⟩
 | k :: ks,r4,r5,h=>by
   have e3:=h k (List.mem_cons_self ..)
   obtain ⟨s4,s5,e⟩:=yU n a b c d F ks (some (fq (F k))) (some (fq (F k))) fun j hj=>h j (List.mem_cons_of_mem _ hj)
   refine ⟨s4,s5,?_⟩
   have tn : dC dP eQ ⟨eP,[],0⟩ n (.tp [4,5]) y4 (.tup [fq (F k),fq (F k)]) [a,b,c,d,r4,r5] [] = .ok (.nx [a,b,c,d,some (fq (F k)),some (fq (F k))] []):=by
     unfold Ok at e3
     unfold fq gW at e3 ⊢
     simp only [y4,af,ie,aG,dF,dB,aM,ah,ae,aE,ba,aC,ag,ay,ar,cv,dH,aF,au,Ou.aa,aw,aA,jy,oi,ml,eU,List.getElem?_cons_zero,List.getElem?_cons_succ,List.set_cons_zero,List.set_cons_succ,Bool.not_true,iP,e3]
   rw [List.map_cons,cH,tn,Ou.aa,ed,e]
theorem uL (n w : Nat) (a b : Option T) (F : Nat → Nat → Rat) : ∀ (ks : List Nat) (r2 r3 r4 r5 : Option T),(∀ i ∈ ks,∀ j < w,Ok (F i j)) → ∃ s2 s3 s4 s5,dz (dC dP eQ ⟨eP,[],0⟩ n (.tp [2,3]) yJ) (ks.map fun i=>.tup [line w fun j=>fq (F i j),line w fun j=>fq (F i j)]) [a,b,r2,r3,r4,r5] [] = .ok (.nx [a,b,s2,s3,s4,s5] [])
 | [],r2,r3,r4,r5,_=>⟨r2,r3,r4,r5,by rw [List.map_nil,gF]⟩
 | k :: ks,r2,r3,r4,r5,h=>by
   obtain ⟨t4,t5,e1⟩:=yU n a b (some (line w fun j=>fq (F k j))) (some (line w fun j=>fq (F k j))) (F k) (List.range w) r4 r5 fun j hj=>h k (List.mem_cons_self ..) j (List.mem_range.mp hj)
   obtain ⟨s2,s3,s4,s5,e⟩:=uL n w a b F ks (some (line w fun j=>fq (F k j))) (some (line w fun j=>fq (F k j))) t4 t5 fun i hi=>h i (List.mem_cons_of_mem _ hi)
   refine ⟨s2,s3,s4,s5,?_⟩
   have z : zpT (line w fun j=>fq (F k j)) (line w fun j=>fq (F k j)) = .ok ((List.range w).map fun j=>.tup [fq (F k j),fq (F k j)]):=by rw [← zip_map]; rfl
   have il : sI .list (line w fun j=>fq (F k j)) = .ok (.bl true):=rfl
   have tn : dC dP eQ ⟨eP,[],0⟩ n (.tp [2,3]) yJ (.tup [line w fun j=>fq (F k j),line w fun j=>fq (F k j)]) [a,b,r2,r3,r4,r5] [] = .ok (.nx [a,b,some (line w fun j=>fq (F k j)),some (line w fun j=>fq (F k j)),t4,t5] []):=by
     simp only [yJ,af,ie,dF,aW,gM,bu,fJ,ah,ae,sO,aE,ba,lh,aC,ag,ay,ar,iH,cv,dH,ax,aF,au,Ou.aa,Ou.fu,aw,aA,jy,cF,eU,List.getElem?_cons_zero,List.getElem?_cons_succ,List.set_cons_zero,List.set_cons_succ,Bool.not_true,decide_true,gL,z,il,e1]
   rw [List.map_cons,cH,tn,Ou.aa,ed,e]
theorem ET {m w : Nat} {F : Nat → Nat → Rat} (h : ∀ i < m,∀ j < w,Ok (F i j)) : dE [gq m w F,gq m w F] = .ok (.bl true):=by
 rw [pq]
 obtain ⟨s2,s3,s4,s5,e⟩:=uL (bt [gq m w F,gq m w F]) w (some (gq m w F)) (some (gq m w F)) F (List.range m) none none none none fun i hi=>h i (List.mem_range.mp hi)
 have z : zpT (gq m w F) (gq m w F) = .ok ((List.range m).map fun i=>.tup [line w fun j=>fq (F i j),line w fun j=>fq (F i j)]):=by rw [← zip_map]; rfl
 have il : sI .list (gq m w F) = .ok (.bl true):=rfl
 have lF : zB .len [gq m w F] = .ok (.int (m : Nat)):=gL m _
 rw [show dS = [.ite (.or (.not (.isi (.var 0) .list)) (.cmp .ne (.bi .len [(.var 0)]) (.bi .len [(.var 1)]))) [.ret (.cB false)] [],.for (.tp [2,3]) (.zip (.var 0) (.var 1)) yJ,.ret (.cB true)] from rfl]
 simp only [af,ie,dF,aW,gM,bu,fJ,ah,ae,sO,aE,ba,lh,aC,ag,ay,ar,iH,cv,dH,ax,cf,aF,au,Ou.aa,Ou.fu,aw,cF,List.getElem?_cons_zero,List.getElem?_cons_succ,Bool.not_true,decide_true,lF,z,il,e]
theorem ze {n : Nat} (hn : n ≤ 7) : lU [.int (n : Nat)] = .ok (gq n n dq):=by
 have ci : ∀ i : Nat,yE mJ (.comp [none,some 0] (.nm 0) (.rng (.var 1)) [] (.tup [(.bi .int [(.cmp .eq (.var 1) (.var 0))]),(.cI 1)])) [some (.int (i : Nat)),some (.int (n : Nat)),none] = .ok (line n fun j=>fq (dq i j)):=fun i=>by
   refine cb (iW (n:=n) (by rw [af]; rfl) (by omega)) (by rw [List.length_map,List.length_range]; exact cL (by omega)) (bw _ fun j hj=>?_)
   by_cases h : i = j
   · subst h
     simp only [af,aG,aW,iE,bu,ah,ae,bM,ax,ic,Ou.aa,aw,aA,eT,bS,oP,aq,List.getElem?_cons_zero,List.getElem?_cons_succ,List.set_cons_zero,List.map_cons,List.map_nil,List.nil_append,List.cons_append,Option.bind_some,Option.bind_none,Option.join_some,if_true,decide_true,aq,dq,fq,gW,oP]
     rfl
   · have h' : ¬ ((i : Nat) : Int) = (j : Nat):=by omega
     simp only [af,aG,aW,iE,bu,ah,ae,bM,ax,ic,Ou.aa,aw,aA,eT,bS,oP,aq,List.getElem?_cons_zero,List.getElem?_cons_succ,List.set_cons_zero,List.map_cons,List.map_nil,List.nil_append,List.cons_append,Option.bind_some,Option.bind_none,Option.join_some,Bool.false_eq_true,if_true,if_false,decide_false,aq,dq,h,h',if_false,decide_false,fq,gW,oP]
     rfl
 have cp : yE mJ (.comp [none,some 0] (.nm 0) (.rng (.var 0)) [] (.comp [none,some 0] (.nm 0) (.rng (.var 1)) [] (.tup [(.bi .int [(.cmp .eq (.var 1) (.var 0))]),(.cI 1)]))) [some (.int (n : Nat))] = .ok (gq n n dq):=by
   refine cb (iW (n:=n) (by rw [af]; rfl) (by omega)) (by rw [List.length_map,List.length_range]; exact cL (by omega)) (bw _ fun i hi=>?_)
   simp only [bM,Ou.aa,aA,eT,aq,List.getElem?_cons_zero,List.set_cons_zero,List.map_cons,List.map_nil,List.nil_append,List.cons_append,Option.bind_some,Option.bind_none,Option.join_some,if_true,aq,ci]
 rw [uB,gG,ag,aE,cp,Ou.aa,aF]
 simp only [ar,bQ,Ou.aa,gq,g8,line]
theorem sV {t b : Int} {x y : Nat} (hb : 0 < b) (st : t.natAbs ≤ 2 ^ x) (sb : b.natAbs ≤ 2 ^ y) (hy : y ≤ 3300) : ∃ q : Rat,ql [.int t,.int b] = .ok (fq q) ∧ Sz x y q:=by
 have lo:=(EW (t:=t) hb).1
 have e:=Ec (Ψ:=u3) (ΨM:=uZ) (μ:=vz) (sc:=false) (dv:=3) rfl (fun a b=>Cy a b) t b hb (dv sb hy)
 obtain ⟨h1,h2⟩:=yj (t:=t) (x:=mkRat t b.toNat) hb (by
   have hbb : ((b : Int) : Rat) = ((b.toNat : Nat) : Rat):=by rw [← Rat.intCast_natCast,Int.toNat_of_nonneg (by omega)]
   have hb0 : ((b.toNat : Nat) : Rat) ≠ 0:=fun z=>by have:=Rat.natCast_eq_zero_iff.mp z; omega
   rw [Rat.mkRat_eq_div,hbb,Rat.div_mul_cancel hb0])
 refine ⟨mkRat t b.toNat,?_,?_,?_⟩
 · unfold fq
   rw [h1,h2]
   exact e
 · rw [h1]
   exact Nat.le_trans (Int.natAbs_ediv_le_natAbs _ _) st
 · have : ((mkRat t b.toNat).den : Int).natAbs ≤ 2 ^ y:=by
     rw [h2]
     exact Nat.le_trans (Int.natAbs_ediv_le_natAbs _ _) sb
   rwa [Int.natAbs_natCast] at this
end K12
namespace K12
open PySem PySem.Spec L2 Sv
open Ev (D aQ aU ai)
theorem t40 : (10 : Nat) ^ 40 ≤ 2 ^ 133:=by decide +kernel
theorem ke {k : Nat} (hk : k < 3) (p : Int) : ∃ q : Rat,dO [.int (k : Nat),.int p] = .ok (fq q) ∧ Sz 4 3 q:=by
 have m5:=sZ p 5
 have m10:=sZ p 10
 have m19:=sZ p 19
 have m6 : ∀ z : Int,z2 .mod (.int z) (.int 6) = .ok (.int (z % 6)):=fun z=>gP (by decide)
 have f10 : z2 .fdiv (.int p) (.int 10) = .ok (.int (p / 10)):=eA (by decide) (gu (by decide))
 have f19 : z2 .fdiv (.int p) (.int 19) = .ok (.int (p / 19)):=eA (by decide) (gu (by decide))
 match k,hk with
 | 0,_=>
   obtain ⟨q,e,h⟩:=sV (t:=p % 19 - 9) (b:=1 + p / 19 % 6) (x:=4) (y:=3) (by omega) (by omega) (by omega) (by decide)
   refine ⟨q,?_,h⟩
   have z1 : ¬ (((0 : Nat) : Int) = 1):=by decide
   have z2' : ¬ (((0 : Nat) : Int) = 2):=by decide
   have z3 : ¬ (((0 : Nat) : Int) = 3):=by decide
   rw [fO]
   unfold fq gW at e ⊢
   simp only [cc,af,aG,cx,aW,iE,aM,ah,ae,bI,aE,ba,aC,ag,gp,mO,ay,ar,aN,cv,ax,bQ,aF,au,Ou.aa,aw,aA,cJ,bS,iF,wR,List.getElem?_cons_zero,List.getElem?_cons_succ,List.set_cons_zero,List.set_cons_succ,List.contains_nil,Option.isSome_some,Bool.and_true,Bool.false_eq_true,if_false,Nat.min_def,decide_false,and_true,eX,z1,z2',z3,decide_false,m19,f19,m6,e]
 | 1,_=>
   refine ⟨((p % 5 - 2 : Int) : Rat),?_,?_,?_⟩
   · have z1 : (((1 : Nat) : Int) = 1):=rfl
     rw [fO]
     unfold fq gW
     rw [Rat.num_intCast,Rat.den_intCast]
     simp only [cc,af,aG,cx,aW,iE,ah,ae,aE,ba,aC,ag,ar,eC,ax,bQ,aF,au,ic,Ou.aa,aw,bS,wR,List.getElem?_cons_zero,List.getElem?_cons_succ,decide_true,z1,decide_true,m5]
   · rw [Rat.num_intCast]; omega
   · rw [Rat.den_intCast]; decide
 | 2,_=>
   obtain ⟨q,e,h⟩:=sV (t:=p % 10) (b:=1 + p / 10 % 6) (x:=4) (y:=3) (by omega) (by omega) (by omega) (by decide)
   refine ⟨q,?_,h⟩
   have z1 : ¬ (((2 : Nat) : Int) = 1):=by decide
   have z2' : (((2 : Nat) : Int) = 2):=rfl
   have z3 : ¬ (((2 : Nat) : Int) = 3):=by decide
   rw [fO]
   unfold fq gW at e ⊢
   simp only [cc,af,aG,cx,aW,iE,aM,ah,ae,bI,aE,ba,aC,ag,gp,mO,ay,ar,aN,eC,cv,ax,bQ,aF,au,Ou.aa,aw,aA,cJ,bS,iF,List.getElem?_cons_zero,List.getElem?_cons_succ,List.set_cons_zero,List.set_cons_succ,List.contains_nil,Option.isSome_some,Bool.and_true,Bool.false_eq_true,if_false,Nat.min_def,decide_true,decide_false,and_true,eX,z1,z2',z3,decide_false,decide_true,m10,f10,m6,e,show ¬ ((2 : Int) = 1) by decide,show ¬ ((2 : Int) = 3) by decide]
theorem yC {k : Nat} (hk : k < 4) (p : Int) : ∃ q : Rat,dO [.int (k : Nat),.int p] = .ok (fq q) ∧ Sz 133 133 q:=by
 by_cases k3 : k = 3
 · subst k3
   have m2:=sZ p 2
   have f2 : z2 .fdiv (.int p) (.int 2) = .ok (.int (p / 2)):=eA (by decide) (gu (by decide))
   have mp : ∀ z : Int,z2 .mod (.int z) (.int (10 ^ 40)) = .ok (.int (z % 10 ^ 40)):=fun z=>gP (by decide)
   have mq : ∀ z : Int,z2 .mod (.int z) (.int (10 ^ 40 - 1)) = .ok (.int (z % (10 ^ 40 - 1))):=fun z=>gP (by decide)
   have t2 : z2 .mul (.int 2) (.int (p % 2)) = .ok (.int (2 * (p % 2))):=eW (fK (by decide))
   have tt : ∀ z : Int,z2 .mul (.int z) (.int (1 - 2 * (p % 2))) = .ok (.int (z * (1 - 2 * (p % 2)))):=fun z=>eW (eS (by omega))
   have t4 : z2 .mul (.int 2) (.int (10 ^ 40)) = .ok (.int (2 * 10 ^ 40)):=eW (fK (by decide))
   have f40 : z2 .fdiv (.int p) (.int (2 * 10 ^ 40)) = .ok (.int (p / (2 * 10 ^ 40))):=eA (by decide) (gu (by decide))
   have hz : 0 ≤ p / 2 % 10 ^ 40 ∧ p / 2 % 10 ^ 40 < 10 ^ 40:=⟨Int.emod_nonneg _ (by decide),Int.emod_lt_of_pos _ (by decide)⟩
   have hy : 0 ≤ p / (2 * 10 ^ 40) % (10 ^ 40 - 1) ∧ p / (2 * 10 ^ 40) % (10 ^ 40 - 1) < 10 ^ 40 - 1:=⟨Int.emod_nonneg _ (by decide),Int.emod_lt_of_pos _ (by decide)⟩
   have st : (p / 2 % 10 ^ 40 * (1 - 2 * (p % 2))).natAbs ≤ 10 ^ 40:=by
     rcases (by omega : p % 2 = 0 ∨ p % 2 = 1) with q | q
     · rw [q]; omega
     · rw [q]; omega
   have sb : (1 + p / (2 * 10 ^ 40) % (10 ^ 40 - 1)).natAbs ≤ 10 ^ 40:=by omega
   obtain ⟨q,e,h⟩:=sV (t:=p / 2 % 10 ^ 40 * (1 - 2 * (p % 2))) (b:=1 + p / (2 * 10 ^ 40) % (10 ^ 40 - 1)) (x:=133) (y:=133) (by omega) (Nat.le_trans st t40) (Nat.le_trans sb t40) (by decide)
   refine ⟨q,?_,h⟩
   have z1 : ¬ (((3 : Nat) : Int) = 1):=by decide
   have z3 : (((3 : Nat) : Int) = 3):=rfl
   rw [fO]
   unfold fq gW at e ⊢
   simp only [cc,af,aG,cx,aW,iE,aM,ah,ae,bI,aE,ba,aC,ag,gp,mO,ay,ar,aN,eC,cv,ax,bQ,aF,au,Ou.aa,aw,aA,cJ,bS,iF,wR,List.getElem?_cons_zero,List.getElem?_cons_succ,List.set_cons_zero,List.set_cons_succ,List.contains_nil,Option.isSome_some,Bool.and_true,Bool.false_eq_true,if_false,Nat.min_def,decide_true,decide_false,and_true,eX,z1,z3,decide_false,decide_true,show ¬ ((3 : Int) = 1) by decide,f2,p40,mp,m2,t2,tt,t4,f40,mq,e]
 · obtain ⟨q,e,h⟩:=ke (show k < 3 by omega) p
   exact ⟨q,e,h.mono (by decide) (by decide)⟩
theorem table_at {a b k : Nat} (c : Int) (m w : Nat) (hm : m ≤ 7) (hw : w ≤ 7) (hk : k < 4) (hu : ∀ p : Int,∃ q : Rat,dO [.int (k : Nat),.int p] = .ok (fq q) ∧ Sz a b q) : ∃ Q : Nat → Nat → Rat,(∀ i j,Sz a b (Q i j)) ∧ nj [.int c,.int (m : Nat),.int (w : Nat),.int (k : Nat)] = .ok (gq m w Q):=by
 obtain ⟨F,hF,e⟩:=EZ (Ψ:=ni) (ΨM:=rh) (μ:=rm) (nb:=1) (nu:=5) (R:=fun t u=>∃ q : Rat,q.num = t ∧ ((q.den : Nat) : Int) = u ∧ Sz a b q) rfl (Du rfl) c m w k hm hw hk fun p=>by
   obtain ⟨q,e,h⟩:=hu p
   rw [kK]
   exact ⟨_,_,e,q,rfl,rfl,h⟩
 refine ⟨fun i j=>Classical.choose (hF i j),fun i j=>(Classical.choose_spec (hF i j)).2.2,?_⟩
 refine e.trans (congrArg Ou.ok ?_)
 refine kO (F:=fun i j=>fr2 (F i j)) fun i _ j _=>?_
 obtain ⟨h1,h2,_⟩:=Classical.choose_spec (hF i j)
 unfold fr2 fq
 rw [h1,h2]
noncomputable def l4 (a b c d : Nat) : T:=.lst [.int (a : Nat),.int (b : Nat),.int (c : Nat),.int (d : Nat)]
theorem Dr {r0 r1 r2 r3 r4 r5 r6 r7 r8 : Int} {r : List T} (h1 : 0 ≤ r1 ∧ r1 < 4) (h2 : 0 ≤ r2 ∧ r2 < 4) (h3 : 0 ≤ r3 ∧ r3 < 4) (h4 : 0 ≤ r4 ∧ r4 < 4) (h5 : 0 ≤ r5 ∧ r5 < 7) (h6 : 0 ≤ r6 ∧ r6 < 7) (h7 : 0 ≤ r7 ∧ r7 < 7) (h8 : 0 ≤ r8 ∧ r8 < 7) (hr : r.length = 3) :
   ∃ a b c d : Nat,(1 ≤ a ∧ a ≤ 7) ∧ (1 ≤ b ∧ b ≤ 7) ∧ (1 ≤ c ∧ c ≤ 7) ∧ (1 ≤ d ∧ d ≤ 7) ∧ kf [.lst (.int r0 :: .int r1 :: .int r2 :: .int r3 :: .int r4 :: .int r5 :: .int r6 :: .int r7 :: .int r8 :: r)] = .ok (l4 a b c d):=by
 match r,hr with
 | [x,y,z],_=>
   have ad : ∀ (τ : aB) (lo hi : Nat) (a b c d : Int),(0 ≤ a ∧ 0 ≤ b ∧ 0 ≤ c ∧ 0 ≤ d) → EI [.int r0,.int r1,.int r2,.int r3,.int r4,.int r5,.int r6,.int r7,.int r8,x,y,z] (some ((lo : Nat) : Int)) (some ((hi : Nat) : Int)) = [.int a,.int b,.int c,.int d] → yE iN (.comp [none] (.nm 0) (.seq (.sl (.var 0) (.cI ((lo : Nat) : Int)) (.cI ((hi : Nat) : Int)))) [] (.op .add (.cI 1) (.var 0))) [some (.lst [.int r0,.int r1,.int r2,.int r3,.int r4,.int r5,.int r6,.int r7,.int r8,x,y,z])] = .ok (l4 (1 + a).toNat (1 + b).toNat (1 + c).toNat (1 + d).toNat):=fun τ lo hi a b c d hh hc=>by
     unfold l4
     rw [show (((1 + a).toNat : Nat) : Int) = 1 + a by omega,show (((1 + b).toNat : Nat) : Int) = 1 + b by omega,show (((1 + c).toNat : Nat) : Int) = 1 + c by omega,show (((1 + d).toNat : Nat) : Int) = 1 + d by omega]
     refine cb (xs:=[.int a,.int b,.int c,.int d]) ?_ (show 4 < ai by decide) ?_
     · rw [dk,FO,af,show aw [some (.lst [.int r0,.int r1,.int r2,.int r3,.int r4,.int r5,.int r6,.int r7,.int r8,x,y,z])] 0 = .ok (.lst [.int r0,.int r1,.int r2,.int r3,.int r4,.int r5,.int r6,.int r7,.int r8,x,y,z]) from rfl,Ou.aa,aG,Ou.aa,show nO (.cI ((lo : Nat) : Int)) (.int ((lo : Nat) : Int)) = some (some ((lo : Nat) : Int)) from rfl,cw,aG,Ou.aa,show nO (.cI ((hi : Nat) : Int)) (.int ((hi : Nat) : Int)) = some (some ((hi : Nat) : Int)) from rfl,cw,zSl,hc,Ou.aa,kN]
     · rw [show [T.int a,.int b,.int c,.int d] = [a,b,c,d].map T.int from rfl,show [T.int (1 + a),.int (1 + b),.int (1 + c),.int (1 + d)] = [a,b,c,d].map fun i=>T.int (1 + i) from rfl]
       exact bw _ fun i _=>by simp only [af,aG,cx,bM,Ou.aa,aw,aA,eT,iF,aq,List.getElem?_cons_zero,List.set_cons_zero,List.map_cons,List.map_nil,List.nil_append,List.cons_append,Option.bind_none,if_true,aq]
   rw [tf]
   by_cases h : r0 = 1
   · refine ⟨(1 + r5).toNat,(1 + r6).toNat,(1 + r7).toNat,(1 + r8).toNat,by omega,by omega,by omega,by omega,?_⟩
     have e:=ad [] 5 9 r5 r6 r7 r8 (by omega) rfl
     have e : yE iN (.comp [none] (.nm 0) (.seq (.sl (.var 0) (.cI 5) (.cI 9))) [] (.op .add (.cI 1) (.var 0))) [some (.lst [.int r0,.int r1,.int r2,.int r3,.int r4,.int r5,.int r6,.int r7,.int r8,x,y,z])] = _:=e
     unfold l4 at e ⊢
     simp only [eD,af,aG,aW,dB,aE,ba,aC,ag,ar,eC,ax,bQ,aF,au,Ou.aa,aw,bS,vw,List.getElem?_cons_zero,e,show decide (r0 = 1) = true from decide_eq_true h]
   · refine ⟨(1 + r1).toNat,(1 + r2).toNat,(1 + r3).toNat,(1 + r4).toNat,by omega,by omega,by omega,by omega,?_⟩
     have e:=ad [] 1 5 r1 r2 r3 r4 (by omega) rfl
     have e : yE iN (.comp [none] (.nm 0) (.seq (.sl (.var 0) (.cI 1) (.cI 5))) [] (.op .add (.cI 1) (.var 0))) [some (.lst [.int r0,.int r1,.int r2,.int r3,.int r4,.int r5,.int r6,.int r7,.int r8,x,y,z])] = _:=e
     unfold l4 at e ⊢
     simp only [eD,af,aG,aW,dB,aE,ba,aC,ag,ay,ar,cv,ax,bQ,aF,au,Ou.aa,aw,bS,vw,List.getElem?_cons_zero,decide_false,e,h,decide_false]
end K12
namespace K12
open PySem PySem.Spec L2 Sv
open Ev (D aQ aU ai)
mutual
theorem vd : ∀ d : T,clT d = true → eqT d d = true
 | .non,_=>rfl
 | .bl b,_=>by simp [eqT]
 | .int i,_=>by simp [eqT]
 | .str x,_=>by simp [eqT]
 | .tup xs,h=>by rw [eqT]; exact nH xs (by simpa [clT] using h)
 | .lst xs,h=>by rw [eqT]; exact nH xs (by simpa [clT] using h)
 | .exo c,h=>by simp [clT] at h
theorem nH : ∀ d : List T,kW d = true → qv d d = true
 | [],_=>rfl
 | x :: xs,h=>by
   rw [kW,Bool.and_eq_true] at h
   rw [qv,vd x h.1,nH xs h.2]
   rfl
end
theorem ne_self {d : T} (h : eqK d) : zC .ne d d = some false:=by
 show (if eqK _ ∧ eqK _ then some (!eqT _ _) else none) = some false
 rw [if_pos ⟨h,h⟩,vd d h.1]
 rfl
theorem u9 {α : Type} {f : α → T} (h : ∀ a,clT (f a) = true) : ∀ l : List α,kW (l.map f) = true
 | []=>rfl
 | a :: l=>by rw [List.map_cons,kW,h a,u9 h l]; rfl
theorem vj {α : Type} {f : α → T} {k : Nat} (h : ∀ a,dpT (f a) ≤ k) : ∀ l : List α,pU (l.map f) ≤ k
 | []=>Nat.zero_le _
 | a :: l=>by rw [List.map_cons,pU]; exact Nat.max_le.mpr ⟨h a,vj h l⟩
theorem uw {n k : Nat} {G : Nat → T} (h : ∀ i,clT (G i) = true ∧ dpT (G i) ≤ k) : clT (line n G) = true ∧ dpT (line n G) ≤ k + 1:=by
 refine ⟨by rw [line,clT]; exact u9 (fun i=>(h i).1) _,?_⟩
 have:=vj (f:=G) (k:=k) (fun i=>(h i).2) (List.range n)
 rw [line,dpT]; omega
theorem A0 (m w : Nat) (F : Nat → Nat → Rat) : clT (gq m w F) = true ∧ dpT (gq m w F) ≤ 3:=
 uw fun i=>uw fun j=>⟨rfl,by simp [fq,gW,dpT,pU]⟩
theorem x8 (m w : Nat) (F : Nat → Nat → Rat) : zC .ne (gq m w F) (gq m w F) = some false:=by
 obtain ⟨a1,a2⟩:=A0 m w F
 exact ne_self ⟨a1,by omega⟩
theorem zk (m w n v : Nat) (F H : Nat → Nat → Rat) : zC .ne (.lst [gq m w F,gq n v H]) (.lst [gq m w F,gq n v H]) = some false:=by
 obtain ⟨a1,a2⟩:=A0 m w F
 obtain ⟨b1,b2⟩:=A0 n v H
 refine ne_self ⟨by simp only [clT,kW,a1,b1,Bool.and_self],?_⟩
 simp only [dpT,pU]
 omega
structure Plan (s0 s1 s2 A B a1 b1 a3 b3 : Nat) : Prop where
 f1 : Fit s1 A B A B
 z1 : A + A + s1 * (B + B) + s1 ≤ a1
 w1 : s1 * (B + B) ≤ b1
 f2 : Fit s2 a1 b1 4 3
 f3 : Fit s2 A B 4 3
 z3 : A + 4 + s2 * (B + 3) + s2 ≤ a3
 w3 : s2 * (B + 3) ≤ b3
 f4 : Fit s1 A B a3 b3
 f5 : Fit s1 A B 0 0
 f6 : Fit s0 0 0 A B
theorem Bw {s0 s1 s2 : Nat} (h0 : s0 ≤ 3) (h1 : s1 ≤ 3) (h2 : s2 ≤ 3) : Plan s0 s1 s2 133 133 1067 798 548 408:=
 ⟨⟨by omega,by omega,by omega,by omega,by omega,by omega⟩,by omega,by omega,⟨by omega,by omega,by omega,by omega,by omega,by omega⟩,⟨by omega,by omega,by omega,by omega,by omega,by omega⟩,by omega,by omega,
   ⟨by omega,by omega,by omega,by omega,by omega,by omega⟩,⟨by omega,by omega,by omega,by omega,by omega,by omega⟩,⟨by omega,by omega,by omega,by omega,by omega,by omega⟩⟩
theorem xb {s0 s1 s2 : Nat} (h0 : s0 ≤ 7) (h1 : s1 ≤ 7) (h2 : s2 ≤ 7) : Plan s0 s1 s2 4 3 57 42 57 42:=
 ⟨⟨by omega,by omega,by omega,by omega,by omega,by omega⟩,by omega,by omega,⟨by omega,by omega,by omega,by omega,by omega,by omega⟩,⟨by omega,by omega,by omega,by omega,by omega,by omega⟩,by omega,by omega,
   ⟨by omega,by omega,by omega,by omega,by omega,by omega⟩,⟨by omega,by omega,by omega,by omega,by omega,by omega⟩,⟨by omega,by omega,by omega,by omega,by omega,by omega⟩⟩
theorem FI (i j : Nat) : Sz 0 0 (dq i j):=by
 unfold dq
 split
 · exact ⟨by decide,by decide⟩
 · exact ⟨by decide,by decide⟩
section
variable {s0 s1 s2 s3 A B a1 b1 a3 b3 : Nat} {Q1 Q2 Q3 : Nat → Nat → Rat}
theorem p1 (pl : Plan s0 s1 s2 A B a1 b1 a3 b3) (h0 : 1 ≤ s0 ∧ s0 ≤ 7) (h1 : 1 ≤ s1 ∧ s1 ≤ 7) (h2 : 1 ≤ s2 ∧ s2 ≤ 7) (g1 : ∀ i j,Sz A B (Q1 i j)) (g2 : ∀ i j,Sz A B (Q2 i j)) : bc [gq s0 s1 Q1,gq s1 s2 Q2] = .ok (gq s0 s2 (mulQ s1 Q1 Q2)):=
 fH pl.f1 h0 h1.1 h2 (fun i _ k _=>g1 i k) fun k _ j _=>g2 k j
theorem d1 (pl : Plan s0 s1 s2 A B a1 b1 a3 b3) (h0 : 1 ≤ s0 ∧ s0 ≤ 7) (h1 : 1 ≤ s1 ∧ s1 ≤ 7) (h2 : 1 ≤ s2 ∧ s2 ≤ 7) (g1 : ∀ i j,Sz A B (Q1 i j)) (g2 : ∀ i j,Sz A B (Q2 i j)) : j8 [gq s0 s1 Q1,gq s1 s2 Q2] = .ok (gq s0 s2 (mulQ s1 Q1 Q2)):=
 HN pl.f1 h1.1 h0.2 h2.2 (fun i _ k _=>g1 i k) fun k _ j _=>g2 k j
theorem szP (pl : Plan s0 s1 s2 A B a1 b1 a3 b3) (g1 : ∀ i j,Sz A B (Q1 i j)) (g2 : ∀ i j,Sz A B (Q2 i j)) (i j : Nat) : Sz a1 b1 (mulQ s1 Q1 Q2 i j):=(yG (fun k _=>g1 i k) fun k _=>g2 k j).mono pl.z1 pl.w1
theorem k1 (pl : Plan s0 s1 s2 A B a1 b1 a3 b3) (g1 : ∀ i j,Sz A B (Q1 i j)) (g2 : ∀ i j,Sz A B (Q2 i j)) : dE [gq s0 s2 (mulQ s1 Q1 Q2),gq s0 s2 (mulQ s1 Q1 Q2)] = .ok (.bl true):=
 ET fun i _ j _=>.of (szP pl g1 g2 i j) (by have:=pl.f2.ha; omega) (by have:=pl.f2.hb; omega)
theorem p2 (pl : Plan s0 s1 s2 A B a1 b1 a3 b3) (h0 : 1 ≤ s0 ∧ s0 ≤ 7) (h2 : 1 ≤ s2 ∧ s2 ≤ 7) (h3 : 1 ≤ s3 ∧ s3 ≤ 7) (g1 : ∀ i j,Sz A B (Q1 i j)) (g2 : ∀ i j,Sz A B (Q2 i j)) (g3 : ∀ i j,Sz 4 3 (Q3 i j)) : bc [gq s0 s2 (mulQ s1 Q1 Q2),gq s2 s3 Q3] = .ok (gq s0 s3 (mulQ s2 (mulQ s1 Q1 Q2) Q3)):=
 fH pl.f2 h0 h2.1 h3 (fun i _ k _=>szP pl g1 g2 i k) fun k _ j _=>g3 k j
theorem p3 (pl : Plan s0 s1 s2 A B a1 b1 a3 b3) (h1 : 1 ≤ s1 ∧ s1 ≤ 7) (h2 : 1 ≤ s2 ∧ s2 ≤ 7) (h3 : 1 ≤ s3 ∧ s3 ≤ 7) (g2 : ∀ i j,Sz A B (Q2 i j)) (g3 : ∀ i j,Sz 4 3 (Q3 i j)) : bc [gq s1 s2 Q2,gq s2 s3 Q3] = .ok (gq s1 s3 (mulQ s2 Q2 Q3)):=
 fH pl.f3 h1 h2.1 h3 (fun i _ k _=>g2 i k) fun k _ j _=>g3 k j
theorem p4 (pl : Plan s0 s1 s2 A B a1 b1 a3 b3) (h0 : 1 ≤ s0 ∧ s0 ≤ 7) (h1 : 1 ≤ s1 ∧ s1 ≤ 7) (h3 : 1 ≤ s3 ∧ s3 ≤ 7) (g1 : ∀ i j,Sz A B (Q1 i j)) (g2 : ∀ i j,Sz A B (Q2 i j)) (g3 : ∀ i j,Sz 4 3 (Q3 i j)) : bc [gq s0 s1 Q1,gq s1 s3 (mulQ s2 Q2 Q3)] = .ok (gq s0 s3 (mulQ s2 (mulQ s1 Q1 Q2) Q3)):=by
 have e : mulQ s1 Q1 (mulQ s2 Q2 Q3) = mulQ s2 (mulQ s1 Q1 Q2) Q3:=by
   funext i j
   exact (xg (fun l=>Q1 i l) (fun l k=>Q2 l k) (fun k=>Q3 k j) s1 s2).symm
 rw [← e]
 exact fH pl.f4 h0 h1.1 h3 (fun i _ k _=>g1 i k) fun k _ j _=>(yG (fun l _=>g2 k l) fun l _=>g3 l j).mono pl.z3 pl.w3
theorem p5 (pl : Plan s0 s1 s2 A B a1 b1 a3 b3) (h0 : 1 ≤ s0 ∧ s0 ≤ 7) (h1 : 1 ≤ s1 ∧ s1 ≤ 7) (g1 : ∀ i j,Sz A B (Q1 i j)) : bc [gq s0 s1 Q1,gq s1 s1 dq] = .ok (gq s0 s1 Q1):=by
 rw [fH pl.f5 h0 h1.1 h1 (fun i _ k _=>g1 i k) fun k _ j _=>FI k j]
 congr 1
 exact kO fun i _ j hj=>congrArg fq (nD (fun k=>Q1 i k) j s1 hj)
theorem p6 (pl : Plan s0 s1 s2 A B a1 b1 a3 b3) (h0 : 1 ≤ s0 ∧ s0 ≤ 7) (h1 : 1 ≤ s1 ∧ s1 ≤ 7) (g1 : ∀ i j,Sz A B (Q1 i j)) : bc [gq s0 s0 dq,gq s0 s1 Q1] = .ok (gq s0 s1 Q1):=by
 rw [fH pl.f6 h0 h0.1 h1 (fun i _ k _=>FI i k) fun k _ j _=>g1 k j]
 congr 1
 exact kO fun i hi j _=>congrArg fq (xJ (fun k=>Q1 k j) i s0 hi)
end
end K12
namespace K12
open PySem PySem.Spec L2 Sv
open Ev (D aQ aU ai)
section
variable {N : Nat} {τ τ' : aB} {o : Own} {e : E} {x : T}
theorem fh {s : S} {ss : List S} {own own' : Own} (h : yS aP bO ⟨aO,[11],0⟩ N s τ own = .ok (.nx τ' own')) : ySs aP bO ⟨aO,[11],0⟩ N (s :: ss) τ own = ySs aP bO ⟨aO,[11],0⟩ N ss τ' own':=by
 rw [ag,h,Ou.aa,ay]
noncomputable def Ow (o : Own) : Prop:=o = [] ∨ o = [(11,1)]
theorem zU {g : Nat → Nat → Bool} (ho : Ow o) (hg : g 11 1 = false) : dn g o = o:=by
 rcases ho with rfl | rfl
 · rfl
 · rw [dn,if_neg (by rw [hg]; decide)]; rfl
theorem jZ {i : Nat} (hi : (11 == i) = false) (hm : kH ⟨aO,[11],0⟩ e = false) (he : yE aP e τ = .ok x) (ht : aA (.nm i) x τ = some τ') (hg : gU aO 0 e 11 1 = false) (ho : Ow o) : yS aP bO ⟨aO,[11],0⟩ N (.set (.nm i) e) τ o = .ok (.nx τ' o):=by
 have hi' : (i == 11) = false:=by
   cases h : i == 11
   · rfl
   · rw [beq_iff_eq] at h; subst h; cases hi
 rw [bI _ _ _ _ _ _ _ _ hm,he,Ou.aa,ht,aN]
 show Ou.ok (FlT.nx τ' (cJ ⟨aO,[11],0⟩ (dn (gU aO 0 e) o) (.nm i) e x τ)) = _
 rw [zU ho hg]
 have c : ([11] : List Nat).contains i = false:=by rw [List.contains_cons,hi']; rfl
 unfold cJ
 simp only [c,Bool.false_and,Bool.false_eq_true,if_false]
 rw [zU ho]
 show ([i] : List Nat).contains 11 = false
 rw [List.contains_cons,hi]
 rfl
theorem sf {a : List S} {own own' : Own} (he : yE aP e τ = .ok (.bl false)) (hd : dn (gU aO 2 e) own = own') : yS aP bO ⟨aO,[11],0⟩ N (.ite e a []) τ own = .ok (.nx τ own'):=by
 rw [ba,he,Ou.aa,cv,aC]
 exact congrArg (fun o=>Ou.ok (FlT.nx τ o)) hd
end
section
variable {Ψ : FnT} {τ : aB} {e e' : E} {x y z : T} {f : Nat}
theorem CT (h : Ψ f [x] = .ok z) (he : yE Ψ e τ = .ok x) : yE Ψ (.call f [e]) τ = .ok z:=by
 rw [aM,ae,he,Ou.aa,ah,Ou.aa,Ou.aa,h]
theorem call2 (h : Ψ f [x,y] = .ok z) (he : yE Ψ e τ = .ok x) (he' : yE Ψ e' τ = .ok y) : yE Ψ (.call f [e,e']) τ = .ok z:=by
 rw [aM,ae,he,Ou.aa,ae,he',Ou.aa,ah,Ou.aa,Ou.aa,Ou.aa,h]
theorem IE (he : yE Ψ e τ = .ok x) (he' : yE Ψ e' τ = .ok y) : yE Ψ (.lst [e,e']) τ = .ok (.lst [x,y]):=by
 rw [kG,ae,he,Ou.aa,ae,he',Ou.aa,ah,Ou.aa,Ou.aa,Ou.aa,ic]
theorem uV (he : yE Ψ e τ = .ok x) (he' : yE Ψ e' τ = .ok x) (h : zC .ne x x = some false) : yE Ψ (.cmp .ne e e') τ = .ok (.bl false):=by
 rw [aW,he,Ou.aa,he',Ou.aa,h,ax]
theorem A4 (he : yE Ψ e τ = .ok (.bl true)) : yE Ψ (.not e) τ = .ok (.bl false):=by
 rw [dF,he,Ou.aa,dH]; rfl
theorem Dh (he : yE Ψ e τ = .ok (.bl false)) (he' : yE Ψ e' τ = .ok (.bl false)) : yE Ψ (.or e e') τ = .ok (.bl false):=by
 rw [gM,he,Ou.aa,iH,he']
theorem aR {i : Nat} (h : aw τ i = .ok x) : yE Ψ (.var i) τ = .ok x:=by rw [af,h]
end
theorem yH {Ψ : FnT} {τ : aB} {i m w : Nat} {F : Nat → Nat → Rat} (hm : m ≤ 7) (h : aw τ i = .ok (gq m w F)) : yE Ψ (.comp [none] (.nm 0) (.seq (.var i)) [] (.bi .list [(.var 0)])) τ = .ok (gq m w F):=by
 refine cb (um (n:=m) (G:=fun i=>line w fun j=>fq (F i j)) (aR h)) (by rw [List.length_map,List.length_range]; exact cL hm) (bw _ fun j hj=>?_)
 unfold line
 simp only [af,bu,ah,ae,bM,Ou.aa,aw,aA,eT,zG,aq,List.getElem?_cons_zero,List.set_cons_zero,List.map_cons,List.map_nil,List.nil_append,List.cons_append,Option.bind_none,if_true,aq]
section
variable {N s0 s1 s2 s3 A B a1 b1 a3 b3 : Nat} {Q1 Q2 Q3 : Nat → Nat → Rat} {r0 r1 r2 r3 r5 r9 r10 r11 : Option T} {o : Own}
noncomputable def tv (s0 s1 s2 s3 : Nat) (Q1 Q2 Q3 : Nat → Nat → Rat) (r0 r1 r2 r3 r5 r9 r10 r11 : Option T) : aB:=[r0,r1,r2,r3,some (l4 s0 s1 s2 s3),r5,some (gq s0 s1 Q1),some (gq s1 s2 Q2),some (gq s2 s3 Q3),r9,r10,r11]
noncomputable def kept (s0 s1 s2 : Nat) (Q1 Q2 : Nat → Nat → Rat) : T:=.lst [gq s0 s1 Q1,gq s1 s2 Q2]
noncomputable def c10 : S:=.set (.nm 9) (.lst [(.comp [none] (.nm 0) (.seq (.var 6)) [] (.bi .list [(.var 0)])),(.comp [none] (.nm 0) (.seq (.var 7)) [] (.bi .list [(.var 0)]))])
theorem q10 (h0 : s0 ≤ 7) (h1 : s1 ≤ 7) (ho : Ow o) : yS aP bO ⟨aO,[11],0⟩ N c10 (tv s0 s1 s2 s3 Q1 Q2 Q3 r0 r1 r2 r3 r5 r9 r10 r11) o = .ok (.nx (tv s0 s1 s2 s3 Q1 Q2 Q3 r0 r1 r2 r3 r5 (some (kept s0 s1 s2 Q1 Q2)) r10 r11) o):=
 jZ rfl (by simp only [jJ]) (IE (yH h0 rfl) (yH h1 rfl)) rfl (by simp [gU,gts,aY,dY]) ho
noncomputable def c11 : S:=.set (.nm 10) (.call 7 [(.var 6),(.var 7)])
theorem q11 (d : j8 [gq s0 s1 Q1,gq s1 s2 Q2] = .ok (gq s0 s2 (mulQ s1 Q1 Q2))) (ho : Ow o) : yS aP bO ⟨aO,[11],0⟩ N c11 (tv s0 s1 s2 s3 Q1 Q2 Q3 r0 r1 r2 r3 r5 r9 r10 r11) o = .ok (.nx (tv s0 s1 s2 s3 Q1 Q2 Q3 r0 r1 r2 r3 r5 r9 (some (gq s0 s2 (mulQ s1 Q1 Q2))) r11) o):=by
 rw [← u7] at d
 exact jZ rfl (by simp only [bJ,bR,d0,Bool.and_false,Nat.lt_irrefl,decide_false,and_false,oz]) (call2 d (aR rfl) (aR rfl)) rfl (by simp [gU,gts,aY,oz]) ho
noncomputable def c12 : S:=.set (.nm 11) (.call 24 [(.var 6),(.var 7)])
theorem q12 (d : bc [gq s0 s1 Q1,gq s1 s2 Q2] = .ok (gq s0 s2 (mulQ s1 Q1 Q2))) (ho : Ow o) : yS aP bO ⟨aO,[11],0⟩ N c12 (tv s0 s1 s2 s3 Q1 Q2 Q3 r0 r1 r2 r3 r5 r9 r10 r11) o = .ok (.nx (tv s0 s1 s2 s3 Q1 Q2 Q3 r0 r1 r2 r3 r5 r9 r10 (some (gq s0 s2 (mulQ s1 Q1 Q2)))) [(11,2)]):=by
 rw [← fU] at d
 have c:=call2 (τ:=tv s0 s1 s2 s3 Q1 Q2 Q3 r0 r1 r2 r3 r5 r9 r10 r11) (e:=.var 6) (e':=.var 7) d (aR rfl) (aR rfl)
 have lv : lvT (gq s0 s2 (mulQ s1 Q1 Q2)) = 2:=vc _ _ _
 have ow : cJ ⟨aO,[11],0⟩ (dn (gU aO 0 (.call 24 [(.var 6),(.var 7)])) o) (.nm 11) (.call 24 [(.var 6),(.var 7)]) (gq s0 s2 (mulQ s1 Q1 Q2)) (tv s0 s1 s2 s3 Q1 Q2 Q3 r0 r1 r2 r3 r5 r9 r10 r11) = [(11,2)]:=by
   unfold tv
   rcases ho with rfl | rfl <;> simp only [iT,au,bL,cJ,frg,iU,gts,aY,tgN,List.getElem?_cons_zero,List.getElem?_cons_succ,List.contains_cons,List.contains_nil,Option.isSome_some,Bool.and_true,Bool.and_false,Bool.or_false,Bool.false_eq_true,if_true,if_false,beq_self_eq_true,Nat.reduceBEq,Nat.reduceLT,Nat.min_def,decide_false,and_true,and_false,reduceCtorEq,Nat.reduceEqDiff,Nat.reduceLeDiff,ee,lv]
 rw [c12,bI _ _ _ _ _ _ _ _ (by simp only [bJ,bR,d0,Bool.and_false,Nat.lt_irrefl,decide_false,and_false,ee]),c,Ou.aa]
 show pw _ (cJ ⟨aO,[11],0⟩ (dn (gU aO 0 (.call 24 [(.var 6),(.var 7)])) o) (.nm 11) (.call 24 [(.var 6),(.var 7)]) (gq s0 s2 (mulQ s1 Q1 Q2)) (tv s0 s1 s2 s3 Q1 Q2 Q3 r0 r1 r2 r3 r5 r9 r10 r11)) = _
 rw [ow]
 rfl
end
end K12
namespace K12
open PySem PySem.Spec L2 Sv
open Ev (D aQ aU ai)
section
variable {N s0 s1 s2 s3 A B a1 b1 a3 b3 : Nat} {Q1 Q2 Q3 : Nat → Nat → Rat} {r0 r1 r2 r3 r5 r9 r10 r11 : Option T} {o : Own}
noncomputable def c13 : S:=.ite (.or (.not (.call 28 [(.var 11),(.var 10)])) (.cmp .ne (.lst [(.var 6),(.var 7)]) (.var 9))) [.ret (.cB false)] []
theorem q13 (k : dE [gq s0 s2 (mulQ s1 Q1 Q2),gq s0 s2 (mulQ s1 Q1 Q2)] = .ok (.bl true)) : yS aP bO ⟨aO,[11],0⟩ N c13 (tv s0 s1 s2 s3 Q1 Q2 Q3 r0 r1 r2 r3 r5 (some (kept s0 s1 s2 Q1 Q2)) (some (gq s0 s2 (mulQ s1 Q1 Q2))) (some (gq s0 s2 (mulQ s1 Q1 Q2)))) [(11,2)] = .ok (.nx (tv s0 s1 s2 s3 Q1 Q2 Q3 r0 r1 r2 r3 r5 (some (kept s0 s1 s2 Q1 Q2)) (some (gq s0 s2 (mulQ s1 Q1 Q2))) (some (gq s0 s2 (mulQ s1 Q1 Q2)))) [(11,2)]):=by
 rw [← jB] at k
 exact sf (Dh (A4 (call2 k (aR rfl) (aR rfl))) (uV (IE (aR rfl) (aR rfl)) (aR rfl) (zk _ _ _ _ _ _))) (by simp only [au,bL,iU,gts,aY,Bool.and_true,Bool.and_false,Bool.or_false,Bool.false_eq_true,if_true,if_false,beq_self_eq_true,Nat.reduceBEq,Nat.reduceLT,Nat.lt_irrefl,decide_true,decide_false,and_true,and_false,jv])
noncomputable def c14 : S:=.ite (.cmp .ne (.call 24 [(.var 11),(.var 8)]) (.call 24 [(.var 6),(.call 24 [(.var 7),(.var 8)])])) [.ret (.cB false)] []
theorem q14 (t2 : bc [gq s0 s2 (mulQ s1 Q1 Q2),gq s2 s3 Q3] = .ok (gq s0 s3 (mulQ s2 (mulQ s1 Q1 Q2) Q3))) (t3 : bc [gq s1 s2 Q2,gq s2 s3 Q3] = .ok (gq s1 s3 (mulQ s2 Q2 Q3))) (t4 : bc [gq s0 s1 Q1,gq s1 s3 (mulQ s2 Q2 Q3)] = .ok (gq s0 s3 (mulQ s2 (mulQ s1 Q1 Q2) Q3))) :
   yS aP bO ⟨aO,[11],0⟩ N c14 (tv s0 s1 s2 s3 Q1 Q2 Q3 r0 r1 r2 r3 r5 r9 r10 (some (gq s0 s2 (mulQ s1 Q1 Q2)))) [(11,2)] = .ok (.nx (tv s0 s1 s2 s3 Q1 Q2 Q3 r0 r1 r2 r3 r5 r9 r10 (some (gq s0 s2 (mulQ s1 Q1 Q2)))) [(11,2)]):=by
 rw [← fU] at t2 t3 t4
 exact sf (uV (call2 t2 (aR rfl) (aR rfl)) (call2 t4 (aR rfl) (call2 t3 (aR rfl) (aR rfl))) (x8 _ _ _)) (by simp only [au,bL,iU,gts,aY,Bool.and_true,Bool.and_false,Bool.or_false,Bool.false_eq_true,if_true,if_false,beq_self_eq_true,Nat.reduceBEq,Nat.reduceLT,Nat.lt_irrefl,decide_false,and_true,and_false,ee])
noncomputable def c15 : S:=.mth .append (.ix (.var 11) (.cI 0)) [(.tup [(.cI 5),(.cI 1)])]
noncomputable def c16 : S:=.mth .pop (.var 11) []
theorem q15 {xs ys : List T} (h : ys.length < 8) : ∃ zs : List T,zs ≠ [] ∧ yS aP bO ⟨aO,[11],0⟩ N c15 (tv s0 s1 s2 s3 Q1 Q2 Q3 r0 r1 r2 r3 r5 r9 r10 (some (.lst (.lst ys :: xs)))) [(11,2)] = .ok (.nx (tv s0 s1 s2 s3 Q1 Q2 Q3 r0 r1 r2 r3 r5 r9 r10 (some (.lst zs))) [(11,2)]):=by
 refine ⟨.lst (ys ++ [.tup [.int 5,.int 1]]) :: xs,by simp,?_⟩
 have ap : zM .append ys [.tup [.int 5,.int 1]] = some (ys ++ [.tup [.int 5,.int 1]]):=td (Nat.lt_of_lt_of_le h (by decide))
 have ix : ixN (xs.length + 1) 0 = some 0:=by
   unfold ixN
   rw [if_pos (by decide),if_pos (by omega)]
   rfl
 unfold tv c15
 simp only [aG,iE,ah,ae,Fj,cw,iI,au,bL,ic,Ou.aa,aw,bY,intOf,kR,JG,gts,aY,v5,List.getElem?_cons_zero,List.getElem?_cons_succ,List.set_cons_zero,List.set_cons_succ,List.lookup_cons,Option.getD_some,Option.bind_some,Bool.and_true,Bool.or_false,Bool.false_eq_true,if_true,if_false,beq_self_eq_true,and_true,ap,ix,List.length_cons]
theorem q16 {xs : List T} (h : xs ≠ []) : ∃ zs : List T,yS aP bO ⟨aO,[11],0⟩ N c16 (tv s0 s1 s2 s3 Q1 Q2 Q3 r0 r1 r2 r3 r5 r9 r10 (some (.lst xs))) [(11,2)] = .ok (.nx (tv s0 s1 s2 s3 Q1 Q2 Q3 r0 r1 r2 r3 r5 r9 r10 (some (.lst zs))) [(11,1)]):=by
 refine ⟨xs.dropLast,?_⟩
 have ap : zM .pop xs [] = some xs.dropLast:=by
   rw [zM,if_neg]
   intro z
   exact h (List.length_eq_zero_iff.mp z)
 unfold tv c16
 simp only [ah,pj,cw,iI,au,bL,Ou.aa,aw,bY,qa,aY,sA,List.getElem?_cons_zero,List.getElem?_cons_succ,List.set_cons_zero,List.set_cons_succ,List.lookup_cons,Option.getD_some,Bool.and_true,Bool.and_false,Bool.false_eq_true,if_true,if_false,beq_self_eq_true,Nat.reduceBEq,Nat.reduceLT,and_true,and_false,ap]
noncomputable def c17 : S:=.ite (.or (.not (.call 28 [(.call 24 [(.var 6),(.var 7)]),(.var 10)])) (.cmp .ne (.lst [(.var 6),(.var 7)]) (.var 9))) [.ret (.cB false)] []
theorem q17 (t1 : bc [gq s0 s1 Q1,gq s1 s2 Q2] = .ok (gq s0 s2 (mulQ s1 Q1 Q2))) (k : dE [gq s0 s2 (mulQ s1 Q1 Q2),gq s0 s2 (mulQ s1 Q1 Q2)] = .ok (.bl true)) : yS aP bO ⟨aO,[11],0⟩ N c17 (tv s0 s1 s2 s3 Q1 Q2 Q3 r0 r1 r2 r3 r5 (some (kept s0 s1 s2 Q1 Q2)) (some (gq s0 s2 (mulQ s1 Q1 Q2))) r11) [(11,1)] = .ok (.nx (tv s0 s1 s2 s3 Q1 Q2 Q3 r0 r1 r2 r3 r5 (some (kept s0 s1 s2 Q1 Q2)) (some (gq s0 s2 (mulQ s1 Q1 Q2))) r11) [(11,1)]):=by
 rw [← jB] at k
 rw [← fU] at t1
 exact sf (Dh (A4 (call2 k (call2 t1 (aR rfl) (aR rfl)) (aR rfl))) (uV (IE (aR rfl) (aR rfl)) (aR rfl) (zk _ _ _ _ _ _))) (by simp only [au,bL,iU,gts,aY,Bool.and_true,Bool.and_false,Bool.or_false,Bool.false_eq_true,if_true,if_false,Nat.reduceBEq,Nat.reduceLT,decide_true,decide_false,and_true,and_false,Nat.reduceEqDiff,jv,ee])
noncomputable def c18 : S:=.ite (.or (.cmp .ne (.call 24 [(.var 6),(.call 29 [(.ix (.var 4) (.cI 1))])]) (.var 6)) (.cmp .ne (.call 24 [(.call 29 [(.ix (.var 4) (.cI 0))]),(.var 6)]) (.var 6))) [.ret (.cB false)] []
theorem ix4 {Ψ : FnT} {τ : aB} (i : Nat) {a b c d x : Nat} (h : aw τ 4 = .ok (l4 a b c d)) (hi : [a,b,c,d][i]? = some x) : yE Ψ (.ix (.var 4) (.cI ((i : Nat) : Int))) τ = .ok (.int (x : Nat)):=by
 rw [dB,aR h,Ou.aa,aG,Ou.aa]
 exact iX (xs:=[a,b,c,d].map fun k=>.int (k : Nat)) (by rw [List.getElem?_map,hi]; rfl)
theorem q18 (h0 : s0 ≤ 7) (h1 : s1 ≤ 7) (t5 : bc [gq s0 s1 Q1,gq s1 s1 dq] = .ok (gq s0 s1 Q1)) (t6 : bc [gq s0 s0 dq,gq s0 s1 Q1] = .ok (gq s0 s1 Q1)) : yS aP bO ⟨aO,[11],0⟩ N c18 (tv s0 s1 s2 s3 Q1 Q2 Q3 r0 r1 r2 r3 r5 r9 r10 r11) [(11,1)] = .ok (.nx (tv s0 s1 s2 s3 Q1 Q2 Q3 r0 r1 r2 r3 r5 r9 r10 r11) [(11,1)]):=by
 have u0:=ze h0
 have u1:=ze h1
 rw [← sC] at u0 u1
 rw [← fU] at t5 t6
 exact sf (Dh (uV (call2 t5 (aR rfl) (CT u1 (ix4 1 rfl rfl))) (aR rfl) (x8 _ _ _)) (uV (call2 t6 (CT u0 (ix4 0 rfl rfl)) (aR rfl)) (aR rfl) (x8 _ _ _))) (by simp only [au,bL,iU,gts,aY,Bool.and_true,Bool.and_false,Bool.or_false,Bool.false_eq_true,if_true,if_false,Nat.reduceBEq,Nat.reduceLT,Nat.lt_irrefl,decide_false,and_true,and_false,Nat.reduceEqDiff,tj,ee])
noncomputable def Br : List S:=[c10,c11,c12,c13,c14,c15,c16,c17,c18]
theorem Ee (pl : Plan s0 s1 s2 A B a1 b1 a3 b3) (h0 : 1 ≤ s0 ∧ s0 ≤ 7) (h1 : 1 ≤ s1 ∧ s1 ≤ 7) (h2 : 1 ≤ s2 ∧ s2 ≤ 7) (h3 : 1 ≤ s3 ∧ s3 ≤ 7) (g1 : ∀ i j,Sz A B (Q1 i j)) (g2 : ∀ i j,Sz A B (Q2 i j)) (g3 : ∀ i j,Sz 4 3 (Q3 i j)) (ho : Ow o) :
   ∃ s9 s10 s11,ySs aP bO ⟨aO,[11],0⟩ N Br (tv s0 s1 s2 s3 Q1 Q2 Q3 r0 r1 r2 r3 r5 r9 r10 r11) o = .ok (.nx (tv s0 s1 s2 s3 Q1 Q2 Q3 r0 r1 r2 r3 r5 s9 s10 s11) [(11,1)]):=by
 have t1:=p1 pl h0 h1 h2 g1 g2
 have k:=k1 pl g1 g2
 obtain ⟨m,hm⟩ : ∃ m,s0 = m + 1:=⟨s0 - 1,by omega⟩
 have sp : ∃ xs : List T,gq s0 s2 (mulQ s1 Q1 Q2) = .lst (.lst ((List.range s2).map fun j=>fq (mulQ s1 Q1 Q2 0 j)) :: xs):=by
   refine ⟨(List.range' 1 m).map fun i=>line s2 fun j=>fq (mulQ s1 Q1 Q2 i j),?_⟩
   rw [hm]
   unfold gq g8
   conv=>lhs; unfold line
   rw [show List.range (m + 1) = 0 :: List.range' 1 m by rw [List.range_eq_range',List.range'_succ],List.map_cons]
   rfl
 obtain ⟨xs,ex⟩:=sp
 obtain ⟨ys,hy,e15⟩:=q15 (N:=N) (s0:=s0) (s1:=s1) (s2:=s2) (s3:=s3) (Q1:=Q1) (Q2:=Q2) (Q3:=Q3) (r0:=r0) (r1:=r1) (r2:=r2) (r3:=r3) (r5:=r5) (r9:=some (kept s0 s1 s2 Q1 Q2)) (r10:=some (gq s0 s2 (mulQ s1 Q1 Q2))) (xs:=xs) (ys:=(List.range s2).map fun j=>fq (mulQ s1 Q1 Q2 0 j)) (by rw [List.length_map,List.length_range]; omega)
 obtain ⟨zs,e16⟩:=q16 (N:=N) (s0:=s0) (s1:=s1) (s2:=s2) (s3:=s3) (Q1:=Q1) (Q2:=Q2) (Q3:=Q3) (r0:=r0) (r1:=r1) (r2:=r2) (r3:=r3) (r5:=r5) (r9:=some (kept s0 s1 s2 Q1 Q2)) (r10:=some (gq s0 s2 (mulQ s1 Q1 Q2))) hy
 refine ⟨some (kept s0 s1 s2 Q1 Q2),some (gq s0 s2 (mulQ s1 Q1 Q2)),some (.lst zs),?_⟩
 rw [← ex] at e15
 rw [Br,fh (q10 h0.2 h1.2 ho),fh (q11 (d1 pl h0 h1 h2 g1 g2) ho),fh (q12 t1 ho),fh (q13 k),fh (q14 (p2 pl h0 h2 h3 g1 g2 g3) (p3 pl h1 h2 h3 g2 g3) (p4 pl h0 h1 h3 g1 g2 g3)),fh e15,fh e16,fh (q17 t1 k),fh (q18 h0.2 h1.2 (p5 pl h0 h1 g1) (p6 pl h0 h1 g1)),aC]
end
end K12
namespace K12
open PySem PySem.Spec L2 Sv
open Ev (D aQ aU ai)
section
variable {N : Nat} {o : Own} {r0 r1 r2 r3 r4 r5 r6 r7 r8 r9 r10 r11 : Option T}
noncomputable def i2 (a b : Int) : T:=.lst [.int a,.int b]
theorem Lo (a b c d : Nat) : ∃ M : Int,zB .max [l4 a b c d] = .ok (.int M) ∧ (a : Int) ≤ M ∧ (b : Int) ≤ M ∧ (c : Int) ≤ M ∧ (d : Int) ≤ M:=by
 refine ⟨tP (a : Int) [(b : Int),c,d],rfl,?_⟩
 simp only [tP,List.foldl_cons,List.foldl_nil]
 repeat' split
 all_goals omega
theorem Ky {Ψ : FnT} {τ : aB} {a b c d : Nat} (h : aw τ 4 = .ok (l4 a b c d)) : yE Ψ (.comp [none] (.nm 0) (.seq (.var 4)) [] (.bi .min [(.var 0),(.cI 4)])) τ = .ok (l4 (min a 4) (min b 4) (min c 4) (min d 4)):=by
 refine cb (xs:=[a,b,c,d].map fun k=>.int (k : Nat)) (by rw [dk,aR h]; rfl) (by rw [List.length_map]; exact cL (by simp)) ?_
 refine (bw (k:=fun k : Nat=>.int ((min k 4 : Nat) : Int)) _ fun k _=>?_)
 have : ((min k 4 : Nat) : Int) = min (k : Int) 4:=by omega
 rw [this]
 simp only [af,aG,bu,ah,ae,bM,Ou.aa,aw,aA,eT,Ck,aq,List.getElem?_cons_zero,List.set_cons_zero,List.map_cons,List.map_nil,List.nil_append,List.cons_append,Option.bind_none,if_true,aq]
theorem J0 {Ψ : FnT} {τ : aB} {a b : Int} (h : aw τ 5 = .ok (i2 a b)) : yE Ψ (.comp [none] (.nm 0) (.seq (.var 5)) [] (.op .mod (.var 0) (.cI 3))) τ = .ok (i2 (a % 3) (b % 3)):=by
 refine cb (xs:=[a,b].map fun k=>.int k) (by rw [dk,aR h]; rfl) (by rw [List.length_map]; exact cL (by simp)) ?_
 refine (bw (k:=fun k : Int=>.int (k % 3)) _ fun k _=>?_)
 have m : z2 .mod (.int k) (.int 3) = .ok (.int (k % 3)):=gP (by decide)
 simp only [af,aG,cx,bM,Ou.aa,aw,aA,eT,aq,List.getElem?_cons_zero,List.set_cons_zero,List.map_cons,List.map_nil,List.nil_append,List.cons_append,Option.bind_none,if_true,aq,m]
theorem FA {e : E} {st : S} {τ τ' : aB} {own own' : Own} (he : yE aP e τ = .ok (.bl true)) (hd : dn (gU aO 2 e) own = own) (hs : yS aP bO ⟨aO,[11],0⟩ N st τ own = .ok (.nx τ' own')) : yS aP bO ⟨aO,[11],0⟩ N (.ite e [st] []) τ own = .ok (.nx τ' own'):=by
 rw [ba,he,Ou.aa,eC]
 show ySs aP bO ⟨aO,[11],0⟩ N [st] τ (dn (gU aO 2 e) own) = _
 rw [hd,fh hs,aC]
noncomputable def e5 : S:=.ite (.cmp .gt (.var 1) (.cI 0)) [.set (.nm 4) (.comp [none] (.nm 0) (.seq (.var 4)) [] (.bi .min [(.var 0),(.cI 4)]))] []
theorem h5 {k a b c d : Nat} (ha : 1 ≤ a ∧ a ≤ 7) (hb : 1 ≤ b ∧ b ≤ 7) (hc : 1 ≤ c ∧ c ≤ 7) (hd : 1 ≤ d ∧ d ≤ 7) (ho : Ow o) : ∃ a' b' c' d' : Nat,(1 ≤ a' ∧ a' ≤ 7) ∧ (1 ≤ b' ∧ b' ≤ 7) ∧ (1 ≤ c' ∧ c' ≤ 7) ∧ (1 ≤ d' ∧ d' ≤ 7) ∧
   yS aP bO ⟨aO,[11],0⟩ N e5 [r0,some (.int (k : Nat)),r2,r3,some (l4 a b c d),r5,r6,r7,r8,r9,r10,r11] o = .ok (.nx [r0,some (.int (k : Nat)),r2,r3,some (l4 a' b' c' d'),r5,r6,r7,r8,r9,r10,r11] o):=by
 have cnd : yE aP (.cmp .gt (.var 1) (.cI 0)) [r0,some (.int (k : Nat)),r2,r3,some (l4 a b c d),r5,r6,r7,r8,r9,r10,r11] = .ok (.bl (decide (0 < ((k : Nat) : Int)))):=by
   simp only [af,aG,aW,ax,Ou.aa,aw,j6,List.getElem?_cons_zero,List.getElem?_cons_succ]
 by_cases h : 0 < ((k : Nat) : Int)
 · refine ⟨min a 4,min b 4,min c 4,min d 4,by omega,by omega,by omega,by omega,?_⟩
   rw [decide_eq_true h] at cnd
   exact FA cnd (zU ho (by simp [gU,gts])) (jZ rfl (by simp only [nh]) (Ky rfl) rfl (by simp [gU,gts,aY,dY]) ho)
 · refine ⟨a,b,c,d,ha,hb,hc,hd,?_⟩
   rw [decide_eq_false h] at cnd
   exact sf cnd (zU ho (by simp [gU,gts]))
noncomputable def e7 : S:=.ite (.or (.cmp .gt (.bi .max [(.var 4)]) (.cI 3)) (.cmp .gt (.var 1) (.cI 0))) [.set (.nm 5) (.comp [none] (.nm 0) (.seq (.var 5)) [] (.op .mod (.var 0) (.cI 3)))] []
theorem h7 {k a b c d : Nat} {x y : Int} (hx : 0 ≤ x ∧ x < 4) (hy : 0 ≤ y ∧ y < 4) (ho : Ow o) : ∃ u v : Nat,((a ≤ 3 ∧ b ≤ 3 ∧ c ≤ 3 ∧ d ≤ 3) ∧ u < 4 ∧ v < 4 ∨ u < 3 ∧ v < 3) ∧
   yS aP bO ⟨aO,[11],0⟩ N e7 [r0,some (.int (k : Nat)),r2,r3,some (l4 a b c d),some (i2 x y),r6,r7,r8,r9,r10,r11] o = .ok (.nx [r0,some (.int (k : Nat)),r2,r3,some (l4 a b c d),some (i2 (u : Nat) (v : Nat)),r6,r7,r8,r9,r10,r11] o):=by
 obtain ⟨M,eM,hM⟩:=Lo a b c d
 have cM : yE aP (.cmp .gt (.bi .max [(.var 4)]) (.cI 3)) [r0,some (.int (k : Nat)),r2,r3,some (l4 a b c d),some (i2 x y),r6,r7,r8,r9,r10,r11] = .ok (.bl (decide (3 < M))):=by
   simp only [af,aG,aW,bu,ah,ae,ax,Ou.aa,aw,j6,List.getElem?_cons_zero,List.getElem?_cons_succ,eM]
 have ck : yE aP (.cmp .gt (.var 1) (.cI 0)) [r0,some (.int (k : Nat)),r2,r3,some (l4 a b c d),some (i2 x y),r6,r7,r8,r9,r10,r11] = .ok (.bl (decide (0 < ((k : Nat) : Int)))):=by
   simp only [af,aG,aW,ax,Ou.aa,aw,j6,List.getElem?_cons_zero,List.getElem?_cons_succ]
 have cnd : yE aP (.or (.cmp .gt (.bi .max [(.var 4)]) (.cI 3)) (.cmp .gt (.var 1) (.cI 0))) [r0,some (.int (k : Nat)),r2,r3,some (l4 a b c d),some (i2 x y),r6,r7,r8,r9,r10,r11] = .ok (.bl (decide (3 < M) || decide (0 < ((k : Nat) : Int)))):=by
   rw [gM,cM,Ou.aa]
   cases decide (3 < M)
   · rw [iH,ck]; rfl
   · rw [yY]; rfl
 have gd : dn (gU aO 2 (.or (.cmp .gt (.bi .max [(.var 4)]) (.cI 3)) (.cmp .gt (.var 1) (.cI 0)))) o = o:=zU ho (by simp [gU,gts,aY])
 by_cases h : 3 < M ∨ 0 < ((k : Nat) : Int)
 · refine ⟨(x % 3).toNat,(y % 3).toNat,Or.inr ⟨by omega,by omega⟩,?_⟩
   rw [show (decide (3 < M) || decide (0 < ((k : Nat) : Int))) = true by rw [← Bool.decide_or]; exact decide_eq_true h] at cnd
   rw [show (((x % 3).toNat : Nat) : Int) = x % 3 by omega,show (((y % 3).toNat : Nat) : Int) = y % 3 by omega]
   exact FA cnd gd (jZ rfl (by simp only [nh]) (J0 rfl) rfl (by simp [gU,gts,aY,dY]) ho)
 · refine ⟨x.toNat,y.toNat,Or.inl ⟨⟨by omega,by omega,by omega,by omega⟩,by omega,by omega⟩,?_⟩
   rw [show (decide (3 < M) || decide (0 < ((k : Nat) : Int))) = false by rw [← Bool.decide_or]; exact decide_eq_false h] at cnd
   rw [show ((x.toNat : Nat) : Int) = x by omega,show ((y.toNat : Nat) : Int) = y by omega]
   exact sf cnd gd
end
end K12
namespace K12
open PySem PySem.Spec L2 Sv
open Ev (D aQ aU ai)
theorem B8 {Ψ : FnT} {τ : aB} {f : Nat} {e1 e2 e3 e4 : E} {x1 x2 x3 x4 z : T} (h : Ψ f [x1,x2,x3,x4] = .ok z) (h1 : yE Ψ e1 τ = .ok x1) (h2 : yE Ψ e2 τ = .ok x2) (h3 : yE Ψ e3 τ = .ok x3) (h4 : yE Ψ e4 τ = .ok x4) : yE Ψ (.call f [e1,e2,e3,e4]) τ = .ok z:=by
 rw [aM,ae,h1,Ou.aa,ae,h2,Ou.aa,ae,h3,Ou.aa,ae,h4,Ou.aa,ah,Ou.aa,Ou.aa,Ou.aa,Ou.aa,Ou.aa,h]
noncomputable def eN : E:=.lst [(.cI 8),(.cI 4),(.cI 4),(.cI 4),(.cI 4),(.cI 7),(.cI 7),(.cI 7),(.cI 7),(.cI 4),(.cI 4),(.cI 4)]
noncomputable def FC : List S:=[.set (.nm 2) (.call 0 [(.var 0),(.var 1)]),.set (.nm 3) (.call 1 [(.var 2),eN]),.set (.nm 4) (.call 2 [(.var 3)]),e5,.set (.nm 5) (.sl (.var 3) (.cI 9) (.cI 11)),e7,
 .set (.nm 6) (.call 6 [(.call 25 [(.var 2),(.cI 314703872)]),(.ix (.var 4) (.cI 0)),(.ix (.var 4) (.cI 1)),(.ix (.var 5) (.cI 0))]),.set (.nm 7) (.call 6 [(.op .add (.call 0 [(.var 0),(.op .add (.var 1) (.cI 1))]) (.cI 1)),(.ix (.var 4) (.cI 1)),(.ix (.var 4) (.cI 2)),(.ix (.var 5) (.cI 1))]),.set (.nm 8) (.call 6 [(.op .add (.call 0 [(.var 0),(.op .add (.var 1) (.cI 2))]) (.cI 2)),(.ix (.var 4) (.cI 2)),(.ix (.var 4) (.cI 3)),(.op .mod (.ix (.var 3) (.cI 11)) (.cI 3))])]
noncomputable def rj : List S:=FC ++ Br
theorem Ce : mY = [.for (.nm 1) (.rng (.bi .max [(.cI 1),(.bi .min [(.cI 8),(.bi .len [(.var 0)])])])) rj,.ret (.cB true)]:=rfl
theorem FG {ns : List Int} {k i : Nat} {c : Int} {τ : aB} (h0 : aw τ 0 = .ok (inT ns)) (h1 : aw τ 1 = .ok (.int (k : Nat))) (ec : aP 0 [inT ns,.int ((k + i : Nat) : Int)] = .ok (.int c)) : yE aP (.op .add (.call 0 [(.var 0),(.op .add (.var 1) (.cI ((i : Nat) : Int)))]) (.cI ((i : Nat) : Int))) τ = .ok (.int (c + ((i : Nat) : Int))):=by
 have a : yE aP (.op .add (.var 1) (.cI ((i : Nat) : Int))) τ = .ok (.int ((k + i : Nat) : Int)):=by
   rw [cx,aR h1,Ou.aa,aG,Ou.aa,iF,Int.natCast_add]
 rw [cx,call2 ec (aR h0) a,Ou.aa,aG,Ou.aa,iF]
theorem CU (ns : List Int) (N k : Nat) {o : Own} (ho : Ow o) (r1 r2 r3 r4 r5 r6 r7 r8 r9 r10 r11 : Option T) : ∃ s2 s3 s4 s5 s6 s7 s8 s9 s10 s11,dC aP bO ⟨aO,[11],0⟩ N (.nm 1) rj (.int (k : Nat)) [some (inT ns),r1,r2,r3,r4,r5,r6,r7,r8,r9,r10,r11] o = .ok (.nx [some (inT ns),some (.int (k : Nat)),s2,s3,s4,s5,s6,s7,s8,s9,s10,s11] [(11,1)]):=by
 obtain ⟨c,ec⟩:=tZ ns k
 obtain ⟨c1,ec1⟩:=tZ ns (k + 1)
 obtain ⟨c2,ec2⟩:=tZ ns (k + 2)
 obtain ⟨cr,er⟩:=DK c 314703872 (by decide) (by decide)
 obtain ⟨rs,dg,en⟩:=Du (Ψ:=aP) (i:=1) rfl c [8,4,4,4,4,7,7,7,7,4,4,4] (by
   intro b hb
   simp only [List.mem_cons,List.not_mem_nil,or_false] at hb
   rcases hb with rfl | rfl | rfl | rfl | rfl | rfl | rfl | rfl | rfl | rfl | rfl | rfl <;> decide) (by decide)
 match rs,dg with
 | [q0,q1,q2,q3,q4,q5,q6,q7,q8,q9,q10,q11],dg=>
   obtain ⟨_,d1,d2,d3,d4,d5,d6,d7,d8,d9,d10,d11,_⟩:=dg
   obtain ⟨a,b,x,y,ha,hb,hx,hy,es⟩:=Dr (r0:=q0) (r:=[.int q9,.int q10,.int q11]) d1 d2 d3 d4 d5 d6 d7 d8 rfl
   rw [← tO] at ec ec1 ec2
   rw [← sF] at er
   rw [← qX] at es
   have s2 : yS aP bO ⟨aO,[11],0⟩ N (.set (.nm 2) (.call 0 [(.var 0),(.var 1)])) [some (inT ns),some (.int (k : Nat)),r2,r3,r4,r5,r6,r7,r8,r9,r10,r11] o = .ok (.nx [some (inT ns),some (.int (k : Nat)),some (.int c),r3,r4,r5,r6,r7,r8,r9,r10,r11] o):=
     jZ rfl (by simp only [bJ,bR,d0,Bool.and_false,Nat.lt_irrefl,decide_false,and_false,gA]) (call2 ec (aR rfl) (aR rfl)) rfl (by simp [gU,gts,aY,gA]) ho
   have l12 : ∀ τ,yE aP eN τ = .ok (inT [8,4,4,4,4,7,7,7,7,4,4,4]):=fun τ=>by
     unfold eN
     simp only [kG,ae,aG,ah,Ou.aa]
     rfl
   have s3 : yS aP bO ⟨aO,[11],0⟩ N (.set (.nm 3) (.call 1 [(.var 2),eN])) [some (inT ns),some (.int (k : Nat)),some (.int c),r3,r4,r5,r6,r7,r8,r9,r10,r11] o = .ok (.nx [some (inT ns),some (.int (k : Nat)),some (.int c),some (inT [q0,q1,q2,q3,q4,q5,q6,q7,q8,q9,q10,q11]),r4,r5,r6,r7,r8,r9,r10,r11] o):=
     jZ rfl (by simp only [bJ,bR,d0,Bool.and_false,Nat.lt_irrefl,decide_false,and_false,jw]) (call2 en (aR rfl) (l12 _)) rfl (by simp [gU,gts,aY,eN,jw]) ho
   have s4 : yS aP bO ⟨aO,[11],0⟩ N (.set (.nm 4) (.call 2 [(.var 3)])) [some (inT ns),some (.int (k : Nat)),some (.int c),some (inT [q0,q1,q2,q3,q4,q5,q6,q7,q8,q9,q10,q11]),r4,r5,r6,r7,r8,r9,r10,r11] o = .ok (.nx [some (inT ns),some (.int (k : Nat)),some (.int c),some (inT [q0,q1,q2,q3,q4,q5,q6,q7,q8,q9,q10,q11]),some (l4 a b x y),r5,r6,r7,r8,r9,r10,r11] o):=
     jZ rfl (by simp only [bJ,bR,d0,Bool.and_false,Nat.lt_irrefl,decide_false,and_false,kz]) (CT es (aR rfl)) rfl (by simp [gU,gts,aY,kz]) ho
   obtain ⟨z0,z1,z2',z3,h0,h1,h2,h3,s5⟩:=h5 (N:=N) (k:=k) (r0:=some (inT ns)) (r2:=some (.int c)) (r3:=some (inT [q0,q1,q2,q3,q4,q5,q6,q7,q8,q9,q10,q11])) (r5:=r5) (r6:=r6) (r7:=r7) (r8:=r8) (r9:=r9) (r10:=r10) (r11:=r11) ha hb hx hy ho
   have s6 : yS aP bO ⟨aO,[11],0⟩ N (.set (.nm 5) (.sl (.var 3) (.cI 9) (.cI 11))) [some (inT ns),some (.int (k : Nat)),some (.int c),some (inT [q0,q1,q2,q3,q4,q5,q6,q7,q8,q9,q10,q11]),some (l4 z0 z1 z2' z3),r5,r6,r7,r8,r9,r10,r11] o = .ok (.nx [some (inT ns),some (.int (k : Nat)),some (.int c),some (inT [q0,q1,q2,q3,q4,q5,q6,q7,q8,q9,q10,q11]),some (l4 z0 z1 z2' z3),some (i2 q9 q10),r6,r7,r8,r9,r10,r11] o):=
     jZ rfl (by simp only [EE]) (by
       rw [FO,aR rfl,Ou.aa,aG,Ou.aa,show nO (.cI 9) (.int 9) = some (some 9) from rfl,cw,aG,Ou.aa,show nO (.cI 11) (.int 11) = some (some 11) from rfl,cw]
       rfl) rfl (by simp [gU,gts]) ho
   obtain ⟨u,v,huv,s7⟩:=h7 (N:=N) (k:=k) (a:=z0) (b:=z1) (c:=z2') (d:=z3) (r0:=some (inT ns)) (r2:=some (.int c)) (r3:=some (inT [q0,q1,q2,q3,q4,q5,q6,q7,q8,q9,q10,q11])) (r6:=r6) (r7:=r7) (r8:=r8) (r9:=r9) (r10:=r10) (r11:=r11) d9 d10 ho
   have key : ∃ A B a1 b1 a3 b3,Plan z0 z1 z2' A B a1 b1 a3 b3 ∧ u < 4 ∧ v < 4 ∧ (∀ p : Int,∃ q : Rat,dO [.int (u : Nat),.int p] = .ok (fq q) ∧ Sz A B q) ∧ (∀ p : Int,∃ q : Rat,dO [.int (v : Nat),.int p] = .ok (fq q) ∧ Sz A B q):=by
     rcases huv with ⟨⟨g0,g1,g2,g3⟩,hu,hv⟩ | ⟨hu,hv⟩
     · exact ⟨_,_,_,_,_,_,Bw g0 g1 g2,hu,hv,yC hu,yC hv⟩
     · exact ⟨_,_,_,_,_,_,xb h0.2 h1.2 h2.2,by omega,by omega,ke hu,ke hv⟩
   obtain ⟨A,B,a1,b1,a3,b3,pl,hu,hv,nu,nv⟩:=key
   obtain ⟨Q1,g1,t1⟩:=table_at cr z0 z1 h0.2 h1.2 hu nu
   obtain ⟨Q2,g2,t2⟩:=table_at (c1 + ((1 : Nat) : Int)) z1 z2' h1.2 h2.2 hv nv
   obtain ⟨wt,hwt⟩ : ∃ wt : Nat,q11 % 3 = (wt : Nat):=⟨(q11 % 3).toNat,by omega⟩
   obtain ⟨Q3,g3,t3⟩:=table_at (c2 + ((2 : Nat) : Int)) z2' z3 h2.2 h3.2 (show wt < 4 by omega) (ke (show wt < 3 by omega))
   rw [← qH] at t1 t2 t3
   have s8 : yS aP bO ⟨aO,[11],0⟩ N (.set (.nm 6) (.call 6 [(.call 25 [(.var 2),(.cI 314703872)]),(.ix (.var 4) (.cI 0)),(.ix (.var 4) (.cI 1)),(.ix (.var 5) (.cI 0))])) [some (inT ns),some (.int (k : Nat)),some (.int c),some (inT [q0,q1,q2,q3,q4,q5,q6,q7,q8,q9,q10,q11]),some (l4 z0 z1 z2' z3),some (i2 (u : Nat) (v : Nat)),r6,r7,r8,r9,r10,r11] o = .ok (.nx [some (inT ns),some (.int (k : Nat)),some (.int c),some (inT [q0,q1,q2,q3,q4,q5,q6,q7,q8,q9,q10,q11]),some (l4 z0 z1 z2' z3),some (i2 (u : Nat) (v : Nat)),some (gq z0 z1 Q1),r7,r8,r9,r10,r11] o):=
     jZ rfl (by simp only [bJ,bR,AR,Bool.and_false,Nat.lt_irrefl,decide_false,and_false,dh]) (B8 t1 (call2 er (aR rfl) (by rw [aG])) (ix4 0 rfl rfl) (ix4 1 rfl rfl) (by rw [dB,aR rfl,Ou.aa,aG,Ou.aa]; exact vw _ _)) rfl (by simp [gU,gts,aY,dh,tx]) ho
   have s9 : yS aP bO ⟨aO,[11],0⟩ N (.set (.nm 7) (.call 6 [(.op .add (.call 0 [(.var 0),(.op .add (.var 1) (.cI 1))]) (.cI 1)),(.ix (.var 4) (.cI 1)),(.ix (.var 4) (.cI 2)),(.ix (.var 5) (.cI 1))])) [some (inT ns),some (.int (k : Nat)),some (.int c),some (inT [q0,q1,q2,q3,q4,q5,q6,q7,q8,q9,q10,q11]),some (l4 z0 z1 z2' z3),some (i2 (u : Nat) (v : Nat)),some (gq z0 z1 Q1),r7,r8,r9,r10,r11] o = .ok (.nx [some (inT ns),some (.int (k : Nat)),some (.int c),some (inT [q0,q1,q2,q3,q4,q5,q6,q7,q8,q9,q10,q11]),some (l4 z0 z1 z2' z3),some (i2 (u : Nat) (v : Nat)),some (gq z0 z1 Q1),some (gq z1 z2' Q2),r8,r9,r10,r11] o):=
     jZ rfl (by simp only [bJ,bR,zz,Bool.and_false,Nat.lt_irrefl,decide_false,and_false,dh]) (B8 t2 (FG (i:=1) rfl rfl ec1) (ix4 1 rfl rfl) (ix4 2 rfl rfl) (by rw [dB,aR rfl,Ou.aa,aG,Ou.aa]; exact FL _ _ _)) rfl (by simp [gU,gts,aY,dh,gA]) ho
   have m3 : z2 .mod (.int q11) (.int 3) = .ok (.int (wt : Nat)):=by rw [gP (by decide),hwt]
   have s10 : yS aP bO ⟨aO,[11],0⟩ N (.set (.nm 8) (.call 6 [(.op .add (.call 0 [(.var 0),(.op .add (.var 1) (.cI 2))]) (.cI 2)),(.ix (.var 4) (.cI 2)),(.ix (.var 4) (.cI 3)),(.op .mod (.ix (.var 3) (.cI 11)) (.cI 3))])) [some (inT ns),some (.int (k : Nat)),some (.int c),some (inT [q0,q1,q2,q3,q4,q5,q6,q7,q8,q9,q10,q11]),some (l4 z0 z1 z2' z3),some (i2 (u : Nat) (v : Nat)),some (gq z0 z1 Q1),some (gq z1 z2' Q2),r8,r9,r10,r11] o = .ok (.nx (tv z0 z1 z2' z3 Q1 Q2 Q3 (some (inT ns)) (some (.int (k : Nat))) (some (.int c)) (some (inT [q0,q1,q2,q3,q4,q5,q6,q7,q8,q9,q10,q11])) (some (i2 (u : Nat) (v : Nat))) r9 r10 r11) o):=
     jZ rfl (by simp only [bJ,bR,zz,Bool.and_false,Nat.lt_irrefl,decide_false,and_false,dh]) (B8 t3 (FG (i:=2) rfl rfl ec2) (ix4 2 rfl rfl) (ix4 3 rfl rfl) (by
       rw [cx,dB,aR rfl,Ou.aa,aG,Ou.aa,show zI (inT [q0,q1,q2,q3,q4,q5,q6,q7,q8,q9,q10,q11]) (.int 11) = .ok (.int q11) from iX (k:=11) rfl,Ou.aa,aG,Ou.aa,m3])) rfl (by simp [gU,gts,aY,dh,gA]) ho
   obtain ⟨w9,w10,w11,et⟩:=Ee (N:=N) (r0:=some (inT ns)) (r1:=some (.int (k : Nat))) (r2:=some (.int c)) (r3:=some (inT [q0,q1,q2,q3,q4,q5,q6,q7,q8,q9,q10,q11])) (r5:=some (i2 (u : Nat) (v : Nat))) (r9:=r9) (r10:=r10) (r11:=r11) pl h0 h1 h2 h3 g1 g2 g3 ho
   have t0 : dC aP bO ⟨aO,[11],0⟩ N (.nm 1) rj (.int (k : Nat)) [some (inT ns),r1,r2,r3,r4,r5,r6,r7,r8,r9,r10,r11] o = ySs aP bO ⟨aO,[11],0⟩ N rj [some (inT ns),some (.int (k : Nat)),r2,r3,r4,r5,r6,r7,r8,r9,r10,r11] o:=by
     rw [eU,zU ho (by rfl)]
     rfl
   refine ⟨some (.int c),some (inT [q0,q1,q2,q3,q4,q5,q6,q7,q8,q9,q10,q11]),some (l4 z0 z1 z2' z3),some (i2 (u : Nat) (v : Nat)),some (gq z0 z1 Q1),some (gq z1 z2' Q2),some (gq z2' z3 Q3),w9,w10,w11,?_⟩
   rw [t0,rj,FC,List.cons_append,fh s2,List.cons_append,fh s3,List.cons_append,fh s4,List.cons_append,fh s5,List.cons_append,fh s6,List.cons_append,fh s7,List.cons_append,fh s8,List.cons_append,fh s9,List.cons_append,fh s10,List.nil_append]
   exact et
theorem wm (ns : List Int) (N : Nat) : ∀ (ks : List Nat) {o : Own},Ow o → ∀ (r1 r2 r3 r4 r5 r6 r7 r8 r9 r10 r11 : Option T),∃ s1 s2 s3 s4 s5 s6 s7 s8 s9 s10 s11 o',dz (dC aP bO ⟨aO,[11],0⟩ N (.nm 1) rj) (ks.map fun k=>.int (k : Nat)) [some (inT ns),r1,r2,r3,r4,r5,r6,r7,r8,r9,r10,r11] o = .ok (.nx [some (inT ns),s1,s2,s3,s4,s5,s6,s7,s8,s9,s10,s11] o')
 | [],o,_,r1,r2,r3,r4,r5,r6,r7,r8,r9,r10,r11=>⟨r1,r2,r3,r4,r5,r6,r7,r8,r9,r10,r11,o,by rw [List.map_nil,gF]⟩
 | k :: ks,o,ho,r1,r2,r3,r4,r5,r6,r7,r8,r9,r10,r11=>by
   obtain ⟨a2,a3,a4,a5,a6,a7,a8,a9,a10,a11,e⟩:=CU ns N k ho r1 r2 r3 r4 r5 r6 r7 r8 r9 r10 r11
   obtain ⟨s1,s2,s3,s4,s5,s6,s7,s8,s9,s10,s11,o',e'⟩:=wm ns N ks (Or.inr rfl) (some (.int (k : Nat))) a2 a3 a4 a5 a6 a7 a8 a9 a10 a11
   refine ⟨s1,s2,s3,s4,s5,s6,s7,s8,s9,s10,s11,o',?_⟩
   rw [List.map_cons,cH,e,Ou.aa,ed,e']
theorem Js (ns : List Int) (hl : ns.length ≤ 63) : B5 [inT ns] = .ok (.bl true):=by
 rw [Ba]
 have hN : ∃ N : Nat,N < 1000000 ∧ yE aP (.bi .max [(.cI 1),(.bi .min [(.cI 8),(.bi .len [(.var 0)])])]) [some (inT ns),none,none,none,none,none,none,none,none,none,none,none] = .ok (.int (N : Nat)):=by
   refine ⟨(max (1 : Int) (min 8 ((ns.map T.int).length : Nat))).toNat,?_,?_⟩
   · rw [List.length_map]; omega
   · have : (((max (1 : Int) (min 8 ((ns.map T.int).length : Nat))).toNat : Nat) : Int) = max (1 : Int) (min 8 ((ns.map T.int).length : Nat)):=by omega
     rw [this]
     simp only [af,aG,bu,ah,ae,Ou.aa,aw,fZ,Ht,Ck,List.getElem?_cons_zero,inT]
 obtain ⟨N,hN1,hN2⟩:=hN
 obtain ⟨s1,s2,s3,s4,s5,s6,s7,s8,s9,s10,s11,o',e⟩:=wm ns (bt [inT ns]) (List.range N) (Or.inl rfl) none none none none none none none none none none none
 rw [Ce,ag,lh,iW hN2 hN1,Ou.aa,au,e,Ou.fu,Ou.aa,ay,ag,aE,ie,Ou.aa,aF,Ou.aa,ar,bQ]
end K12
namespace K12
open PySem PySem.Spec PyProof.Rows L2 Sv
noncomputable def top (i : Nat) : Stmt:=PySem.Challenge.pw_signsmooth_k12_products.main.body.getD i (.Pass ⟨0,0,0,0⟩)
noncomputable abbrev g9 : Stmt:=top 27
theorem AA : aI ["_law_script","_law_k"] ["_law_script","_law_k"] (ab g9):=⟨rfl,rfl,rfl,by decide +kernel,rfl,by decide +kernel,by decide +kernel⟩
theorem Am : cU { sc:=ab g9,N:=["_law_script","_law_k"],F:=lS0,cap:=[],cst:=[("MOST",7)] } 60 (aj g9) = some j9:=by with_unfolding_all rfl
noncomputable abbrev dJ : Stmt:=top 28
theorem sT : aI ["_law_cell_here","_law_bases","_law_row","_law_base","_law_k","_law_mixed"] ["_law_cell_here","_law_bases"] (ab dJ):=⟨rfl,rfl,rfl,by decide +kernel,rfl,by decide +kernel,by decide +kernel⟩
theorem sD : cU { sc:=ab dJ,N:=["_law_cell_here","_law_bases","_law_row","_law_base","_law_k","_law_mixed"],F:=lS1,cap:=[],cst:=[("MOST",7)] } 60 (aj dJ) = some gj:=by with_unfolding_all rfl
noncomputable abbrev fG : Stmt:=top 39
theorem yo : aI ["_law_parts"] ["_law_parts"] (ab fG):=⟨rfl,rfl,rfl,by decide +kernel,rfl,by decide +kernel,by decide +kernel⟩
theorem xp : cU { sc:=ab fG,N:=["_law_parts"],F:=lS2,cap:=[],cst:=[("MOST",7)] } 60 (aj fG) = some eD:=by with_unfolding_all rfl
noncomputable abbrev dN : Stmt:=top 30
theorem sU : aI ["_law_one","_law_other","_law_rest_here"] ["_law_one","_law_other"] (ab dN):=⟨rfl,rfl,rfl,by decide +kernel,rfl,by decide +kernel,by decide +kernel⟩
theorem uh : cU { sc:=ab dN,N:=["_law_one","_law_other","_law_rest_here"],F:=lS3,cap:=[],cst:=[("MOST",7)] } 60 (aj dN) = some gk:=by with_unfolding_all rfl
noncomputable abbrev gK : Stmt:=top 31
theorem AV : aI ["_law_top","_law_bottom","_law_common"] ["_law_top","_law_bottom"] (ab gK):=⟨rfl,rfl,rfl,by decide +kernel,rfl,by decide +kernel,by decide +kernel⟩
theorem zH : cU { sc:=ab gK,N:=["_law_top","_law_bottom","_law_common"],F:=lS4,cap:=[],cst:=[("MOST",7)] } 60 (aj gK) = some kc:=by with_unfolding_all rfl
noncomputable abbrev eI : Stmt:=top 32
theorem vt : aI ["_law_kind","_law_part","_law_top"] ["_law_kind","_law_part"] (ab eI):=⟨rfl,rfl,rfl,by decide +kernel,rfl,by decide +kernel,by decide +kernel⟩
theorem wC : cU { sc:=ab eI,N:=["_law_kind","_law_part","_law_top"],F:=lS5,cap:=[],cst:=[("MOST",7)] } 60 (aj eI) = some cc:=by with_unfolding_all rfl
noncomputable abbrev fD : Stmt:=top 33
theorem wX : aI ["_law_cell_here","_law_many","_law_wide","_law_kind","_law_base","_law_parts"] ["_law_cell_here","_law_many","_law_wide","_law_kind"] (ab fD):=⟨rfl,rfl,rfl,by decide +kernel,rfl,by decide +kernel,by decide +kernel⟩
theorem xT : cU { sc:=ab fD,N:=["_law_cell_here","_law_many","_law_wide","_law_kind","_law_base","_law_parts"],F:=lS6,cap:=[],cst:=[("MOST",7)] } 60 (aj fD) = some jt:=by with_unfolding_all rfl
noncomputable abbrev js : Stmt:=top 37
theorem BZ : aI ["_law_one","_law_other","_law_made_here","_law_row","_law_line","_law_j","_law_top","_law_bottom","_law_k","_law_number_here","_law_part","_law_common"] ["_law_one","_law_other"] (ab js):=⟨rfl,rfl,rfl,by decide +kernel,rfl,by decide +kernel,by decide +kernel⟩
theorem Bx : cU { sc:=ab js,N:=["_law_one","_law_other","_law_made_here","_law_row","_law_line","_law_j","_law_top","_law_bottom","_law_k","_law_number_here","_law_part","_law_common"],F:=lS7,cap:=[],cst:=[("MOST",7)] } 60 (aj js) = some iQ:=by with_unfolding_all rfl
noncomputable abbrev bN : Stmt:=top 13
theorem nP : aI ["thing"] ["thing"] (ab bN):=⟨rfl,rfl,rfl,by decide +kernel,rfl,by decide +kernel,by decide +kernel⟩
theorem mQ : cU { sc:=ab bN,N:=["thing"],F:=lS8,cap:=[],cst:=[("MOST",7)] } 60 (aj bN) = some dU:=by with_unfolding_all rfl
noncomputable abbrev eG : Stmt:=top 6
theorem vA : aI ["thing"] ["thing"] (ab eG):=⟨rfl,rfl,rfl,by decide +kernel,rfl,by decide +kernel,by decide +kernel⟩
theorem uG : cU { sc:=ab eG,N:=["thing"],F:=lS9,cap:=[],cst:=[("MOST",7)] } 60 (aj eG) = some iB:=by with_unfolding_all rfl
noncomputable abbrev bC : Stmt:=top 8
theorem lK : aI ["one","other","greater","lesser","rest"] ["one","other"] (ab bC):=⟨rfl,rfl,rfl,by decide +kernel,rfl,by decide +kernel,by decide +kernel⟩
theorem lx : cU { sc:=ab bC,N:=["one","other","greater","lesser","rest"],F:=IX,cap:=[],cst:=[("MOST",7)] } 60 (aj bC) = some dm:=by with_unfolding_all rfl
noncomputable abbrev cn : Stmt:=top 7
theorem pI : aI ["thing"] ["thing"] (ab cn):=⟨rfl,rfl,rfl,by decide +kernel,rfl,by decide +kernel,by decide +kernel⟩
theorem p8 : cU { sc:=ab cn,N:=["thing"],F:=GH,cap:=[],cst:=[("MOST",7)] } 60 (aj cn) = some fj:=by with_unfolding_all rfl
noncomputable abbrev hR : Stmt:=top 14
theorem Au : aI ["thing"] ["thing"] (ab hR):=⟨rfl,rfl,rfl,by decide +kernel,rfl,by decide +kernel,by decide +kernel⟩
theorem Ac : cU { sc:=ab hR,N:=["thing"],F:=Jy,cap:=[],cst:=[("MOST",7)] } 60 (aj hR) = some kd:=by with_unfolding_all rfl
noncomputable abbrev eE : Stmt:=top 15
theorem wy : aI ["thing"] ["thing"] (ab eE):=⟨rfl,rfl,rfl,by decide +kernel,rfl,by decide +kernel,by decide +kernel⟩
theorem u5 : cU { sc:=ab eE,N:=["thing"],F:=Jx,cap:=[],cst:=[("MOST",7)] } 60 (aj eE) = some ig:=by with_unfolding_all rfl
noncomputable abbrev cP : Stmt:=top 16
theorem qL : aI ["thing"] ["thing"] (ab cP):=⟨rfl,rfl,rfl,by decide +kernel,rfl,by decide +kernel,by decide +kernel⟩
theorem qC : cU { sc:=ab cP,N:=["thing"],F:=IW,cap:=[],cst:=[("MOST",7)] } 60 (aj cP) = some cV:=by with_unfolding_all rfl
noncomputable abbrev dG : Stmt:=top 18
theorem sk : aI ["table","j"] ["table","j"] (ab dG):=⟨rfl,rfl,rfl,by decide +kernel,rfl,by decide +kernel,by decide +kernel⟩
theorem tL : cU { sc:=ab dG,N:=["table","j"],F:=GV,cap:=[],cst:=[("MOST",7)] } 60 (aj dG) = some dX:=by with_unfolding_all rfl
noncomputable abbrev cG : Stmt:=top 17
theorem qM : aI ["table"] ["table"] (ab cG):=⟨rfl,rfl,rfl,by decide +kernel,rfl,by decide +kernel,by decide +kernel⟩
theorem qR : cU { sc:=ab cG,N:=["table"],F:=GW,cap:=[],cst:=[("MOST",7)] } 60 (aj cG) = some de:=by with_unfolding_all rfl
noncomputable abbrev dI : Stmt:=top 21
theorem tw : aI ["row","scale"] ["row","scale"] (ab dI):=⟨rfl,rfl,rfl,by decide +kernel,rfl,by decide +kernel,by decide +kernel⟩
theorem tW : cU { sc:=ab dI,N:=["row","scale"],F:=Iz,cap:=[],cst:=[("MOST",7)] } 60 (aj dI) = some dQ:=by with_unfolding_all rfl
noncomputable abbrev cO : Stmt:=top 22
theorem qK : aI ["table","scales"] ["table","scales"] (ab cO):=⟨rfl,rfl,rfl,by decide +kernel,rfl,by decide +kernel,by decide +kernel⟩
theorem qP : cU { sc:=ab cO,N:=["table","scales"],F:=Hw,cap:=[],cst:=[("MOST",7)] } 60 (aj cO) = some cY:=by with_unfolding_all rfl
noncomputable abbrev eJ : Stmt:=top 20
theorem vH : aI ["row","scale","number"] ["row"] (ab eJ):=⟨rfl,rfl,rfl,by decide +kernel,rfl,by decide +kernel,by decide +kernel⟩
theorem uM : cU { sc:=ab eJ,N:=["row","scale","number"],F:=ID,cap:=[],cst:=[("MOST",7)] } 60 (aj eJ) = some eR:=by with_unfolding_all rfl
noncomputable abbrev br : Stmt:=top 9
theorem lq : aI ["top","bottom","divisor"] ["top","bottom"] (ab br):=⟨rfl,rfl,rfl,by decide +kernel,rfl,by decide +kernel,by decide +kernel⟩
theorem kP : cU { sc:=ab br,N:=["top","bottom","divisor"],F:=Ia,cap:=[],cst:=[("MOST",7)] } 60 (aj br) = some bz:=by with_unfolding_all rfl
noncomputable abbrev eB : Stmt:=top 10
theorem wJ : aI ["top","bottom"] ["top","bottom"] (ab eB):=⟨rfl,rfl,rfl,by decide +kernel,rfl,by decide +kernel,by decide +kernel⟩
theorem wz : cU { sc:=ab eB,N:=["top","bottom"],F:=FQ,cap:=[],cst:=[("MOST",7)] } 60 (aj eB) = some eK:=by with_unfolding_all rfl
noncomputable abbrev bp : Stmt:=top 25
theorem kQ : aI ["numbers","others"] ["numbers","others"] (ab bp):=⟨rfl,rfl,rfl,by decide +kernel,rfl,by decide +kernel,by decide +kernel⟩
theorem la : cU { sc:=ab bp,N:=["numbers","others"],F:=FY,cap:=[],cst:=[("MOST",7)] } 60 (aj bp) = some bD:=by with_unfolding_all rfl
noncomputable abbrev cu : Stmt:=top 24
theorem o2 : aI ["row","whole_columns","scales","row_scale","numbers"] ["row","whole_columns","scales"] (ab cu):=⟨rfl,rfl,rfl,by decide +kernel,rfl,by decide +kernel,by decide +kernel⟩
theorem pK : cU { sc:=ab cu,N:=["row","whole_columns","scales","row_scale","numbers"],F:=Jh,cap:=[],cst:=[("MOST",7)] } 60 (aj cu) = some cD:=by with_unfolding_all rfl
noncomputable abbrev fM : Stmt:=top 23
theorem yh : aI ["one","other","columns","scales","whole_columns"] ["one","other"] (ab fM):=⟨rfl,rfl,rfl,by decide +kernel,rfl,by decide +kernel,by decide +kernel⟩
theorem yd : cU { sc:=ab fM,N:=["one","other","columns","scales","whole_columns"],F:=JI,cap:=[],cst:=[("MOST",7)] } 60 (aj fM) = some fL:=by with_unfolding_all rfl
noncomputable abbrev gZ : Stmt:=top 29
theorem zE : aI ["_law_cell_here","_law_used"] ["_law_cell_here","_law_used"] (ab gZ):=⟨rfl,rfl,rfl,by decide +kernel,rfl,by decide +kernel,by decide +kernel⟩
theorem AE : cU { sc:=ab gZ,N:=["_law_cell_here","_law_used"],F:=Ga,cap:=[],cst:=[("MOST",7)] } 60 (aj gZ) = some kb:=by with_unfolding_all rfl
noncomputable abbrev fB : Stmt:=top 34
theorem yb : aI ["_law_thing"] ["_law_thing"] (ab fB):=⟨rfl,rfl,rfl,by decide +kernel,rfl,by decide +kernel,by decide +kernel⟩
theorem xU : cU { sc:=ab fB,N:=["_law_thing"],F:=Ge,cap:=[],cst:=[("MOST",7)] } 60 (aj fB) = some jd:=by with_unfolding_all rfl
noncomputable abbrev cj : Stmt:=top 35
theorem pd : aI ["_law_found","_law_top","_law_bottom"] ["_law_found","_law_top","_law_bottom"] (ab cj):=⟨rfl,rfl,rfl,by decide +kernel,rfl,by decide +kernel,by decide +kernel⟩
theorem o9 : cU { sc:=ab cj,N:=["_law_found","_law_top","_law_bottom"],F:=HE,cap:=[],cst:=[("MOST",7)] } 60 (aj cj) = some cA:=by with_unfolding_all rfl
noncomputable abbrev dM : Stmt:=top 36
theorem tJ : aI ["_law_found","_law_due_here","_law_row","_law_other","_law_one","_law_two"] ["_law_found","_law_due_here"] (ab dM):=⟨rfl,rfl,rfl,by decide +kernel,rfl,by decide +kernel,by decide +kernel⟩
theorem sS : cU { sc:=ab dM,N:=["_law_found","_law_due_here","_law_row","_law_other","_law_one","_law_two"],F:=Hs,cap:=[],cst:=[("MOST",7)] } 60 (aj dM) = some dS:=by with_unfolding_all rfl
noncomputable abbrev gI : Stmt:=top 38
theorem zT : aI ["_law_many"] ["_law_many"] (ab gI):=⟨rfl,rfl,rfl,by decide +kernel,rfl,by decide +kernel,by decide +kernel⟩
theorem Ak : cU { sc:=ab gI,N:=["_law_many"],F:=Ib,cap:=[],cst:=[("MOST",7)] } 60 (aj gI) = some gG:=by with_unfolding_all rfl
noncomputable abbrev kC : Stmt:=top 40
theorem JL : aI ["_law_script","_law_k","_law_cell_here","_law_parts","_law_sizes_here","_law_kinds","_law_one","_law_two","_law_three","_law_kept","_law_due_here","_law_found"] ["_law_script"] (ab kC):=⟨rfl,rfl,rfl,by decide +kernel,rfl,by decide +kernel,by decide +kernel⟩
theorem GC : cU { sc:=ab kC,N:=["_law_script","_law_k","_law_cell_here","_law_parts","_law_sizes_here","_law_kinds","_law_one","_law_two","_law_three","_law_kept","_law_due_here","_law_found"],F:=KD,cap:=[],cst:=[("MOST",7)] } 60 (aj kC) = some mY:=by with_unfolding_all rfl
end K12
namespace K12
open PySem PySem.Spec PyProof.Rows L2 Sv
set_option maxHeartbeats 0 in
theorem all_mk {l : PySem.W.OpenLaw} {w : World} {K : PySem.W.Frag} {h : Heap} {mg : Str → Option Value} {fa : Addr} (X : K.In h) (G : h.Ns mainGlobals mg) (hfa : mg "law" = some (.ref fa))
   {f0 : Addr} {od0 an0 : Option Addr} {sl0 : Array (Option Value)} {oc0 kV0 dc0 pm0 cd0 ct0 : Value}
   {f1 : Addr} {od1 an1 : Option Addr} {sl1 : Array (Option Value)} {oc1 kV1 dc1 pm1 cd1 ct1 : Value}
   {f2 : Addr} {od2 an2 : Option Addr} {sl2 : Array (Option Value)} {oc2 kV2 dc2 pm2 cd2 ct2 : Value}
   {f3 : Addr} {od3 an3 : Option Addr} {sl3 : Array (Option Value)} {oc3 kV3 dc3 pm3 cd3 ct3 : Value}
   {f4 : Addr} {od4 an4 : Option Addr} {sl4 : Array (Option Value)} {oc4 kV4 dc4 pm4 cd4 ct4 : Value}
   {f5 : Addr} {od5 an5 : Option Addr} {sl5 : Array (Option Value)} {oc5 kV5 dc5 pm5 cd5 ct5 : Value}
   {f6 : Addr} {od6 an6 : Option Addr} {sl6 : Array (Option Value)} {oc6 kV6 dc6 pm6 cd6 ct6 : Value}
   {f7 : Addr} {od7 an7 : Option Addr} {sl7 : Array (Option Value)} {oc7 kV7 dc7 pm7 cd7 ct7 : Value}
   {f8 : Addr} {od8 an8 : Option Addr} {sl8 : Array (Option Value)} {oc8 kV8 dc8 pm8 cd8 ct8 : Value}
   {f9 : Addr} {od9 an9 : Option Addr} {sl9 : Array (Option Value)} {oc9 kV9 dc9 pm9 cd9 ct9 : Value}
   {f10 : Addr} {od10 an10 : Option Addr} {sl10 : Array (Option Value)} {oc10 kV10 dc10 pm10 cd10 ct10 : Value}
   {f11 : Addr} {od11 an11 : Option Addr} {sl11 : Array (Option Value)} {oc11 kV11 dc11 pm11 cd11 ct11 : Value}
   {f12 : Addr} {od12 an12 : Option Addr} {sl12 : Array (Option Value)} {oc12 kV12 dc12 pm12 cd12 ct12 : Value}
   {f13 : Addr} {od13 an13 : Option Addr} {sl13 : Array (Option Value)} {oc13 kV13 dc13 pm13 cd13 ct13 : Value}
   {f14 : Addr} {od14 an14 : Option Addr} {sl14 : Array (Option Value)} {oc14 kV14 dc14 pm14 cd14 ct14 : Value}
   {f15 : Addr} {od15 an15 : Option Addr} {sl15 : Array (Option Value)} {oc15 kV15 dc15 pm15 cd15 ct15 : Value}
   {f16 : Addr} {od16 an16 : Option Addr} {sl16 : Array (Option Value)} {oc16 kV16 dc16 pm16 cd16 ct16 : Value}
   {f17 : Addr} {od17 an17 : Option Addr} {sl17 : Array (Option Value)} {oc17 kV17 dc17 pm17 cd17 ct17 : Value}
   {f18 : Addr} {od18 an18 : Option Addr} {sl18 : Array (Option Value)} {oc18 kV18 dc18 pm18 cd18 ct18 : Value}
   {f19 : Addr} {od19 an19 : Option Addr} {sl19 : Array (Option Value)} {oc19 kV19 dc19 pm19 cd19 ct19 : Value}
   {f20 : Addr} {od20 an20 : Option Addr} {sl20 : Array (Option Value)} {oc20 kV20 dc20 pm20 cd20 ct20 : Value}
   {f21 : Addr} {od21 an21 : Option Addr} {sl21 : Array (Option Value)} {oc21 kV21 dc21 pm21 cd21 ct21 : Value}
   {f22 : Addr} {od22 an22 : Option Addr} {sl22 : Array (Option Value)} {oc22 kV22 dc22 pm22 cd22 ct22 : Value}
   {f23 : Addr} {od23 an23 : Option Addr} {sl23 : Array (Option Value)} {oc23 kV23 dc23 pm23 cd23 ct23 : Value}
   {f24 : Addr} {od24 an24 : Option Addr} {sl24 : Array (Option Value)} {oc24 kV24 dc24 pm24 cd24 ct24 : Value}
   {f25 : Addr} {od25 an25 : Option Addr} {sl25 : Array (Option Value)} {oc25 kV25 dc25 pm25 cd25 ct25 : Value}
   {f26 : Addr} {od26 an26 : Option Addr} {sl26 : Array (Option Value)} {oc26 kV26 dc26 pm26 cd26 ct26 : Value}
   {f27 : Addr} {od27 an27 : Option Addr} {sl27 : Array (Option Value)} {oc27 kV27 dc27 pm27 cd27 ct27 : Value}
   {f28 : Addr} {od28 an28 : Option Addr} {sl28 : Array (Option Value)} {oc28 kV28 dc28 pm28 cd28 ct28 : Value}
   {f29 : Addr} {od29 an29 : Option Addr} {sl29 : Array (Option Value)} {oc29 kV29 dc29 pm29 cd29 ct29 : Value}
   {f30 : Addr} {od30 an30 : Option Addr} {sl30 : Array (Option Value)} {oc30 kV30 dc30 pm30 cd30 ct30 : Value}
   {t0 : Tok}
   {T21 : Addr} {td21 : Option Addr} {tl21 : Array (Option Value)} {tc21 : Value} {tt21 : Tok} {tn21 : Nat}
   (a0 : PySem.W.nsIn K mainGlobals "_law_cell" = some (some (.ref f0))) (l0 : K.lookup f0 = some ⟨oc0,od0,.func (PySem.W.fnOf "_law_cell" "_law_cell" (aJ g9) (aj g9) (ab g9) .none kV0 dc0 pm0 an0 cd0 ct0),sl0⟩) (c0 : PySem.W.codeIn K cd0 "_law_cell" = true) (k0 : PySem.W.keepIn K (.ref f0) = true)
   (a1 : PySem.W.nsIn K mainGlobals "_law_numbers" = some (some (.ref f1))) (l1 : K.lookup f1 = some ⟨oc1,od1,.func (PySem.W.fnOf "_law_numbers" "_law_numbers" (aJ dJ) (aj dJ) (ab dJ) .none kV1 dc1 pm1 an1 cd1 ct1),sl1⟩) (c1 : PySem.W.codeIn K cd1 "_law_numbers" = true) (k1 : PySem.W.keepIn K (.ref f1) = true)
   (a2 : PySem.W.nsIn K mainGlobals "_law_sizes" = some (some (.ref f2))) (l2 : K.lookup f2 = some ⟨oc2,od2,.func (PySem.W.fnOf "_law_sizes" "_law_sizes" (aJ fG) (aj fG) (ab fG) .none kV2 dc2 pm2 an2 cd2 ct2),sl2⟩) (c2 : PySem.W.codeIn K cd2 "_law_sizes" = true) (k2 : PySem.W.keepIn K (.ref f2) = true)
   (a3 : PySem.W.nsIn K mainGlobals "_law_divisor" = some (some (.ref f3))) (l3 : K.lookup f3 = some ⟨oc3,od3,.func (PySem.W.fnOf "_law_divisor" "_law_divisor" (aJ dN) (aj dN) (ab dN) .none kV3 dc3 pm3 an3 cd3 ct3),sl3⟩) (c3 : PySem.W.codeIn K cd3 "_law_divisor" = true) (k3 : PySem.W.keepIn K (.ref f3) = true)
   (a4 : PySem.W.nsIn K mainGlobals "_law_made" = some (some (.ref f4))) (l4 : K.lookup f4 = some ⟨oc4,od4,.func (PySem.W.fnOf "_law_made" "_law_made" (aJ gK) (aj gK) (ab gK) .none kV4 dc4 pm4 an4 cd4 ct4),sl4⟩) (c4 : PySem.W.codeIn K cd4 "_law_made" = true) (k4 : PySem.W.keepIn K (.ref f4) = true)
   (a5 : PySem.W.nsIn K mainGlobals "_law_number" = some (some (.ref f5))) (l5 : K.lookup f5 = some ⟨oc5,od5,.func (PySem.W.fnOf "_law_number" "_law_number" (aJ eI) (aj eI) (ab eI) .none kV5 dc5 pm5 an5 cd5 ct5),sl5⟩) (c5 : PySem.W.codeIn K cd5 "_law_number" = true) (k5 : PySem.W.keepIn K (.ref f5) = true)
   (a6 : PySem.W.nsIn K mainGlobals "_law_table" = some (some (.ref f6))) (l6 : K.lookup f6 = some ⟨oc6,od6,.func (PySem.W.fnOf "_law_table" "_law_table" (aJ fD) (aj fD) (ab fD) .none kV6 dc6 pm6 an6 cd6 ct6),sl6⟩) (c6 : PySem.W.codeIn K cd6 "_law_table" = true) (k6 : PySem.W.keepIn K (.ref f6) = true)
   (a7 : PySem.W.nsIn K mainGlobals "_law_due" = some (some (.ref f7))) (l7 : K.lookup f7 = some ⟨oc7,od7,.func (PySem.W.fnOf "_law_due" "_law_due" (aJ js) (aj js) (ab js) .none kV7 dc7 pm7 an7 cd7 ct7),sl7⟩) (c7 : PySem.W.codeIn K cd7 "_law_due" = true) (k7 : PySem.W.keepIn K (.ref f7) = true)
   (a8 : PySem.W.nsIn K mainGlobals "is_short_list" = some (some (.ref f8))) (l8 : K.lookup f8 = some ⟨oc8,od8,.func (PySem.W.fnOf "is_short_list" "is_short_list" (aJ bN) (aj bN) (ab bN) .none kV8 dc8 pm8 an8 cd8 ct8),sl8⟩) (c8 : PySem.W.codeIn K cd8 "is_short_list" = true) (k8 : PySem.W.keepIn K (.ref f8) = true)
   (a9 : PySem.W.nsIn K mainGlobals "is_whole" = some (some (.ref f9))) (l9 : K.lookup f9 = some ⟨oc9,od9,.func (PySem.W.fnOf "is_whole" "is_whole" (aJ eG) (aj eG) (ab eG) .none kV9 dc9 pm9 an9 cd9 ct9),sl9⟩) (c9 : PySem.W.codeIn K cd9 "is_whole" = true) (k9 : PySem.W.keepIn K (.ref f9) = true)
   (a10 : PySem.W.nsIn K mainGlobals "common_divisor" = some (some (.ref f10))) (l10 : K.lookup f10 = some ⟨oc10,od10,.func (PySem.W.fnOf "common_divisor" "common_divisor" (aJ bC) (aj bC) (ab bC) .none kV10 dc10 pm10 an10 cd10 ct10),sl10⟩) (c10 : PySem.W.codeIn K cd10 "common_divisor" = true) (k10 : PySem.W.keepIn K (.ref f10) = true)
   (a11 : PySem.W.nsIn K mainGlobals "is_fraction" = some (some (.ref f11))) (l11 : K.lookup f11 = some ⟨oc11,od11,.func (PySem.W.fnOf "is_fraction" "is_fraction" (aJ cn) (aj cn) (ab cn) .none kV11 dc11 pm11 an11 cd11 ct11),sl11⟩) (c11 : PySem.W.codeIn K cd11 "is_fraction" = true) (k11 : PySem.W.keepIn K (.ref f11) = true)
   (a12 : PySem.W.nsIn K mainGlobals "is_row" = some (some (.ref f12))) (l12 : K.lookup f12 = some ⟨oc12,od12,.func (PySem.W.fnOf "is_row" "is_row" (aJ hR) (aj hR) (ab hR) .none kV12 dc12 pm12 an12 cd12 ct12),sl12⟩) (c12 : PySem.W.codeIn K cd12 "is_row" = true) (k12 : PySem.W.keepIn K (.ref f12) = true)
   (a13 : PySem.W.nsIn K mainGlobals "is_table" = some (some (.ref f13))) (l13 : K.lookup f13 = some ⟨oc13,od13,.func (PySem.W.fnOf "is_table" "is_table" (aJ eE) (aj eE) (ab eE) .none kV13 dc13 pm13 an13 cd13 ct13),sl13⟩) (c13 : PySem.W.codeIn K cd13 "is_table" = true) (k13 : PySem.W.keepIn K (.ref f13) = true)
   (a14 : PySem.W.nsIn K mainGlobals "look_table" = some (some (.ref f14))) (l14 : K.lookup f14 = some ⟨oc14,od14,.func (PySem.W.fnOf "look_table" "look_table" (aJ cP) (aj cP) (ab cP) .none kV14 dc14 pm14 an14 cd14 ct14),sl14⟩) (c14 : PySem.W.codeIn K cd14 "look_table" = true) (k14 : PySem.W.keepIn K (.ref f14) = true)
   (a15 : PySem.W.nsIn K mainGlobals "column_of" = some (some (.ref f15))) (l15 : K.lookup f15 = some ⟨oc15,od15,.func (PySem.W.fnOf "column_of" "column_of" (aJ dG) (aj dG) (ab dG) .none kV15 dc15 pm15 an15 cd15 ct15),sl15⟩) (c15 : PySem.W.codeIn K cd15 "column_of" = true) (k15 : PySem.W.keepIn K (.ref f15) = true)
   (a16 : PySem.W.nsIn K mainGlobals "columns_of" = some (some (.ref f16))) (l16 : K.lookup f16 = some ⟨oc16,od16,.func (PySem.W.fnOf "columns_of" "columns_of" (aJ cG) (aj cG) (ab cG) .none kV16 dc16 pm16 an16 cd16 ct16),sl16⟩) (c16 : PySem.W.codeIn K cd16 "columns_of" = true) (k16 : PySem.W.keepIn K (.ref f16) = true)
   (a17 : PySem.W.nsIn K mainGlobals "whole_row" = some (some (.ref f17))) (l17 : K.lookup f17 = some ⟨oc17,od17,.func (PySem.W.fnOf "whole_row" "whole_row" (aJ dI) (aj dI) (ab dI) .none kV17 dc17 pm17 an17 cd17 ct17),sl17⟩) (c17 : PySem.W.codeIn K cd17 "whole_row" = true) (k17 : PySem.W.keepIn K (.ref f17) = true)
   (a18 : PySem.W.nsIn K mainGlobals "whole_rows" = some (some (.ref f18))) (l18 : K.lookup f18 = some ⟨oc18,od18,.func (PySem.W.fnOf "whole_rows" "whole_rows" (aJ cO) (aj cO) (ab cO) .none kV18 dc18 pm18 an18 cd18 ct18),sl18⟩) (c18 : PySem.W.codeIn K cd18 "whole_rows" = true) (k18 : PySem.W.keepIn K (.ref f18) = true)
   (a19 : PySem.W.nsIn K mainGlobals "scale_of" = some (some (.ref f19))) (l19 : K.lookup f19 = some ⟨oc19,od19,.func (PySem.W.fnOf "scale_of" "scale_of" (aJ eJ) (aj eJ) (ab eJ) .none kV19 dc19 pm19 an19 cd19 ct19),sl19⟩) (c19 : PySem.W.codeIn K cd19 "scale_of" = true) (k19 : PySem.W.keepIn K (.ref f19) = true)
   (a20 : PySem.W.nsIn K mainGlobals "in_lowest_terms" = some (some (.ref f20))) (l20 : K.lookup f20 = some ⟨oc20,od20,.func (PySem.W.fnOf "in_lowest_terms" "in_lowest_terms" (aJ br) (aj br) (ab br) .none kV20 dc20 pm20 an20 cd20 ct20),sl20⟩) (c20 : PySem.W.codeIn K cd20 "in_lowest_terms" = true) (k20 : PySem.W.keepIn K (.ref f20) = true)
   (a21 : PySem.W.nsIn K mainGlobals "fraction" = some (some (.ref f21))) (l21 : K.lookup f21 = some ⟨oc21,od21,.func (PySem.W.fnOf "fraction" "fraction" (aJ eB) (aj eB) (ab eB) (.ref T21) kV21 dc21 pm21 an21 cd21 ct21),sl21⟩) (c21 : PySem.W.codeIn K cd21 "fraction" = true) (k21 : PySem.W.keepIn K (.ref f21) = true)
   (a22 : PySem.W.nsIn K mainGlobals "sum_of_products" = some (some (.ref f22))) (l22 : K.lookup f22 = some ⟨oc22,od22,.func (PySem.W.fnOf "sum_of_products" "sum_of_products" (aJ bp) (aj bp) (ab bp) .none kV22 dc22 pm22 an22 cd22 ct22),sl22⟩) (c22 : PySem.W.codeIn K cd22 "sum_of_products" = true) (k22 : PySem.W.keepIn K (.ref f22) = true)
   (a23 : PySem.W.nsIn K mainGlobals "product_row" = some (some (.ref f23))) (l23 : K.lookup f23 = some ⟨oc23,od23,.func (PySem.W.fnOf "product_row" "product_row" (aJ cu) (aj cu) (ab cu) .none kV23 dc23 pm23 an23 cd23 ct23),sl23⟩) (c23 : PySem.W.codeIn K cd23 "product_row" = true) (k23 : PySem.W.keepIn K (.ref f23) = true)
   (a24 : PySem.W.nsIn K mainGlobals "product" = some (some (.ref f24))) (l24 : K.lookup f24 = some ⟨oc24,od24,.func (PySem.W.fnOf "product" "product" (aJ fM) (aj fM) (ab fM) .none kV24 dc24 pm24 an24 cd24 ct24),sl24⟩) (c24 : PySem.W.codeIn K cd24 "product" = true) (k24 : PySem.W.keepIn K (.ref f24) = true)
   (a25 : PySem.W.nsIn K mainGlobals "_law_rest" = some (some (.ref f25))) (l25 : K.lookup f25 = some ⟨oc25,od25,.func (PySem.W.fnOf "_law_rest" "_law_rest" (aJ gZ) (aj gZ) (ab gZ) .none kV25 dc25 pm25 an25 cd25 ct25),sl25⟩) (c25 : PySem.W.codeIn K cd25 "_law_rest" = true) (k25 : PySem.W.keepIn K (.ref f25) = true)
   (a26 : PySem.W.nsIn K mainGlobals "_law_whole" = some (some (.ref f26))) (l26 : K.lookup f26 = some ⟨oc26,od26,.func (PySem.W.fnOf "_law_whole" "_law_whole" (aJ fB) (aj fB) (ab fB) .none kV26 dc26 pm26 an26 cd26 ct26),sl26⟩) (c26 : PySem.W.codeIn K cd26 "_law_whole" = true) (k26 : PySem.W.keepIn K (.ref f26) = true)
   (a27 : PySem.W.nsIn K mainGlobals "_law_is_number" = some (some (.ref f27))) (l27 : K.lookup f27 = some ⟨oc27,od27,.func (PySem.W.fnOf "_law_is_number" "_law_is_number" (aJ cj) (aj cj) (ab cj) .none kV27 dc27 pm27 an27 cd27 ct27),sl27⟩) (c27 : PySem.W.codeIn K cd27 "_law_is_number" = true) (k27 : PySem.W.keepIn K (.ref f27) = true)
   (a28 : PySem.W.nsIn K mainGlobals "_law_is_like" = some (some (.ref f28))) (l28 : K.lookup f28 = some ⟨oc28,od28,.func (PySem.W.fnOf "_law_is_like" "_law_is_like" (aJ dM) (aj dM) (ab dM) .none kV28 dc28 pm28 an28 cd28 ct28),sl28⟩) (c28 : PySem.W.codeIn K cd28 "_law_is_like" = true) (k28 : PySem.W.keepIn K (.ref f28) = true)
   (a29 : PySem.W.nsIn K mainGlobals "_law_unit" = some (some (.ref f29))) (l29 : K.lookup f29 = some ⟨oc29,od29,.func (PySem.W.fnOf "_law_unit" "_law_unit" (aJ gI) (aj gI) (ab gI) .none kV29 dc29 pm29 an29 cd29 ct29),sl29⟩) (c29 : PySem.W.codeIn K cd29 "_law_unit" = true) (k29 : PySem.W.keepIn K (.ref f29) = true)
   (a30 : PySem.W.nsIn K mainGlobals "law" = some (some (.ref f30))) (l30 : K.lookup f30 = some ⟨oc30,od30,.func (PySem.W.fnOf "law" "law" (aJ kC) (aj kC) (ab kC) .none kV30 dc30 pm30 an30 cd30 ct30),sl30⟩) (c30 : PySem.W.codeIn K cd30 "law" = true) (k30 : PySem.W.keepIn K (.ref f30) = true)
   (z0 : PySem.W.nsIn K mainGlobals "len" = some none)    (z1 : PySem.W.nsIn K mainGlobals "abs" = some none)    (z2 : PySem.W.nsIn K mainGlobals "max" = some none)    (z3 : PySem.W.nsIn K mainGlobals "min" = some none)    (z4 : PySem.W.nsIn K mainGlobals "int" = some none)    (z5 : PySem.W.nsIn K mainGlobals "bool" = some none)    (z6 : PySem.W.nsIn K mainGlobals "list" = some none)    (z7 : PySem.W.nsIn K mainGlobals "tuple" = some none)    (z8 : PySem.W.nsIn K mainGlobals "str" = some none)    (z9 : PySem.W.nsIn K mainGlobals "isinstance" = some none)    (z10 : PySem.W.nsIn K mainGlobals "range" = some none)    (z11 : PySem.W.nsIn K mainGlobals "enumerate" = some none)    (z12 : PySem.W.nsIn K mainGlobals "all" = some none)    (z13 : PySem.W.nsIn K mainGlobals "zip" = some none)    (z14 : PySem.W.nsIn K mainGlobals "sorted" = some none)    (z15 : PySem.W.nsIn K mainGlobals "sum" = some none)    (z16 : PySem.W.nsIn K mainGlobals "any" = some none)    (z17 : PySem.W.nsIn K mainGlobals "reversed" = some none)    (y0 : PySem.W.nsIn K mainGlobals "MOST" = some (some (.int 7 t0)))
   (dt21 : K.lookup T21 = some ⟨tc21,td21,.seq #[.int 1 tt21] tn21,tl21⟩)
 :
   ∃ fd : FuncData,(∀ (s : Shared) (v : Value),BindsTo s fd ⟨[v],[]⟩ [("_law_script",v)]) ∧ ∀ base : Heap,K.In base → base.Ns mainGlobals mg → bW l.prog w K mg base CX0 31 fa fd ["_law_script"] (spU ⟨K,fun _=>0⟩ vX):=by
 have e:=hfa.symm.trans (PySem.W.mg_of X G a30)
 cases e
 have hb : ∀ x ∈ Sv.aL,mg x = none:=by
   intro x hx
   simp only [Sv.aL,List.mem_cons,List.not_mem_nil,or_false] at hx
   rcases hx with rfl | rfl | rfl | rfl | rfl | rfl | rfl | rfl | rfl | rfl | rfl | rfl | rfl | rfl | rfl | rfl | rfl | rfl
   · exact PySem.W.mg_none_of X G z0
   · exact PySem.W.mg_none_of X G z1
   · exact PySem.W.mg_none_of X G z2
   · exact PySem.W.mg_none_of X G z3
   · exact PySem.W.mg_none_of X G z4
   · exact PySem.W.mg_none_of X G z5
   · exact PySem.W.mg_none_of X G z6
   · exact PySem.W.mg_none_of X G z7
   · exact PySem.W.mg_none_of X G z8
   · exact PySem.W.mg_none_of X G z9
   · exact PySem.W.mg_none_of X G z10
   · exact PySem.W.mg_none_of X G z11
   · exact PySem.W.mg_none_of X G z12
   · exact PySem.W.mg_none_of X G z13
   · exact PySem.W.mg_none_of X G z14
   · exact PySem.W.mg_none_of X G z15
   · exact PySem.W.mg_none_of X G z16
   · exact PySem.W.mg_none_of X G z17
 have hcst : ∀ (x : Str) (i : Int),([("MOST",7)] : List (Str × Int)).lookup x = some i → ∃ t,mg x = some (.int i t):=by
   intro x i hx
   simp only [List.lookup_cons,List.lookup_nil] at hx
   split at hx
   · rename_i he
     have he : x = "MOST":=by simpa using he
     subst he
     cases hx
     exact ⟨_,PySem.W.mg_of X G y0⟩
   cases hx
 have F0:=aZ (st:=g9) l0 c0 k0
 have b0:=F0.binds (ps:=["_law_script","_law_k"]) (fY fun _ _=>rfl)
 have F1:=aZ (st:=dJ) l1 c1 k1
 have b1:=F1.binds (ps:=["_law_cell_here","_law_bases"]) (fY fun _ _=>rfl)
 have F2:=aZ (st:=fG) l2 c2 k2
 have b2:=F2.binds (ps:=["_law_parts"]) (iy fun _=>rfl)
 have F3:=aZ (st:=dN) l3 c3 k3
 have b3:=F3.binds (ps:=["_law_one","_law_other"]) (fY fun _ _=>rfl)
 have F4:=aZ (st:=gK) l4 c4 k4
 have b4:=F4.binds (ps:=["_law_top","_law_bottom"]) (fY fun _ _=>rfl)
 have F5:=aZ (st:=eI) l5 c5 k5
 have b5:=F5.binds (ps:=["_law_kind","_law_part"]) (fY fun _ _=>rfl)
 have F6:=aZ (st:=fD) l6 c6 k6
 have b6:=F6.binds (ps:=["_law_cell_here","_law_many","_law_wide","_law_kind"]) (JV fun _ _ _ _=>rfl)
 have F7:=aZ (st:=js) l7 c7 k7
 have b7:=F7.binds (ps:=["_law_one","_law_other"]) (fY fun _ _=>rfl)
 have F8:=aZ (st:=bN) l8 c8 k8
 have b8:=F8.binds (ps:=["thing"]) (iy fun _=>rfl)
 have F9:=aZ (st:=eG) l9 c9 k9
 have b9:=F9.binds (ps:=["thing"]) (iy fun _=>rfl)
 have F10:=aZ (st:=bC) l10 c10 k10
 have b10:=F10.binds (ps:=["one","other"]) (fY fun _ _=>rfl)
 have F11:=aZ (st:=cn) l11 c11 k11
 have b11:=F11.binds (ps:=["thing"]) (iy fun _=>rfl)
 have F12:=aZ (st:=hR) l12 c12 k12
 have b12:=F12.binds (ps:=["thing"]) (iy fun _=>rfl)
 have F13:=aZ (st:=eE) l13 c13 k13
 have b13:=F13.binds (ps:=["thing"]) (iy fun _=>rfl)
 have F14:=aZ (st:=cP) l14 c14 k14
 have b14:=F14.binds (ps:=["thing"]) (iy fun _=>rfl)
 have F15:=aZ (st:=dG) l15 c15 k15
 have b15:=F15.binds (ps:=["table","j"]) (fY fun _ _=>rfl)
 have F16:=aZ (st:=cG) l16 c16 k16
 have b16:=F16.binds (ps:=["table"]) (iy fun _=>rfl)
 have F17:=aZ (st:=dI) l17 c17 k17
 have b17:=F17.binds (ps:=["row","scale"]) (fY fun _ _=>rfl)
 have F18:=aZ (st:=cO) l18 c18 k18
 have b18:=F18.binds (ps:=["table","scales"]) (fY fun _ _=>rfl)
 have F19:=aZ (st:=eJ) l19 c19 k19
 have b19:=F19.binds (ps:=["row"]) (iy fun _=>rfl)
 have F20:=aZ (st:=br) l20 c20 k20
 have b20:=F20.binds (ps:=["top","bottom"]) (fY fun _ _=>rfl)
 have F21:=aZ (st:=eB) l21 c21 k21
 have b21:=F21.HR (ps:=["top","bottom"]) rfl dt21 (fY fun _ _=>⟨_,rfl,rfl⟩)
 have e21:=F21.GB (p:="top") (ps:=["bottom"]) (d:=.int 1 tt21) rfl dt21 (iy fun _=>⟨_,rfl,rfl⟩)
 have F22:=aZ (st:=bp) l22 c22 k22
 have b22:=F22.binds (ps:=["numbers","others"]) (fY fun _ _=>rfl)
 have F23:=aZ (st:=cu) l23 c23 k23
 have b23:=F23.binds (ps:=["row","whole_columns","scales"]) (Cz fun _ _ _=>rfl)
 have F24:=aZ (st:=fM) l24 c24 k24
 have b24:=F24.binds (ps:=["one","other"]) (fY fun _ _=>rfl)
 have F25:=aZ (st:=gZ) l25 c25 k25
 have b25:=F25.binds (ps:=["_law_cell_here","_law_used"]) (fY fun _ _=>rfl)
 have F26:=aZ (st:=fB) l26 c26 k26
 have b26:=F26.binds (ps:=["_law_thing"]) (iy fun _=>rfl)
 have F27:=aZ (st:=cj) l27 c27 k27
 have b27:=F27.binds (ps:=["_law_found","_law_top","_law_bottom"]) (Cz fun _ _ _=>rfl)
 have F28:=aZ (st:=dM) l28 c28 k28
 have b28:=F28.binds (ps:=["_law_found","_law_due_here"]) (fY fun _ _=>rfl)
 have F29:=aZ (st:=gI) l29 c29 k29
 have b29:=F29.binds (ps:=["_law_many"]) (iy fun _=>rfl)
 have F30:=aZ (st:=kC) l30 c30 k30
 have b30:=F30.binds (ps:=["_law_script"]) (iy fun _=>rfl)
 refine ⟨PySem.W.fnOf "law" "law" (aJ kC) (aj kC) (ab kC) .none kV30 dc30 pm30 an30 cd30 ct30,fun s v=>.of_eq rfl,fun base _ _=>?_⟩
 have C0 : di l.prog w K mg base CX0 (fun _=>0) 0 lS0 lF0:=di.nil
 have G0 : bW l.prog w K mg base CX0 1 f0 _ _ (spU ⟨K,fun _=>0⟩ vC):=fnU F0 AA Am hb hcst C0
 have C1 : di l.prog w K mg base CX0 (fun _=>0) 1 lS1 lF1:=C0.snoc rfl (bq G0 (PySem.W.mg_of X G a0) k0 b0)
 have G1 : bW l.prog w K mg base CX0 2 f1 _ _ (spU ⟨K,fun _=>0⟩ oy):=fnU F1 sT sD hb hcst C1
 have C2 : di l.prog w K mg base CX0 (fun _=>0) 2 lS2 lF2:=C1.snoc rfl (bq G1 (PySem.W.mg_of X G a1) k1 b1)
 have G2 : bW l.prog w K mg base CX0 3 f2 _ _ (spU ⟨K,fun _=>0⟩ rq):=fnU F2 yo xp hb hcst C2
 have C3 : di l.prog w K mg base CX0 (fun _=>0) 3 lS3 lF3:=C2.snoc rfl (bq G2 (PySem.W.mg_of X G a2) k2 b2)
 have G3 : bW l.prog w K mg base CX0 4 f3 _ _ (spU ⟨K,fun _=>0⟩ oa):=fnU F3 sU uh hb hcst C3
 have C4 : di l.prog w K mg base CX0 (fun _=>0) 4 lS4 lF4:=C3.snoc rfl (bq G3 (PySem.W.mg_of X G a3) k3 b3)
 have G4 : bW l.prog w K mg base CX0 5 f4 _ _ (spU ⟨K,fun _=>0⟩ uT):=fnU F4 AV zH hb hcst C4
 have C5 : di l.prog w K mg base CX0 (fun _=>0) 5 lS5 lF5:=C4.snoc rfl (bq G4 (PySem.W.mg_of X G a4) k4 b4)
 have G5 : bW l.prog w K mg base CX0 6 f5 _ _ (spU ⟨K,fun _=>0⟩ qd):=fnU F5 vt wC hb hcst C5
 have C6 : di l.prog w K mg base CX0 (fun _=>0) 6 lS6 lF6:=C5.snoc rfl (bq G5 (PySem.W.mg_of X G a5) k5 b5)
 have G6 : bW l.prog w K mg base CX0 7 f6 _ _ (spU ⟨K,fun _=>0⟩ rH):=fnU F6 wX xT hb hcst C6
 have C7 : di l.prog w K mg base CX0 (fun _=>0) 7 lS7 lF7:=C6.snoc rfl (bq G6 (PySem.W.mg_of X G a6) k6 b6)
 have G7 : bW l.prog w K mg base CX0 8 f7 _ _ (spU ⟨K,fun _=>0⟩ zj):=fnU F7 BZ Bx hb hcst C7
 have C8 : di l.prog w K mg base CX0 (fun _=>0) 8 lS8 lF8:=C7.snoc rfl (bq G7 (PySem.W.mg_of X G a7) k7 b7)
 have G8 : bW l.prog w K mg base CX0 9 f8 _ _ (spU ⟨K,fun _=>0⟩ jA):=fnU F8 nP mQ hb hcst C8
 have C9 : di l.prog w K mg base CX0 (fun _=>0) 9 lS9 lF9:=C8.snoc rfl (bq G8 (PySem.W.mg_of X G a8) k8 b8)
 have G9 : bW l.prog w K mg base CX0 10 f9 _ _ (spU ⟨K,fun _=>0⟩ pE):=fnU F9 vA uG hb hcst C9
 have C10 : di l.prog w K mg base CX0 (fun _=>0) 10 IX E8:=C9.snoc rfl (bq G9 (PySem.W.mg_of X G a9) k9 b9)
 have G10 : bW l.prog w K mg base CX0 11 f10 _ _ (spU ⟨K,fun _=>0⟩ iJ):=fnU F10 lK lx hb hcst C10
 have C11 : di l.prog w K mg base CX0 (fun _=>0) 11 GH EG:=C10.snoc rfl (bq G10 (PySem.W.mg_of X G a10) k10 b10)
 have G11 : bW l.prog w K mg base CX0 12 f11 _ _ (spU ⟨K,fun _=>0⟩ kv):=fnU F11 pI p8 hb hcst C11
 have C12 : di l.prog w K mg base CX0 (fun _=>0) 12 Jy Eg:=C11.snoc rfl (bq G11 (PySem.W.mg_of X G a11) k11 b11)
 have G12 : bW l.prog w K mg base CX0 13 f12 _ _ (spU ⟨K,fun _=>0⟩ vn):=fnU F12 Au Ac hb hcst C12
 have C13 : di l.prog w K mg base CX0 (fun _=>0) 13 Jx DQ:=C12.snoc rfl (bq G12 (PySem.W.mg_of X G a12) k12 b12)
 have G13 : bW l.prog w K mg base CX0 14 f13 _ _ (spU ⟨K,fun _=>0⟩ p0):=fnU F13 wy u5 hb hcst C13
 have C14 : di l.prog w K mg base CX0 (fun _=>0) 14 IW D6:=C13.snoc rfl (bq G13 (PySem.W.mg_of X G a13) k13 b13)
 have G14 : bW l.prog w K mg base CX0 15 f14 _ _ (spU ⟨K,fun _=>0⟩ mx):=fnU F14 qL qC hb hcst C14
 have C15 : di l.prog w K mg base CX0 (fun _=>0) 15 GV DT:=C14.snoc rfl (bq G14 (PySem.W.mg_of X G a14) k14 b14)
 have G15 : bW l.prog w K mg base CX0 16 f15 _ _ (spU ⟨K,fun _=>0⟩ nU):=fnU F15 sk tL hb hcst C15
 have C16 : di l.prog w K mg base CX0 (fun _=>0) 16 GW ES:=C15.snoc rfl (bq G15 (PySem.W.mg_of X G a15) k15 b15)
 have G16 : bW l.prog w K mg base CX0 17 f16 _ _ (spU ⟨K,fun _=>0⟩ mP):=fnU F16 qM qR hb hcst C16
 have C17 : di l.prog w K mg base CX0 (fun _=>0) 17 Iz Et:=C16.snoc rfl (bq G16 (PySem.W.mg_of X G a16) k16 b16)
 have G17 : bW l.prog w K mg base CX0 18 f17 _ _ (spU ⟨K,fun _=>0⟩ ot):=fnU F17 tw tW hb hcst C17
 have C18 : di l.prog w K mg base CX0 (fun _=>0) 18 Hw EY:=C17.snoc rfl (bq G17 (PySem.W.mg_of X G a17) k17 b17)
 have G18 : bW l.prog w K mg base CX0 19 f18 _ _ (spU ⟨K,fun _=>0⟩ lC):=fnU F18 qK qP hb hcst C18
 have C19 : di l.prog w K mg base CX0 (fun _=>0) 19 ID DB:=C18.snoc rfl (bq G18 (PySem.W.mg_of X G a18) k18 b18)
 have G19 : bW l.prog w K mg base CX0 20 f19 _ _ (spU ⟨K,fun _=>0⟩ pQ):=fnU F19 vH uM hb hcst C19
 have C20 : di l.prog w K mg base CX0 (fun _=>0) 20 Ia Fd:=C19.snoc rfl (bq G19 (PySem.W.mg_of X G a19) k19 b19)
 have G20 : bW l.prog w K mg base CX0 21 f20 _ _ (spU ⟨K,fun _=>0⟩ ib):=fnU F20 lq kP hb hcst C20
 have C21 : di l.prog w K mg base CX0 (fun _=>0) 21 FQ EH:=C20.snoc rfl (bq G20 (PySem.W.mg_of X G a20) k20 b20)
 have G21 : bW l.prog w K mg base CX0 22 f21 _ _ (spU ⟨K,fun _=>0⟩ pW):=fnU F21 wJ wz hb hcst C21
 have C22 : di l.prog w K mg base CX0 (fun _=>0) 22 FY Fv:=C21.snoc rfl (IV G21 (PySem.W.mg_of X G a21) k21 b21 e21)
 have G22 : bW l.prog w K mg base CX0 23 f22 _ _ (spU ⟨K,fun _=>0⟩ iu):=fnU F22 kQ la hb hcst C22
 have C23 : di l.prog w K mg base CX0 (fun _=>0) 23 Jh Fo:=C22.snoc rfl (bq G22 (PySem.W.mg_of X G a22) k22 b22)
 have G23 : bW l.prog w K mg base CX0 24 f23 _ _ (spU ⟨K,fun _=>0⟩ ko):=fnU F23 o2 pK hb hcst C23
 have C24 : di l.prog w K mg base CX0 (fun _=>0) 24 JI DN:=C23.snoc rfl (bq G23 (PySem.W.mg_of X G a23) k23 b23)
 have G24 : bW l.prog w K mg base CX0 25 f24 _ _ (spU ⟨K,fun _=>0⟩ rb):=fnU F24 yh yd hb hcst C24
 have C25 : di l.prog w K mg base CX0 (fun _=>0) 25 Ga DV:=C24.snoc rfl (bq G24 (PySem.W.mg_of X G a24) k24 b24)
 have G25 : bW l.prog w K mg base CX0 26 f25 _ _ (spU ⟨K,fun _=>0⟩ uX):=fnU F25 zE AE hb hcst C25
 have C26 : di l.prog w K mg base CX0 (fun _=>0) 26 Ge EB:=C25.snoc rfl (bq G25 (PySem.W.mg_of X G a25) k25 b25)
 have G26 : bW l.prog w K mg base CX0 27 f26 _ _ (spU ⟨K,fun _=>0⟩ rG):=fnU F26 yb xU hb hcst C26
 have C27 : di l.prog w K mg base CX0 (fun _=>0) 27 HE EF:=C26.snoc rfl (bq G26 (PySem.W.mg_of X G a26) k26 b26)
 have G27 : bW l.prog w K mg base CX0 28 f27 _ _ (spU ⟨K,fun _=>0⟩ ky):=fnU F27 pd o9 hb hcst C27
 have C28 : di l.prog w K mg base CX0 (fun _=>0) 28 Hs D5:=C27.snoc rfl (bq G27 (PySem.W.mg_of X G a27) k27 b27)
 have G28 : bW l.prog w K mg base CX0 29 f28 _ _ (spU ⟨K,fun _=>0⟩ oj):=fnU F28 tJ sS hb hcst C28
 have C29 : di l.prog w K mg base CX0 (fun _=>0) 29 Ib Fh:=C28.snoc rfl (bq G28 (PySem.W.mg_of X G a28) k28 b28)
 have G29 : bW l.prog w K mg base CX0 30 f29 _ _ (spU ⟨K,fun _=>0⟩ wg):=fnU F29 zT Ak hb hcst C29
 have C30 : di l.prog w K mg base CX0 (fun _=>0) 30 KD EN:=C29.snoc rfl (bq G29 (PySem.W.mg_of X G a29) k29 b29)
 have G30 : bW l.prog w K mg base CX0 31 fa _ _ (spU ⟨K,fun _=>0⟩ vX):=fnU F30 JL GC hb hcst C30
 exact G30
theorem walk {l : PySem.W.OpenLaw} {q : Program} {loose : List Str} {XP : (Str → Option Value) → Heap → Prop} {YP : World → Heap → Prop} {d : DefRec} {K : Params → PySem.W.Frag} (hn : l.most = some 63) (hdf : d.params.defaults = [])
   (hY : ∀ (w : World) (h : Heap),YP w h → (K w.params).In h)
   (F : ∀ (w : World) (mg : Str → Option Value) (fa : Addr) (h : Heap),(K w.params).In h → h.Ns mainGlobals mg → mg d.name = some (.ref fa) →
     ∃ fd : FuncData,(∀ (s : Shared) (u : Value),BindsTo s fd ⟨[u],[]⟩ [("_law_script",u)]) ∧ ∀ base : Heap,(K w.params).In base → base.Ns mainGlobals mg → bW l.prog w (K w.params) mg base CX0 31 fa fd ["_law_script"] (spU ⟨K w.params,fun _=>0⟩ vX)) :
   PySem.W.WalkO q loose XP YP l.row.toRowW d [] (fun f vs=>PySem.call f vs):=
 L2.DC (n:=63) (k:=31) (x:="_law_script") (CX:=fun _=>CX0) (sp:=fun w=>spU ⟨K w.params,fun _=>0⟩ vX) hn (by decide) hdf ⟨rfl,by decide,by decide⟩ hY F
   (fun w H a ns hl hO hS=>Jp (Ld.at.1 30) (fun ns h=>Js ns h) w H a ns hl hO hS) fun _ _ _ _ _ z=>z
end K12
open PySem PySem.W PyProof.Rows
theorem PySem.W.Fast.tw6199863988023812805 : True:=trivial
theorem PySem.W.Fast.tw17668790514528108303 : True:=trivial
theorem PySem.W.Fast.tw8695408760583789777 : True:=trivial
theorem PySem.W.Fast.tw8685625412890334235 : True:=trivial
theorem PySem.W.Fast.tw3184874706759760844 : True:=trivial
theorem PySem.W.Fast.tw6103830237751878968 : True:=trivial
theorem PySem.W.Fast.tw2050985525200954208 : True:=trivial
theorem PySem.W.Fast.tw2703576342988382234 : True:=trivial
theorem PySem.W.Fast.tw11471162882134402638 : True:=trivial
theorem PySem.W.Fast.tw8947191858040261354 : True:=trivial
theorem PySem.W.Fast.tw2062748889027649215 : True:=trivial
theorem PySem.W.Fast.tw8654473912071726621 : True:=trivial
theorem PySem.W.Fast.tw12620243225347956295 : True:=trivial
set_option maxRecDepth 100000 in
set_option maxHeartbeats 0 in
theorem PySem.Challenge.cw_signsmooth_k12_products_holds : PySem.Challenge.rw_signsmooth_k12_products.Holds := by
 w_on; o_law; k_head; (case hw=>w_witness2)
 k_fill
 refine K12.walk (l:=PySem.Challenge.rw_signsmooth_k12_products) rfl rfl (fun w h Y=>PySem.W.kIn_of Y) ?F
 case F=>
   intro w mg fa h KX G hmg
   refine' K12.all_mk KX G hmg ?a0 ?l0 ?c0 ?k0 ?a1 ?l1 ?c1 ?k1 ?a2 ?l2 ?c2 ?k2 ?a3 ?l3 ?c3 ?k3 ?a4 ?l4 ?c4 ?k4 ?a5 ?l5 ?c5 ?k5 ?a6 ?l6 ?c6 ?k6 ?a7 ?l7 ?c7 ?k7 ?a8 ?l8 ?c8 ?k8 ?a9 ?l9 ?c9 ?k9 ?a10 ?l10 ?c10 ?k10 ?a11 ?l11 ?c11 ?k11 ?a12 ?l12 ?c12 ?k12 ?a13 ?l13 ?c13 ?k13 ?a14 ?l14 ?c14 ?k14 ?a15 ?l15 ?c15 ?k15 ?a16 ?l16 ?c16 ?k16 ?a17 ?l17 ?c17 ?k17 ?a18 ?l18 ?c18 ?k18 ?a19 ?l19 ?c19 ?k19 ?a20 ?l20 ?c20 ?k20 ?a21 ?l21 ?c21 ?k21 ?a22 ?l22 ?c22 ?k22 ?a23 ?l23 ?c23 ?k23 ?a24 ?l24 ?c24 ?k24 ?a25 ?l25 ?c25 ?k25 ?a26 ?l26 ?c26 ?k26 ?a27 ?l27 ?c27 ?k27 ?a28 ?l28 ?c28 ?k28 ?a29 ?l29 ?c29 ?k29 ?a30 ?l30 ?c30 ?k30 ?z0 ?z1 ?z2 ?z3 ?z4 ?z5 ?z6 ?z7 ?z8 ?z9 ?z10 ?z11 ?z12 ?z13 ?z14 ?z15 ?z16 ?z17 ?y0 ?dt21
   (case a0=>k_is)
   (case l0=>k_is)
   (case c0=>k_is)
   (case k0=>k_is)
   (case a1=>k_is)
   (case l1=>k_is)
   (case c1=>k_is)
   (case k1=>k_is)
   (case a2=>k_is)
   (case l2=>k_is)
   (case c2=>k_is)
   (case k2=>k_is)
   (case a3=>k_is)
   (case l3=>k_is)
   (case c3=>k_is)
   (case k3=>k_is)
   (case a4=>k_is)
   (case l4=>k_is)
   (case c4=>k_is)
   (case k4=>k_is)
   (case a5=>k_is)
   (case l5=>k_is)
   (case c5=>k_is)
   (case k5=>k_is)
   (case a6=>k_is)
   (case l6=>k_is)
   (case c6=>k_is)
   (case k6=>k_is)
   (case a7=>k_is)
   (case l7=>k_is)
   (case c7=>k_is)
   (case k7=>k_is)
   (case a8=>k_is)
   (case l8=>k_is)
   (case c8=>k_is)
   (case k8=>k_is)
   (case a9=>k_is)
   (case l9=>k_is)
   (case c9=>k_is)
   (case k9=>k_is)
   (case a10=>k_is)
   (case l10=>k_is)
   (case c10=>k_is)
   (case k10=>k_is)
   (case a11=>k_is)
   (case l11=>k_is)
   (case c11=>k_is)
   (case k11=>k_is)
   (case a12=>k_is)
   (case l12=>k_is)
   (case c12=>k_is)
   (case k12=>k_is)
   (case a13=>k_is)
   (case l13=>k_is)
   (case c13=>k_is)
   (case k13=>k_is)
   (case a14=>k_is)
   (case l14=>k_is)
   (case c14=>k_is)
   (case k14=>k_is)
   (case a15=>k_is)
   (case l15=>k_is)
   (case c15=>k_is)
   (case k15=>k_is)
   (case a16=>k_is)
   (case l16=>k_is)
   (case c16=>k_is)
   (case k16=>k_is)
   (case a17=>k_is)
   (case l17=>k_is)
   (case c17=>k_is)
   (case k17=>k_is)
   (case a18=>k_is)
   (case l18=>k_is)
   (case c18=>k_is)
   (case k18=>k_is)
   (case a19=>k_is)
   (case l19=>k_is)
   (case c19=>k_is)
   (case k19=>k_is)
   (case a20=>k_is)
   (case l20=>k_is)
   (case c20=>k_is)
   (case k20=>k_is)
   (case a21=>k_is)
   (case l21=>k_is)
   (case c21=>k_is)
   (case k21=>k_is)
   (case a22=>k_is)
   (case l22=>k_is)
   (case c22=>k_is)
   (case k22=>k_is)
   (case a23=>k_is)
   (case l23=>k_is)
   (case c23=>k_is)
   (case k23=>k_is)
   (case a24=>k_is)
   (case l24=>k_is)
   (case c24=>k_is)
   (case k24=>k_is)
   (case a25=>k_is)
   (case l25=>k_is)
   (case c25=>k_is)
   (case k25=>k_is)
   (case a26=>k_is)
   (case l26=>k_is)
   (case c26=>k_is)
   (case k26=>k_is)
   (case a27=>k_is)
   (case l27=>k_is)
   (case c27=>k_is)
   (case k27=>k_is)
   (case a28=>k_is)
   (case l28=>k_is)
   (case c28=>k_is)
   (case k28=>k_is)
   (case a29=>k_is)
   (case l29=>k_is)
   (case c29=>k_is)
   (case k29=>k_is)
   (case a30=>k_is)
   (case l30=>k_is)
   (case c30=>k_is)
   (case k30=>k_is)
   (case z0=>k_is)
   (case z1=>k_is)
   (case z2=>k_is)
   (case z3=>k_is)
   (case z4=>k_is)
   (case z5=>k_is)
   (case z6=>k_is)
   (case z7=>k_is)
   (case z8=>k_is)
   (case z9=>k_is)
   (case z10=>k_is)
   (case z11=>k_is)
   (case z12=>k_is)
   (case z13=>k_is)
   (case z14=>k_is)
   (case z15=>k_is)
   (case z16=>k_is)
   (case z17=>k_is)
   (case y0=>k_is)
   (case dt21=>k_is)
#print axioms PySem.Challenge.cw_signsmooth_k12_products_holds
