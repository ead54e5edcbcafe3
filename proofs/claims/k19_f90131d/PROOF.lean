import PyProof.Rows.All
import Wide.All
import OpenK.AllK
import Wide.FinOn
import Lean
import PyProof.EqAt
import PyProof.EqKinds
import PyProof.TupleCall
import PySem.Challenge.RW_signsmooth_k19_one_step
set_option genSizeOf false
set_option bootstrap.genMatcherCode false
set_option Elab.async false
set_option linter.all false
set_option maxRecDepth 100000
set_option exponentiation.threshold 2000
namespace L2
open PySem PySem.Spec PyProof.Rows
noncomputable abbrev Key := Sum Int Str
noncomputable def FJ : Key → Value → Bool
 | .inl k, v => Value.isInt k v
 | .inr x, v => Value.isStrOf x v
noncomputable def Lr (w : World) : Key → Int
 | .inl k => hashInt k
 | .inr x => hashStr w x
theorem ck : ∀ {k : Key} {v : Value}, FJ k v = true → (∃ i t, k = Sum.inl i ∧ v = Value.int i t) ∨ (∃ x t, k = Sum.inr x ∧ v = Value.str x t)
 | .inl i, v, h => by
   obtain ⟨t, e⟩ := Value.isInt_shape (k := i) (v := v) h
   exact .inl ⟨i, t, rfl, e⟩
 | .inr x, v, h => by
   obtain ⟨t, e⟩ := Value.isStrOf_shape (x := x) (v := v) h
   exact .inr ⟨x, t, rfl, e⟩
theorem Hj (a b : Int) : decide ((Sum.inl a : Key) = Sum.inl b) = (a == b) := by
 by_cases e : a = b
 · subst e; simp
 · have h : ¬ (Sum.inl a : Key) = Sum.inl b := fun q => e (Sum.inl.inj q)
   rw [decide_eq_false h]
   exact (beq_eq_false_iff_ne.mpr e).symm
theorem Gp (a b : Str) : decide ((Sum.inr a : Key) = Sum.inr b) = decide (a = b) := by
 by_cases e : a = b
 · subst e; simp
 · have h : ¬ (Sum.inr a : Key) = Sum.inr b := fun q => e (Sum.inr.inj q)
   rw [decide_eq_false h, decide_eq_false e]
theorem Jn (a : Int) (b : Str) : decide ((Sum.inl a : Key) = Sum.inr b) = false := decide_eq_false (fun q => nomatch q)
theorem Jm (a : Str) (b : Int) : decide ((Sum.inr a : Key) = Sum.inl b) = false := decide_eq_false (fun q => nomatch q)
noncomputable def yO (prog : Program) (w : World) : PySem.KeyKind prog w Key where
 is := FJ
 hash := Lr w
 inj := fun v a b ha hb => by
   rcases ck ha with ⟨i, t, rfl, rfl⟩ | ⟨x, t, rfl, rfl⟩
   · rcases ck hb with ⟨j, u, rfl, e⟩ | ⟨y, u, rfl, e⟩
     · injection e with e1 _; rw [e1]
     · exact nomatch e
   · rcases ck hb with ⟨j, u, rfl, e⟩ | ⟨y, u, rfl, e⟩
     · exact nomatch e
     · injection e with e1 _; rw [e1]
 byValue := fun k v h => by
   rcases ck h with ⟨i, t, rfl, rfl⟩ | ⟨x, t, rfl, rfl⟩ <;> rfl
 pyHash := fun hv h => by
   rcases ck hv with ⟨i, t, rfl, rfl⟩ | ⟨x, t, rfl, rfl⟩
   · exact wpAny_pyHash_int h
   · exact wpAny_pyHash_str h
 eqBool := fun hu hv h => by
   rcases ck hu with ⟨i, t, rfl, rfl⟩ | ⟨x, t, rfl, rfl⟩
   · rcases ck hv with ⟨j, u, rfl, rfl⟩ | ⟨y, u, rfl, rfl⟩
     · rw [Hj] at h; exact wpAny_eqBool_int h
     · rw [Jn] at h; exact SeqAt.EqAt.int_str i t y u _ _ _ _ h
   · rcases ck hv with ⟨j, u, rfl, rfl⟩ | ⟨y, u, rfl, rfl⟩
     · rw [Jm] at h; exact SeqAt.EqAt.str_int x t j u _ _ _ _ h
     · rw [Gp] at h; exact wpAny_eqBool_str h
 «strs» := fun k x t v h => by
   rcases ck h with ⟨i, u, rfl, e⟩ | ⟨y, u, rfl, e⟩
   · exact nomatch e
   · injection e with e1 _
     subst e1
     cases v <;> rfl
end L2
namespace L2
open PySem PySem.Spec PyProof.Rows
inductive V where
 | non | bl (b : Bool) | int (i : Int) | str (x : Str) | byt (b : Array UInt8) | flt (b : UInt64) | ref (a : Addr) | ty (n : String)
 deriving DecidableEq
noncomputable def RelV : V → Value → Prop
 | .non, u => u = Value.none
 | .bl b, u => u = Value.bool b
 | .int i, u => ∃ t, u = Value.int i t
 | .str x, u => ∃ t, u = Value.str x t
 | .byt b, u => ∃ t, u = Value.bytes b t
 | .flt b, u => ∃ t, u = Value.float b t
 | .ref a, u => u = Value.ref a
 | .ty n, u => u = Value.type n
noncomputable abbrev Vals : List V → List Value → Prop := Paired RelV
theorem Vals.length {xs : List V} {us : List Value} (r : Vals xs us) : xs.length = us.length := Paired.length r
theorem Vals.get : ∀ {xs : List V} {us : List Value} {i : Nat} {x : V}, Vals xs us → xs[i]? = some x → ∃ u, us[i]? = some u ∧ RelV x u
 | _, _, _, _, .nil, e => by simp at e
 | _, _, 0, _, .cons r _, e => by simp at e; subst e; exact ⟨_, rfl, r⟩
 | _, _, i + 1, x, .cons _ t, e => by
   obtain ⟨u, h1, h2⟩ := Vals.get (i := i) (x := x) t (by simpa using e)
   exact ⟨u, by simpa using h1, h2⟩
theorem Vals.set {x : V} {u : Value} (r : RelV x u) : ∀ {xs : List V} {us : List Value} (i : Nat), Vals xs us → Vals (xs.set i x) (us.set i u)
 | _, _, _, .nil => .nil
 | _, _, 0, .cons _ t => .cons r t
 | _, _, i + 1, .cons q t => .cons q (Vals.set r i t)
theorem Vals.append : ∀ {xs ys : List V} {us ws : List Value}, Vals xs us → Vals ys ws → Vals (xs ++ ys) (us ++ ws)
 | _, _, _, _, .nil, s => s
 | _, _, _, _, .cons r t, s => .cons r (Vals.append t s)
theorem Vals.take : ∀ {xs : List V} {us : List Value} (n : Nat), Vals xs us → Vals (xs.take n) (us.take n)
 | _, _, 0, _ => .nil
 | _, _, _ + 1, .nil => .nil
 | _, _, n + 1, .cons r t => .cons r (Vals.take n t)
theorem Vals.drop : ∀ {xs : List V} {us : List Value} (n : Nat), Vals xs us → Vals (xs.drop n) (us.drop n)
 | _, _, 0, r => r
 | _, _, _ + 1, .nil => .nil
 | _, _, n + 1, .cons _ t => Vals.drop n t
noncomputable def JP : Option V → Option Value → Prop
 | some v, some u => RelV v u
 | none, none => True
 | _, _ => False
noncomputable def KV {κ : Type} : List (κ × V) → List (κ × Value) → Prop := Paired fun (p : κ × V) (q : κ × Value) => p.1 = q.1 ∧ RelV p.2 q.2
noncomputable def kV : Key → V
 | .inl i => .int i
 | .inr x => .str x
inductive HO where
 | lst (xs : List V)
 | tup (xs : List V)
 | dK (kvs : List (Key × V)) | dT (kvs : List (List Key × V))
 | set (S : Int → Bool) (n : Nat)
 | ins (C dx : Addr) (fs : List (Str × V))
 | own (x : Addr)
 | xd (fs : List (Str × V))
 | met (f x : Addr)
 | rng (lo hi : Int)
 | frz (o : Obj) (u : HO)
 | tbl (ps : Array Value)
 | ext (φ : Heap → Prop)
noncomputable abbrev Hp := Addr → Option HO
noncomputable def upd (H : Hp) (a : Addr) (o : HO) : Hp := fun b => if b = a then some o else H b
theorem cZ {H : Hp} {a : Addr} {o : HO} : upd H a o a = some o := by unfold upd; rw [if_pos rfl]
theorem aB {H : Hp} {a b : Addr} {o : HO} (h : b ≠ a) : upd H a o b = H b := by unfold upd; rw [if_neg h]
theorem aH {H : Hp} {a b : Addr} {o : HO} (h : H a = some o) (h' : H b = none) : a ≠ b := by
 intro e; subst e; rw [h] at h'; cases h'
section
variable (P : Program) (w : World)
noncomputable def iB (H : Hp) (h : Heap) (a : Addr) : HO → Prop
 | .lst xs => xs.length ≤ sizeLine ∧ ∃ (its : List Value) (n : Nat), Vals xs its ∧ h.get? a = some { cls := .type "list", data := .seq its.toArray n }
 | .tup xs => xs.length ≤ sizeLine ∧ ∃ its : List Value, Vals xs its ∧ IsTup h a its.toArray
 | .dK kvs => kvs.length ≤ sizeLine ∧ (a == sysModules) = false ∧ ∃ vs, KV kvs vs ∧ h.DictOf (yO P w) a vs
 | .dT kvs => kvs.length ≤ sizeLine ∧ (a == sysModules) = false ∧ ∃ xs : List (List Key × Addr × Value),
     Paired (fun (p : List Key × V) (q : List Key × Addr × Value) => p.1 = q.1 ∧ H q.2.1 = some (.tup (p.1.map kV)) ∧ RelV p.2 q.2.2) kvs xs ∧
     ∃ o es ep, h.get? a = some o ∧ o.ExactDict ∧ o.data = .dict es ep ∧ es.toList = xs.map (entryOfKey (tupleKind (yO P w))) ∧ (xs.map (·.1)).Nodup
 | .set S n => h.SetOf (intKind P w) a S n
 | .ins C dx fs => H dx = some (.own a) ∧ fs.length ≤ 1000 ∧ dx ≠ a ∧ h.get? a = some (PySem.W.instObj C dx) ∧
     ∃ mA, h.Ns1 dx mA ∧ (∀ f, JP (fs.lookup f) (mA f)) ∧ PySem.Within mA (fs.map (·.1))
 | .own _ => ∃ o, h.get? a = some o
 | .xd fs => ∃ mA, h.Ns1 a mA ∧ ∀ f, JP (fs.lookup f) (mA f)
 | .rng lo hi => ∃ t u v, h.get? a = some { cls := .type "range", data := .fields #[.int lo t, .int hi u, .int 1 v] }
 | .frz o u => h.get? a = some o ∧ iB H h a u
 | .tbl ps => h.get? a = some { cls := .none, data := .fields ps }
 | .met f x => h.get? a = some (PySem.W.methodObj (.ref f) (.ref x))
 | .ext φ => φ h ∧ (∃ o, h.get? a = some o) ∧ ∀ h1 h2 : Heap, φ h1 → (∀ o, h1.get? a = some o → h2.get? a = some o) → φ h2
noncomputable def HOk (H : Hp) (h : Heap) : Prop := ∀ a o, H a = some o → iB P w H h a o
end
section
variable {P : Program} {w : World} {H H' : Hp} {h h' : Heap} {a : Addr} {o : HO}
theorem iB.lt (x : iB P w H h a o) : a < h.objs.size := by
 cases o with
 | lst xs => obtain ⟨_, _, _, _, e⟩ := x; exact Heap.lt_size e
 | tup xs => obtain ⟨_, _, _, p⟩ := x; exact p.lt
 | dK kvs => obtain ⟨_, _, _, _, o, _, _, e, _⟩ := x; exact Heap.lt_size e
 | dT kvs => obtain ⟨_, _, _, _, o, _, _, e, _⟩ := x; exact Heap.lt_size e
 | set S n => obtain ⟨o, _, _, _, e, _⟩ := x; exact Heap.lt_size e
 | ins C dx fs => obtain ⟨_, _, _, e, _⟩ := x; exact Heap.lt_size e
 | own y => obtain ⟨_, e⟩ := x; exact Heap.lt_size e
 | xd fs => obtain ⟨_, ⟨_, _, _, e, _⟩, _⟩ := x; exact Heap.lt_size e
 | rng lo hi => obtain ⟨_, _, _, e⟩ := x; exact Heap.lt_size e
 | frz ob u => obtain ⟨e, _⟩ := x; exact Heap.lt_size e
 | tbl ps => exact Heap.lt_size (show h.get? a = some _ from x)
 | met f y => exact Heap.lt_size (show h.get? a = some _ from x)
 | ext φ => obtain ⟨_, ⟨_, e⟩, _⟩ := x; exact Heap.lt_size e
theorem Paired.Kj {α β : Type} {F G : α → β → Prop} : ∀ {l₁ : List α} {l₂ : List β}, Paired F l₁ l₂ → (∀ a b, F a b → G a b) → Paired G l₁ l₂
 | _, _, .nil, _ => .nil
 | _, _, .cons r t, f => .cons (f _ _ r) (Paired.Kj t f)
theorem iB.lJ (x : iB P w H h a o) (k : ∀ b u, (b = a ∨ H b = some (.own a)) → h.get? b = some u → h'.get? b = some u)
   (ho : ∀ b, H b = some (.own a) → H' b = some (.own a)) (ht : ∀ b xs, H b = some (.tup xs) → H' b = some (.tup xs)) : iB P w H' h' a o := by
 induction o with
 | lst xs => obtain ⟨z, its, n, r, e⟩ := x; exact ⟨z, its, n, r, k _ _ (.inl rfl) e⟩
 | tup xs => obtain ⟨z, its, r, ob, e, c⟩ := x; exact ⟨z, its, r, ob, k _ _ (.inl rfl) e, c⟩
 | dK kvs => obtain ⟨z, y, vs, r, ob, es, ep, e, c⟩ := x; exact ⟨z, y, vs, r, ob, es, ep, k _ _ (.inl rfl) e, c⟩
 | dT kvs =>
   obtain ⟨z, y, xs, r, ob, es, ep, e, c⟩ := x
   exact ⟨z, y, xs, Paired.Kj r fun p q z => ⟨z.1, ht _ _ z.2.1, z.2.2⟩, ob, es, ep, k _ _ (.inl rfl) e, c⟩
 | set S n => obtain ⟨ob, es, ep, t, e, c⟩ := x; exact ⟨ob, es, ep, t, k _ _ (.inl rfl) e, c⟩
 | ins C dx fs =>
   obtain ⟨d, z, ne, e, mA, ⟨od, es, ep, e2, c⟩, r⟩ := x
   exact ⟨ho _ d, z, ne, k _ _ (.inl rfl) e, mA, ⟨od, es, ep, k _ _ (.inr d) e2, c⟩, r⟩
 | own y => obtain ⟨ob, e⟩ := x; exact ⟨ob, k _ _ (.inl rfl) e⟩
 | xd fs => obtain ⟨mA, ⟨od, es, ep, e, c⟩, r⟩ := x; exact ⟨mA, ⟨od, es, ep, k _ _ (.inl rfl) e, c⟩, r⟩
 | rng lo hi => obtain ⟨t, u, v, e⟩ := x; exact ⟨t, u, v, k _ _ (.inl rfl) e⟩
 | frz ob u ih => obtain ⟨e, q⟩ := x; exact ⟨k _ _ (.inl rfl) e, ih q⟩
 | tbl ps =>
   have e : h.get? a = some { cls := .none, data := .fields ps } := x
   show h'.get? a = some { cls := .none, data := .fields ps }
   exact k a _ (.inl rfl) e
 | met f y =>
   have e : h.get? a = some (PySem.W.methodObj (.ref f) (.ref y)) := x
   show h'.get? a = some (PySem.W.methodObj (.ref f) (.ref y))
   exact k a _ (.inl rfl) e
 | ext φ => obtain ⟨p, ⟨o, e⟩, st⟩ := x; exact ⟨st _ _ p fun o q => k _ _ (.inl rfl) q, ⟨o, k _ _ (.inl rfl) e⟩, st⟩
theorem HOk.lt (x : HOk P w H h) (e : H a = some o) : a < h.objs.size := (x a o e).lt
theorem HOk.fresh (x : HOk P w H h) (e : h.objs.size ≤ a) : H a = none := by
 cases q : H a with
 | none => rfl
 | some u => exact absurd (Nat.lt_of_lt_of_le (x.lt q) e) (Nat.lt_irrefl _)
theorem HOk.kept (x : HOk P w H h) (k : ∀ b u, h.get? b = some u → h'.get? b = some u) : HOk P w H h' := fun a o e =>
 (x a o e).lJ (fun b u _ q => k b u q) (fun _ q => q) fun _ _ q => q
theorem HOk.laid (x : HOk P w H h) (k : ∀ b u, h.get? b = some u → h'.get? b = some u) (hp : h.objs.size ≤ a) (new : iB P w (upd H a o) h' a o) : HOk P w (upd H a o) h' := fun b u e => by
 have hn := x.fresh hp
 by_cases hb : b = a
 · subst hb; rw [cZ] at e; cases e; exact new
 · rw [aB hb] at e
   exact (x b u e).lJ (fun c v _ q => k c v q) (fun c q => by rw [aB (aH q hn)]; exact q) fun c xs q => by rw [aB (aH q hn)]; exact q
end
noncomputable def Rd (H : Hp) (a : Addr) (u : HO) : Prop := H a = some u ∨ ∃ o, H a = some (.frz o u)
theorem Rd.ok {P : Program} {w : World} {H : Hp} {h : Heap} {a : Addr} {u : HO} (r : Rd H a u) (x : HOk P w H h) : iB P w H h a u := by
 rcases r with r | ⟨o, r⟩
 · exact x a u r
 · obtain ⟨_, q⟩ := x a _ r
   exact q
noncomputable def Mut : Option HO → Prop
 | some (.lst _) => True
 | some (.dK _) => True
 | some (.dT _) => True
 | some (.set _ _) => True
 | some (.ins _ _ _) => True
 | some (.ext _) => True
 | _ => False
section
variable {P : Program} {w : World} {H : Hp} {h h' : Heap} {x e : Addr} {o' : HO}
theorem HOk.write (ok : HOk P w H h) (mu : Mut (H x)) (he : e = x ∨ H e = some (.own x)) (k : ∀ b u, b ≠ e → h.get? b = some u → h'.get? b = some u) (heo : ∃ u, h'.get? e = some u)
   (new : iB P w (upd H x o') h' x o') : HOk P w (upd H x o') h' := fun b u q => by
 have nown : ∀ c y, H c = some (.own y) → c ≠ x := fun c y r z => by subst z; rw [r] at mu; exact mu
 have ntup : ∀ c xs, H c = some (.tup xs) → c ≠ x := fun c xs r z => by subst z; rw [r] at mu; exact mu
 by_cases hb : b = x
 · subst hb; rw [cZ] at q; cases q; exact new
 · rw [aB hb] at q
   by_cases hbe : b = e
   · have q' : H b = some (.own x) := by
       rcases he with z | z
       · exact absurd (hbe.trans z) hb
       · rw [hbe]; exact z
     rw [q] at q'; cases q'
     obtain ⟨v, hv⟩ := heo
     exact ⟨v, by rw [hbe]; exact hv⟩
   · refine (ok b u q).lJ (fun c v hc r => k c v ?_ r) (fun c r => by rw [aB (nown c b r)]; exact r) fun c xs r => by rw [aB (ntup c xs r)]; exact r
     rcases hc with rfl | hc
     · exact hbe
     · rintro rfl
       rcases he with z | z
       · exact nown c b hc z
       · rw [hc] at z; cases z; exact hb rfl
end
structure Un (fs ex : List Addr) (H H' : Hp) (h h' : Heap) : Prop where
 keep : ∀ b o, h.get? b = some o → H b = none → b ∉ fs → b ∉ ex → h'.get? b = some o
 slot : ∀ b o, h.get? b = some o → H b = none → b ∈ fs → b ∉ ex → ∃ sl, h'.get? b = some { o with slots := sl }
 free : ∀ b o, h.get? b = some o → H b = none → b ∉ ex → H' b = none
 there : ∀ b o, h.get? b = some o → b ∉ ex → ∃ o', h'.get? b = some o'
 tups : ∀ b xs, H b = some (.tup xs) → H' b = some (.tup xs)
 frzs : ∀ b o u, H b = some (.frz o u) → H' b = some (.frz o u)
 tbls : ∀ b ps, H b = some (.tbl ps) → ∃ more, H' b = some (.tbl (ps ++ more))
section
variable {fs fs' ex ex' : List Addr} {H H1 H2 : Hp} {h h1 h2 h' : Heap} {a x e : Addr} {o : HO}
theorem Un.any (u : Un fs ex H H1 h h1) {b : Addr} {ob : Obj} (q : h.get? b = some ob) (n : H b = none) (hx : b ∉ ex) : ∃ sl, h1.get? b = some { ob with slots := sl } := by
 by_cases hb : b ∈ fs
 · exact u.slot b ob q n hb hx
 · exact ⟨ob.slots, u.keep b ob q n hb hx⟩
theorem Un.kept (k : ∀ b u, h.get? b = some u → h'.get? b = some u) : Un fs ex H H h h' :=
 ⟨fun b ob q _ _ _ => k b ob q, fun b ob q _ _ _ => ⟨ob.slots, k b ob q⟩, fun _ _ _ n _ => n, fun b ob q _ => ⟨ob, k b ob q⟩, fun _ _ q => q, fun _ _ _ q => q, fun _ ps q => ⟨#[], by rw [q]; simp⟩⟩
theorem Un.refl : Un fs ex H H h h := Un.kept fun _ _ q => q
theorem Un.laid (k : ∀ b u, h.get? b = some u → h'.get? b = some u) (hp : h.objs.size ≤ a) (hn : H a = none) : Un fs ex H (upd H a o) h h' where
 keep := fun b u q _ _ _ => k b u q
 slot := fun b u q _ _ _ => ⟨u.slots, k b u q⟩
 free := fun b u q n _ => by rw [aB (Nat.ne_of_lt (Nat.lt_of_lt_of_le (Heap.lt_size q) hp))]; exact n
 there := fun b u q _ => ⟨u, k b u q⟩
 tups := fun b xs q => by rw [aB (aH q hn)]; exact q
 frzs := fun b u xs q => by rw [aB (aH q hn)]; exact q
 tbls := fun b ps q => ⟨#[], by rw [aB (aH q hn), q]; simp⟩
theorem Un.write (mu : Mut (H x)) (he : e = x ∨ H e = some (.own x)) (k : ∀ b u, b ≠ e → h.get? b = some u → h'.get? b = some u) (heo : ∃ u, h'.get? e = some u) : Un fs ex H (upd H x o) h h' := by
 have hx : ∀ b, H b = none → b ≠ x := fun b n z => by subst z; rw [n] at mu; exact mu
 have hb : ∀ b, H b = none → b ≠ e := fun b n z => by
   subst z
   rcases he with r | r
   · exact hx b n r
   · rw [n] at r; cases r
 have hm : ∀ b u, H b = some u → ¬ Mut (some u) → b ≠ x := fun b u q nm z => by subst z; rw [q] at mu; exact nm mu
 refine ⟨fun b u q n _ _ => k b u (hb b n) q, fun b u q n _ _ => ⟨u.slots, k b u (hb b n) q⟩, fun b u q n _ => by rw [aB (hx b n)]; exact n, fun b u q _ => ?_,
   fun b xs q => by rw [aB (hm b _ q fun z => z)]; exact q, fun b u xs q => by rw [aB (hm b _ q fun z => z)]; exact q, fun b ps q => ⟨#[], by rw [aB (hm b _ q fun z => z), q]; simp⟩⟩
 by_cases hbe : b = e
 · subst hbe; exact heo
 · exact ⟨u, k b u hbe q⟩
end
noncomputable def trk (h : Heap) (H : Hp) : List Addr := (List.range h.objs.size).filter fun a => (H a).isSome
noncomputable def ud (h : Heap) (H : Hp) : Heap := PySem.W.hideAll h (trk h H)
theorem AE (h : Heap) (H : Hp) : (ud h H).objs.size = h.objs.size := PySem.W.hideAll_size _ _
theorem BP {h : Heap} {H : Hp} {b : Addr} {o : Obj} (e : h.get? b = some o) (n : H b = none) : (ud h H).get? b = some o :=
 PySem.W.hideAll_get _ e fun hm => by
   have q : (H b).isSome = true := (List.mem_filter.mp hm).2
   rw [n] at q; simp at q
theorem EU {h : Heap} {H : Hp} {b : Addr} {o : Obj} (e : (ud h H).get? b = some o) : h.get? b = some o ∧ H b = none := by
 have e' : h.get? b = some o := PySem.W.of_hideAll (trk h H) e
 refine ⟨e', ?_⟩
 cases q : H b with
 | none => rfl
 | some x =>
   have hm : b ∈ trk h H := List.mem_filter.mpr ⟨List.mem_range.mpr (Heap.lt_size e'), by simp [q]⟩
   have z : (ud h H).get? b = none := PySem.W.hideAll_none (trk h H) hm
   rw [z] at e; cases e
noncomputable def DK (g h : Heap) (L : Addr) : List (Addr × Obj) := (List.range h.objs.size).filterMap fun a => if a = L ∨ (g.get? a).isSome = true then none else (h.get? a).map fun o => (a, o)
noncomputable def rest (g h : Heap) (L d : Addr) : List (Addr × Obj) := (DK g h L).filter fun p => decide (p.1 ≠ d)
end L2
namespace L2
open PySem PySem.Spec PyProof.Rows
structure Mod (K : PySem.W.Frag) (mg : Str → Option Value) (base : Heap) : Prop where
 kin : K.In base
 glob : base.Ns mainGlobals mg
 blt : ∃ mb, base.Ns builtinsNs mb ∧ ∀ x : Str, x ≠ "__name__" → mb x = bootBuiltins x
 nolimit : base.NoLimit
structure Cx where
 prog : Program
 w : World
 K : PySem.W.Frag
 mg : Str → Option Value
 base : Heap
 A : Around
 N : List Str
 s₀ : Shared
 H₀ : Hp
 env : Env
 outer : List Env
 stack : List Env
 ex : List Addr
 fn : Str → Bool
 calm : Bool
 pn : List (Addr × Obj)
 xe : Value → Shared → Prop
noncomputable def frs (l : List Env) : List Addr := l.filterMap (·.frame)
noncomputable abbrev Cx.fs (X : Cx) : List Addr := frs X.outer
noncomputable def Vis (sc : Scope) (x : Str) : Prop := sc.names.lookup x = some .local ∨ sc.names.lookup x = some .cell ∨ sc.names.lookup x = some .free
noncomputable def Loc (sc : Scope) (x : Str) : Prop := sc.names.lookup x = some .local ∨ sc.names.lookup x = some .cell
noncomputable def Look (env : Env) (h : Heap) (m : Str → Option Value) (x : Str) (u : Value) : Prop :=
 (env.kindOf x = some .local ∧ m x = some u) ∨ ((env.kindOf x = some .cell ∨ env.kindOf x = some .free) ∧ ∃ c, env.cells.lookup x = some c ∧ h.IsCell c (some u))
structure Cx.Ok (X : Cx) : Prop where
 mod : Mod X.K X.mg X.base
 kind : X.env.scope.kind = .function
 glob : X.env.globals = mainGlobals
 blt : X.env.builtins = builtinsNs
 above : X.s₀.heap.objs.size ≤ X.env.locals
 inj : ∀ x y c, X.env.cells.lookup x = some c → X.env.cells.lookup y = some c → x = y
 has : ∀ x, (X.env.kindOf x = some .cell ∨ X.env.kindOf x = some .free) → ∃ c, X.env.cells.lookup x = some c
 cab : ∀ x c, X.fn x = true → X.env.cells.lookup x = some c → X.s₀.heap.objs.size ≤ c
 hd : X.calm = true → X.A.handled = none
 frames : X.A.frames = some X.stack
 stk : X.stack = X.outer ∨ (X.stack = X.env :: X.outer ∧ X.env.frame = some X.env.locals)
 exf : ∀ b ∈ X.ex, b ≠ X.env.locals ∧ ∀ x c, X.env.cells.lookup x = some c → c ≠ b
 bs : ∀ b o, X.base.get? b = some o → X.s₀.heap.get? b = some o ∧ X.H₀ b = none
 bsz : X.base.objs.size ≤ X.s₀.heap.objs.size
 noex : ∀ b o, X.base.get? b = some o → b ∉ X.ex
 exfs : ∀ b ∈ X.ex, b ∉ X.fs
 pW : X.s₀.heap.FunFrames X.base X.outer
 frf : ∀ b ∈ X.fs, X.H₀ b = none
structure Inv (X : Cx) (pins : List (Addr × Obj)) (σ : List (Option V)) (H : Hp) (s : Shared) : Prop where
 ok : X.Ok
 os : s.os = X.s₀.os
 bare : AllBare s.gens
 base : Un X.fs X.ex X.H₀ H X.s₀.heap s.heap
 loc : ∃ m, s.heap.Ns X.env.locals m ∧ ∀ (i : Nat) (x : Str) (v : V), X.N[i]? = some x → σ[i]? = some (some v) → Vis X.env.scope x → ∃ u, RelV v u ∧ Look X.env s.heap m x u
 cell : ∀ x c, X.env.cells.lookup x = some c → ∃ v, s.heap.IsCell c v
 free : H X.env.locals = none
 freeC : ∀ x c, X.env.cells.lookup x = some c → H c = none
 pin : ∀ p ∈ X.pn ++ pins, s.heap.get? p.1 = some p.2 ∧ H p.1 = none ∧ p.1 ≠ X.env.locals ∧ p.1 ∉ X.fs ∧ ∀ v, p.2.data ≠ .cell v
 hok : HOk X.prog X.w H s.heap
 len : σ.length = X.N.length
section
variable {X : Cx} {pins : List (Addr × Obj)} {σ : List (Option V)} {H H' : Hp} {s : Shared} {h' : Heap}
theorem Cx.Ok.LK (ok : X.Ok) {b : Addr} {o : Obj} (e : X.base.get? b = some o) : b ∉ X.fs := fun hb => by
 have := (ok.pW.mem hb).1
 rw [e] at this; cases this
theorem Inv.bs (I : Inv X pins σ H s) : ∀ b o, X.base.get? b = some o → s.heap.get? b = some o ∧ H b = none := fun b o e =>
 ⟨I.base.keep b o (I.ok.bs b o e).1 (I.ok.bs b o e).2 (I.ok.LK e) (I.ok.noex b o e), I.base.free b o (I.ok.bs b o e).1 (I.ok.bs b o e).2 (I.ok.noex b o e)⟩
theorem Inv.bk (I : Inv X pins σ H s) : ∀ b o, X.base.get? b = some o → s.heap.get? b = some o := fun b o e => (I.bs b o e).1
theorem Inv.mod (I : Inv X pins σ H s) : Mod X.K X.mg X.base := I.ok.mod
theorem Inv.kIn (I : Inv X pins σ H s) : X.K.In s.heap := I.ok.mod.kin.keeps I.bk
theorem Inv.lt (I : Inv X pins σ H s) : X.env.locals < s.heap.objs.size := let ⟨_, hn, _⟩ := I.loc; hn.lt
theorem Inv.sz (I : Inv X pins σ H s) : X.s₀.heap.objs.size ≤ s.heap.objs.size := Nat.le_trans I.ok.above (Nat.le_of_lt I.lt)
theorem Inv.Ln (I : Inv X pins σ H s) {a : Addr} (h : s.heap.objs.size ≤ a) : a ∉ X.fs := fun hb => by
 obtain ⟨_, o, ho, _⟩ := I.ok.pW.mem hb
 exact absurd (Nat.lt_of_lt_of_le (Heap.lt_size ho) (Nat.le_trans I.sz h)) (Nat.lt_irrefl _)
theorem Inv.cne (I : Inv X pins σ H s) : ∀ x c, X.env.cells.lookup x = some c → c ≠ X.env.locals := fun x c e z => by
 obtain ⟨v, o, ho, hd⟩ := I.cell x c e
 obtain ⟨m, ⟨o', es, ep, ho', hd', _⟩, _⟩ := I.loc
 rw [z, ho'] at ho; cases ho; rw [hd'] at hd; cases hd
theorem Inv.pW (I : Inv X pins σ H s) : s.heap.FunFrames X.base X.outer := by
 have all : ∀ (l : List Env), (∀ b ∈ frs l, b ∈ X.fs) → X.s₀.heap.FunFrames X.base l → s.heap.FunFrames X.base l := by
   intro l
   induction l with
   | nil => intro _ _; trivial
   | cons env r ih =>
     intro hs hl
     obtain ⟨hk, ⟨L, o, hf, hn, ho, hd⟩, hr⟩ := hl
     have hL : L ∈ X.fs := hs L (by unfold frs; rw [List.filterMap_cons, hf]; exact List.mem_cons_self)
     obtain ⟨sl, e⟩ := I.base.slot L o ho (I.ok.frf L hL) hL fun z => I.ok.exfs L z hL
     exact ⟨hk, ⟨L, _, hf, hn, e, hd⟩, ih (fun b hb => hs b (by unfold frs; rw [List.filterMap_cons, hf]; exact List.mem_cons_of_mem _ hb)) hr⟩
 exact all X.outer (fun _ hb => hb) I.ok.pW
theorem Inv.stack (I : Inv X pins σ H s) : s.heap.FunFrames X.base X.stack := by
 rcases I.ok.stk with e | ⟨e, hf⟩
 · rw [e]; exact I.pW
 · rw [e]
   obtain ⟨m, hn, _⟩ := I.loc
   refine .cons (by rw [I.ok.kind]; decide) hf hn ?_ I.pW
   exact Heap.get?_none_of_le (Nat.le_trans I.ok.bsz I.ok.above)
theorem Inv.yg (I : Inv X pins σ H s) : ∀ b ∈ frs X.stack, b ∈ X.env.locals :: X.fs := fun b hb => by
 rcases I.ok.stk with e | ⟨e, hf⟩
 · rw [e] at hb; exact List.mem_cons_of_mem _ hb
 · rw [e] at hb
   unfold frs at hb
   rw [List.filterMap_cons, hf] at hb
   exact hb
theorem Inv.y8 (I : Inv X pins σ H s) : ∀ b ∈ frs X.stack, H b = none := fun b hb => by
 rcases List.mem_cons.mp (I.yg b hb) with e | hb
 · rw [e]; exact I.free
 · obtain ⟨_, o, ho, _⟩ := I.ok.pW.mem hb
   exact I.base.free b o ho (I.ok.frf b hb) fun z => I.ok.exfs b z hb
theorem Inv.step {g' : Array GenState} {t' : Nat} {d' : Drawn} {ch : List Addr} (I : Inv X pins σ H s)
   (hch : ∀ b ∈ ch, (b ∈ X.ex ∨ X.s₀.heap.objs.size ≤ b) ∧ b ≠ X.env.locals ∧ (∀ x c, X.env.cells.lookup x = some c → c ≠ b) ∧ ∀ p ∈ X.pn ++ pins, p.1 ≠ b)
   (keep : ∀ b o, b ≠ X.env.locals → b ∉ X.fs → b ∉ ch → s.heap.get? b = some o → H b = none → h'.get? b = some o)
   (slot : ∀ b o, b ≠ X.env.locals → b ∈ X.fs → b ∉ ch → s.heap.get? b = some o → H b = none → ∃ sl, h'.get? b = some { o with slots := sl }) (free : ∀ b o, b ∉ ch → s.heap.get? b = some o → H b = none → H' b = none)
   (there : ∀ b o, b ∉ ch → s.heap.get? b = some o → ∃ o', h'.get? b = some o')
   (tups : ∀ b xs, H b = some (.tup xs) → H' b = some (.tup xs)) (frzs : ∀ b o u, H b = some (.frz o u) → H' b = some (.frz o u)) (tbls : ∀ b ps, H b = some (.tbl ps) → ∃ more, H' b = some (.tbl (ps ++ more)))
   (ns : ∀ m, s.heap.Ns X.env.locals m → h'.Ns X.env.locals m) (hok : HOk X.prog X.w H' h') (hg : AllBare g') :
   Inv X pins σ H' { s with heap := h', gens := g', drawn := d', toks := t' } := by
 have neL : ∀ b o, X.s₀.heap.get? b = some o → b ≠ X.env.locals := fun b o e => Nat.ne_of_lt (Nat.lt_of_lt_of_le (Heap.lt_size e) I.ok.above)
 have neC : ∀ b o, X.s₀.heap.get? b = some o → b ∉ X.ex → b ∉ ch := fun b o e hx hb => by
   rcases (hch b hb).1 with z | z
   · exact hx z
   · exact absurd (Nat.lt_of_lt_of_le (Heap.lt_size e) z) (Nat.lt_irrefl _)
 have cellK : ∀ x c, X.env.cells.lookup x = some c → ∀ v, s.heap.IsCell c v → h'.IsCell c v := fun x c e v ⟨o, ho, hd⟩ => by
   have nch : c ∉ ch := fun z => (hch c z).2.2.1 x c e rfl
   by_cases hc : c ∈ X.fs
   · obtain ⟨sl, q⟩ := slot c o (I.cne x c e) hc nch ho (I.freeC x c e)
     exact ⟨_, q, hd⟩
   · exact ⟨o, keep c o (I.cne x c e) hc nch ho (I.freeC x c e), hd⟩
 refine ⟨I.ok, I.os, hg, ⟨fun b o e n hb hx => ?_, fun b o e n hb hx => ?_, fun b o e n hx => ?_, fun b o e hx => ?_, fun b xs e => tups b xs (I.base.tups b xs e), fun b o xs e => frzs b o xs (I.base.frzs b o xs e), fun b ps e => ?_⟩, ?_, fun x c e => ?_, ?_, fun x c e => ?_, fun p hp => ?_, hok, I.len⟩
 · exact keep b o (neL b o e) hb (neC b o e hx) (I.base.keep b o e n hb hx) (I.base.free b o e n hx)
 · obtain ⟨sl, e1⟩ := I.base.slot b o e n hb hx
   obtain ⟨sl', e2⟩ := slot b _ (neL b o e) hb (neC b o e hx) e1 (I.base.free b o e n hx)
   exact ⟨sl', e2⟩
 · obtain ⟨o', e1⟩ := I.base.there b o e hx
   exact free b o' (neC b o e hx) e1 (I.base.free b o e n hx)
 · obtain ⟨o', e1⟩ := I.base.there b o e hx
   exact there b o' (neC b o e hx) e1
 · obtain ⟨m1, e1⟩ := I.base.tbls b ps e
   obtain ⟨m2, e2⟩ := tbls b _ e1
   exact ⟨m1 ++ m2, by rw [e2, Array.append_assoc]⟩
 · obtain ⟨m, hn, hl⟩ := I.loc
   refine ⟨m, ns m hn, fun i x v e1 e2 e3 => ?_⟩
   obtain ⟨u, r, l⟩ := hl i x v e1 e2 e3
   refine ⟨u, r, ?_⟩
   rcases l with l | ⟨k, c, e, z⟩
   · exact .inl l
   · exact .inr ⟨k, c, e, cellK x c e _ z⟩
 · obtain ⟨v, z⟩ := I.cell x c e
   exact ⟨v, cellK x c e v z⟩
 · obtain ⟨m, ⟨o, _, _, ho, _⟩, _⟩ := I.loc
   exact free _ o (fun z => (hch _ z).2.1 rfl) ho I.free
 · obtain ⟨v, o, ho, hd⟩ := I.cell x c e
   exact free c o (fun z => (hch c z).2.2.1 x c e rfl) ho (I.freeC x c e)
 · obtain ⟨e, n, ne, nf, d⟩ := I.pin p hp
   have nch : p.1 ∉ ch := fun z => (hch p.1 z).2.2.2 p hp rfl
   exact ⟨keep p.1 p.2 ne nf nch e n, free p.1 p.2 nch e n, ne, nf, d⟩
theorem Inv.un {t' : Nat} (I : Inv X pins σ H s) (u : Un X.fs [] H H' s.heap h') (hok : HOk X.prog X.w H' h') : Inv X pins σ H' { s with heap := h', toks := t' } := by
 obtain ⟨m, ⟨o, es, ep, ho, r⟩, _⟩ := id I.loc
 obtain ⟨sl, hL⟩ := u.any ho I.free (by simp)
 exact I.step (g' := s.gens) (d' := s.drawn) (ch := []) (fun _ z => nomatch z) (fun b o _ hb _ e n => u.keep b o e n hb (by simp)) (fun b o _ hb _ e n => u.slot b o e n hb (by simp)) (fun b o _ e n => u.free b o e n (by simp)) (fun b o _ e => u.there b o e (by simp)) u.tups u.frzs u.tbls (fun m' hm => by
   obtain ⟨o', es', ep', ho', r'⟩ := hm
   rw [ho] at ho'; cases ho'
   exact ⟨_, es', ep', hL, r'⟩) hok I.bare
theorem Inv.call {g' : Array GenState} {t' : Nat} {d' : Drawn} {ch : List Addr} (I : Inv X pins σ H s) (u : Un (frs X.stack) ch H H' s.heap h') (hok : HOk X.prog X.w H' h') (hg : AllBare g')
   (hch : ∀ b ∈ ch, (b ∈ X.ex ∨ X.s₀.heap.objs.size ≤ b) ∧ b ≠ X.env.locals ∧ (∀ x c, X.env.cells.lookup x = some c → c ≠ b) ∧ ∀ p ∈ X.pn ++ pins, p.1 ≠ b) :
   Inv X pins σ H' { s with heap := h', gens := g', drawn := d', toks := t' } := by
 obtain ⟨m, ⟨o, es, ep, ho, r⟩, _⟩ := id I.loc
 obtain ⟨sl, hL⟩ := u.any ho I.free fun z => (hch _ z).2.1 rfl
 exact I.step (ch := ch) hch (fun b o hL hb hc e n => u.keep b o e n (fun z => (List.mem_cons.mp (I.yg b z)).elim hL hb) hc) (fun b o _ _ hc e n => u.any e n hc) (fun b o hc e n => u.free b o e n hc) (fun b o hc e => u.there b o e hc) u.tups u.frzs u.tbls (fun m' hm => by
   obtain ⟨o', es', ep', ho', r'⟩ := hm
   rw [ho] at ho'; cases ho'
   exact ⟨_, es', ep', hL, r'⟩) hok hg
theorem Inv.turned {t' : Nat} {it : Addr} (I : Inv X pins σ H s) (k : ∀ b o, b ≠ it → s.heap.get? b = some o → h'.get? b = some o) (hn : H it = none) (hL : it ≠ X.env.locals)
   (h1 : it ∈ X.ex ∨ X.s₀.heap.objs.size ≤ it) (h2 : ∀ x c, X.env.cells.lookup x = some c → c ≠ it) (h3 : ∀ p ∈ X.pn ++ pins, p.1 ≠ it) : Inv X pins σ H { s with heap := h', toks := t' } := by
 have nit : ∀ b u, H b = some u → b ≠ it := fun b u e z => by rw [z, hn] at e; cases e
 refine I.step (g' := s.gens) (d' := s.drawn) (ch := [it]) (fun b hb => ?_) (fun b o _ _ hc e _ => k b o (fun z => hc (by simp [z])) e) (fun b o _ _ hc e _ => ⟨o.slots, k b o (fun z => hc (by simp [z])) e⟩) (fun _ _ _ _ n => n)
   (fun b o hc e => ⟨o, k b o (fun z => hc (by simp [z])) e⟩) (fun _ _ e => e) (fun _ _ _ e => e) (fun b ps e => ⟨#[], by rw [e]; simp⟩) (fun m hm => ?_) (fun b u e => ?_) I.bare
 · have e : b = it := by simpa using hb
   subst e
   exact ⟨h1, hL, h2, h3⟩
 · obtain ⟨o, es, ep, ho, r⟩ := hm
   exact ⟨o, es, ep, k _ o (Ne.symm hL) ho, r⟩
 · refine (I.hok b u e).lJ (fun c v hc q => k c v ?_ q) (fun _ q => q) fun _ _ q => q
   rcases hc with z | z
   · rw [z]; exact nit b u e
   · exact nit c _ z
theorem Inv.tok (I : Inv X pins σ H s) (t : Nat) : Inv X pins σ H { s with toks := t } := I.un (h' := s.heap) (t' := t) Un.refl I.hok
theorem Inv.kept {t' : Nat} (I : Inv X pins σ H s) (k : ∀ b u, s.heap.get? b = some u → h'.get? b = some u) : Inv X pins σ H { s with heap := h', toks := t' } := I.un (Un.kept k) (I.hok.kept k)
theorem Inv.laid {a : Addr} {o : HO} {t' : Nat} (I : Inv X pins σ H s) (k : ∀ b u, s.heap.get? b = some u → h'.get? b = some u) (hp : s.heap.objs.size ≤ a) (new : iB X.prog X.w (upd H a o) h' a o) :
   Inv X pins σ (upd H a o) { s with heap := h', toks := t' } := I.un (Un.laid k hp (I.hok.fresh hp)) (I.hok.laid k hp new)
theorem Inv.write {x e : Addr} {o : HO} {t' : Nat} (I : Inv X pins σ H s) (mu : Mut (H x)) (he : e = x ∨ H e = some (.own x)) (k : ∀ b u, b ≠ e → s.heap.get? b = some u → h'.get? b = some u) (heo : ∃ u, h'.get? e = some u)
   (new : iB X.prog X.w (upd H x o) h' x o) : Inv X pins σ (upd H x o) { s with heap := h', toks := t' } := I.un (Un.write mu he k heo) (I.hok.write mu he k heo new)
theorem Inv.zj {pins' : List (Addr × Obj)} (I : Inv X pins σ H s) (h : ∀ p ∈ pins', s.heap.get? p.1 = some p.2 ∧ H p.1 = none ∧ p.1 ≠ X.env.locals ∧ p.1 ∉ X.fs ∧ ∀ v, p.2.data ≠ .cell v) : Inv X pins' σ H s :=
 ⟨I.ok, I.os, I.bare, I.base, I.loc, I.cell, I.free, I.freeC, fun p hp => (List.mem_append.mp hp).elim (fun z => I.pin p (List.mem_append_left _ z)) (h p), I.hok, I.len⟩
theorem uP {N : List Str} (hN : N.Nodup) {i j : Nat} {x : Str} (a : N[i]? = some x) (b : N[j]? = some x) : i = j := by
 obtain ⟨h1, e1⟩ := List.getElem?_eq_some_iff.mp a
 obtain ⟨h2, e2⟩ := List.getElem?_eq_some_iff.mp b
 exact (List.getElem_inj hN).mp (e1.trans e2.symm)
theorem AN {M : Model} {A : Around} {E : Value → Shared → Prop} {i : Nat} {x : Str} {v : V} {u : Value} {Q : Unit → Shared → Prop} (I : Inv X pins σ H s) (hN : X.N.Nodup) (hi : X.N[i]? = some x) (hx : Loc X.env.scope x) (r : RelV v u)
   (h : ∀ s', Inv X pins (σ.set i (some v)) H s' → (∃ a, Heap.SameBut a s.heap s'.heap ∧ (a = X.env.locals ∨ X.env.cells.lookup x = some a)) → Q () s') (hf : X.fn x = true ∨ X.env.scope.names.lookup x = some .local := by first | exact .inl rfl | exact .inr rfl | assumption) : wpAny M A (storeName X.env x u) Q E s := by
 obtain ⟨m, hn, hl⟩ := id I.loc
 have hcls : (X.env.scope.kind == .class || (X.env.scope.kind == .module && X.env.locals != X.env.globals)) = false := by rw [I.ok.kind]; rfl
 have hiσ : i < σ.length := by rw [I.len]; exact (List.getElem?_eq_some_iff.mp hi).1
 have cne := I.cne
 have tracked : ∀ {a : Addr} {h' : Heap}, (∃ o, s.heap.get? a = some o ∧ H a = none) → Heap.SameBut a s.heap h' → HOk X.prog X.w H h' := fun {a h'} ha hs b ob e => by
   obtain ⟨_, _, hfree⟩ := ha
   refine (I.hok b ob e).lJ (fun c w' hc q => (hs.2 c ?_).trans q) (fun _ q => q) fun _ _ q => q
   rintro rfl
   rcases hc with rfl | hc
   · rw [hfree] at e; cases e
   · rw [hfree] at hc; cases hc
 rcases hx with hk | hk
 · refine wpAny_storeName_local hk hn (fun h' hn' hs => ?_) hcls
   obtain ⟨oL, _, _, hoL, _⟩ := id hn
   refine h _ ⟨I.ok, I.os, I.bare, ⟨fun b o e n hb hx => ?_, fun b o e n hb hx => ?_, I.base.free, fun b o e hx => ?_, I.base.tups, I.base.frzs, I.base.tbls⟩, ⟨_, hn', fun j y v' e1 e2 e3 => ?_⟩, fun y c e => ?_, I.free, I.freeC, fun p hp => ?_, tracked ⟨oL, hoL, I.free⟩ hs, by simpa using I.len⟩ ⟨_, hs, .inl rfl⟩
   · exact (hs.2 b (Nat.ne_of_lt (Nat.lt_of_lt_of_le (Heap.lt_size e) I.ok.above))).trans (I.base.keep b o e n hb hx)
   · obtain ⟨sl, e1⟩ := I.base.slot b o e n hb hx
     exact ⟨sl, (hs.2 b (Nat.ne_of_lt (Nat.lt_of_lt_of_le (Heap.lt_size e) I.ok.above))).trans e1⟩
   · obtain ⟨o', e1⟩ := I.base.there b o e hx
     exact ⟨o', (hs.2 b (Nat.ne_of_lt (Nat.lt_of_lt_of_le (Heap.lt_size e) I.ok.above))).trans e1⟩
   · by_cases hj : j = i
     · subst hj
       rw [hi] at e1; cases e1
       rw [List.getElem?_set_self hiσ] at e2
       cases e2
       exact ⟨u, r, .inl ⟨hk, by simp⟩⟩
     · rw [List.getElem?_set_ne (Ne.symm hj)] at e2
       obtain ⟨u', r', q⟩ := hl j y v' e1 e2 e3
       refine ⟨u', r', ?_⟩
       rcases q with ⟨k, e⟩ | ⟨k, c, e, z⟩
       · refine .inl ⟨k, ?_⟩
         have : y ≠ x := fun e => hj (uP hN e1 (e ▸ hi))
         simp [this, e]
       · exact .inr ⟨k, c, e, z.sameBut hs (cne y c e)⟩
   · obtain ⟨w', z⟩ := I.cell y c e
     exact ⟨w', z.sameBut hs (cne y c e)⟩
   · obtain ⟨e, n, ne, nf, d⟩ := I.pin p hp
     exact ⟨(hs.2 p.1 ne).trans e, n, ne, nf, d⟩
 · have hfn : X.fn x = true := by
     rcases hf with z | z
     · exact z
     · rw [z] at hk; cases hk
   obtain ⟨c, hc⟩ := I.ok.has x (.inl hk)
   obtain ⟨w', z⟩ := I.cell x c hc
   refine wpAny_storeName_cell I.ok.kind hk hc z (fun h' hc' hs => ?_)
   obtain ⟨oc, hoc, hocd⟩ := id z
   refine h { s with heap := h' } ⟨I.ok, I.os, I.bare, ⟨fun b o e n hb hx => ?_, fun b o e n hb hx => ?_, I.base.free, fun b o e hx => ?_, I.base.tups, I.base.frzs, I.base.tbls⟩, ⟨m, hn.sameBut hs (Ne.symm (cne x c hc)), fun j y v' e1 e2 e3 => ?_⟩, fun y c' e => ?_, I.free, I.freeC, fun p hp => ?_, tracked ⟨oc, hoc, I.freeC x c hc⟩ hs, by simpa using I.len⟩ ⟨c, hs, .inr hc⟩
   · exact (hs.2 b (Nat.ne_of_lt (Nat.lt_of_lt_of_le (Heap.lt_size e) (I.ok.cab x c hfn hc)))).trans (I.base.keep b o e n hb hx)
   · obtain ⟨sl, e1⟩ := I.base.slot b o e n hb hx
     exact ⟨sl, (hs.2 b (Nat.ne_of_lt (Nat.lt_of_lt_of_le (Heap.lt_size e) (I.ok.cab x c hfn hc)))).trans e1⟩
   · obtain ⟨o', e1⟩ := I.base.there b o e hx
     exact ⟨o', (hs.2 b (Nat.ne_of_lt (Nat.lt_of_lt_of_le (Heap.lt_size e) (I.ok.cab x c hfn hc)))).trans e1⟩
   · by_cases hj : j = i
     · subst hj
       rw [hi] at e1; cases e1
       rw [List.getElem?_set_self hiσ] at e2
       cases e2
       exact ⟨u, r, .inr ⟨.inl hk, c, hc, hc'⟩⟩
     · rw [List.getElem?_set_ne (Ne.symm hj)] at e2
       obtain ⟨u', r', q⟩ := hl j y v' e1 e2 e3
       refine ⟨u', r', ?_⟩
       rcases q with q | ⟨k, c', e, z'⟩
       · exact .inl q
       · refine .inr ⟨k, c', e, z'.sameBut hs ?_⟩
         rintro rfl
         exact hj (uP hN e1 (I.ok.inj _ _ _ e hc ▸ hi))
   · by_cases hcc : c' = c
     · subst hcc; exact ⟨_, hc'⟩
     · obtain ⟨w2, z2⟩ := I.cell y c' e
       exact ⟨w2, z2.sameBut hs hcc⟩
   · obtain ⟨e, n, ne, nf, d⟩ := I.pin p hp
     refine ⟨(hs.2 p.1 ?_).trans e, n, ne, nf, d⟩
     intro q
     rw [q, hoc] at e
     have q' : oc = p.2 := Option.some.inj e
     exact d w' (by rw [← q']; exact hocd)
theorem Bh {M : Model} {A : Around} {E : Value → Shared → Prop} {i : Nat} {x : Str} {v : V} {u : Value} {Q : Unit → Shared → Prop} (I : Inv X pins σ H s) (hN : X.N.Nodup) (hi : X.N[i]? = some x) (hx : Loc X.env.scope x) (r : RelV v u)
   (h : ∀ s', Inv X pins (σ.set i (some v)) H s' → Q () s') (hf : X.fn x = true ∨ X.env.scope.names.lookup x = some .local := by first | exact .inl rfl | exact .inr rfl | assumption) : wpAny M A (storeName X.env x u) Q E s :=
 AN I hN hi hx r (fun s' I' _ => h s' I') hf
theorem Inv.FK {s' : Shared} {ch : List Addr} (I : Inv X pins σ H s) (ho : s'.os = s.os) (u : Un (frs X.stack) ch H H' s.heap s'.heap) (hok : HOk X.prog X.w H' s'.heap) (hg : AllBare s'.gens)
   (hch : ∀ b ∈ ch, (b ∈ X.ex ∨ X.s₀.heap.objs.size ≤ b) ∧ b ≠ X.env.locals ∧ (∀ x c, X.env.cells.lookup x = some c → c ≠ b) ∧ ∀ p ∈ X.pn ++ pins, p.1 ≠ b) : Inv X pins σ H' s' := by
 obtain ⟨h', g', d', t', o'⟩ := s'
 have e : o' = s.os := ho
 subst e
 exact I.call (g' := g') (t' := t') (d' := d') u hok hg hch
end
noncomputable abbrev XK := Value → Option Addr → Hp → Prop
noncomputable abbrev St := List (Option V)
noncomputable abbrev VK := V → Hp → Prop
noncomputable abbrev TE := St → Hp → VK → Prop
noncomputable abbrev TT := St → Hp → (Bool → Hp → Prop) → Prop
noncomputable abbrev TA := St → Hp → (List V → Hp → Prop) → Prop
structure Ends where
 nx : St → Hp → Prop
 rt : VK
 bk : St → Hp → Prop := fun _ _ => False
 ct : St → Hp → Prop := fun _ _ => False
noncomputable abbrev TS := Ends → St → Hp → Prop
noncomputable def EP (X : Cx) (pins : List (Addr × Obj)) (σ : St) (Q : VK) (u : Value) (s' : Shared) : Prop := ∃ v H', Inv X pins σ H' s' ∧ RelV v u ∧ Q v H'
noncomputable def TP (X : Cx) (pins : List (Addr × Obj)) (σ : St) (Q : Bool → Hp → Prop) (b : Bool) (s' : Shared) : Prop := ∃ H', Inv X pins σ H' s' ∧ Q b H'
noncomputable def AP (X : Cx) (pins : List (Addr × Obj)) (σ : St) (Q : List V → Hp → Prop) (us : List Value) (s' : Shared) : Prop := ∃ vs H', Inv X pins σ H' s' ∧ Vals vs us ∧ Q vs H'
noncomputable def SP (X : Cx) (pins : List (Addr × Obj)) (D : Ends) (f : Flow) (s' : Shared) : Prop :=
 match f with
 | .next => ∃ σ' H', Inv X pins σ' H' s' ∧ D.nx σ' H'
 | .brk => ∃ σ' H', Inv X pins σ' H' s' ∧ D.bk σ' H'
 | .cont => ∃ σ' H', Inv X pins σ' H' s' ∧ D.ct σ' H'
 | .ret u => ∃ v σ' H', Inv X pins σ' H' s' ∧ RelV v u ∧ D.rt v H'
noncomputable def PE (X : Cx) (e : Expr) (t : TE) : Prop :=
 ∀ (pins : List (Addr × Obj)) (s : Shared) (σ : St) (H : Hp) (Q : VK), Inv X pins σ H s → t σ H Q → wpAny (model X.prog X.w) X.A (eval e X.env) (EP X pins σ Q) X.xe s
noncomputable def PT (X : Cx) (e : Expr) (t : TT) : Prop :=
 ∀ (pins : List (Addr × Obj)) (s : Shared) (σ : St) (H : Hp) (Q : Bool → Hp → Prop), Inv X pins σ H s → t σ H Q → wpAny (model X.prog X.w) X.A (isTrue e X.env (eval e X.env)) (TP X pins σ Q) X.xe s
noncomputable def PW (X : Cx) (e : Expr) (t : TT) : Prop :=
 ∀ (whole : Sem Value) (pins : List (Addr × Obj)) (s : Shared) (σ : St) (H : Hp) (Q : Bool → Hp → Prop), Inv X pins σ H s → t σ H Q → wpAny (model X.prog X.w) X.A (isTrue e X.env whole) (TP X pins σ Q) X.xe s
theorem PW.pt {X : Cx} {e : Expr} {t : TT} (h : PW X e t) : PT X e t := h _
noncomputable def PA (X : Cx) (es : List Expr) (t : TA) : Prop :=
 ∀ (pos : Pos) (pins : List (Addr × Obj)) (s : Shared) (σ : St) (H : Hp) (Q : List V → Hp → Prop), Inv X pins σ H s → t σ H Q → wpAny (model X.prog X.w) X.A (spliced (backTo pos (starEach es X.env))) (AP X pins σ Q) X.xe s
noncomputable def PS (X : Cx) (st : Stmt) (t : TS) : Prop :=
 ∀ (pins : List (Addr × Obj)) (s : Shared) (σ : St) (H : Hp) (D : Ends), Inv X pins σ H s → t D σ H → wpAny (model X.prog X.w) X.A (exec st X.env) (SP X pins D) X.xe s
noncomputable def PSs (X : Cx) (st : List Stmt) (t : TS) : Prop :=
 ∀ (pins : List (Addr × Obj)) (s : Shared) (σ : St) (H : Hp) (D : Ends), Inv X pins σ H s → t D σ H → wpAny (model X.prog X.w) X.A (execs st X.env) (SP X pins D) X.xe s
theorem thn {α : Type} {t : Sem α} {Q Q' : α → Shared → Prop} {M : Model} {A : Around} {E : Value → Shared → Prop} {s : Shared} (h : wpAny M A t Q E s) (hQ : ∀ a s, Q a s → Q' a s) : wpAny M A t Q' E s := wpAny_mono h hQ fun _ _ x => x
end L2
namespace L2
open PySem PySem.Spec PyProof.Rows
section
variable {X : Cx}
theorem bin {a b : Expr} {ta tb : TE} (ha : PE X a ta) (hb : PE X b tb) {pins : List (Addr × Obj)} {s : Shared} {σ : St} {H : Hp} {R : V → V → Hp → Prop} (I : Inv X pins σ H s) (h : ta σ H fun x H1 => tb σ H1 fun y H2 => R x y H2)
   {α : Type} {Q : α → Shared → Prop} {f : Value → Value → Sem α}
   (hf : ∀ v u s2 x y H2, Inv X pins σ H2 s2 → RelV x v → RelV y u → R x y H2 → wpAny (model X.prog X.w) X.A (f v u) Q X.xe s2) :
   wpAny (model X.prog X.w) X.A (eval a X.env) (fun v s₁ => wpAny (model X.prog X.w) X.A (eval b X.env) (fun u s₂ => wpAny (model X.prog X.w) X.A (f v u) Q X.xe s₂) X.xe s₁) X.xe s := by
 refine thn (ha pins s σ H _ I h) fun v s1 ⟨x, H1, I1, r1, q1⟩ => ?_
 refine thn (hb pins s1 σ H1 _ I1 q1) fun u s2 ⟨y, H2, I2, r2, q2⟩ => ?_
 exact hf v u s2 x y H2 I2 r1 r2 q2
noncomputable def Lz (i : Nat) : TE := fun σ H Q => ∃ v, σ[i]? = some (some v) ∧ Q v H
noncomputable def tC (v : V) : TE := fun _ H Q => Q v H
theorem FZ {i : Nat} {x : Str} {pos : Pos} (hN : X.N[i]? = some x) (hv : Vis X.env.scope x) (hd : (x == ("__debug__" : Str)) = false := by decide) (hcd : (x == ("__classdict__" : Str)) = false := by decide) : PE X (.Name x pos) (Lz i) := by
 intro pins s σ H Q I h
 obtain ⟨v, e, h⟩ := h
 obtain ⟨m, hn, hl⟩ := I.loc
 obtain ⟨u, r, l⟩ := hl i x v hN e hv
 have fin : EP X pins σ Q u s := ⟨v, H, I, r, h⟩
 rcases l with ⟨hk, hm⟩ | ⟨hk, c, hc, hcell⟩
 · exact wpAny_Name (wpAny_loadName_local I.ok.kind hk hn hm fin) hd
 · rcases hk with hk | hk
   · exact wpAny_Name (wpAny_loadName_cell I.ok.kind hk hc hcell fin) hd
   · exact wpAny_Name (wpAny_loadName_free I.ok.kind hk hc hcell fin hcd) hd
theorem Jg {i j pos} : PE X (.Constant (.int i) j pos) (tC (.int i)) := fun _ _ _ H _ I h => wpAny_Constant_int ⟨.int i, H, I.tok _, ⟨_, rfl⟩, h⟩
theorem B5 {b j pos} : PE X (.Constant (.bool b) j pos) (tC (.bl b)) := fun _ _ _ H _ I h => Constant_bool ⟨.bl b, H, I, rfl, h⟩
theorem xW {j pos} : PE X (.Constant .none j pos) (tC .non) := fun _ _ _ H _ I h => Constant_none ⟨.non, H, I, rfl, h⟩
theorem Hw {x j pos} : PE X (.Constant (.str x) j pos) (tC (.str x)) := fun _ _ _ H _ I h => Calls.Constant_str ⟨.str x, H, I.tok _, ⟨_, rfl⟩, h⟩
noncomputable def Gl (X : Cx) (x : Str) : Prop := X.env.kindOf x = some .globalImplicit
theorem yp {E : Value → Shared → Prop} {pins : List (Addr × Obj)} {s : Shared} {σ : St} {H : Hp} {x : Str} {u : Value} {pos : Pos} {Q : Value → Shared → Prop} (I : Inv X pins σ H s) (hg : Gl X x) (hm : X.mg x = some u) (h : Q u s)
   (hd : (x == ("__debug__" : Str)) = false := by decide) : wpAny (model X.prog X.w) X.A (eval (.Name x pos) X.env) Q E s :=
 Calls.Name_function_global I.ok.kind hg (Calls.loadGlobal_global (by rw [I.ok.glob]; exact I.mod.glob.keeps I.bk) hm h) hd
theorem jx {E : Value → Shared → Prop} {pins : List (Addr × Obj)} {s : Shared} {σ : St} {H : Hp} {x : Str} {u : Value} {pos : Pos} {Q : Value → Shared → Prop} (I : Inv X pins σ H s) (hg : Gl X x) (hm : X.mg x = none) (hv : bootBuiltins x = some u) (h : Q u s)
   (hn : x ≠ "__name__" := by decide) (hd : (x == ("__debug__" : Str)) = false := by decide) : wpAny (model X.prog X.w) X.A (eval (.Name x pos) X.env) Q E s := by
 obtain ⟨mb, h1, h2⟩ := I.mod.blt
 exact Calls.Name_function_global I.ok.kind hg (Calls.loadGlobal_builtin (by rw [I.ok.glob]; exact I.mod.glob.keeps I.bk) hm (by rw [I.ok.blt]; exact h1.keeps I.bk) ((h2 x hn).trans hv) h) hd
theorem E5 {x : Str} {v : V} {u : Value} {pos : Pos} (hg : Gl X x) (hm : X.mg x = some u) (r : RelV v u) (hd : (x == ("__debug__" : Str)) = false := by decide) : PE X (.Name x pos) (tC v) :=
 fun _ _ _ H _ I h => yp I hg hm ⟨v, H, I, r, h⟩ hd
theorem mQ {x : Str} {v : V} {u : Value} {pos : Pos} (hg : Gl X x) (hm : X.mg x = none) (hv : bootBuiltins x = some u) (r : RelV v u) (hn : x ≠ "__name__" := by decide) (hd : (x == ("__debug__" : Str)) = false := by decide) : PE X (.Name x pos) (tC v) :=
 fun _ _ _ H _ I h => jx I hg hm hv ⟨v, H, I, r, h⟩ hn hd
variable {a b : Expr} {ta tb : TE} {pos : Pos}
noncomputable def PC (X : Cx) (op : CmpOp) (a b : Expr) (t : TE) : Prop :=
 ∀ (pins : List (Addr × Obj)) (s : Shared) (σ : St) (H : Hp) (Q : VK), Inv X pins σ H s → t σ H Q →
   wpAny (model X.prog X.w) X.A (eval a X.env) (fun v s₁ => wpAny (model X.prog X.w) X.A (eval b X.env) (fun u s₂ => wpAny (model X.prog X.w) X.A (compareOp op v u) (EP X pins σ Q) X.xe s₂) X.xe s₁) X.xe s
theorem B9 (b : Expr) {op : CmpOp} (h : op ≠ .In) (h2 : op ≠ .NotIn) : behindInMarks op b = false := by
 have e1 : (op == CmpOp.In) = false := by cases op <;> first | rfl | exact absurd rfl h
 have e2 : (op == CmpOp.NotIn) = false := by cases op <;> first | rfl | exact absurd rfl h2
 cases b <;> simp [behindInMarks, e1, e2]
noncomputable def tB (t : TE) : TT := fun σ H Q => t σ H fun x H1 => ∃ c, x = .bl c ∧ Q c H1
theorem LO {op : CmpOp} {t : TE} (h : PC X op a b t) (h1 : behindInMarks op b = false := by first | exact B9 _ (by decide) (by decide) | rfl) : PT X (.Compare a [op] [b] pos) (tB t) := by
 intro pins s σ H Q I hw
 refine wpAny_isTrue_Compare1 (thn (h pins s σ H _ I hw) fun v s1 h1 => thn h1 fun u s2 h2 => thn h2 fun c s3 ⟨x, H1, I1, r1, q1⟩ => ?_) h1
 obtain ⟨d, rfl, q⟩ := q1
 cases r1
 exact wpAny_truthy_bool ⟨H1, I1, q⟩
theorem HX {e : Expr} {t : TE} (h : PE X e t) (he : ∀ whole, isTrue e X.env whole = (do let v ← whole; standAt e.pos; holding [v] (truthy v)) := by intro _; rfl) : PT X e (tB t) := by
 intro pins s σ H Q I hw
 refine isTrue_plain (thn (h pins s σ H _ I hw) fun v s1 ⟨x, H1, I1, r1, q1⟩ => ?_) (he _)
 obtain ⟨d, rfl, q⟩ := q1
 cases r1
 exact wpAny_truthy_bool ⟨H1, I1, q⟩
variable {tA tB' : TT} {rest : List Expr}
noncomputable def Lq (t u : TT) : TT := fun σ H Q => t σ H fun c H1 => if c = true then u σ H1 Q else Q false H1
noncomputable def tOr (t u : TT) : TT := fun σ H Q => t σ H fun c H1 => if c = true then Q true H1 else u σ H1 Q
noncomputable def LI (t : TT) : TT := fun σ H Q => t σ H fun c H1 => Q (!c) H1
theorem pw_and1 (ha : PT X a tA) : PW X (.BoolOp .And [a] pos) tA := by
 intro wh pins s σ H Q I h
 refine isTrue_and (thn (ha pins s σ H Q I h) fun c s1 e => ?_)
 cases c with
 | true => exact isTrue_and_nil e
 | false => exact e
theorem pw_or1 (ha : PT X a tA) : PW X (.BoolOp .Or [a] pos) tA := by
 intro wh pins s σ H Q I h
 refine isTrue_or (thn (ha pins s σ H Q I h) fun c s1 e => ?_)
 cases c with
 | false => exact isTrue_or_nil e
 | true => exact e
theorem pw_and (ha : PT X a tA) (hb : PW X (.BoolOp .And (b :: rest) pos) tB') : PW X (.BoolOp .And (a :: b :: rest) pos) (Lq tA tB') := by
 intro wh pins s σ H Q I h
 refine isTrue_and (thn (ha pins s σ H _ I h) fun c s1 ⟨H1, I1, q1⟩ => ?_)
 cases c with
 | true => exact hb wh pins s1 σ H1 Q I1 q1
 | false => exact ⟨H1, I1, q1⟩
theorem pw_or (ha : PT X a tA) (hb : PW X (.BoolOp .Or (b :: rest) pos) tB') : PW X (.BoolOp .Or (a :: b :: rest) pos) (tOr tA tB') := by
 intro wh pins s σ H Q I h
 refine isTrue_or (thn (ha pins s σ H _ I h) fun c s1 ⟨H1, I1, q1⟩ => ?_)
 cases c with
 | true => exact ⟨H1, I1, q1⟩
 | false => exact hb wh pins s1 σ H1 Q I1 q1
theorem IJ (ha : PT X a tA) : PT X (.UnaryOp .Not a pos) (LI tA) := by
 intro pins s σ H Q I h
 exact isTrue_not (ha pins s σ H (fun c H1 => Q (!c) H1) I h)
noncomputable def KJ (ta tb : TE) : TE := fun σ H Q => ta σ H fun x H1 => ∃ c, x = .bl c ∧ if c = true then tb σ H1 Q else Q (.bl false) H1
noncomputable def Lh (ta tb : TE) : TE := fun σ H Q => ta σ H fun x H1 => ∃ c, x = .bl c ∧ if c = true then Q (.bl true) H1 else tb σ H1 Q
noncomputable def KP (ta : TE) : TE := fun σ H Q => ta σ H fun x H1 => ∃ c, x = .bl c ∧ Q (.bl (!c)) H1
theorem Gj {op} {t : TE} (h : PE X a t) : PE X (.BoolOp op [a] pos) t := fun pins s σ H Q I hw => BoolOp_one (h pins s σ H Q I hw)
theorem Ge (ha : PE X a ta) (hb : PE X (.BoolOp .And (b :: rest) pos) tb) : PE X (.BoolOp .And (a :: b :: rest) pos) (KJ ta tb) := by
 intro pins s σ H Q I h
 refine BoolOp_and (thn (ha pins s σ H _ I h) fun v s1 ⟨x, H1, I1, r1, q1⟩ => ?_)
 obtain ⟨c, rfl, q1⟩ := q1
 cases r1
 refine wpAny_truthy_bool ?_
 cases c with
 | true => exact hb pins s1 σ H1 Q I1 q1
 | false => exact ⟨.bl false, H1, I1, rfl, q1⟩
theorem K7 (ha : PE X a ta) (hb : PE X (.BoolOp .Or (b :: rest) pos) tb) : PE X (.BoolOp .Or (a :: b :: rest) pos) (Lh ta tb) := by
 intro pins s σ H Q I h
 refine BoolOp_or (thn (ha pins s σ H _ I h) fun v s1 ⟨x, H1, I1, r1, q1⟩ => ?_)
 obtain ⟨c, rfl, q1⟩ := q1
 cases r1
 refine wpAny_truthy_bool ?_
 cases c with
 | false => exact hb pins s1 σ H1 Q I1 q1
 | true => exact ⟨.bl true, H1, I1, rfl, q1⟩
theorem JA (ha : PE X a ta) : PE X (.UnaryOp .Not a pos) (KP ta) := by
 intro pins s σ H Q I h
 refine UnaryOp_ (thn (ha pins s σ H _ I h) fun v s1 ⟨x, H1, I1, r1, q1⟩ => ?_)
 obtain ⟨c, rfl, q1⟩ := q1
 cases r1
 exact not_of (wpAny_truthy_bool ⟨.bl (!c), H1, I1, rfl, q1⟩)
noncomputable def tIf (t : TT) (ta tb : TE) : TE := fun σ H Q => t σ H fun c H1 => if c = true then ta σ H1 Q else tb σ H1 Q
theorem By {c : Expr} (hc : PT X c tA) (ha : PE X a ta) (hb : PE X b tb) : PE X (.IfExp c a b pos) (tIf tA ta tb) := by
 intro pins s σ H Q I h
 refine wpAny_IfExp (thn (hc pins s σ H _ I h) fun d s1 ⟨H1, I1, q1⟩ => ?_)
 cases d with
 | true => exact ha pins s1 σ H1 Q I1 q1
 | false => exact hb pins s1 σ H1 Q I1 q1
end
end L2
namespace L2
open PySem PySem.Spec PyProof.Rows
noncomputable def SqL (K : PySem.W.Frag) (H : Hp) (a : Addr) (xs : List V) : Prop :=
 Rd H a (.lst xs) ∨
   ∃ (o : Obj) (its : Array Value) (n : Nat), K.lookup a = some o ∧ o.cls = .type "list" ∧ o.dict = none ∧ o.data = .seq its n ∧ its.size ≤ sizeLine ∧ Vals xs its.toList
noncomputable def SqT (K : PySem.W.Frag) (H : Hp) (a : Addr) (xs : List V) : Prop :=
 Rd H a (.tup xs) ∨
   ∃ (o : Obj) (its : Array Value) (n : Nat), K.lookup a = some o ∧ o.cls = .type "tuple" ∧ o.data = .seq its n ∧ its.size ≤ sizeLine ∧ Vals xs its.toList
noncomputable def LM : Value → Option V
 | .none => some .non
 | .bool b => some (.bl b)
 | .int i _ => some (.int i)
 | .str x _ => some (.str x)
 | .bytes b _ => some (.byt b)
 | .float b _ => some (.flt b)
 | .ref a => some (.ref a)
 | .type n => some (.ty n)
 | _ => none
theorem RelV.abs {x : V} {u : Value} (r : RelV x u) : LM u = some x := by
 cases x with
 | non => cases r; rfl
 | bl _ => cases r; rfl
 | int _ => obtain ⟨t, rfl⟩ := r; rfl
 | str _ => obtain ⟨t, rfl⟩ := r; rfl
 | byt _ => obtain ⟨t, rfl⟩ := r; rfl
 | flt _ => obtain ⟨t, rfl⟩ := r; rfl
 | ref _ => cases r; rfl
 | ty _ => cases r; rfl
theorem RelV.inj {x y : V} {u : Value} (r : RelV x u) (q : RelV y u) : x = y := Option.some.inj (r.abs.symm.trans q.abs)
theorem Vals.inj : ∀ {xs ys : List V} {us : List Value}, Vals xs us → Vals ys us → xs = ys
 | _, _, _, .nil, .nil => rfl
 | _, _, _, .cons r t, .cons r' t' => by rw [r.inj r', Vals.inj t t']
section
variable {X : Cx} {pins : List (Addr × Obj)} {σ : St} {H : Hp} {s : Shared} {a : Addr} {xs ys : List V}
theorem Inv.list (I : Inv X pins σ H s) (h : SqL X.K H a xs) : ∃ its : List Value, Vals xs its ∧ PlainL s.heap a its.toArray ∧ xs.length ≤ sizeLine := by
 rcases h with h | ⟨o, its, n, hk, hc, hd, hs, hz, r⟩
 · obtain ⟨z, its, n, r, e⟩ := h.ok I.hok
   exact ⟨its, r, ⟨_, n, e, rfl, rfl, rfl⟩, z⟩
 · refine ⟨its.toList, r, ⟨o, n, I.kIn a o hk, hc, hd, by simpa using hs⟩, ?_⟩
   have e := r.length
   simp only [Array.length_toList] at e
   omega
theorem Inv.tuple (I : Inv X pins σ H s) (h : SqT X.K H a xs) : ∃ its : List Value, Vals xs its ∧ IsTup s.heap a its.toArray ∧ xs.length ≤ sizeLine := by
 rcases h with h | ⟨o, its, n, hk, hc, hs, hz, r⟩
 · obtain ⟨z, its, r, p⟩ := h.ok I.hok
   exact ⟨its, r, p, z⟩
 · refine ⟨its.toList, r, ⟨o, I.kIn a o hk, hc, n, by simpa using hs⟩, ?_⟩
   have e := r.length
   simp only [Array.length_toList] at e
   omega
theorem Inv.mY (I : Inv X pins σ H s) (h : SqL X.K H a xs) (h' : SqL X.K H a ys) : xs = ys := by
 obtain ⟨its, r, ⟨o, n, e, _, _, d⟩, _⟩ := I.list h
 obtain ⟨its', r', ⟨o', n', e', _, _, d'⟩, _⟩ := I.list h'
 rw [e] at e'; cases e'
 rw [d] at d'
 injection d' with d1 _
 have : its = its' := by simpa using congrArg Array.toList d1
 subst this
 exact r.inj r'
theorem Inv.AR (I : Inv X pins σ H s) (h : SqT X.K H a xs) (h' : SqT X.K H a ys) : xs = ys := by
 obtain ⟨its, r, ⟨o, e, _, n, d⟩, _⟩ := I.tuple h
 obtain ⟨its', r', ⟨o', e', _, n', d'⟩, _⟩ := I.tuple h'
 rw [e] at e'; cases e'
 rw [d] at d'
 injection d' with d1 _
 have : its = its' := by simpa using congrArg Array.toList d1
 subst this
 exact r.inj r'
end
noncomputable abbrev Cx.qj (X : Cx) (E : Value → Shared → Prop) : Cx := { X with xe := E }
noncomputable abbrev Cx.nox (X : Cx) : Cx := X.qj fun _ _ => False
theorem Cx.Ok.qj {X : Cx} (ok : X.Ok) (E : Value → Shared → Prop) : (X.qj E).Ok :=
 ⟨ok.mod, ok.kind, ok.glob, ok.blt, ok.above, ok.inj, ok.has, ok.cab, ok.hd, ok.frames, ok.stk, ok.exf, ok.bs, ok.bsz, ok.noex, ok.exfs, ok.pW, ok.frf⟩
theorem Cx.Ok.jj {X : Cx} {E : Value → Shared → Prop} (ok : (X.qj E).Ok) : X.Ok :=
 ⟨ok.mod, ok.kind, ok.glob, ok.blt, ok.above, ok.inj, ok.has, ok.cab, ok.hd, ok.frames, ok.stk, ok.exf, ok.bs, ok.bsz, ok.noex, ok.exfs, ok.pW, ok.frf⟩
section
variable {X : Cx} {pins : List (Addr × Obj)} {σ : St} {H : Hp} {s : Shared} {E : Value → Shared → Prop}
theorem Inv.qj (I : Inv X pins σ H s) (E : Value → Shared → Prop) : Inv (X.qj E) pins σ H s := ⟨I.ok.qj E, I.os, I.bare, I.base, I.loc, I.cell, I.free, I.freeC, I.pin, I.hok, I.len⟩
theorem Inv.jj (I : Inv (X.qj E) pins σ H s) : Inv X pins σ H s := ⟨I.ok.jj, I.os, I.bare, I.base, I.loc, I.cell, I.free, I.freeC, I.pin, I.hok, I.len⟩
theorem SP.jj {D : Ends} {f : Flow} {s' : Shared} (h : SP (X.qj E) pins D f s') : SP X pins D f s' := by
 cases f with
 | next => obtain ⟨σ', H', I, q⟩ := h; exact ⟨σ', H', I.jj, q⟩
 | brk => obtain ⟨σ', H', I, q⟩ := h; exact ⟨σ', H', I.jj, q⟩
 | cont => obtain ⟨σ', H', I, q⟩ := h; exact ⟨σ', H', I.jj, q⟩
 | ret u => obtain ⟨v, σ', H', I, r, q⟩ := h; exact ⟨v, σ', H', I.jj, r, q⟩
theorem PSs.nox {st : List Stmt} {t : TS} (h : PSs X.nox st t) : PSs X st t := fun pins s σ H D I hw =>
 wpAny_mono (h pins s σ H D (I.qj _) hw) (fun _ _ q => q.jj) fun _ _ z => False.elim z
end
section
variable {X : Cx} {st : Stmt} {rest : List Stmt} {t u : TS} {e : Expr} {te : TE} {pos : Pos}
noncomputable def FF : TS := fun D σ H => D.nx σ H
noncomputable def LP (t u : TS) : TS := fun D σ H => t { D with nx := u D } σ H
theorem D9 : PSs X [] FF := fun _ _ σ H _ I h => wpAny_execs_nil ⟨σ, H, I, h⟩
theorem Dd (h1 : PS X st t) (h2 : PSs X rest u) : PSs X (st :: rest) (LP t u) := by
 intro pins s σ H D I h
 refine wpAny_execs_cons (thn (h1 pins s σ H { D with nx := u D } I h) fun f s1 q => ?_)
 cases f with
 | next =>
   obtain ⟨σ', H', I', q⟩ := q
   exact h2 pins s1 σ' H' D I' q
 | ret v => exact q
 | brk => exact q
 | cont => exact q
noncomputable def IZ : TS := fun D σ H => D.bk σ H
noncomputable def KC : TS := fun D σ H => D.ct σ H
theorem DX : PS X (.Pass pos) FF := fun _ _ σ H _ I h => wpAny_Pass ⟨σ, H, I, h⟩
theorem Cn : PS X (.Break pos) IZ := fun _ _ σ H _ I h => wpAny_Break ⟨σ, H, I, h⟩
theorem uX : PS X (.Continue pos) KC := fun _ _ σ H _ I h => wpAny_Continue ⟨σ, H, I, h⟩
theorem Inv.quiet {pins : List (Addr × Obj)} {σ : St} {H : Hp} {s : Shared} (I : Inv X pins σ H s) : interactive X.env = false := by simp [interactive, I.ok.kind]
noncomputable def Cu (te : TE) : TS := fun D σ H => te σ H fun _ H1 => D.nx σ H1
theorem jN (he : PE X e te) (hs : swapsWith e none pos.line X.env = pure false := by rfl) : PS X (.Expr e pos) (Cu te) := by
 intro pins s σ H D I h
 exact wpAny_Expr_any (thn (he pins s σ H _ I h) fun v s1 ⟨x, H1, I1, r1, q1⟩ => ⟨σ, H1, I1, q1⟩) I.quiet hs
noncomputable def Lk (te : TE) : TS := fun D σ H => te σ H D.rt
theorem HL (he : PE X e te) : PS X (.Return (some e) pos) (Lk te) := by
 intro pins s σ H D I h
 exact wpAny_Return_some (thn (he pins s σ H _ I h) fun v s1 ⟨x, H1, I1, r1, q1⟩ => ⟨x, σ, H1, I1, r1, q1⟩)
noncomputable def Kx : TS := fun D _ H => D.rt .non H
theorem EY : PS X (.Return none pos) Kx := fun _ _ σ H _ I h => wpAny_Return_none ⟨.non, σ, H, I, rfl, h⟩
noncomputable def LD (c : TT) (t u : TS) : TS := fun D σ H => c σ H fun b H1 => if b = true then t D σ H1 else u D σ H1
theorem KD {c : Expr} {a b : List Stmt} {tc : TT} (hc : PT X c tc) (ha : PSs X a t) (hb : PSs X b u) : PS X (.If c a b pos) (LD tc t u) := by
 intro pins s σ H D I h
 refine wpAny_If (thn (hc pins s σ H _ I h) fun d s1 ⟨H1, I1, q1⟩ => ?_)
 cases d with
 | true => exact ha pins s1 σ H1 D I1 q1
 | false => exact hb pins s1 σ H1 D I1 q1
noncomputable def GP : TS := fun _ _ _ => False
theorem AV : PS X st GP := fun _ _ _ _ _ _ h => h.elim
end
noncomputable abbrev TG := V → St → Hp → (St → Hp → Prop) → Prop
noncomputable abbrev TGs := List V → St → Hp → (St → Hp → Prop) → Prop
noncomputable def PG (X : Cx) (target : Expr) (t : TG) : Prop :=
 ∀ (pins : List (Addr × Obj)) (s : Shared) (σ : St) (H : Hp) (v : V) (u : Value) (Q : St → Hp → Prop), Inv X pins σ H s → RelV v u → t v σ H Q →
   wpAny (model X.prog X.w) X.A (assign target X.env u) (fun _ s' => ∃ σ' H', Inv X pins σ' H' s' ∧ Q σ' H') X.xe s
noncomputable def PGs (X : Cx) (ts : List Expr) (t : TGs) : Prop :=
 ∀ (pins : List (Addr × Obj)) (s : Shared) (σ : St) (H : Hp) (vs : List V) (us : List Value) (Q : St → Hp → Prop), Inv X pins σ H s → Vals vs us → t vs σ H Q →
   wpAny (model X.prog X.w) X.A (assignInOrder ((assignEach ts X.env).map (·.2)) us) (fun _ s' => ∃ σ' H', Inv X pins σ' H' s' ∧ Q σ' H') X.xe s
noncomputable abbrev HF := V → V → V → Hp → (Hp → Prop) → Prop
noncomputable def JJ (X : Cx) (t : HF) : Prop :=
 ∀ (pins : List (Addr × Obj)) (s : Shared) (σ : St) (H : Hp) (o i v : V) (ov iv u : Value) (Q : Hp → Prop), Inv X pins σ H s → RelV o ov → RelV i iv → RelV v u → t o i v H Q →
   wpAny (model X.prog X.w) X.A (setItem ov iv u) (fun _ s' => ∃ H', Inv X pins σ H' s' ∧ Q H') X.xe s
section
variable {X : Cx} {pos : Pos}
noncomputable def Kl (i : Nat) : TG := fun v σ H Q => Q (σ.set i (some v)) H
theorem yZ {i : Nat} {x : Str} (hN : X.N.Nodup) (hi : X.N[i]? = some x) (hx : Loc X.env.scope x) (hf : X.fn x = true ∨ X.env.scope.names.lookup x = some .local := by first | exact .inl rfl | exact .inr rfl | assumption) : PG X (.Name x pos) (Kl i) := by
 intro pins s σ H v u Q I r h
 exact wpAny_assign_Name (Bh I hN hi hx r (fun s' I' => ⟨_, H, I', h⟩) hf)
noncomputable def Le : TGs := fun vs σ H Q => vs = [] ∧ Q σ H
noncomputable def KW (t : TG) (u : TGs) : TGs := fun vs σ H Q => ∃ v r, vs = v :: r ∧ t v σ H fun σ' H' => u r σ' H' Q
theorem Fg : PGs X [] Le := by
 intro pins s σ H vs us Q I r h
 obtain ⟨e, h⟩ := h
 subst e
 cases r
 exact assignInOrder_nil ⟨σ, H, I, h⟩
theorem CS {e : Expr} {es : List Expr} {t : TG} {u : TGs} (h1 : PG X e t) (h2 : PGs X es u)
   (hs : (assignEach (e :: es) X.env).map (·.2) = assign e X.env :: (assignEach es X.env).map (·.2) := by rfl) : PGs X (e :: es) (KW t u) := by
 intro pins s σ H vs us Q I r h
 obtain ⟨v, vr, e1, h⟩ := h
 subst e1
 cases r with
 | cons r rr =>
   rw [hs]
   refine assignInOrder_cons (thn (h1 pins s σ H _ _ _ I r h) fun _ s1 ⟨σ1, H1, I1, q1⟩ => ?_)
   exact h2 pins s1 σ1 H1 _ _ Q I1 rr q1
noncomputable def LC (K : PySem.W.Frag) (n : Nat) (t : TGs) : TG := fun v σ H Q => ∃ a xs, v = .ref a ∧ SqT K H a xs ∧ xs.length = n ∧ t xs σ H Q
theorem Jh {es : List Expr} {k : Nat} {t : TGs} {n : Nat} (hc : X.calm = true) (h : PGs X es t)
   (hn : (assignEach es X.env).length = n := by rfl) (hst : (assignEach es X.env).findIdx? (·.1) = none := by rfl) : PG X (.Tuple es k pos) (LC X.K n t) := by
 intro pins s σ H v u Q I r hw
 obtain ⟨a, xs, e1, hq, hl, hw⟩ := hw
 subst e1
 cases r
 obtain ⟨its, rv, ht, hz⟩ := I.tuple hq
 refine assign_Tuple_tuple (I.ok.hd hc) ht (by simp [hn, ← hl, rv.length]) hst fun h' hx => ?_
 have I1 : Inv X pins σ H { s with heap := h' } := I.kept (t' := s.toks) fun b o e => hx b o (Nat.ne_of_lt (Heap.lt_size e)) e
 exact h pins _ σ H xs _ Q I1 (by simpa using rv) hw
noncomputable def LG (to ti : TE) (t : HF) : TG := fun v σ H Q => to σ H fun o H1 => ti σ H1 fun i H2 => t o i v H2 fun H3 => Q σ H3
theorem GB {o i : Expr} {to ti : TE} {t : HF} (ho : PE X o to) (hi : PE X i ti) (hs : JJ X t)
   (ha : ∀ v, assign (.Subscript o i pos) X.env v = (do
     let ov ← holding [v] (eval o X.env)
     let iv ← holding [v, ov] (eval i X.env)
     standAt pos
     holding [v, ov, iv] (setItem ov iv v)
     release [v, ov, iv] []) := by intro _; rfl) : PG X (.Subscript o i pos) (LG to ti t) := by
 intro pins s σ H v u Q I r h
 rw [ha]
 refine wpAny_bind (wpAny_holding (thn (ho pins s σ H _ I h) fun ov s1 ⟨x, H1, I1, r1, q1⟩ => ?_))
 refine wpAny_bind (wpAny_holding (thn (hi pins s1 σ H1 _ I1 q1) fun iv s2 ⟨y, H2, I2, r2, q2⟩ => ?_))
 refine wpAny_bind (wpAny_standAt (wpAny_bind (wpAny_holding (thn (hs pins s2 σ H2 x y v ov iv u _ I2 r1 r2 r q2) fun _ s3 ⟨H3, I3, q3⟩ => ?_))))
 exact wpAny_release ⟨σ, H3, I3, q3⟩
noncomputable def Ja (te : TE) (g : TG) : TS := fun D σ H => te σ H fun x H1 => g x σ H1 D.nx
theorem BH {tg e : Expr} {te : TE} {g : TG} (he : PE X e te) (hg : PG X tg g) (hs : swapsWithSole [tg] e pos.line X.env = pure false := by rfl) (hw : swappedStores [tg] e X.env = pure none := by rfl)
   (h1 : (assignEach [tg] X.env).map (·.2) = [assign tg X.env] := by rfl) : PS X (.Assign [tg] e pos) (Ja te g) := by
 intro pins s σ H D I h
 refine wpAny_Assign_stores (thn (he pins s σ H _ I h) fun v s1 ⟨x, H1, I1, r1, q1⟩ => ?_) hs hw
 rw [h1]
 exact thn (hg pins s1 σ H1 x v _ I1 r1 q1) fun _ s2 q => q
end
section
variable {X : Cx} {pos : Pos}
noncomputable def Jv (c : TT) (tb : TS) : TS := fun D σ H => ∃ W : Nat → St → Hp → Prop, (∃ m, W m σ H) ∧ ∀ m σ H, W m σ H →
 c σ H fun b H1 => if b = true then ∃ N : St → Hp → Prop, (∀ σ' H', N σ' H' → ∃ m', m' < m ∧ W m' σ' H') ∧ tb { D with nx := N, ct := N, bk := D.nx } σ H1 else D.nx σ H1
theorem Ca {c : Expr} {body : List Stmt} {tc : TT} {tb : TS} (hp : PassesOwn (model X.prog X.w) X.A X.env X.xe) (hc : PT X c tc) (hb : PSs X body tb) : PS X (.While c body [] pos) (Jv tc tb) := by
 intro pins s σ H D I h
 obtain ⟨W, ⟨m0, w0⟩, turn⟩ := h
 refine wpAny_While (codeAny_whileLoop (fun n s' => ∃ σ' H', Inv X pins σ' H' s' ∧ W n σ' H') ?_ m0 ⟨σ, H, I, w0⟩)
 rintro n s1 ⟨σ1, H1, I1, w1⟩
 refine wpAny_passesOwn hp (thn (hc pins s1 σ1 H1 _ I1 (turn n σ1 H1 w1)) fun b s2 ⟨H2, I2, q2⟩ => ?_)
 cases b with
 | true =>
   obtain ⟨N, hN, q2⟩ := q2
   rw [if_pos rfl]
   refine wpAny_passesOwn hp (thn (hb pins s2 σ1 H2 _ I2 q2) fun f s3 q3 => ?_)
   cases f with
   | next =>
     obtain ⟨σ3, H3, I3, n3⟩ := q3
     obtain ⟨m', hm, w3⟩ := hN σ3 H3 n3
     exact ⟨m', hm, σ3, H3, I3, w3⟩
   | cont =>
     obtain ⟨σ3, H3, I3, n3⟩ := q3
     obtain ⟨m', hm, w3⟩ := hN σ3 H3 n3
     exact ⟨m', hm, σ3, H3, I3, w3⟩
   | brk => exact q3
   | ret v => exact q3
 | false =>
   rw [if_neg Bool.false_ne_true]
   exact wpAny_execs_nil ⟨σ1, H2, I2, q2⟩
end
structure It where
 go : Nat → Hp → Prop
 yld : Nat → Hp → V → Hp → Prop
 stop : Nat → Hp → Prop
noncomputable def q9 (X : Cx) (pins : List (Addr × Obj)) (H : Hp) (b : Addr) : Prop :=
 H b = none ∧ b ≠ X.env.locals ∧ b ∉ X.fs ∧ (b ∈ X.ex ∨ X.s₀.heap.objs.size ≤ b) ∧ (∀ x c, X.env.cells.lookup x = some c → c ≠ b) ∧ ∀ p ∈ X.pn ++ pins, p.1 ≠ b
theorem Inv.xl {X : Cx} {pins : List (Addr × Obj)} {σ : St} {H H' : Hp} {s : Shared} {b : Addr} (I : Inv X pins σ H s) (hb : s.heap.objs.size ≤ b) (hn : H' b = none) : q9 X pins H' b := by
 refine ⟨hn, Nat.ne_of_gt (Nat.lt_of_lt_of_le I.lt hb), I.Ln hb, .inr (Nat.le_trans I.sz hb), fun x c e z => ?_, fun p hp z => ?_⟩
 · obtain ⟨v, q⟩ := I.cell x c e
   exact absurd (Nat.lt_of_lt_of_le q.lt (by rw [z]; exact hb)) (Nat.lt_irrefl _)
 · exact absurd (Nat.lt_of_lt_of_le (Heap.lt_size (I.pin p hp).1) (by rw [z]; exact hb)) (Nat.lt_irrefl _)
structure Turn (P : Program) (w : World) (K : PySem.W.Frag) (tg : Expr) (J : It) (fp : List Addr) (it : Addr) (tn : Nat → Heap → Prop) : Prop where
 mem : it ∈ fp
 obj : ∀ i h, tn i h → ∀ b ∈ fp, ∃ o, h.get? b = some o ∧ ∀ v, o.data ≠ .cell v
 keep : ∀ i h h', tn i h → (∀ b ∈ fp, ∀ o, h.get? b = some o → h'.get? b = some o) → tn i h'
 item : ∀ (X : Cx), X.prog = P → X.w = w → X.K = K → X.calm = true → ∀ (i : Nat) (pins : List (Addr × Obj)) (s : Shared) (σ : St) (H : Hp) (E : Value → Shared → Prop), Inv X pins σ H s → (∀ b ∈ fp, q9 X pins H b) → tn i s.heap → J.go i H →
   wpAny (model P w) X.A (pyNext (.ref it)) (fun r s1 => ∃ u, r = some u ∧
     wpAny (model P w) X.A (letOwnedTupleGo tg (.ref it) u) (fun _ s2 => ∃ x H', Inv X pins σ H' s2 ∧ RelV x u ∧ J.yld i H x H' ∧ tn (i + 1) s2.heap ∧ ∀ b ∈ fp, H' b = none) E s1) E s
 done : ∀ (X : Cx), X.prog = P → X.w = w → X.K = K → X.calm = true → ∀ (i : Nat) (pins : List (Addr × Obj)) (s : Shared) (σ : St) (H : Hp) (E : Value → Shared → Prop), Inv X pins σ H s → (∀ b ∈ fp, q9 X pins H b) → tn i s.heap → J.stop i H →
   wpAny (model P w) X.A (pyNext (.ref it)) (fun r s1 => r = none ∧ Inv X pins σ H s1) E s
 self : ∀ (A : Around) (i : Nat) (s : Shared) (Q : Value → Shared → Prop) (E : Value → Shared → Prop), tn i s.heap → Q (.ref it) s → wpAny (model P w) A (pyIter (.ref it)) Q E s
noncomputable abbrev TI := St → Hp → (It → Hp → Prop) → Prop
noncomputable def PIE (X : Cx) (pins : List (Addr × Obj)) (σ : St) (tg : Expr) (R : It → Hp → Prop) (itv : Value) (s2 : Shared) : Prop :=
 ∃ (it : Addr) (fp : List Addr) (tn : Nat → Heap → Prop) (J : It) (H' : Hp), itv = .ref it ∧ Inv X pins σ H' s2 ∧ Turn X.prog X.w X.K tg J fp it tn ∧ tn 0 s2.heap ∧ (∀ b ∈ fp, q9 X pins H' b) ∧ R J H'
noncomputable def PI (X : Cx) (tg iter : Expr) (wi : TI) : Prop :=
 ∀ (pins : List (Addr × Obj)) (s : Shared) (σ : St) (H : Hp) (R : It → Hp → Prop), Inv X pins σ H s → wi σ H R →
   wpAny (model X.prog X.w) X.A (eval iter X.env) (fun v s1 => wpAny (model X.prog X.w) X.A (pyIter v) (PIE X pins σ tg R) X.xe s1) X.xe s
theorem Dq {M : Model} {A : Around} {E : Value → Shared → Prop} {s : Shared} {tg : Expr} {it : Addr} {u : Value} {o : Obj} {n : String} {vs : Array Value} {Q : Unit → Shared → Prop} (ho : s.heap.get? it = some o) (hc : o.cls = .type n) (hd : o.data = .fields vs)
   (hn : ["enumerate", "zip", "dict_itemiterator", "dict_reverseitemiterator", "odict_iterator", "itertools.zip_longest", "itertools.pairwise"].contains n = false) (hQ : Q () s) : wpAny M A (letOwnedTupleGo tg (.ref it) u) Q E s := by
 unfold letOwnedTupleGo
 cases tg <;> first
   | exact wpAny_pure hQ
   | (cases u <;> first
       | exact wpAny_pure hQ
       | (refine wpAny_bind (wpAny_load ho ?_)
          rw [hc, hd]
          show wpAny M A (if (["enumerate", "zip", "dict_itemiterator", "dict_reverseitemiterator", "odict_iterator", "itertools.zip_longest", "itertools.pairwise"].contains n && vs[0]? == some (rawInt _)) = true then _ else _) Q E s
          rw [if_neg (by intro h; rw [hn, Bool.false_and] at h; cases h)]
          exact wpAny_pure hQ))
noncomputable def Itl (K : PySem.W.Frag) (a : Addr) : It :=
 ⟨fun i H => ∃ xs x, SqL K H a xs ∧ xs[i]? = some x, fun i H x H' => H' = H ∧ ∀ xs, SqL K H a xs → xs[i]? = some x, fun i H => ∃ xs, SqL K H a xs ∧ xs.length ≤ i⟩
noncomputable def Itt (K : PySem.W.Frag) (a : Addr) : It :=
 ⟨fun i H => ∃ xs x, SqT K H a xs ∧ xs[i]? = some x, fun i H x H' => H' = H ∧ ∀ xs, SqT K H a xs → xs[i]? = some x, fun i H => ∃ xs, SqT K H a xs ∧ xs.length ≤ i⟩
noncomputable def Itr (lo : Int) (n : Nat) : It := ⟨fun i _ => i < n, fun i H x H' => H' = H ∧ x = .int (lo + i), fun i _ => n ≤ i⟩
theorem Ae {P : Program} {w : World} {K : PySem.W.Frag} {tg : Expr} (a it : Addr) : Turn P w K tg (Itl K a) [it] it (fun i h => h.IsListIter it a i) where
 mem := by simp
 obj := fun i h st b hb => by
   have e : b = it := by simpa using hb
   subst e
   obtain ⟨o, e, c, d⟩ := st
   exact ⟨o, e, fun v z => by rw [d] at z; cases z⟩
 keep := fun i h h' st k => st.at fun o e => k it (by simp) o e
 item := by
   intro X hP hw hK hc i pins s σ H E I hf st hg
   subst hP hw hK
   obtain ⟨xs, x, hq, hx⟩ := hg
   obtain ⟨its, rv, p, hz⟩ := I.list hq
   obtain ⟨u, hu, ru⟩ := rv.get hx
   obtain ⟨f0, f1, f2, f3, f4, f5⟩ := hf it (by simp)
   refine wpAny_pyNext_list_item st p.isList (x := u) (by simpa using hu) fun h' st' sb => ?_
   have I1 : Inv X pins σ H { s with heap := h' } := I.turned (t' := s.toks) (fun b o hb e => (sb.2 b hb).trans e) f0 f1 f3 f4 f5
   obtain ⟨o, e, c, d⟩ := id st'
   exact ⟨u, rfl, Dq (s := { s with heap := h' }) e c d (by decide) ⟨x, H, I1, ru, ⟨rfl, fun ys hy => by rw [I.mY hy hq]; exact hx⟩, st', fun b hb => (hf b hb).1⟩⟩
 done := by
   intro X hP hw hK hc i pins s σ H E I hf st hg
   subst hP hw hK
   obtain ⟨xs, hq, hx⟩ := hg
   obtain ⟨its, rv, p, hz⟩ := I.list hq
   obtain ⟨f0, f1, f2, f3, f4, f5⟩ := hf it (by simp)
   have hl := rv.length
   exact wpAny_pyNext_list_end (I.ok.hd hc) st p.isList (by simp; omega) fun h' eb => ⟨rfl, I.turned (t' := s.toks) (fun b o hb e => eb b o hb e) f0 f1 f3 f4 f5⟩
 self := fun _ _ _ _ _ st h => wpAny_pyIter_listiter st h
theorem xg {P : Program} {w : World} {K : PySem.W.Frag} {tg : Expr} (a it : Addr) : Turn P w K tg (Itt K a) [it] it (fun i h => h.IsTupleIter it a i) where
 mem := by simp
 obj := fun i h st b hb => by
   have e : b = it := by simpa using hb
   subst e
   obtain ⟨o, e, c, d⟩ := st
   exact ⟨o, e, fun v z => by rw [d] at z; cases z⟩
 keep := fun i h h' st k => st.at fun o e => k it (by simp) o e
 item := by
   intro X hP hw hK hc i pins s σ H E I hf st hg
   subst hP hw hK
   obtain ⟨xs, x, hq, hx⟩ := hg
   obtain ⟨its, rv, p, hz⟩ := I.tuple hq
   obtain ⟨u, hu, ru⟩ := rv.get hx
   obtain ⟨f0, f1, f2, f3, f4, f5⟩ := hf it (by simp)
   refine wpAny_pyNext_tuple_item st (show s.heap.IsTuple a its.toArray from p) (x := u) (by simpa using hu) fun h' st' sb => ?_
   have I1 : Inv X pins σ H { s with heap := h' } := I.turned (t' := s.toks) (fun b o hb e => (sb.2 b hb).trans e) f0 f1 f3 f4 f5
   obtain ⟨o, e, c, d⟩ := id st'
   exact ⟨u, rfl, Dq (s := { s with heap := h' }) e c d (by decide) ⟨x, H, I1, ru, ⟨rfl, fun ys hy => by rw [I.AR hy hq]; exact hx⟩, st', fun b hb => (hf b hb).1⟩⟩
 done := by
   intro X hP hw hK hc i pins s σ H E I hf st hg
   subst hP hw hK
   obtain ⟨xs, hq, hx⟩ := hg
   obtain ⟨its, rv, p, hz⟩ := I.tuple hq
   obtain ⟨f0, f1, f2, f3, f4, f5⟩ := hf it (by simp)
   have hl := rv.length
   exact wpAny_pyNext_tuple_end (I.ok.hd hc) st (show s.heap.IsTuple a its.toArray from p) (by simp; omega) fun h' eb => ⟨rfl, I.turned (t' := s.toks) (fun b o hb e => eb b o hb e) f0 f1 f3 f4 f5⟩
 self := fun _ _ _ _ _ st h => wpAny_pyIter_tupleiter st h
theorem wW {P : Program} {w : World} {K : PySem.W.Frag} {tg : Expr} (it : Addr) (lo : Int) (n : Nat) : Turn P w K tg (Itr lo n) [it] it (fun i h => IsRangeIter h it (lo + (i : Nat) * 1) ((n : Int) - (i : Nat)) 1) where
 mem := by simp
 obj := fun i h st b hb => by
   have e : b = it := by simpa using hb
   subst e
   exact ⟨_, st, fun v z => by
     have z' : Data.fields _ = Data.cell v := z
     cases z'⟩
 keep := fun i h h' st k => k it (by simp) _ st
 item := by
   intro X hP hw hK hc i pins s σ H E I hf st hg
   subst hP hw hK
   obtain ⟨f0, f1, f2, f3, f4, f5⟩ := hf it (by simp)
   have W := Walks.range (prog := X.prog) (w := X.w) (I.ok.hd hc) it lo 1 n
   refine W.item i s _ _ hg st fun v h' tk hv st' kk => ?_
   obtain ⟨t, rfl⟩ := hv
   have I1 : Inv X pins σ H { s with heap := h', toks := tk } := I.turned (fun b o hb e => kk b o (by simpa using hb) e) f0 f1 f3 f4 f5
   refine ⟨_, rfl, Dq (s := { s with heap := h', toks := tk }) (n := "range_iterator") st' rfl rfl (by decide) ⟨.int (lo + i), H, I1, ⟨t, ?_⟩, ⟨rfl, rfl⟩, st', fun b hb => (hf b hb).1⟩⟩
   rw [Int.mul_one]
 done := by
   intro X hP hw hK hc i pins s σ H E I hf st hg
   subst hP hw hK
   obtain ⟨f0, f1, f2, f3, f4, f5⟩ := hf it (by simp)
   exact wpAny_pyNext_range_end (I.ok.hd hc) st (by have : n ≤ i := hg; omega) fun h' eb => ⟨rfl, I.turned (t' := s.toks) (fun b o hb e => eb b o hb e) f0 f1 f3 f4 f5⟩
 self := fun _ _ _ _ _ st h => wpAny_pyIter_rangeiter st h
end L2
namespace L2
open PySem PySem.Spec PyProof.Rows
section
variable {X : Cx} {tg : Expr}
noncomputable def KN (K : PySem.W.Frag) (tl : TE) : TI := fun σ H R => tl σ H fun x H1 => ∃ a, x = .ref a ∧ (∃ xs, SqL K H1 a xs) ∧ R (Itl K a) H1
noncomputable def Ls (K : PySem.W.Frag) (tl : TE) : TI := fun σ H R => tl σ H fun x H1 => ∃ a, x = .ref a ∧ (∃ xs, SqT K H1 a xs) ∧ R (Itt K a) H1
theorem Fq {l : Expr} {tl : TE} (hl : PE X l tl) : PI X tg l (KN X.K tl) := by
 intro pins s σ H R I h
 refine thn (hl pins s σ H _ I h) fun v s1 ⟨x, H1, I1, r1, q1⟩ => ?_
 obtain ⟨a, e, ⟨xs, hq⟩, q⟩ := q1
 subst e
 cases r1
 obtain ⟨its, rv, p, hz⟩ := I1.list hq
 refine wpAny_pyIter_list p.isList ?_
 refine ⟨s1.heap.objs.size, [s1.heap.objs.size], _, _, H1, rfl, I1.kept (t' := s1.toks) fun b o e => Heap.get?_push_of_some _ e, Ae a _, ⟨_, Heap.get?_push_size _ rfl, rfl, rfl⟩, fun b hb => ?_, q⟩
 have e : b = s1.heap.objs.size := by simpa using hb
 subst e
 exact I1.xl (Nat.le_refl _) (I1.hok.fresh (Nat.le_refl _))
theorem JG {l : Expr} {tl : TE} (hl : PE X l tl) : PI X tg l (Ls X.K tl) := by
 intro pins s σ H R I h
 refine thn (hl pins s σ H _ I h) fun v s1 ⟨x, H1, I1, r1, q1⟩ => ?_
 obtain ⟨a, e, ⟨xs, hq⟩, q⟩ := q1
 subst e
 cases r1
 obtain ⟨its, rv, p, hz⟩ := I1.tuple hq
 refine wpAny_pyIter_tuple (show s1.heap.IsTuple a its.toArray from p) ?_
 refine ⟨s1.heap.objs.size, [s1.heap.objs.size], _, _, H1, rfl, I1.kept (t' := s1.toks) fun b o e => Heap.get?_push_of_some _ e, xg a _, ⟨_, Heap.get?_push_size _ rfl, rfl, rfl⟩, fun b hb => ?_, q⟩
 have e : b = s1.heap.objs.size := by simpa using hb
 subst e
 exact I1.xl (Nat.le_refl _) (I1.hok.fresh (Nat.le_refl _))
theorem vk {pins : List (Addr × Obj)} {σ : St} {H : Hp} {s : Shared} {R : It → Hp → Prop} {E : Value → Shared → Prop} {lo hi : Int} {t u v : Tok} {tk : Nat} (I : Inv X pins σ H s) (h1 : -(2 ^ 62) ≤ lo) (h2 : lo < 2 ^ 62) (h3 : -(2 ^ 62) ≤ hi) (h4 : hi < 2 ^ 62)
   (q : R (Itr lo (hi - lo).toNat) H) : wpAny (model X.prog X.w) X.A (pyIter (.ref s.heap.objs.size)) (PIE X pins σ tg R) E { s with heap := s.heap.push { cls := .type "range", data := .fields #[.int lo t, .int hi u, .int 1 v] }, toks := tk } := by
 refine wpAny_pyIter_range (IsRange.new ..) (small_one h1 h2 h3 h4) ?_
 have I1 : Inv X pins σ H { s with heap := s.heap.push { cls := .type "range", data := .fields #[.int lo t, .int hi u, .int 1 v] }, toks := tk } := I.kept fun b o e => Heap.get?_push_of_some _ e
 refine ⟨(s.heap.push { cls := .type "range", data := .fields #[.int lo t, .int hi u, .int 1 v] }).objs.size, [(s.heap.push { cls := .type "range", data := .fields #[.int lo t, .int hi u, .int 1 v] }).objs.size], _, _, H, rfl,
   I1.kept (t' := tk) fun b o e => Heap.get?_push_of_some _ e, wW _ lo (hi - lo).toNat, ?_, fun b hb => ?_, q⟩
 · have e1 : lo + ((0 : Nat) : Int) * 1 = lo := by simp
   have e2 : (((hi - lo).toNat : Nat) : Int) - ((0 : Nat) : Int) = Builtin.Range.rangeSize lo hi 1 := by rw [rangeSize_one]; split <;> omega
   show IsRangeIter _ _ (lo + ((0 : Nat) : Int) * 1) ((((hi - lo).toNat : Nat) : Int) - ((0 : Nat) : Int)) 1
   rw [e1, e2]
   exact Heap.get?_push_size _ rfl
 · have e : b = (s.heap.push { cls := .type "range", data := .fields #[.int lo t, .int hi u, .int 1 v] }).objs.size := by simpa using hb
   subst e
   exact I1.xl (Nat.le_refl _) (I1.hok.fresh (Nat.le_refl _))
noncomputable def KG (ta : TA) : TI := fun σ H R => ta σ H fun vs H1 => ∃ j : Int, vs = [.int j] ∧ -(2 ^ 62) ≤ j ∧ j < 2 ^ 62 ∧ R (Itr 0 j.toNat) H1
noncomputable def Ki (ta : TA) : TI := fun σ H R => ta σ H fun vs H1 => ∃ i j : Int, vs = [.int i, .int j] ∧ (-(2 ^ 62) ≤ i ∧ i < 2 ^ 62 ∧ -(2 ^ 62) ≤ j ∧ j < 2 ^ 62) ∧ R (Itr i (j - i).toNat) H1
theorem AS {a : Expr} {ta : TA} {p pos : Pos} (hg : Gl X "range") (hm : X.mg "range" = none) (ha : PA X [a] ta) (hs : starEach [a] X.env = [(false, eval a X.env)] := by rfl) : PI X tg (.Call (.Name "range" p) [a] [] pos) (KG ta) := by
 intro pins s σ H R I h
 refine Call_ (jx I hg hm boot_range (PyProof.Rows.callWith_type1 (thn (ha pos pins s σ H _ I h) fun us s1 ⟨vs, H1, I1, r1, q1⟩ => ?_) hs rfl))
 obtain ⟨j, e, q1, q2, q⟩ := q1
 subst e
 cases r1 with
 | cons r rr =>
   cases rr
   obtain ⟨t, rfl⟩ := r
   exact call_range_1 (vk I1 (by omega) (by omega) q1 q2 (by simpa using q))
theorem AU {a b : Expr} {ta : TA} {p pos : Pos} (hg : Gl X "range") (hm : X.mg "range" = none) (ha : PA X [a, b] ta) (hs : starEach [a, b] X.env = [(false, eval a X.env), (false, eval b X.env)] := by rfl) (hs2 : starEach [b] X.env = [(false, eval b X.env)] := by rfl) :
   PI X tg (.Call (.Name "range" p) [a, b] [] pos) (Ki ta) := by
 intro pins s σ H R I h
 refine Call_ (jx I hg hm boot_range (PyProof.Rows.callWith_type1 (thn (ha pos pins s σ H _ I h) fun us s1 ⟨vs, H1, I1, r1, q1⟩ => ?_) (by rw [hs, hs2]) (by rw [hs2]; rfl)))
 obtain ⟨i, j, e, ⟨q1, q2, q3, q4⟩, q⟩ := q1
 subst e
 cases r1 with
 | cons r rr =>
   cases rr with
   | cons r' rr =>
     cases rr
     obtain ⟨t, rfl⟩ := r
     obtain ⟨t', rfl⟩ := r'
     exact call_range_2 (vk I1 q1 q2 q3 q4 q)
noncomputable def LN (wi : TI) (g : TG) (tb : TS) : TS := fun D σ H => wi σ H fun J H1 => ∃ W : Nat → Nat → St → Hp → Prop, (∃ m, W 0 m σ H1) ∧ ∀ i m σ H, W i m σ H →
 (J.stop i H ∧ D.nx σ H) ∨ (J.go i H ∧ ∃ N : St → Hp → Prop, (∀ σ' H', N σ' H' → ∃ m', m' < m ∧ W (i + 1) m' σ' H') ∧ ∀ x H', J.yld i H x H' → g x σ H' fun σ2 H2 => tb { D with nx := N, ct := N, bk := D.nx } σ2 H2)
noncomputable def lB (fp : List Addr) (h : Heap) : List (Addr × Obj) := fp.filterMap fun b => (h.get? b).map fun o => (b, o)
theorem e8 {fp : List Addr} {h : Heap} {b : Addr} {o : Obj} (hb : b ∈ fp) (e : h.get? b = some o) : (b, o) ∈ lB fp h := List.mem_filterMap.mpr ⟨b, hb, by rw [e]; rfl⟩
theorem Ab {fp : List Addr} {h : Heap} {p : Addr × Obj} (hp : p ∈ lB fp h) : p.1 ∈ fp ∧ h.get? p.1 = some p.2 := by
 obtain ⟨b, hb, e⟩ := List.mem_filterMap.mp hp
 cases q : h.get? b with
 | none => rw [q] at e; cases e
 | some o =>
   rw [q] at e
   have e' : (b, o) = p := Option.some.inj e
   subst e'
   exact ⟨hb, q⟩
theorem Inv.pinned {pins : List (Addr × Obj)} {σ : St} {H : Hp} {s : Shared} {fp : List Addr} (I : Inv X pins σ H s) (hf : ∀ b ∈ fp, q9 X pins H b) (ho : ∀ b ∈ fp, ∃ o, s.heap.get? b = some o ∧ ∀ v, o.data ≠ .cell v) : Inv X (pins ++ lB fp s.heap) σ H s :=
 I.zj fun p hp => (List.mem_append.mp hp).elim (fun z => I.pin p (List.mem_append_right _ z)) fun z => by
   obtain ⟨hb, e⟩ := Ab z
   obtain ⟨f0, f1, f2, _⟩ := hf p.1 hb
   obtain ⟨o, e', d⟩ := ho p.1 hb
   rw [e] at e'; cases e'
   exact ⟨e, f0, f1, f2, d⟩
theorem Inv.ja {pins pl : List (Addr × Obj)} {σ : St} {H : Hp} {s : Shared} (I : Inv X (pins ++ pl) σ H s) : Inv X pins σ H s := I.zj fun p hp => I.pin p (List.mem_append_right _ (List.mem_append_left _ hp))
theorem JH {iter : Expr} {body : List Stmt} {wi : TI} {g : TG} {tb : TS} {pos : Pos} (hp : PassesOwn (model X.prog X.w) X.A X.env X.xe) (hc : X.calm = true) (hi : PI X tg iter wi) (hg : PG X tg g) (hb : PSs X body tb)
   (hs : ∀ x, foldedSetIterable iter X.env x = pure x := by intro _; rfl) : PS X (.For tg iter body [] pos) (LN wi g tb) := by
 intro pins s σ H D I h
 refine wpAny_For (thn (hi pins s σ H _ I h) fun v s1 h1 => thn h1 fun itv s2 h2 => ?_) hs
 obtain ⟨it, fp, tn, J, H2, e, I2, T, st2, f2, W, ⟨m0, w0⟩, turn⟩ := h2
 subst e
 have stat : ∀ {H' : Hp}, (∀ b ∈ fp, H' b = none) → ∀ b ∈ fp, q9 X pins H' b := fun hn b hb => ⟨hn b hb, (f2 b hb).2⟩
 refine codeAny_forLoop_any (fun n s' => ∃ i σ' H', Inv X pins σ' H' s' ∧ tn i s'.heap ∧ (∀ b ∈ fp, H' b = none) ∧ W i n σ' H') ?_ m0 ⟨0, σ, H2, I2, st2, fun b hb => (f2 b hb).1, w0⟩
 rintro n s3 ⟨i, σ3, H3, I3, st3, fr3, w3⟩
 rcases turn i n σ3 H3 w3 with ⟨stop, qn⟩ | ⟨go, N, hN, step⟩
 · refine wpAny_passesOwn hp (thn (T.done X rfl rfl rfl hc i pins s3 σ3 H3 X.xe I3 (stat fr3) st3 stop) fun r s4 ⟨hr, I4⟩ => ?_)
   subst hr
   exact wpAny_execs_nil ⟨σ3, H3, I4, qn⟩
 · refine wpAny_passesOwn hp (thn (T.item X rfl rfl rfl hc i pins s3 σ3 H3 X.xe I3 (stat fr3) st3 go) fun r s4 ⟨u, hr, h4⟩ => ?_)
   subst hr
   refine wpAny_passesOwn hp (thn h4 fun _ s5 ⟨x, H5, I5, r5, y5, st5, fr5⟩ => ?_)
   have I5' := I5.pinned (stat fr5) (T.obj _ _ st5)
   refine wpAny_passesOwn hp (thn (hg _ s5 σ3 H5 x u _ I5' r5 (step x H5 y5)) fun _ s6 ⟨σ6, H6, I6, q6⟩ => ?_)
   refine wpAny_passesOwn hp (thn (hb _ s6 σ6 H6 _ I6 q6) fun f s7 q7 => ?_)
   have again : ∀ {σ7 : St} {H7 : Hp}, Inv X (pins ++ lB fp s5.heap) σ7 H7 s7 → N σ7 H7 → ∃ m, m < n ∧ ∃ i σ' H', Inv X pins σ' H' s7 ∧ tn i s7.heap ∧ (∀ b ∈ fp, H' b = none) ∧ W i m σ' H' := fun {σ7 H7} I7 n7 => by
     obtain ⟨m', hm, w7⟩ := hN σ7 H7 n7
     refine ⟨m', hm, i + 1, σ7, H7, I7.ja, T.keep _ _ _ st5 fun b hb o e => (I7.pin (b, o) (List.mem_append_right _ (List.mem_append_right _ (e8 hb e)))).1, fun b hb => ?_, w7⟩
     obtain ⟨o, e, d⟩ := T.obj _ _ st5 b hb
     exact (I7.pin (b, o) (List.mem_append_right _ (List.mem_append_right _ (e8 hb e)))).2.1
   cases f with
   | next => obtain ⟨σ7, H7, I7, n7⟩ := q7; exact again I7 n7
   | cont => obtain ⟨σ7, H7, I7, n7⟩ := q7; exact again I7 n7
   | brk => obtain ⟨σ7, H7, I7, q7⟩ := q7; exact ⟨σ7, H7, I7.ja, q7⟩
   | ret v => obtain ⟨x7, σ7, H7, I7, r7, q7⟩ := q7; exact ⟨x7, σ7, H7, I7.ja, r7, q7⟩
end
end L2
namespace L2
open PySem PySem.Spec PyProof.Rows
noncomputable abbrev R2 := V → V → Hp → VK → Prop
noncomputable def OpR (X : Cx) (f : Value → Value → Sem Value) (r : R2) : Prop :=
 ∀ (pins : List (Addr × Obj)) (s : Shared) (σ : St) (H : Hp) (x y : V) (v u : Value) (Q : VK), Inv X pins σ H s → RelV x v → RelV y u → r x y H Q →
   wpAny (model X.prog X.w) X.A (f v u) (EP X pins σ Q) X.xe s
noncomputable def UnR (X : Cx) (f : Value → Sem Value) (r : V → Hp → VK → Prop) : Prop :=
 ∀ (pins : List (Addr × Obj)) (s : Shared) (σ : St) (H : Hp) (x : V) (v : Value) (Q : VK), Inv X pins σ H s → RelV x v → r x H Q →
   wpAny (model X.prog X.w) X.A (f v) (EP X pins σ Q) X.xe s
noncomputable def fX (X : Cx) (f : Value) (r : List V → Hp → VK → Prop) : Prop :=
 ∀ (pins : List (Addr × Obj)) (s : Shared) (σ : St) (H : Hp) (xs : List V) (us : List Value) (Q : VK), Inv X pins σ H s → Vals xs us → r xs H Q →
   wpAny (model X.prog X.w) X.A (call f us) (EP X pins σ Q) X.xe s
noncomputable def tOp (r : R2) (ta tb : TE) : TE := fun σ H Q => ta σ H fun x H1 => tb σ H1 fun y H2 => r x y H2 Q
noncomputable def tUn (r : V → Hp → VK → Prop) (ta : TE) : TE := fun σ H Q => ta σ H fun x H1 => r x H1 Q
noncomputable def rI (C : Int → Int → Prop) (g : Int → Int → V) : R2 := fun x y H Q => ∃ i j, x = .int i ∧ y = .int j ∧ C i j ∧ Q (g i j) H
noncomputable def rI0 (g : Int → Int → V) : R2 := fun x y H Q => ∃ i j, x = .int i ∧ y = .int j ∧ Q (g i j) H
noncomputable def rU (g : Int → V) : V → Hp → VK → Prop := fun x H Q => ∃ i, x = .int i ∧ Q (g i) H
section
variable {X : Cx} {a b c : Expr} {ta tb tc : TE} {pos : Pos}
theorem GL (ha : PE X a ta) (hb : PE X b tb) {pins : List (Addr × Obj)} {s : Shared} {σ : St} {H : Hp} {R : V → V → Hp → Prop} (I : Inv X pins σ H s)
   (h : ta σ H fun x H1 => tb σ H1 fun y H2 => R x y H2) {Q : Value → Shared → Prop} {f : Value → Value → Sem Value}
   (hf : ∀ v u s2 x y H2, Inv X pins σ H2 s2 → RelV x v → RelV y u → R x y H2 → wpAny (model X.prog X.w) X.A (f v u) Q X.xe s2) :
   wpAny (model X.prog X.w) X.A (eval a X.env) (fun v s₁ => wpAny (model X.prog X.w) X.A (eval b X.env) (fun u s₂ => wpAny (model X.prog X.w) X.A (f v u) Q X.xe s₂) X.xe s₁) X.xe s := by
 refine thn (ha pins s σ H _ I h) fun v s1 ⟨x, H1, I1, r1, q1⟩ => ?_
 refine thn (hb pins s1 σ H1 _ I1 q1) fun u s2 ⟨y, H2, I2, r2, q2⟩ => ?_
 exact hf v u s2 x y H2 I2 r1 r2 q2
theorem Kh {op : Operator} {r : R2} (ho : OpR X (binaryOp op) r) (ha : PE X a ta) (hb : PE X b tb) : PE X (.BinOp a op b pos) (tOp r ta tb) := by
 intro pins s σ H Q I h
 exact wpAny_BinOp (GL ha hb I h fun v u s2 x y H2 I2 rx ry q => ho pins s2 σ H2 x y v u Q I2 rx ry q)
theorem K2 {op : UnaryOp} {r : V → Hp → VK → Prop} (ho : UnR X (unaryOp op) r) (ha : PE X a ta) : PE X (.UnaryOp op a pos) (tUn r ta) := by
 intro pins s σ H Q I h
 exact UnaryOp_ (thn (ha pins s σ H _ I h) fun v s1 ⟨x, H1, I1, r1, q1⟩ => ho pins s1 σ H1 x v Q I1 r1 q1)
theorem opI {f : Value → Value → Sem Value} {C : Int → Int → Prop} {g : Int → Int → Int}
   (rule : ∀ (i j : Int) (t u : Tok) (s : Shared) (Q : Value → Shared → Prop) (E : Value → Shared → Prop), C i j → Q (.int (g i j) s.toks) { s with toks := s.toks + 1 } → wpAny (model X.prog X.w) X.A (f (.int i t) (.int j u)) Q E s) :
   OpR X f (rI C fun i j => .int (g i j)) := by
 intro pins s σ H x y v u Q I rx ry h
 obtain ⟨i, j, rfl, rfl, hc, q⟩ := h
 obtain ⟨t, rfl⟩ := rx
 obtain ⟨t', rfl⟩ := ry
 exact rule i j t t' s _ _ hc ⟨.int (g i j), H, I.tok _, ⟨_, rfl⟩, q⟩
theorem Lg {f : Value → Value → Sem Value} {g : Int → Int → Int}
   (rule : ∀ (i j : Int) (t u : Tok) (s : Shared) (Q : Value → Shared → Prop) (E : Value → Shared → Prop), Q (.int (g i j) s.toks) { s with toks := s.toks + 1 } → wpAny (model X.prog X.w) X.A (f (.int i t) (.int j u)) Q E s) :
   OpR X f (rI0 fun i j => .int (g i j)) := by
 intro pins s σ H x y v u Q I rx ry h
 obtain ⟨i, j, rfl, rfl, q⟩ := h
 obtain ⟨t, rfl⟩ := rx
 obtain ⟨t', rfl⟩ := ry
 exact rule i j t t' s _ _ ⟨.int (g i j), H, I.tok _, ⟨_, rfl⟩, q⟩
theorem Ea {f : Value → Value → Sem Value} {g : Int → Int → Bool}
   (rule : ∀ (i j : Int) (t u : Tok) (s : Shared) (Q : Value → Shared → Prop) (E : Value → Shared → Prop), Q (.bool (g i j)) s → wpAny (model X.prog X.w) X.A (f (.int i t) (.int j u)) Q E s) :
   OpR X f (rI0 fun i j => .bl (g i j)) := by
 intro pins s σ H x y v u Q I rx ry h
 obtain ⟨i, j, rfl, rfl, q⟩ := h
 obtain ⟨t, rfl⟩ := rx
 obtain ⟨t', rfl⟩ := ry
 exact rule i j t t' s _ _ ⟨.bl (g i j), H, I, rfl, q⟩
noncomputable def Kk (i j : Int) : Prop := 0 ≤ j ∧ j ≤ 1000000 ∧ i.natAbs < 2 ^ 64
theorem xX (k : Nat) : (0 : Int) ≤ 2 ^ k := by
 rw [two_pow_cast]
 exact Int.natCast_nonneg _
theorem Fo : OpR X (binaryOp .Mod) (rI (fun _ j => j ≠ 0) fun i j => .int (i.fmod j)) := opI fun _ _ _ _ _ _ _ hc q => mod_int' hc q
theorem Gy : OpR X (binaryOp .Pow) (rI Kk fun i j => .int (i ^ j.toNat)) := opI fun _ _ _ _ _ _ _ hc q => pow_int_small hc.1 hc.2.1 hc.2.2 q
theorem Gm : OpR X (binaryOp .LShift) (rI Kk fun i j => .int (i * 2 ^ j.toNat)) := opI fun _ _ _ _ _ _ _ hc q => lshift_int_small hc.1 hc.2.1 hc.2.2 q
theorem Ik : OpR X (binaryOp .RShift) (rI (fun _ j => 0 ≤ j) fun i j => .int (i / 2 ^ j.toNat)) := opI fun i j _ _ _ _ _ hc q =>
 rshift_int hc (by rw [Int.fdiv_eq_ediv_of_nonneg i (xX _)]; exact q)
theorem Kg : OpR X (binaryOp .BitOr) (rI0 fun i j => .int (Builtin.bitOr i j)) := Lg fun _ _ _ _ _ _ _ q => or_int q
theorem unI {f : Value → Sem Value} {g : Int → Int}
   (rule : ∀ (i : Int) (t : Tok) (s : Shared) (Q : Value → Shared → Prop) (E : Value → Shared → Prop), Q (.int (g i) s.toks) { s with toks := s.toks + 1 } → wpAny (model X.prog X.w) X.A (f (.int i t)) Q E s) :
   UnR X f (rU fun i => .int (g i)) := by
 intro pins s σ H x v Q I rx h
 obtain ⟨i, rfl, q⟩ := h
 obtain ⟨t, rfl⟩ := rx
 exact rule i t s _ _ ⟨.int (g i), H, I.tok _, ⟨_, rfl⟩, q⟩
theorem IG : UnR X (unaryOp .USub) (rU fun i => .int (-i)) := unI fun _ _ _ _ _ q => neg_int q
end
section
variable {X : Cx} {a b c : Expr} {ta tb tc : TE} {pos : Pos}
theorem CL {pins : List (Addr × Obj)} {σ : St} {H : Hp} {s : Shared} {Q : VK} {k k' : Bool} (I : Inv X pins σ H s) (q : Q (.bl k) H) (e : k = k') : EP X pins σ Q (.bool k') s := by
 subst e
 exact ⟨.bl k, H, I, rfl, q⟩
theorem Kq : OpR X (compareOp .Lt) (rI0 fun i j => .bl (decide (i < j))) := Ea fun _ _ _ _ _ _ _ q => lt_int q
theorem J4 : OpR X (compareOp .LtE) (rI0 fun i j => .bl (decide (i ≤ j))) := Ea fun _ _ _ _ _ _ _ q => le_int q
theorem J7 : OpR X (compareOp .Gt) (rI0 fun i j => .bl (decide (j < i))) := Ea fun _ _ _ _ _ _ _ q => gt_int q
theorem J1 : OpR X (compareOp .GtE) (rI0 fun i j => .bl (decide (j ≤ i))) := Ea fun _ _ _ _ _ _ _ q => ge_int q
theorem IK : OpR X (compareOp .Is) (fun x y H Q => y = .non ∧ Q (.bl (decide (x = .non))) H) := by
 intro pins s σ H x y v u Q I rx ry h
 obtain ⟨rfl, q⟩ := h
 cases ry
 refine is_none_gen (CL I q ?_)
 cases x <;> first
   | (cases rx; rfl)
   | (obtain ⟨t, rfl⟩ := rx; rfl)
theorem Ee : OpR X (compareOp .IsNot) (fun x y H Q => y = .non ∧ Q (.bl (!decide (x = .non))) H) := by
 intro pins s σ H x y v u Q I rx ry h
 obtain ⟨rfl, q⟩ := h
 cases ry
 refine isnot_none_gen (CL I q ?_)
 cases x <;> first
   | (cases rx; rfl)
   | (obtain ⟨t, rfl⟩ := rx; rfl)
theorem tj {op : CmpOp} {r : R2} (ho : OpR X (compareOp op) r) (ha : PE X a ta) (hb : PE X b tb) (hm : behindInMarks op b = false) : PE X (.Compare a [op] [b] pos) (tOp r ta tb) := by
 intro pins s σ H Q I h
 exact wpAny_Compare1 (GL ha hb I h fun v u s2 x y H2 I2 rx ry q => ho pins s2 σ H2 x y v u Q I2 rx ry q) hm
noncomputable def FH (t : TE) : TT := fun σ H Q => t σ H fun x H' => ∃ k, x = .bl k ∧ Q k H'
theorem sX {op : CmpOp} {r : R2} (ho : OpR X (compareOp op) r) (ha : PE X a ta) (hb : PE X b tb) (hm : behindInMarks op b = false) : PT X (.Compare a [op] [b] pos) (FH (tOp r ta tb)) := by
 intro pins s σ H Q I h
 refine wpAny_isTrue_Compare1 (thn (ha pins s σ H _ I h) fun v s1 ⟨x, H1, I1, r1, q1⟩ => thn (hb pins s1 σ H1 _ I1 q1) fun u s2 ⟨y, H2, I2, r2, q2⟩ =>
   thn (ho pins s2 σ H2 x y v u _ I2 r1 r2 q2) fun c s3 ⟨z, H3, I3, r3, k, e, q3⟩ => ?_) hm
 subst e
 cases r3
 exact wpAny_truthy_bool ⟨H3, I3, q3⟩
noncomputable def xt (r r' : R2) (ta tb tc : TE) : TE := fun σ H Q => ta σ H fun x H1 => tb σ H1 fun y H2 => r x y H2 fun z H3 => ∃ k, z = .bl k ∧
 (if k = true then tc σ H3 fun w' H4 => r' y w' H4 Q else Q (.bl false) H3)
theorem CG {op op' : CmpOp} {r r' : R2} (ho : OpR X (compareOp op) r) (ho' : OpR X (compareOp op') r') (ha : PE X a ta) (hb : PE X b tb) (hc : PE X c tc)
   (hm : lastMarks [op, op'] [b, c] = false := by with_unfolding_all rfl) : PE X (.Compare a [op, op'] [b, c] pos) (xt r r' ta tb tc) := by
 intro pins s σ H Q I h
 refine Compare_chain (thn (ha pins s σ H _ I h) fun v s1 ⟨x, H1, I1, r1, q1⟩ => chain_link (thn (hb pins s1 σ H1 _ I1 q1) fun u s2 ⟨y, H2, I2, r2, q2⟩ =>
   thn (ho pins s2 σ H2 x y v u _ I2 r1 r2 q2) fun d s3 ⟨z, H3, I3, r3, k, e, q3⟩ => ?_)) hm
 subst e
 cases r3
 refine wpAny_truthy_bool ?_
 cases k with
 | false => exact ite_ff ⟨.bl false, H3, I3, rfl, q3⟩
 | true => exact ite_tt (chain_last (thn (hc pins s3 σ H3 _ I3 q3) fun w' s4 ⟨z', H4, I4, r4, q4⟩ => ho' pins s4 σ H4 y z' u w' Q I4 r2 r4 q4))
theorem A4 {op op' : CmpOp} {r r' : R2} (ho : OpR X (compareOp op) r) (ho' : OpR X (compareOp op') r') (ha : PE X a ta) (hb : PE X b tb) (hc : PE X c tc)
   (hm : lastMarks [op, op'] [b, c] = false := by with_unfolding_all rfl) : PT X (.Compare a [op, op'] [b, c] pos) (FH (xt r r' ta tb tc)) := by
 intro pins s σ H Q I h
 refine isTrue_chain (thn (ha pins s σ H _ I h) fun v s1 ⟨x, H1, I1, r1, q1⟩ => test_link (thn (hb pins s1 σ H1 _ I1 q1) fun u s2 ⟨y, H2, I2, r2, q2⟩ =>
   thn (ho pins s2 σ H2 x y v u _ I2 r1 r2 q2) fun d s3 ⟨z, H3, I3, r3, k, e, q3⟩ => ?_)) hm
 subst e
 cases r3
 refine wpAny_truthy_bool ?_
 cases k with
 | false =>
   obtain ⟨k', e', q'⟩ := q3
   cases e'
   exact ite_ff ⟨H3, I3, q'⟩
 | true =>
   refine ite_tt (test_last (thn (hc pins s3 σ H3 _ I3 q3) fun w' s4 ⟨z', H4, I4, r4, q4⟩ => thn (ho' pins s4 σ H4 y z' u w' _ I4 r2 r4 q4) fun d' s5 ⟨z2, H5, I5, r5, k2, e2, q5⟩ => ?_))
   subst e2
   cases r5
   exact wpAny_truthy_bool ⟨H5, I5, q5⟩
theorem tI : (sizeLine : Nat) < 2 ^ 63 := by rw [sizeLine_eq]; decide
theorem xD : OpR X (binaryOp .Add) (fun x y H Q => ∃ i j, x = .str i ∧ y = .str j ∧ i.length + j.length ≤ sizeLine ∧ Q (.str (i ++ j)) H) := by
 intro pins s σ H x y v u Q I rx ry h
 obtain ⟨i, j, rfl, rfl, hz, q⟩ := h
 obtain ⟨t, rfl⟩ := rx
 obtain ⟨t', rfl⟩ := ry
 exact add_str (fun t' tk => ⟨.str (i ++ j), H, I.tok _, ⟨_, rfl⟩, q⟩) hz
theorem vals1 {x : V} {us : List Value} (r : Vals [x] us) : ∃ u, us = [u] ∧ RelV x u := by
 cases r with
 | cons r1 r2 => cases r2; exact ⟨_, rfl, r1⟩
theorem vals2 {x y : V} {us : List Value} (r : Vals [x, y] us) : ∃ u w', us = [u, w'] ∧ RelV x u ∧ RelV y w' := by
 cases r with
 | cons r1 r2 =>
   cases r2 with
   | cons r3 r4 => cases r4; exact ⟨_, _, rfl, r1, r3⟩
theorem AW : fX X (.builtin "abs") (fun xs H Q => ∃ i, xs = [.int i] ∧ Q (.int (if i < 0 then -i else i)) H) := by
 intro pins s σ H xs us Q I r h
 obtain ⟨i, rfl, q⟩ := h
 obtain ⟨u, rfl, t, rfl⟩ := vals1 r
 exact call_abs_int fun u tk => ⟨.int (if i < 0 then -i else i), H, I.tok _, ⟨_, rfl⟩, q⟩
theorem Aq (hc : X.calm = true) : fX X (.builtin "max") (fun xs H Q => ∃ i j, xs = [.int i, .int j] ∧ Q (.int (if j > i then j else i)) H) := by
 intro pins s σ H xs us Q I r h
 obtain ⟨i, j, rfl, q⟩ := h
 obtain ⟨u, w', rfl, ⟨t, rfl⟩, ⟨t', rfl⟩⟩ := vals2 r
 refine max_two_ints (I.ok.hd hc) fun h' tk k => ⟨_, H, I.kept k, ?_, q⟩
 by_cases hj : j > i
 · rw [if_pos hj, if_pos hj]; exact ⟨_, rfl⟩
 · rw [if_neg hj, if_neg hj]; exact ⟨_, rfl⟩
theorem zY (hc : X.calm = true) : fX X (.builtin "min") (fun xs H Q => ∃ i j, xs = [.int i, .int j] ∧ Q (.int (if j < i then j else i)) H) := by
 intro pins s σ H xs us Q I r h
 obtain ⟨i, j, rfl, q⟩ := h
 obtain ⟨u, w', rfl, ⟨t, rfl⟩, ⟨t', rfl⟩⟩ := vals2 r
 refine min_two_ints (I.ok.hd hc) fun h' tk k => ⟨_, H, I.kept k, ?_, q⟩
 by_cases hj : j < i
 · rw [if_pos hj, if_pos hj]; exact ⟨_, rfl⟩
 · rw [if_neg hj, if_neg hj]; exact ⟨_, rfl⟩
theorem rH : fX X (.type "int") (fun xs H Q => (∃ i, xs = [.int i] ∧ Q (.int i) H) ∨ ∃ k, xs = [.bl k] ∧ Q (.int (if k then 1 else 0)) H) := by
 intro pins s σ H xs us Q I r h
 rcases h with ⟨i, rfl, q⟩ | ⟨k, rfl, q⟩
 · obtain ⟨u, rfl, t, rfl⟩ := vals1 r
   exact call_int_int ⟨.int i, H, I, ⟨_, rfl⟩, q⟩
 · obtain ⟨u, rfl, r1⟩ := vals1 r
   cases r1
   exact call_int_bool ⟨.int (if k then 1 else 0), H, I.tok _, ⟨_, rfl⟩, q⟩
end
end L2
namespace L2
open PySem PySem.Spec PyProof.Rows
section
variable {prog : Program} {w : World} {A : Around} {E : Value → Shared → Prop} {s : Shared} {K : PySem.W.Frag} {x dx C f : Addr} {mA : Str → Option Value} {name : Str} {v : Value}
end
section
variable {P : Program} {w : World} {H H' : Hp} {h h' : Heap} {a C dx : Addr} {fs fs' : List (Str × V)}
end
section
variable {X : Cx} {pins : List (Addr × Obj)} {σ : St} {H : Hp} {s : Shared} {a C dx : Addr} {fs : List (Str × V)} {f : Str} {v : V} {A : Around} {E : Value → Shared → Prop}
end
section
variable {X : Cx} {o e value : Expr} {f : Str} {pos pos' tpos : Pos} {ta tv : TE}
end
section
variable {X : Cx} {pins : List (Addr × Obj)} {σ : St} {H : Hp} {s : Shared} {A : Around} {E : Value → Shared → Prop} {Q : Value → Shared → Prop} {c : Value} {b : Bool}
end
end L2
namespace L2
open PySem PySem.Spec PyProof.Rows
structure jY (k : Nat) (A : Around) : Prop where
 hd : A.handled = none
 dp : A.depth + 3 * k + 5 < recursionLimit
 un : A.units + 16 * k + 200 < cLine
theorem jY.mono {j k : Nat} {A : Around} (r : jY k A) (h : j ≤ k) : jY j A := ⟨r.hd, by have := r.dp; omega, by have := r.un; omega⟩
theorem jY.deeper {k : Nat} {A : Around} (r : jY (k + 1) A) (env : Env) : jY k (A.deeper env) :=
 ⟨r.hd, by have := r.dp; show A.depth + 1 + 3 * k + 5 < _; omega, by have := r.un; show A.units + 3 + 16 * k + 200 < _; omega⟩
theorem jY.depth {k : Nat} {A : Around} (r : jY k A) : A.depth < recursionLimit := by have := r.dp; omega
theorem jY.units {k : Nat} {A : Around} (r : jY k A) : A.units + 64 < cLine := by have := r.un; omega
noncomputable def Lv : TA := fun _ H Q => Q [] H
noncomputable def Kv (ta : TE) (tr : TA) : TA := fun σ H Q => ta σ H fun x H1 => tr σ H1 fun xs H2 => Q (x :: xs) H2
section
variable {X : Cx} {e : Expr} {es : List Expr} {te : TE} {t : TA} {pos : Pos}
theorem nL : PA X [] Lv := fun _ _ _ _ H Q I h => Calls.spliced_nil ⟨[], H, I, .nil, h⟩
theorem gZ (ha : PE X e te) (hr : PA X es t) (hs : starEach (e :: es) X.env = (false, eval e X.env) :: starEach es X.env := by rfl) : PA X (e :: es) (Kv te t) := by
 intro pos pins s σ H Q I h
 rw [hs]
 show wpAny _ _ (spliced ((false, eval e X.env) :: backTo pos (starEach es X.env))) _ _ s
 refine Calls.spliced_cons (thn (ha pins s σ H _ I h) fun u s1 ⟨x, H1, I1, r1, q1⟩ => ?_)
 exact thn (hr pos pins s1 σ H1 _ I1 q1) fun us s2 ⟨xs, H2, I2, r2, q2⟩ => ⟨x :: xs, H2, I2, .cons r1 r2, q2⟩
noncomputable def Lb (t : TA) : TE := fun σ H Q => t σ H fun xs H1 => xs.length ≤ sizeLine ∧ ∀ p, H1 p = none → Q (.ref p) (upd H1 p (.tup xs))
noncomputable def K9 (t : TA) : TE := fun σ H Q => t σ H fun xs H1 => xs.length ≤ sizeLine ∧ ∀ p, H1 p = none → Q (.ref p) (upd H1 p (.lst xs))
theorem Gq {x1} (h : PA X es t) : PE X (.Tuple es x1 pos) (Lb t) := by
 intro pins s σ H Q I hq
 refine wpAny_Tuple_spliced (thn (h pos pins s σ H _ I hq) fun us s1 ⟨xs, H1, I1, r, z, q⟩ => ⟨by rw [← r.length]; exact z, ?_⟩)
 have hf : H1 s1.heap.objs.size = none := I1.hok.fresh (Nat.le_refl _)
 refine ⟨.ref s1.heap.objs.size, upd H1 s1.heap.objs.size (.tup xs), I1.laid (t' := s1.toks) (fun b u e => Heap.get?_push_of_some _ e) (Nat.le_refl _) ?_, rfl, q _ hf⟩
 exact ⟨z, us, r, ⟨_, Heap.get?_push_size _ rfl, rfl, _, rfl⟩⟩
theorem GH (h : PA X es t) : PE X (.List es pos) (K9 t) := by
 intro pins s σ H Q I hq
 refine wpAny_List_spliced (thn (h pos pins s σ H _ I hq) fun us s1 ⟨xs, H1, I1, r, z, q⟩ => ⟨by rw [← r.length]; exact z, ?_⟩)
 have hf : H1 s1.heap.objs.size = none := I1.hok.fresh (Nat.le_refl _)
 refine ⟨.ref s1.heap.objs.size, upd H1 s1.heap.objs.size (.lst xs), I1.laid (t' := s1.toks) (fun b u e => Heap.get?_push_of_some _ e) (Nat.le_refl _) ?_, rfl, q _ hf⟩
 exact ⟨z, us, 0, r, Heap.get?_push_size _ rfl⟩
end
noncomputable abbrev Sp := List V → Hp → VK → XK → Prop
noncomputable abbrev CXT := List Env → Hp → Shared → XK → Value → Shared → Prop
structure DP (P : Program) (w : World) (K : PySem.W.Frag) (mg : Str → Option Value) (base : Heap) (A : Around) (outer : List Env) (s : Shared) (H : Hp) : Prop where
 frames : A.frames = some outer
 mod : Mod K mg base
 bs : ∀ b o, base.get? b = some o → s.heap.get? b = some o ∧ H b = none
 bsz : base.objs.size ≤ s.heap.objs.size
 pW : s.heap.FunFrames base outer
 frf : ∀ b ∈ frs outer, H b = none
 hok : HOk P w H s.heap
 bare : AllBare s.gens
noncomputable def CE (outer : List Env) (P : Program) (w : World) (H : Hp) (s : Shared) (Q : VK) (u : Value) (s' : Shared) : Prop :=
 ∃ v H', s'.os = s.os ∧ AllBare s'.gens ∧ Un (frs outer) [] H H' s.heap s'.heap ∧ HOk P w H' s'.heap ∧ RelV v u ∧ Q v H'
noncomputable def CR (CX : CXT) (outer : List Env) (P : Program) (w : World) (H : Hp) (s : Shared) (Q : VK) (E : XK) (r : Result) (s' : Shared) : Prop :=
 match r with
 | .ok (.ret u) => CE outer P w H s Q u s'
 | .ok _ => False
 | .error e => CX outer H s E e s'
structure bR (P : Program) (w : World) (K : PySem.W.Frag) (mg : Str → Option Value) (base : Heap) (CX : CXT) (k : Nat) (f : Addr) (fd : FuncData) (ps : List Str) (sp : Sp) : Prop where
 len : ∀ vs H Q E, sp vs H Q E → vs.length = ps.length
 run : ∀ (A : Around) (outer : List Env) (s : Shared) (H : Hp) (args : Args) (us : List Value) (vs : List V) (Q : VK) (E : XK), jY k A → DP P w K mg base A outer s H → BindsTo s fd args (ps.zip us) → Vals vs us → sp vs H Q E →
   codeAny (model P w) A (.call (.ref f) args) (CR CX outer P w H s Q E) s
theorem bR.mono {P : Program} {w : World} {K : PySem.W.Frag} {mg : Str → Option Value} {base : Heap} {CX : CXT} {j k : Nat} {f : Addr} {fd : FuncData} {ps : List Str} {sp : Sp} (F : bR P w K mg base CX j f fd ps sp) (h : j ≤ k) :
   bR P w K mg base CX k f fd ps sp := ⟨F.len, fun A outer s H args us vs Q E hr => F.run A outer s H args us vs Q E (hr.mono h)⟩
section
variable {X : Cx} {pins : List (Addr × Obj)} {σ : St} {H : Hp} {s s' : Shared}
theorem Inv.Ly (I : Inv X pins σ H s) : DP X.prog X.w X.K X.mg X.base X.A X.stack s H :=
 ⟨I.ok.frames, I.ok.mod, I.bs, Nat.le_trans I.ok.bsz I.sz, I.stack, I.y8, I.hok, I.bare⟩
theorem Inv.after {Q : VK} {u : Value} (I : Inv X pins σ H s) (h : CE X.stack X.prog X.w H s Q u s') : EP X pins σ Q u s' := by
 obtain ⟨v, H', os, bare, un, hok, r, q⟩ := h
 obtain ⟨hh, g, d, t, os'⟩ := s'
 obtain rfl : os' = s.os := os
 exact ⟨v, H', I.call (h' := hh) (g' := g) (d' := d) (t' := t) (ch := []) un hok bare (fun b z => absurd z (by simp)), r, q⟩
end
noncomputable def K1 (sp : Sp) (dvs : List V) (E : XK) (t : TA) : TE := fun σ H Q => t σ H fun vs H1 => sp (vs ++ dvs) H1 Q E
noncomputable def Binds (K : PySem.W.Frag) (fd : FuncData) (ps : List Str) (ds : List Value) : Prop :=
 ∀ (s : Shared) (us : List Value), K.In s.heap → (us ++ ds).length = ps.length → BindsTo s fd ⟨us, []⟩ (ps.zip (us ++ ds))
theorem Binds.all {K : PySem.W.Frag} {fd : FuncData} {ps : List Str} (h : ∀ us : List Value, us.length = ps.length → bindArgs fd ⟨us, []⟩ = pure (ps.zip us)) : Binds K fd ps [] := fun s us _ hl => by
 rw [List.append_nil] at hl ⊢
 exact .of_eq (h us hl)
noncomputable def Passes (CX : CXT) (X : Cx) (E : XK) : Prop := ∀ (pins : List (Addr × Obj)) (σ : St) (H : Hp) (s : Shared) (e : Value) (s' : Shared), Inv X pins σ H s → CX X.stack H s E e s' → X.xe e s'
section
variable {X : Cx} {CX : CXT} {k : Nat} {f C : Addr} {fd : FuncData} {ps : List Str} {sp : Sp} {dvs : List V} {ds : List Value} {E : XK} {x m : Str} {p pos apos : Pos} {e o : Expr} {es : List Expr} {ta : TE} {t : TA}
theorem Ic {pins : List (Addr × Obj)} {σ : St} {H : Hp} {s : Shared} {Q : VK} {us : List Value} {vs : List V} (F : bR X.prog X.w X.K X.mg X.base CX k f fd ps sp) (hr : jY k X.A) (hb : Binds X.K fd ps ds) (hd : Vals dvs ds) (hx : Passes CX X E)
   (I : Inv X pins σ H s) (r : Vals vs us) (h : sp (vs ++ dvs) H Q E) : wpAny (model X.prog X.w) X.A (call (.ref f) us) (EP X pins σ Q) X.xe s := by
 have r2 : Vals (vs ++ dvs) (us ++ ds) := r.append hd
 have hl : (us ++ ds).length = ps.length := by rw [← r2.length]; exact F.len _ _ _ _ h
 refine wpAny_call (codeAny_mono (F.run X.A X.stack s H ⟨us, []⟩ (us ++ ds) (vs ++ dvs) Q E hr I.Ly (hb s us I.kIn hl) r2 h) fun r s' hq => ?_)
 cases r with
 | error e => exact hx pins σ H s e s' I hq
 | ok fl =>
   cases fl with
   | ret u => exact I.after hq
   | next => exact False.elim hq
   | brk => exact False.elim hq
   | cont => exact False.elim hq
theorem Em (F : bR X.prog X.w X.K X.mg X.base CX k f fd ps sp) (hr : jY k X.A) (hg : Gl X x) (hm : X.mg x = some (.ref f)) (hk : PySem.W.keepIn X.K (.ref f) = true) (hb : Binds X.K fd ps ds) (hd : Vals dvs ds) (hx : Passes CX X E)
   (ha : PA X (e :: es) t) (hdb : (x == ("__debug__" : Str)) = false := by decide) (he : starEach (e :: es) X.env = (false, eval e X.env) :: starEach es X.env := by rfl) (hpl : (backTo pos (starEach es X.env)).any (·.1) = false := by rfl) :
   PE X (.Call (.Name x p) (e :: es) [] pos) (K1 sp dvs E t) := by
 intro pins s σ H Q I h
 refine wpAny_Call_Name_kw (yp I hg hm ?_ hdb)
 refine PySem.W.callWith_K (h₀ := X.base) I.ok.mod.kin hk (thn (ha pos pins s σ H _ I h) fun us s1 ⟨vs, H1, I1, r, q⟩ => ⟨I1.kIn, ?_⟩) he hpl
 exact Ic F hr hb hd hx I1 r q
end
section
variable {X : Cx} {CX : CXT} {k : Nat} {f C : Addr} {fd : FuncData} {ps ks : List Str} {sp : Sp} {E : XK} {x m : Str} {p pos apos kpos : Pos} {e o : Expr} {es : List Expr} {kws : List Keyword} {te ta : TE} {t tk : TA} {nm : Option Str}
variable {g : List Value → List Value → List Value} {gV : List V → List V → List V}
end
structure aF (N P : List Str) (sc : Scope) : Prop where
 kind : sc.kind = .function
 co : sc.isCoroutine = false
 gen : sc.isGenerator = false
 nd : N.Nodup
 pre : N.take P.length = P
 par : ∀ x ∈ P, sc.names.lookup x = some .local ∨ sc.names.lookup x = some .cell
 nofree : ∀ y ∈ sc.names, y.2 ≠ .free
theorem sk {kindOf : Str → Option NameKind} {x : Str} : ∀ {binds : List (Str × Value)} {m : Str → Option Value}, (∀ v, (x, v) ∉ binds) → bindL kindOf binds m x = m x
 | [], _, _ => rfl
 | (n, v) :: r, m, h => by
   unfold bindL
   rw [sk fun w hw => h w (List.mem_cons_of_mem _ hw)]
   split
   · have : x ≠ n := by rintro rfl; exact h v List.mem_cons_self
     simp [this]
   · rfl
theorem rR {kindOf : Str → Option NameKind} {x : Str} : ∀ {binds : List (Str × Value)} {m : Str → Option Value}, (∀ v, (x, v) ∉ binds) → bindC kindOf binds m x = m x
 | [], _, _ => rfl
 | (n, v) :: r, m, h => by
   unfold bindC
   rw [rR fun w hw => h w (List.mem_cons_of_mem _ hw)]
   split
   · rfl
   · have : x ≠ n := by rintro rfl; exact h v List.mem_cons_self
     simp [this]
theorem rV {kindOf : Str → Option NameKind} {x : Str} {v : Value} : ∀ {P : List Str} {vs : List Value} {i : Nat} {m : Str → Option Value}, P.Nodup → P[i]? = some x → vs[i]? = some v → kindOf x = some .local →
   bindL kindOf (P.zip vs) m x = some v
 | [], _, _, _, _, h, _, _ => by simp at h
 | _ :: _, [], _, _, _, _, h, _ => by simp at h
 | p :: P, w :: vs, 0, m, nd, h1, h2, hk => by
   simp at h1 h2; subst h1; subst h2
   show bindL kindOf ((p, w) :: P.zip vs) m p = _
   unfold bindL
   rw [sk fun v hv => (List.nodup_cons.mp nd).1 (List.of_mem_zip hv).1, if_pos hk]
   simp
 | p :: P, w :: vs, i + 1, m, nd, h1, h2, hk => by
   show bindL kindOf ((p, w) :: P.zip vs) m x = _
   unfold bindL
   exact rV (i := i) (List.nodup_cons.mp nd).2 (by simpa using h1) (by simpa using h2) hk
theorem rQ {kindOf : Str → Option NameKind} {x : Str} {v : Value} : ∀ {P : List Str} {vs : List Value} {i : Nat} {m : Str → Option Value}, P.Nodup → P[i]? = some x → vs[i]? = some v → kindOf x ≠ some .local →
   bindC kindOf (P.zip vs) m x = some v
 | [], _, _, _, _, h, _, _ => by simp at h
 | _ :: _, [], _, _, _, _, h, _ => by simp at h
 | p :: P, w :: vs, 0, m, nd, h1, h2, hk => by
   simp at h1 h2; subst h1; subst h2
   show bindC kindOf ((p, w) :: P.zip vs) m p = _
   unfold bindC
   rw [rR fun v hv => (List.nodup_cons.mp nd).1 (List.of_mem_zip hv).1, if_neg hk]
   simp
 | p :: P, w :: vs, i + 1, m, nd, h1, h2, hk => by
   show bindC kindOf ((p, w) :: P.zip vs) m x = _
   unfold bindC
   exact rQ (i := i) (List.nodup_cons.mp nd).2 (by simpa using h1) (by simpa using h2) hk
noncomputable def start (N : List Str) (vs : List V) : St := vs.map some ++ List.replicate (N.length - vs.length) none
noncomputable def xu (CX : CXT) (P : Program) (w : World) (K : PySem.W.Frag) (mg : Str → Option Value) (base : Heap) (N : List Str) (qual : Str) (scope : Scope) (f : Addr) (cd : Value) (A : Around) (outer : List Env) (s : Shared) (H : Hp) (E : XK) : Cx where
 prog := P
 w := w
 K := K
 mg := mg
 base := base
 A := A.deeper (envOfC qual scope s.heap.objs.size f cd)
 N := N
 s₀ := s
 H₀ := H
 env := envOfC qual scope s.heap.objs.size f cd
 outer := outer
 stack := envOfC qual scope s.heap.objs.size f cd :: outer
 ex := []
 calm := true
 fn := fun _ => true
 pn := []
 xe := fun e s' => wpAny (model P w) (A.deeper (envOfC qual scope s.heap.objs.size f cd)) (leaving (envOfC qual scope s.heap.objs.size f cd) e) (fun _ s'' => CX outer H s E e s'') (fun e' s'' => CX outer H s E e' s'') s'
theorem vq {sc : Scope} {n : Nat} {x : Str} (h : sc.names.lookup x = some .cell) : ∃ c, (cellsFrom n sc.names []).lookup x = some c := by
 have q := PySem.W.cellsFrom_some sc.names n [] (.inl h)
 exact Option.isSome_iff_exists.mp q
theorem AO {CX : CXT} {P : Program} {w : World} {K : PySem.W.Frag} {mg : Str → Option Value} {base : Heap} {N ps : List Str} {qual : Str} {scope : Scope} {f : Addr} {cd : Value} {A : Around} {outer : List Env} {s s1 : Shared} {H : Hp} {E : XK} {us : List Value} {vs : List V}
   (S : aF N ps scope) (hd : A.handled = none) (e0 : DP P w K mg base A outer s H) (hl : vs.length = ps.length) (r : Vals vs us)
   (x : InCallC s s.heap.objs.size (bindL (envOfC qual scope s.heap.objs.size f cd).kindOf (ps.zip us) fun _ => none) (cellsFrom (s.heap.objs.size + 1) scope.names []) (bindC (envOfC qual scope s.heap.objs.size f cd).kindOf (ps.zip us) fun _ => none) s1) :
   Inv (xu CX P w K mg base N qual scope f cd A outer s H E) [] (start N vs) H s1 := by
 have hpl : ps.length ≤ N.length := by have := congrArg List.length S.pre; rw [List.length_take] at this; omega
 obtain ⟨h1, tk, rfl, hk⟩ := x.done
 have noA : ∀ b : Addr, b ∉ (xu CX P w K mg base N qual scope f cd A outer s H E).ex := fun b z => absurd (show b ∈ ([] : List Addr) from z) (by simp)
 refine ⟨⟨e0.mod, S.kind, rfl, rfl, Nat.le_refl _, fun y z c h1 h2 => ?_, fun y hy => ?_, fun y c _ h => ?_, fun _ => hd, Around.frames_deeper e0.frames, .inr ⟨rfl, rfl⟩, fun b z => absurd z (noA b), e0.bs, e0.bsz, fun b _ _ => noA b, fun b z => absurd z (noA b), e0.pW, e0.frf⟩,
   rfl, e0.bare, Un.kept hk, ⟨_, x.toInCall.ns, fun i y v h1 h2 h3 => ?_⟩, fun y c h => ⟨_, x.cell y c h⟩, e0.hok.fresh (Nat.le_refl _), fun y c h => ?_, fun p hp => absurd (show p ∈ ([] : List (Addr × Obj)) from hp) (by simp), e0.hok.kept hk, ?_⟩
 · exact name_of_addr x.apart (PySem.mem_of_lookup h1) (PySem.mem_of_lookup h2)
 · have hy : scope.names.lookup y = some .cell ∨ scope.names.lookup y = some .free := hy
   rcases hy with hy | hy
   · exact vq hy
   · exact absurd rfl (S.nofree _ (PySem.mem_of_lookup hy))
 · exact Nat.le_of_lt (x.above y c (PySem.mem_of_lookup h))
 · have hi : i < vs.length := by
     unfold start at h2
     by_cases hi : i < vs.length
     · exact hi
     · rw [List.getElem?_append_right (by simpa using hi)] at h2
       rw [List.getElem?_replicate] at h2
       split at h2 <;> cases h2
   have ha : vs[i]? = some v := by
     unfold start at h2
     rw [List.getElem?_append_left (by simpa using hi), List.getElem?_map] at h2
     cases e : vs[i]? with
     | none => rw [e] at h2; cases h2
     | some a => rw [e] at h2; cases h2; rfl
   obtain ⟨u, hu, rv⟩ := r.get ha
   have hp : ps[i]? = some y := by
     rw [← S.pre, List.getElem?_take_of_lt (by omega)]; exact h1
   have ndP : ps.Nodup := by rw [← S.pre]; exact S.nd.sublist (List.take_sublist _ _)
   refine ⟨u, rv, ?_⟩
   rcases S.par y (List.mem_of_getElem? hp) with k | k
   · exact .inl ⟨k, rV ndP hp hu k⟩
   · obtain ⟨c, e⟩ := vq (n := s.heap.objs.size + 1) k
     refine .inr ⟨.inl k, c, e, ?_⟩
     have q := x.cell y c e
     rw [rQ ndP hp hu (by show scope.names.lookup y ≠ _; rw [k]; decide)] at q
     exact q
 · exact e0.hok.fresh (Nat.le_of_lt (x.above y c (PySem.mem_of_lookup h)))
 · unfold start
   show _ = N.length
   rw [List.length_append, List.length_map, List.length_replicate]
   omega
theorem JY {CX : CXT} {P : Program} {w : World} {K : PySem.W.Frag} {mg : Str → Option Value} {base : Heap} {k : Nat} {f : Addr} {name qual : Str} {params : Arguments} {body : List Stmt} {scope : Scope} {dV kV doc pm cdv ct oc : Value} {an od : Option Addr}
   {osl : Array (Option Value)} {N ps : List Str} {sp : Sp} (lk : K.lookup f = some ⟨oc, od, .func (PySem.W.fnOf name qual params body scope dV kV doc pm an cdv ct), osl⟩) (hcd : PySem.W.codeIn K cdv qual = true) (S : aF N ps scope)
   (len : ∀ vs H Q E, sp vs H Q E → vs.length = ps.length)
   (hbody : ∀ (A : Around) (outer : List Env) (s : Shared) (H : Hp) (vs : List V) (Q : VK) (E : XK), jY k (A.deeper (envOfC qual scope s.heap.objs.size f cdv)) → sp vs H Q E →
     ∃ t, PSs (xu CX P w K mg base N qual scope f cdv A outer s H E) body t ∧ t { nx := fun _ H' => Q .non H', rt := Q } (start N vs) H) :
   bR P w K mg base CX (k + 1) f (PySem.W.fnOf name qual params body scope dV kV doc pm an cdv ct) ps sp := by
 refine ⟨len, fun A outer s H args us vs Q E hr e0 hb r hsp => ?_⟩
 have hl := len _ _ _ _ hsp
 have KX : K.In s.heap := e0.mod.kin.keeps fun b o e => (e0.bs b o e).1
 have lim : s.heap.NoLimit := e0.mod.nolimit.keeps fun b o e => (e0.bs b o e).1
 have hkind : ∀ y ∈ ps.zip us, scope.names.lookup y.1 = some .local ∨ (scope.names.lookup y.1 = some .cell ∧ ((cellsFrom (s.heap.objs.size + 1) scope.names []).lookup y.1).isSome = true) := fun ⟨n, v⟩ hy => by
   rcases S.par n (List.of_mem_zip hy).1 with q | q
   · exact .inl q
   · exact .inr ⟨q, PySem.W.cellsFrom_some _ _ _ (.inl q)⟩
 refine codeAny_call_function hr.depth (KX _ _ lk) rfl S.co S.gen rfl (PySem.W.codeRec_of KX hcd) (hb _ _ _ _ ?_)
 refine wpAny_newFunctionEnv_cells S.kind hkind fun env he s1 x => ?_
 subst he
 refine ⟨lim.keeps x.toInCall.keep, codeAny_func ?_⟩
 obtain ⟨t, ht, hq⟩ := hbody A outer s H vs Q E (hr.deeper _) hsp
 have I : Inv (xu CX P w K mg base N qual scope f cdv A outer s H E) [] (start N vs) H s1 := AO S hr.hd e0 hl r x
 refine wpAny_mono (ht [] s1 (start N vs) H _ I hq) (fun fl s' hs => ?_) fun e s' hs => hs
 have fin : ∀ {σ' : St} {H' : Hp} {v : V} {u : Value}, Inv (xu CX P w K mg base N qual scope f cdv A outer s H E) [] σ' H' s' → RelV v u → Q v H' → CE outer P w H s Q u s' :=
   fun {σ' H' v u} J rv q => ⟨v, H', J.os, J.bare, J.base, J.hok, rv, q⟩
 cases fl with
 | ret u =>
   obtain ⟨v, σ', H', J, rv, q⟩ := hs
   exact fin J rv q
 | next =>
   obtain ⟨σ', H', J, q⟩ := hs
   exact fin (v := V.non) (u := Value.none) J rfl q
 | brk =>
   obtain ⟨_, _, _, q⟩ := hs
   exact False.elim q
 | cont =>
   obtain ⟨_, _, _, q⟩ := hs
   exact False.elim q
end L2
namespace L2
open PySem PySem.Spec PyProof.Rows
section
variable {X : Cx} {x : Str} {p pos : Pos} {e : Expr} {es : List Expr} {t : TA} {id T : String} {r : List V → Hp → VK → Prop}
noncomputable def tCB (r : List V → Hp → VK → Prop) (t : TA) : TE := fun σ H Q => t σ H fun vs H1 => r vs H1 Q
theorem jb (hc : fX X (.builtin id) r) (hg : Gl X x) (hm : X.mg x = none) (hv : bootBuiltins x = some (.builtin id)) (ha : PA X (e :: es) t) (hn : x ≠ "__name__" := by decide) (hdb : (x == ("__debug__" : Str)) = false := by decide)
   (he : starEach (e :: es) X.env = (false, eval e X.env) :: starEach es X.env := by rfl) (hpl : (backTo pos (starEach es X.env)).any (·.1) = false := by rfl) : PE X (.Call (.Name x p) (e :: es) [] pos) (tCB r t) := by
 intro pins s σ H Q I h
 refine wpAny_Call_Name_kw (jx I hg hm hv ?_ hn hdb)
 exact PyProof.Rows.callWith_builtin1 (thn (ha pos pins s σ H _ I h) fun us s1 ⟨vs, H1, I1, r1, q1⟩ => hc pins s1 σ H1 vs us Q I1 r1 q1) he hpl
theorem ny (hc : fX X (.type T) r) (hg : Gl X x) (hm : X.mg x = none) (hv : bootBuiltins x = some (.type T)) (ha : PA X (e :: es) t) (hn : x ≠ "__name__" := by decide) (hdb : (x == ("__debug__" : Str)) = false := by decide)
   (he : starEach (e :: es) X.env = (false, eval e X.env) :: starEach es X.env := by rfl) (hpl : (backTo pos (starEach es X.env)).any (·.1) = false := by rfl) : PE X (.Call (.Name x p) (e :: es) [] pos) (tCB r t) := by
 intro pins s σ H Q I h
 refine wpAny_Call_Name_kw (jx I hg hm hv ?_ hn hdb)
 exact PyProof.Rows.callWith_type1 (thn (ha pos pins s σ H _ I h) fun us s1 ⟨vs, H1, I1, r1, q1⟩ => hc pins s1 σ H1 vs us Q I1 r1 q1) he hpl
end
end L2
namespace HT
open PySem PyProof.Rows
section
open PySem.SeqAt
open PySem.AutoSeq1 (wpAny_loadPart')
open PySem.MeetsSeq PySem.MeetsSeq2 PySem.MeetsSeq3
end
section
variable {prog : Program} {w : World} {A : Around} {E : Value → Shared → Prop} {s : Shared}
theorem E1 {t b : Addr} {vs ws : List Value} {Q : Value → Shared → Prop} (ht : IsTup s.heap t vs.toArray) (hb : IsTup s.heap b ws.toArray) (hv : vs ≠ [])
   (h1 : ws = [] → Q (.ref t) s) (h2 : ws ≠ [] → Q (.ref s.heap.objs.size) { s with heap := s.heap.push { cls := .type "tuple", data := .seq (vs ++ ws).toArray } })
   (hsz : vs.length + ws.length ≤ sizeLine) : wpAny (model prog w) A (binaryOp .Add (.ref t) (.ref b)) Q E s := by
 obtain ⟨⟨cls, dd, data, sl⟩, ho, hc, n, hd⟩ := id ht
 obtain ⟨⟨cls2, dd2, data2, sl2⟩, ho2, hc2, n2, hd2⟩ := id hb
 simp only at hc hd hc2 hd2
 subst hc hd hc2 hd2
 have e : vs.toArray ++ ws.toArray = (vs ++ ws).toArray := by simp
 by_cases hw : ws = []
 · exact concat_meets ⟨_, ho, rfl⟩ ⟨_, ho2, rfl⟩ noFill_tuple_add seq_tuple_add PySem.F.slot_tuple_add PySem.F.entry_tuple_add (PySem.F.args_tuple_add_2 _ _)
     (tuple_addW1 t b vs.toArray ws.toArray n n2 dd dd2 sl sl2 (by simpa using hv) (by simp [hw])) ⟨ho, ho2, h1 hw⟩
 · refine concat_meets ⟨_, ho, rfl⟩ ⟨_, ho2, rfl⟩ noFill_tuple_add seq_tuple_add PySem.F.slot_tuple_add PySem.F.entry_tuple_add (PySem.F.args_tuple_add_2 _ _)
     (tuple_addW2 t b vs.toArray ws.toArray n n2 dd dd2 sl sl2 (by simpa using hv) (by simpa using hw) (by rw [List.size_toArray, List.size_toArray]; exact hsz)) ⟨ho, ho2, ?_⟩
   rw [e]
   exact h2 hw
noncomputable def sIx (n d : Nat) : Option Int → Nat
 | none => d
 | some v => if v < 0 then (v + (n : Int)).toNat else min v.toNat n
theorem Bv (n d : Nat) : sIx n d none = d := rfl
theorem Fm (n d k : Nat) : sIx n d (some (k : Int)) = min k n := by
 show (if (k : Int) < 0 then ((k : Int) + (n : Int)).toNat else min (k : Int).toNat n) = min k n
 rw [if_neg (by omega), Int.toNat_natCast]
end
end HT
namespace L2
open PySem PySem.Spec PyProof.Rows
noncomputable abbrev TO := St → Hp → (Option Int → Hp → Prop) → Prop
noncomputable def PO (X : Cx) (e : Option Expr) (t : TO) : Prop :=
 ∀ (pins : List (Addr × Obj)) (s : Shared) (σ : St) (H : Hp) (Q : Option Int → Hp → Prop), Inv X pins σ H s → t σ H Q →
   wpAny (model X.prog X.w) X.A (evalPart e X.env) (fun u s' => ∃ o H', Inv X pins σ H' s' ∧ IsPart u o ∧ Q o H') X.xe s
noncomputable def Ep : TO := fun _ H Q => Q none H
noncomputable def Kf (t : TE) : TO := fun σ H Q => t σ H fun x H1 => ∃ i, x = .int i ∧ Q (some i) H1
section
variable {X : Cx} {e : Expr} {te : TE} {lo hi : Option Expr} {tl th : TO} {pos p2 : Pos}
theorem DE : PO X none Ep := by
 intro pins s σ H Q I h
 rw [evalPart_none]
 exact wpAny_pure ⟨none, H, I, .none, h⟩
theorem DH (h : PE X e te) : PO X (some e) (Kf te) := by
 intro pins s σ H Q I hw
 rw [evalPart_some]
 refine thn (h pins s σ H _ I hw) fun u s1 ⟨x, H1, I1, r1, q1⟩ => ?_
 obtain ⟨i, rfl, q⟩ := q1
 obtain ⟨t, rfl⟩ := r1
 exact ⟨some i, H1, I1, .int i t, q⟩
noncomputable def SlR (X : Cx) (r : V → Option Int → Option Int → Hp → VK → Prop) : Prop :=
 ∀ (pins : List (Addr × Obj)) (s : Shared) (σ : St) (H : Hp) (x : V) (v vl vu : Value) (lo hi : Option Int) (sl : Addr) (Q : VK), Inv X pins σ H s → RelV x v → s.heap.IsSliceOf sl vl vu .none → IsPart vl lo → IsPart vu hi → r x lo hi H Q →
   ∃ T id, typeLookup (.type T) "__getitem__" = pure (some (.builtin id)) ∧ s.TypeIs v T ∧ wpAny (model X.prog X.w) X.A (getItem v (.ref sl)) (EP X pins σ Q) X.xe s
noncomputable def tSl (r : V → Option Int → Option Int → Hp → VK → Prop) (te : TE) (tl th : TO) : TE := fun σ H Q => te σ H fun x H1 => tl σ H1 fun l H2 => th σ H2 fun u H3 => r x l u H3 Q
theorem Bc {r : V → Option Int → Option Int → Hp → VK → Prop} (hr : SlR X r) (he : PE X e te) (hl : PO X lo tl) (hu : PO X hi th) : PE X (.Subscript e (.Slice lo hi none p2) pos) (tSl r te tl th) := by
 intro pins s σ H Q I h
 refine Subscript_ (thn (he pins s σ H _ I h) fun v s1 ⟨x, H1, I1, r1, q1⟩ => ?_)
 refine wpAny_Slice (thn (hl pins s1 σ H1 _ I1 q1) fun vl s2 ⟨l, H2, I2, pl, q2⟩ => thn (hu pins s2 σ H2 _ I2 q2) fun vu s3 ⟨u, H3, I3, pu, q3⟩ => ?_)
 rw [evalPart_none]
 refine wpAny_pure ?_
 have I4 : Inv X pins σ H3 { s3 with heap := s3.heap.push { cls := .type "slice", data := .fields #[vl, vu, .none] } } := I3.kept (t' := s3.toks) fun b ob q => Heap.get?_push_of_some _ q
 obtain ⟨T, id, hT, ht, hg⟩ := hr pins { s3 with heap := s3.heap.push { cls := .type "slice", data := .fields #[vl, vu, .none] } } σ H3 x v vl vu l u s3.heap.objs.size Q I4 r1 (Heap.IsSliceOf.new ..) pl pu q3
 show wpAny (model X.prog X.w) X.A (subscriptTail e (.Slice lo hi none p2) v (.ref s3.heap.objs.size)) (EP X pins σ Q) X.xe { s3 with heap := s3.heap.push { cls := .type "slice", data := .fields #[vl, vu, .none] } }
 exact tail_any (ops := [.ref s3.heap.objs.size, v]) ht hT hg (by with_unfolding_all rfl)
noncomputable def Aw (xs : List V) (lo hi : Option Int) : List V := (xs.drop (HT.sIx xs.length 0 lo)).take (HT.sIx xs.length xs.length hi - HT.sIx xs.length 0 lo)
theorem uq (xs : List V) (lo hi : Option Int) : (Aw xs lo hi).length ≤ xs.length := by
 unfold Aw
 rw [List.length_take, List.length_drop]
 omega
noncomputable def J0 (K : PySem.W.Frag) : R2 := fun x y H Q => ∃ a b xs ys, x = .ref a ∧ y = .ref b ∧ SqT K H a xs ∧ SqT K H b ys ∧ xs ≠ [] ∧ xs.length + ys.length ≤ sizeLine ∧
 (ys = [] → Q (.ref a) H) ∧ (ys ≠ [] → ∀ p, H p = none → Q (.ref p) (upd H p (.tup (xs ++ ys))))
theorem Vals.tR {xs : List V} {us : List Value} (r : Vals xs us) : us = [] ↔ xs = [] := by
 cases r with
 | nil => simp
 | cons _ _ => simp
theorem DA : OpR X (binaryOp .Add) (J0 X.K) := by
 intro pins s σ H x y v u Q I rx ry h
 obtain ⟨a, b, xs, ys, rfl, rfl, ha, hb, hx, hz, q1, q2⟩ := h
 cases rx
 cases ry
 obtain ⟨its, r1, p1, _⟩ := I.tuple ha
 obtain ⟨its2, r2, p2, _⟩ := I.tuple hb
 refine HT.E1 p1 p2 (fun z => hx (r1.tR.mp z)) (fun z => ⟨.ref a, H, I, rfl, q1 (r2.tR.mp z)⟩) (fun z => ?_) (by rw [← r1.length, ← r2.length]; exact hz)
 refine ⟨.ref s.heap.objs.size, _, I.laid (t' := s.toks) (o := .tup (xs ++ ys)) (fun b ob q => Heap.get?_push_of_some _ q) (Nat.le_refl _) ?_, rfl, q2 (fun w => z (r2.tR.mpr w)) _ (I.hok.fresh (Nat.le_refl _))⟩
 exact ⟨by rw [List.length_append]; exact hz, _, r1.append r2, IsTup.new _ _⟩
end
end L2
namespace L2
open PySem PySem.Spec PyProof.Rows
noncomputable def ixN (n : Nat) (i : Int) : Option Nat := if 0 ≤ i then (if i < n then some i.toNat else none) else if -(n : Int) ≤ i then some (i + n).toNat else none
noncomputable def atI {α : Type} (xs : List α) (i : Int) : Option α := (ixN xs.length i).bind fun j => xs[j]?
theorem tT {n : Nat} {i : Int} {j : Nat} (h : ixN n i = some j) : seqIndex? i n = some j ∧ j < n ∧ -(n : Int) ≤ i ∧ i < n := by
 unfold ixN at h
 by_cases h0 : 0 ≤ i
 · rw [if_pos h0] at h
   by_cases h1 : i < n
   · rw [if_pos h1] at h
     have e : i.toNat = j := Option.some.inj h
     exact ⟨by rw [seqIndex_of h0 h1, e], by omega, by omega, h1⟩
   · rw [if_neg h1] at h; cases h
 · rw [if_neg h0] at h
   by_cases h1 : -(n : Int) ≤ i
   · rw [if_pos h1] at h
     have e : (i + n).toNat = j := Option.some.inj h
     exact ⟨by rw [seqIndex_neg (by omega) h1, e], by omega, h1, by omega⟩
   · rw [if_neg h1] at h; cases h
theorem zl {α : Type} {xs : List α} {i : Int} {v : α} (h : atI xs i = some v) : ∃ j, seqIndex? i xs.length = some j ∧ xs[j]? = some v ∧ j < xs.length ∧ -(xs.length : Int) ≤ i ∧ i < xs.length := by
 unfold atI at h
 cases e : ixN xs.length i with
 | none => rw [e] at h; cases h
 | some j =>
   rw [e] at h
   obtain ⟨h1, h2, h3, h4⟩ := tT e
   exact ⟨j, h1, h, h2, h3, h4⟩
noncomputable def yw (b : Expr) : Prop := ∀ o i, subscripted b false o i = operate [o, i] (getItem o i)
noncomputable def IxR (X : Cx) (r : R2) : Prop :=
 ∀ (value slice : Expr) (pins : List (Addr × Obj)) (s : Shared) (σ : St) (H : Hp) (x y : V) (v u : Value) (Q : VK), Inv X pins σ H s → RelV x v → RelV y u → r x y H Q →
   subscripted slice false v u = operate [v, u] (getItem v u) → wpAny (model X.prog X.w) X.A (subscriptTail value slice v u) (EP X pins σ Q) X.xe s
noncomputable def MtR (X : Cx) (id : String) (r : V → List V → Hp → VK → Prop) : Prop :=
 ∀ (pins : List (Addr × Obj)) (s : Shared) (σ : St) (H : Hp) (x : V) (xs : List V) (v : Value) (us : List Value) (Q : VK), Inv X pins σ H s → RelV x v → Vals xs us → r x xs H Q →
   wpAny (model X.prog X.w) X.A (call (.builtin id) (v :: us)) (EP X pins σ Q) X.xe s
section
variable {X : Cx} {a b : Expr} {ta tb : TE} {pos : Pos}
theorem Kz {r : R2} (hr : IxR X r) (ha : PE X a ta) (hb : PE X b tb) (hs : yw b) : PE X (.Subscript a b pos) (tOp r ta tb) := by
 intro pins s σ H Q I h
 exact Subscript_ (GL ha hb I h fun v u s2 x y H2 I2 rx ry q => hr a b pins s2 σ H2 x y v u Q I2 rx ry q (hs _ _))
noncomputable def LH (K : PySem.W.Frag) : R2 := fun x y H Q => ∃ p xs i v, x = .ref p ∧ y = .int i ∧ SqL K H p xs ∧ atI xs i = some v ∧ Q v H
noncomputable def LL (K : PySem.W.Frag) : R2 := fun x y H Q => ∃ p xs i v, x = .ref p ∧ y = .int i ∧ SqT K H p xs ∧ atI xs i = some v ∧ Q v H
theorem Fc : IxR X (LH X.K) := by
 intro value slice pins s σ H x y v u Q I rx ry h hs
 obtain ⟨p, xs, i, z, rfl, rfl, hq, he, q⟩ := h
 cases rx
 obtain ⟨t, rfl⟩ := ry
 obtain ⟨its, r, pl, hz⟩ := I.list hq
 obtain ⟨j, h1, h2, h3, h4, h5⟩ := zl he
 obtain ⟨w, ew, rw'⟩ := r.get h2
 have hl := r.length
 have hn := tI
 have fin : EP X pins σ Q w s := ⟨z, H, I, rw', q⟩
 by_cases h0 : 0 ≤ i
 · have hj : i.toNat = j := by
     rw [seqIndex_of h0 h5] at h1
     exact Option.some.inj h1
   exact item_listR pl.isList h0 (by omega) (by rw [hj]; simpa using ew) fin hs
 · have hj : (i + (its.toArray.size : Int)).toNat = j := by
     rw [seqIndex_neg (by omega) h4] at h1
     rw [List.size_toArray, ← hl]
     exact Option.some.inj h1
   exact subscriptTail_builtinR (x := w) pl.isList.typeIs slot_list_getitem.lookup
     (wpAny_getItem_list_neg (Q := fun r s' => r = w ∧ EP X pins σ Q r s') pl.isList (by omega) (by rw [List.size_toArray] <;> omega) (by omega) (by rw [hj]; simpa using ew) ⟨rfl, fin⟩) hs
theorem Gs : IxR X (LL X.K) := by
 intro value slice pins s σ H x y v u Q I rx ry h hs
 obtain ⟨p, xs, i, z, rfl, rfl, hq, he, q⟩ := h
 cases rx
 obtain ⟨t, rfl⟩ := ry
 obtain ⟨its, r, pl, hz⟩ := I.tuple hq
 obtain ⟨j, h1, h2, h3, h4, h5⟩ := zl he
 obtain ⟨w, ew, rw'⟩ := r.get h2
 have hl := r.length
 have hn := tI
 have fin : EP X pins σ Q w s := ⟨z, H, I, rw', q⟩
 exact subscriptTail_builtinR (x := w) pl.typeIs slot_tuple_getitem.lookup
   (getItem_tuple (j := j) (Q := fun r s' => r = w ∧ EP X pins σ Q r s') pl (by omega) (by omega) (by rw [List.size_toArray, ← hl]; exact h1) (by simpa using ew) ⟨rfl, fin⟩) hs
theorem w8 (its : List Value) (n j : Nat) (u : Value) : Obj.mapSeq (·.setIfInBounds j u) { cls := .type "list", data := .seq its.toArray n } = { cls := .type "list", data := .seq (its.set j u).toArray n } := by
 simp [Obj.mapSeq]
theorem Inv.lst {pins : List (Addr × Obj)} {σ : St} {H : Hp} {s : Shared} {p : Addr} {xs : List V} (I : Inv X pins σ H s) (h : H p = some (.lst xs)) :
   ∃ (its : List Value) (n : Nat), Vals xs its ∧ s.heap.get? p = some { cls := .type "list", data := .seq its.toArray n } ∧ xs.length ≤ sizeLine := by
 obtain ⟨z, its, n, r, e⟩ := I.hok p _ h
 exact ⟨its, n, r, e, z⟩
theorem Inv.Jz {pins : List (Addr × Obj)} {σ : St} {H : Hp} {s : Shared} {p : Addr} {xs ys : List V} {its its' : List Value} {n n' : Nat} {f : Obj → Obj} (I : Inv X pins σ H s) (h : H p = some (.lst xs))
   (ho : s.heap.get? p = some { cls := .type "list", data := .seq its.toArray n }) (hf : f { cls := .type "list", data := .seq its.toArray n } = { cls := .type "list", data := .seq its'.toArray n' }) (r : Vals ys its') (hz : ys.length ≤ sizeLine) (t : Nat) :
   Inv X pins σ (upd H p (.lst ys)) { s with heap := s.heap.update p f, toks := t } := by
 have e : (s.heap.update p f).get? p = some { cls := .type "list", data := .seq its'.toArray n' } := by
   rw [Heap.get?_update_self f ho (by rw [hf] <;> rfl), hf]
 refine I.write (x := p) (e := p) (by rw [h]; trivial) (.inl rfl) (fun b u hb q => (Heap.get?_update_other _ _ (Ne.symm hb)).trans q) ⟨_, e⟩ ?_
 exact ⟨hz, its', n', r, e⟩
noncomputable def Ku : V → V → V → Hp → (Hp → Prop) → Prop := fun o i v H Q => ∃ p xs k j, o = .ref p ∧ i = .int k ∧ H p = some (.lst xs) ∧ ixN xs.length k = some j ∧ Q (upd H p (.lst (xs.set j v)))
theorem set_list : JJ X Ku := by
 intro pins s σ H o i v ov iv u Q I ro ri rv h
 obtain ⟨p, xs, k, j, rfl, rfl, hp, hj, q⟩ := h
 cases ro
 obtain ⟨t, rfl⟩ := ri
 obtain ⟨its, n, r, ho, hz⟩ := I.lst hp
 obtain ⟨h1, h2, h3, h4⟩ := tT hj
 have hl := r.length
 have hn := tI
 have I' : Inv X pins σ (upd H p (.lst (xs.set j v))) { s with heap := s.heap.update p (Obj.mapSeq (·.setIfInBounds j u)) } :=
   I.Jz hp ho (w8 its n j u) (r.set rv j) (by rw [List.length_set]; exact hz) s.toks
 by_cases h0 : 0 ≤ k
 · have hk : k.toNat = j := by
     rw [seqIndex_of h0 h4] at h1
     exact Option.some.inj h1
   exact PySem.W.ki_setAt ho h0 (by omega) (by rw [List.size_toArray, ← hl]; exact h4) (by rw [hk]; exact ⟨_, I', q⟩)
 · have hk : (k + (its.toArray.size : Int)).toNat = j := by
     rw [seqIndex_neg (by omega) h3] at h1
     rw [List.size_toArray, ← hl]
     exact Option.some.inj h1
   exact PySem.W.ki_setBack ho (by omega) (by rw [List.size_toArray, ← hl]; exact h3) (by omega) (by rw [hk]; exact ⟨_, I', q⟩)
theorem ue (lo hi : Option Int) (n : Nat) : (sliceBounds lo hi none n).1 = ((HT.sIx n 0 lo : Nat) : Int) ∧ (sliceBounds lo hi none n).2.1 = ((HT.sIx n n hi : Nat) : Int) ∧ (sliceBounds lo hi none n).2.2 = 1 := by
 refine ⟨?_, ?_, rfl⟩
 · cases lo with
   | none => simp [sliceBounds, HT.sIx]
   | some i =>
     simp only [sliceBounds, HT.sIx, Option.getD_none, show (1 : Int) > 0 by decide, if_true]
     by_cases h : i < 0
     · simp only [h, if_true] <;> omega
     · simp only [h, if_false] <;> omega
 · cases hi with
   | none => simp [sliceBounds, HT.sIx]
   | some i =>
     simp only [sliceBounds, HT.sIx, Option.getD_none, show (1 : Int) > 0 by decide, if_true]
     by_cases h : i < 0
     · simp only [h, if_true] <;> omega
     · simp only [h, if_false] <;> omega
theorem qI (its : List Value) (lo hi : Option Int) : slicePick its.toArray lo hi none = ((its.drop (HT.sIx its.length 0 lo)).take (HT.sIx its.length its.length hi - HT.sIx its.length 0 lo)).toArray := by
 obtain ⟨h1, h2, h3⟩ := ue lo hi its.toArray.size
 unfold slicePick
 rw [h1, h2, h3]
 simp only [sliceRange_one, pick_run, List.size_toArray] <;> rfl
noncomputable def Ll (K : PySem.W.Frag) : V → Option Int → Option Int → Hp → VK → Prop := fun x lo hi H Q => ∃ a xs, x = .ref a ∧ SqL K H a xs ∧ ∀ p, H p = none → Q (.ref p) (upd H p (.lst (Aw xs lo hi)))
theorem DQ : SlR X (Ll X.K) := by
 intro pins s σ H x v vl vu lo hi sl Q I rx hs pl pu h
 obtain ⟨a, xs, rfl, hx, q⟩ := h
 cases rx
 obtain ⟨its, r, ht, hz⟩ := I.list hx
 have hlen := r.length
 refine ⟨"list", _, slot_list_getitem.lookup, ht.isList.typeIs, ?_⟩
 refine wpAny_getItem_list_slice ht.isList hs pl pu .none (by simp) ?_ (by rw [List.size_toArray] <;> omega)
 rw [qI, ← hlen]
 refine ⟨.ref s.heap.objs.size, _, I.laid (t' := s.toks) (o := .lst (Aw xs lo hi)) (fun b ob q => Heap.get?_push_of_some _ q) (Nat.le_refl _) ?_, rfl, q _ (I.hok.fresh (Nat.le_refl _))⟩
 exact ⟨Nat.le_trans (uq xs lo hi) hz, _, 0, (r.drop (HT.sIx xs.length 0 lo)).take (HT.sIx xs.length xs.length hi - HT.sIx xs.length 0 lo), Heap.get?_push_size _ rfl⟩
theorem sU : fX X (.builtin "len") (fun xs H Q => ∃ p ys, xs = [.ref p] ∧ (SqL X.K H p ys ∨ SqT X.K H p ys) ∧ Q (.int ys.length) H) := by
 intro pins s σ H xs us Q I r h
 obtain ⟨p, ys, rfl, hq, q⟩ := h
 obtain ⟨u, rfl, rx⟩ := vals1 r
 cases rx
 have hn := tI
 rcases hq with hq | hq
 · obtain ⟨its, r', pl, hz⟩ := I.list hq
   have hlen := r'.length
   exact Calls.call_len_list pl.isList (by simp only [List.size_toArray] <;> omega) ⟨.int ys.length, H, I.tok _, ⟨s.toks + 1, by rw [List.size_toArray, hlen]⟩, q⟩
 · obtain ⟨its, r', pl, hz⟩ := I.tuple hq
   have hlen := r'.length
   exact len_tuple pl (by simp only [List.size_toArray] <;> omega) ⟨.int ys.length, H, I.tok _, ⟨s.toks + 1, by rw [List.size_toArray, hlen]⟩, q⟩
theorem tu : fX X (.type "list") (fun xs H Q => ∃ p ys, xs = [.ref p] ∧ (SqL X.K H p ys ∨ SqT X.K H p ys) ∧ ∀ l, H l = none → Q (.ref l) (upd H l (.lst ys))) := by
 intro pins s σ H xs us Q I r h
 obtain ⟨p, ys, rfl, hq, q⟩ := h
 obtain ⟨u, rfl, rx⟩ := vals1 r
 cases rx
 have fin : ∀ (its : List Value), Vals ys its → ys.length ≤ sizeLine → ∀ (h' : Heap) (c' : Nat), (∀ b o', s.heap.get? b = some o' → h'.get? b = some o') →
     h'.get? s.heap.objs.size = some { cls := .type "list", dict := none, data := .seq its.toArray c', slots := #[] } → EP X pins σ Q (.ref s.heap.objs.size) { s with heap := h' } := fun its r' hz h' c' kp e =>
   ⟨.ref s.heap.objs.size, _, I.laid (t' := s.toks) kp (Nat.le_refl _) (show iB X.prog X.w _ h' _ (.lst ys) from ⟨hz, its, c', r', e⟩), rfl, q _ (I.hok.fresh (Nat.le_refl _))⟩
 rcases hq with hq | hq
 · obtain ⟨its, r', pl, hz⟩ := I.list hq
   have hlen := r'.length
   obtain ⟨o, ho, hc, n, hd⟩ := pl.isList
   exact call_list_seq p (.inl rfl) ho hc hd (fun h' c' kp e => fin its r' hz h' c' kp e) (by simp only [List.size_toArray] <;> omega)
 · obtain ⟨its, r', pl, hz⟩ := I.tuple hq
   have hlen := r'.length
   obtain ⟨o, ho, hc, n, hd⟩ := pl
   exact call_list_seq p (.inr rfl) ho hc hd (fun h' c' kp e => fin its r' hz h' c' kp e) (by simp only [List.size_toArray] <;> omega)
theorem kY : fX X (.type "tuple") (fun xs H Q => ∃ p ys, xs = [.ref p] ∧ ((SqL X.K H p ys ∧ ∀ l, H l = none → Q (.ref l) (upd H l (.tup ys))) ∨ (SqT X.K H p ys ∧ Q (.ref p) H))) := by
 intro pins s σ H xs us Q I r h
 obtain ⟨p, ys, rfl, h⟩ := h
 obtain ⟨u, rfl, rx⟩ := vals1 r
 cases rx
 rcases h with ⟨hq, q⟩ | ⟨hq, q⟩
 · obtain ⟨its, r', pl, hz⟩ := I.list hq
   have hlen := r'.length
   refine call_tuple_list pl.isList (fun h' kp => ?_) (by simp only [List.size_toArray] <;> omega)
   have I1 : Inv X pins σ H { s with heap := h' } := I.kept (t' := s.toks) kp
   have I2 : Inv X pins σ (upd H h'.objs.size (.tup ys)) { s with heap := h'.push { cls := .type "tuple", data := .seq its.toArray } } :=
     I1.laid (t' := s.toks) (fun b o e => Heap.get?_push_of_some _ e) (Nat.le_refl _) (show iB X.prog X.w _ _ _ (.tup ys) from ⟨hz, its, r', IsTup.new _ _⟩)
   exact ⟨.ref h'.objs.size, _, I2, rfl, q _ (I1.hok.fresh (Nat.le_refl _))⟩
 · obtain ⟨its, r', pl, hz⟩ := I.tuple hq
   exact call_tuple_same pl ⟨.ref p, H, I, rfl, q⟩
noncomputable def tyV (K : PySem.W.Frag) (T : String) (x : V) (H : Hp) : Prop := match x with
 | .str _ => T = "str"
 | .int _ => T = "int"
 | .ref p => (T = "list" ∧ ∃ xs, SqL K H p xs) ∨ (T = "tuple" ∧ ∃ o, K.lookup p = some o ∧ o.cls = .type "tuple" ∧ o.dict = none) ∨
     (T = "dict" ∧ ((∃ kvs, H p = some (.dK kvs)) ∨ ∃ kvs, H p = some (.dT kvs))) ∨ (T = "set" ∧ ∃ S n, H p = some (.set S n))
 | _ => False
theorem BS {pins : List (Addr × Obj)} {σ : St} {H : Hp} {s : Shared} {T : String} {x : V} {v : Value} (I : Inv X pins σ H s) (r : RelV x v) (ty : tyV X.K T x H) :
   s.TypeIs v T ∧ ∀ a, v = .ref a → ∃ ob, s.heap.get? a = some ob ∧ ob.dict = none := by
 cases x with
 | str z =>
   obtain ⟨t, rfl⟩ := r
   cases (show T = "str" from ty)
   exact ⟨typeIs_str s z t, fun _ e => nomatch e⟩
 | int i =>
   obtain ⟨t, rfl⟩ := r
   cases (show T = "int" from ty)
   exact ⟨typeIs_int s i t, fun _ e => nomatch e⟩
 | ref p =>
   cases r
   rcases ty with ⟨rfl, xs, hq⟩ | ⟨rfl, o, hk, hc, hd⟩ | ⟨rfl, hk⟩ | ⟨rfl, S, n, hk⟩
   · obtain ⟨its, _, pl, _⟩ := I.list hq
     refine ⟨pl.isList.typeIs, fun a e => ?_⟩
     cases e
     obtain ⟨o, n, e, c, hd, _⟩ := pl
     exact ⟨o, e, hd⟩
   · refine ⟨⟨o, I.kIn p o hk, hc⟩, fun a e => ?_⟩
     cases e
     exact ⟨o, I.kIn _ o hk, hd⟩
   · have z : ∃ o, s.heap.get? p = some o ∧ o.ExactDict := by
       rcases hk with ⟨kvs, hk⟩ | ⟨kvs, hk⟩
       · obtain ⟨_, _, _, _, o, _, _, e, ex, _⟩ := I.hok p _ hk
         exact ⟨o, e, ex⟩
       · obtain ⟨_, _, _, _, o, _, _, e, ex, _⟩ := I.hok p _ hk
         exact ⟨o, e, ex⟩
     obtain ⟨o, e, ex⟩ := z
     refine ⟨⟨o, e, ex.1⟩, fun a e2 => ?_⟩
     cases e2
     exact ⟨o, e, ex.2.1⟩
   · obtain ⟨o, _, _, _, e, ex, _⟩ := I.hok p _ hk
     refine ⟨⟨o, e, ex.1⟩, fun a e2 => ?_⟩
     cases e2
     exact ⟨o, e, ex.2.1⟩
 | _ => exact False.elim ty
noncomputable def Kp (K : PySem.W.Frag) (T : String) (r : V → List V → Hp → VK → Prop) (to : TE) : TE := fun σ H Q => to σ H fun x H1 => tyV K T x H1 ∧ r x [] H1 Q
noncomputable def tBM (K : PySem.W.Frag) (T : String) (r : V → List V → Hp → VK → Prop) (to : TE) (t : TA) : TE := fun σ H Q => to σ H fun x H1 => tyV K T x H1 ∧ t σ H1 fun xs H2 => r x xs H2 Q
variable {o e : Expr} {es : List Expr} {to : TE} {t : TA} {name : Str} {apos cpos : Pos} {T id : String} {r : V → List V → Hp → VK → Prop}
theorem CV (pa : PlainAttrs T) (slot : Slot T name id) (hty : typeOf (.builtin id) = pure (.type "method_descriptor")) (hm : MtR X id r) (ho : PE X o to)
   (hbase : attributeBase o name X.env (eval o X.env) = eval o X.env := by rfl) (hline : (apos.endLine == cpos.line) = true := by rfl) : PE X (.Call (.Attribute o name apos) [] [] cpos) (Kp X.K T r to) := by
 intro pins s σ H Q I h
 refine wpAny_Call_method0_late hbase hline (thn (ho pins s σ H _ I h) fun v s1 ⟨x, H1, I1, r1, ty, q1⟩ => ?_)
 obtain ⟨h1, h2⟩ := BS I1 r1 ty
 exact ⟨T, id, pa, slot, hty, h1, h2, Calls.callWith_builtin rfl (PySem.evalArgs_none (hm pins s1 σ H1 x [] v [] Q I1 r1 .nil q1))⟩
theorem ym (pa : PlainAttrs T) (slot : Slot T name id) (hty : typeOf (.builtin id) = pure (.type "method_descriptor")) (hm : MtR X id r) (ho : PE X o to) (ha : PA X (e :: es) t)
   (hbase : attributeBase o name X.env (eval o X.env) = eval o X.env := by rfl)
   (hfew : ((backTo cpos (starEach (e :: es) X.env)).all (fun x => !x.1) && (backToKw cpos (keywordEach [] X.env)).all (fun x => x.1.isSome)
     && decide ((e :: es).length + ([] : List Keyword).length + (if ([] : List Keyword).isEmpty then 0 else 1) < 30)) = true := by rfl)
   (hline : (apos.endLine == cpos.line) = true := by rfl) (hs : starEach (e :: es) X.env = (false, eval e X.env) :: starEach es X.env := by rfl) (hplain : (backTo cpos (starEach es X.env)).any (·.1) = false := by rfl) :
   PE X (.Call (.Attribute o name apos) (e :: es) [] cpos) (tBM X.K T r to t) := by
 intro pins s σ H Q I h
 refine wpAny_Call_method_late hbase hfew hline rfl (thn (ho pins s σ H _ I h) fun v s1 ⟨x, H1, I1, r1, ty, q1⟩ => ?_)
 obtain ⟨h1, h2⟩ := BS I1 r1 ty
 refine ⟨T, id, pa, slot, hty, h1, h2, ?_⟩
 have hA := ha cpos pins s1 σ H1 _ I1 q1
 rw [hs] at hA ⊢
 refine Calls.callWith_builtin (by show (false || (backTo cpos (starEach es X.env)).any (·.1)) = false; rw [hplain] <;> rfl) (Calls.evalArgs_plain ?_)
 exact thn hA fun us s2 ⟨vs, H2, I2, r2, q2⟩ => hm pins s2 σ H2 x vs v us Q I2 r1 r2 q2
end
end L2
namespace L2
open PySem PySem.Spec PyProof.Rows
noncomputable def MtM (X : Cx) (id : String) (r : V → List V → Hp → VK → Prop) : Prop :=
 ∀ (pins : List (Addr × Obj)) (s : Shared) (σ : St) (H : Hp) (x : V) (xs : List V) (v : Value) (us : List Value) (Q : VK), Inv X pins σ H s → RelV x v → Vals xs us → r x xs H Q →
   wpAny (model X.prog X.w) X.A (call (.builtin id) (v :: us)) (EP X pins σ Q) X.xe s
theorem Vals.one {x : V} {us : List Value} (r : Vals [x] us) : ∃ u, us = [u] ∧ RelV x u := vals1 r
theorem Vals.two {x y : V} {us : List Value} (r : Vals [x, y] us) : ∃ u v, us = [u, v] ∧ RelV x u ∧ RelV y v := vals2 r
theorem Vals.zero : ∀ {us : List Value}, Vals [] us → us = []
 | _, .nil => rfl
theorem Vals.dropLast {xs : List V} {us : List Value} (h : Vals xs us) : Vals xs.dropLast us.dropLast := by
 induction h with
 | nil => exact .nil
 | cons r t ih =>
   cases t with
   | nil => exact .nil
   | cons q t' => exact .cons r ih
theorem Vals.eraseIdx : ∀ {xs : List V} {us : List Value} (i : Nat), Vals xs us → Vals (xs.eraseIdx i) (us.eraseIdx i)
 | _, _, _, .nil => .nil
 | _, _, 0, .cons _ t => t
 | _, _, i + 1, .cons r t => .cons r (Vals.eraseIdx i t)
theorem Vals.reverse {xs : List V} {us : List Value} (h : Vals xs us) : Vals xs.reverse us.reverse := by
 induction h with
 | nil => exact .nil
 | cons r t ih => rw [List.reverse_cons, List.reverse_cons]; exact Vals.append ih (.cons r .nil)
theorem wZ {α : Type} (l : List α) : l.eraseIdx (l.length - 1) = l.dropLast := by
 induction l with
 | nil => rfl
 | cons a r ih =>
   cases r with
   | nil => rfl
   | cons b r =>
     have e : (a :: b :: r).length - 1 = ((b :: r).length - 1) + 1 := by
       have h1 : (a :: b :: r).length = r.length + 2 := rfl
       have h2 : (b :: r).length = r.length + 1 := rfl
       omega
     rw [e, List.eraseIdx_cons_succ, ih]
     all_goals rfl
theorem rJ {α : Type} : ∀ (l : List α) (i : Nat), (l.eraseIdx i).length ≤ l.length
 | [], _ => Nat.le_refl _
 | _ :: _, 0 => Nat.le_succ _
 | _ :: r, i + 1 => Nat.succ_le_succ (rJ r i)
section
variable {X : Cx} {pins : List (Addr × Obj)} {σ : St} {H : Hp} {s : Shared} {l b : Addr} {xs ys zs : List V}
theorem Inv.Ad {its its' : List Value} {n : Nat} {f : Array Value → Array Value} {t' : Nat} (I : Inv X pins σ H s) (hH : H l = some (.lst xs))
   (e : s.heap.get? l = some { cls := .type "list", data := .seq its.toArray n }) (hf : f its.toArray = its'.toArray) (hv : Vals ys its') (hz : ys.length ≤ sizeLine) :
   Inv X pins σ (upd H l (.lst ys)) { s with heap := s.heap.update l (Obj.mapSeq f), toks := t' } := by
 have q := PySem.IsL.update e f
 rw [hf] at q
 refine I.write (x := l) (e := l) (by rw [hH]; exact trivial) (.inl rfl) (fun b' u hb hu => (Heap.get?_update_other s.heap (Obj.mapSeq f) (Ne.symm hb)).trans hu) ⟨_, q⟩ ?_
 exact ⟨hz, its', _, hv, q⟩
theorem Inv.Lw {its : List Value} {t' : Nat} (I : Inv X pins σ H s) (hv : Vals ys its) (hz : ys.length ≤ sizeLine) :
   Inv X pins σ (upd H s.heap.objs.size (.lst ys)) { s with heap := s.heap.push { cls := .type "list", data := .seq its.toArray }, toks := t' } :=
 I.laid (fun _ _ q => Heap.get?_push_of_some _ q) (Nat.le_refl _) ⟨hz, its, 0, hv, Heap.get?_push_size _ rfl⟩
theorem Inv.fresh (I : Inv X pins σ H s) : H s.heap.objs.size = none := I.hok.fresh (Nat.le_refl _)
theorem Inv.xF (I : Inv X pins σ H s) (hH : H l = some (.lst xs)) : xs.length ≤ sizeLine ∧ ∃ (its : List Value) (n : Nat), Vals xs its ∧ xs.length = its.length ∧ s.heap.get? l = some { cls := .type "list", data := .seq its.toArray n } := by
 obtain ⟨z, its, n, r, e⟩ := I.hok l _ hH
 exact ⟨z, its, n, r, r.length, e⟩
theorem Dm {n : Nat} (h : n ≤ sizeLine) : Builtin.List.listTooLong n = false := by
 unfold Builtin.List.listTooLong
 exact decide_eq_false (by omega)
end
section
variable {X : Cx}
noncomputable def DV : V → List V → Hp → VK → Prop := fun x vs H Q => ∃ l xs y, x = .ref l ∧ vs = [y] ∧ H l = some (.lst xs) ∧ xs.length < sizeLine ∧ Q .non (upd H l (.lst (xs ++ [y])))
theorem n8 : MtM X "list.append" DV := by
 intro pins s σ H x vs v us Q I rx rv h
 obtain ⟨l, xs, y, rfl, rfl, hH, hz, q⟩ := h
 cases rx
 obtain ⟨u, rfl, ru⟩ := rv.one
 obtain ⟨z, its, n, r, hl, e⟩ := I.xF hH
 refine call_meets F.slot_list_append ⟨_, e, rfl⟩ F.entry_list_append (F.args_list_append_2 _ _) (PySem.list_append l its.toArray n u (by rw [List.size_toArray]; omega)) ⟨e, ?_⟩
 refine ⟨.non, _, I.Ad (its' := its ++ [u]) hH e (by simp) (r.append (.cons ru .nil)) ?_, rfl, q⟩
 rw [List.length_append, List.length_singleton]
 omega
noncomputable def Ff : V → List V → Hp → VK → Prop := fun x vs H Q => ∃ l b xs zs, x = .ref l ∧ vs = [.ref b] ∧ H l = some (.lst xs) ∧ H b = some (.lst zs) ∧ xs.length + zs.length ≤ sizeLine ∧ Q .non (upd H l (.lst (xs ++ zs)))
theorem zO : MtM X "list.extend" Ff := by
 intro pins s σ H x vs v us Q I rx rv h
 obtain ⟨l, b, xs, zs, rfl, rfl, hH, hB, hz, q⟩ := h
 cases rx
 obtain ⟨u, rfl, ru⟩ := rv.one
 cases ru
 obtain ⟨z, its, n, r, hl, e⟩ := I.xF hH
 obtain ⟨z2, its2, n2, r2, hl2, e2⟩ := I.xF hB
 have hsz : its.toArray.size + its2.toArray.size ≤ sizeLine := by rw [List.size_toArray, List.size_toArray]; omega
 have hlong : ¬ (!its.toArray.isEmpty && Builtin.List.listTooLong (its.toArray.size + its2.toArray.size)) = true := by
   rw [Dm hsz, Bool.and_false]
   exact Bool.false_ne_true
 refine call_meets F.slot_list_extend ⟨_, e, rfl⟩ F.entry_list_extend (F.args_list_extend_2 _ _)
   (AutoSeq1.list_extend_list_list_0 l its.toArray n b its2.toArray n2 hlong (by rw [List.size_toArray]; omega) (by omega)) ⟨e, e2, ?_⟩
 refine ⟨.non, _, I.Ad (its' := its ++ its2) hH e (by simp) (r.append r2) ?_, rfl, q⟩
 rw [List.length_append]
 omega
noncomputable def Lj : V → List V → Hp → VK → Prop := fun x vs H Q => ∃ l xs y, x = .ref l ∧ vs = [] ∧ H l = some (.lst xs) ∧ xs[xs.length - 1]? = some y ∧ Q y (upd H l (.lst xs.dropLast))
theorem JL : MtM X "list.pop" Lj := by
 intro pins s σ H x vs v us Q I rx rv h
 obtain ⟨l, xs, y, rfl, rfl, hH, hy, q⟩ := h
 cases rx
 have hus := rv.zero
 subst hus
 obtain ⟨z, its, n, r, hl, e⟩ := I.xF hH
 obtain ⟨u, hu, ru⟩ := r.get hy
 have hy' : its.toArray[its.toArray.size - 1]? = some u := by
   show its.toArray[its.length - 1]? = some u
   rw [← Array.getElem?_toList, ← hl]
   exact hu
 refine call_meets F.slot_list_pop ⟨_, e, rfl⟩ F.entry_list_pop (F.args_list_pop_1 _) (MeetsSeq.list_pop_last l its.toArray n u hy' (by rw [List.size_toArray]; omega)) ⟨e, ?_⟩
 refine ⟨y, _, I.Ad (its' := its.dropLast) hH e ?_ r.dropLast ?_, ru, q⟩
 · show its.toArray.eraseIdxIfInBounds (its.toArray.size - 1) = its.dropLast.toArray
   rw [List.size_toArray, List.eraseIdxIfInBounds_toArray, wZ]
 · rw [List.length_dropLast]
   omega
noncomputable def GY : V → List V → Hp → VK → Prop := fun x vs H Q => ∃ l xs i k y, x = .ref l ∧ vs = [.int i] ∧ H l = some (.lst xs) ∧ -(2 ^ 63) ≤ i ∧ i < 2 ^ 63 ∧ seqIndex? i xs.length = some k ∧ xs[k]? = some y ∧ Q y (upd H l (.lst (xs.eraseIdx k)))
theorem Bm : MtM X "list.pop" GY := by
 intro pins s σ H x vs v us Q I rx rv h
 obtain ⟨l, xs, i, k, y, rfl, rfl, hH, h1, h2, hk, hy, q⟩ := h
 cases rx
 obtain ⟨u, rfl, ru⟩ := rv.one
 obtain ⟨t, rfl⟩ := ru
 obtain ⟨z, its, n, r, hl, e⟩ := I.xF hH
 obtain ⟨w, hw, rw'⟩ := r.get hy
 refine call_meets F.slot_list_pop ⟨_, e, rfl⟩ F.entry_list_pop (F.args_list_pop_2 _ _)
   (MeetsSeq.list_pop_at l its.toArray n i t k w (fitsIndex_both h1 h2) (by rw [List.size_toArray, ← hl]; exact hk) (by rw [← Array.getElem?_toList]; exact hw) (by rw [List.size_toArray]; omega)) ⟨e, ?_⟩
 refine ⟨y, _, I.Ad (its' := its.eraseIdx k) hH e ?_ (r.eraseIdx k) ?_, rw', q⟩
 · show its.toArray.eraseIdxIfInBounds k = (its.eraseIdx k).toArray
   rw [List.eraseIdxIfInBounds_toArray]
 · have := rJ xs k
   omega
noncomputable def Gu : V → List V → Hp → VK → Prop := fun x vs H Q => ∃ l xs, x = .ref l ∧ vs = [] ∧ H l = some (.lst xs) ∧ Q .non (upd H l (.lst []))
theorem A2 : MtM X "list.clear" Gu := by
 intro pins s σ H x vs v us Q I rx rv h
 obtain ⟨l, xs, rfl, rfl, hH, q⟩ := h
 cases rx
 have hus := rv.zero
 subst hus
 obtain ⟨z, its, n, r, hl, e⟩ := I.xF hH
 refine call_meets F.slot_list_clear ⟨_, e, rfl⟩ F.entry_list_clear (F.args_list_clear_1 _) (AutoSeq1.list_clear_list_0 l its.toArray n (by rw [List.size_toArray]; omega)) ⟨e, ?_⟩
 exact ⟨.non, _, I.Ad (its' := []) (ys := []) hH e rfl .nil (Nat.zero_le _), rfl, q⟩
end
section
variable {prog : Program} {w : World} {A : Around} {E : Value → Shared → Prop} {s : Shared}
end
section
variable {X : Cx}
end
end L2
namespace Att
open PySem PySem.W PySem.Calls PyProof.Rows
theorem oQ {P : Params} {h : Heap} : ∀ (ns : List Int) (vs : List Value), WellAll P h vs (ns.map WData.int) → IntsAre vs ns := by
 intro ns
 induction ns with
 | nil =>
   intro vs w
   rw [List.map_nil] at w
   cases w
   exact .nil
 | cons n ns ih =>
   intro vs w
   rw [List.map_cons] at w
   cases w with
   | cons a b =>
     cases a
     exact .cons _ _ (ih _ b)
theorem AJ {l : OpenLaw} {n : Nat} (hn : l.most = some n) {P : Params} {h : Heap} {args : List WData} {vals : List Value}
   (hpre : l.row.toRowW.claim.pre args = true) (hwl : WellAll P h vals args) :
   ∃ a vs ns, vals = [Value.ref a] ∧ args = [WData.list (ns.map WData.int)] ∧ h.get? a = some { cls := .type "list", data := .seq vs.toArray } ∧ IntsAre vs ns ∧ ns.length ≤ n := by
 have hsh : WShape.hasAll [] args [.list .int] = true := (pre_splitW hpre).1
 have hc : l.pre.holds [] { args := args } = true := (pre_splitW hpre).2
 obtain ⟨d, r, rfl, h1, h2⟩ := hasAllW_cons hsh
 obtain rfl := hasAllW_nil h2
 obtain ⟨xs, rfl, h3⟩ := hasW_list h1
 obtain ⟨ns, rfl⟩ := items_int h3
 have hlen : ns.length ≤ n := by
   unfold OpenLaw.pre at hc
   have h4 : (WTm.not (.lt (.lit (.int (n : Int))) (.len (.arg 0)))).holds [] { args := [.list (ns.map .int)] } = true := by
     have h4 := (holds_andW hc).1
     rw [hn] at h4
     exact h4
   have h5 := condW_of h4 (w_not (w_lt w_lit (w_len_list (w_arg rfl))))
   rw [List.length_map] at h5
   refine Nat.le_of_not_lt fun q => ?_
   have q' : (n : Int) < ((ns.length : Nat) : Int) := by omega
   first
     | (rw [decide_eq_true q'] at h5; exact absurd h5 (by decide))
     | (simp at h5; omega)
 cases hwl with
 | cons w1 w2 =>
   cases w2
   cases w1 with
   | list ho hall => exact ⟨_, _, ns, rfl, rfl, ho, oQ ns _ hall, hlen⟩
theorem zX (l : OpenLaw) (args : List WData) : l.row.toRowW.claim.post args (.bool true) args = true :=
 postW_of (r := l.row.toRowW) (X := (true == true))
   (show WShape.has [] (.bool true) .bool = true by first | rfl | decide | simp [WShape.has, WShape.arms, WShape.armsAll])
   (show (WTm.eq .res (.lit (.bool true))).value [] { args := args, res := some (.bool true), after := args } = some (.bool (true == true)) from w_eq_bool (w_res rfl) w_lit) rfl
theorem wI {l : OpenLaw} {n : Nat} {q : Program} {loose : List Str} {XP : (Str → Option Value) → Heap → Prop} {YP : World → Heap → Prop} {d : DefRec}
   (hn : l.most = some n) (hdf : d.params.defaults = [])
   (call : ∀ (w : World) (s₀ s₁ : Shared) (mg mb : Str → Option Value) (fa : Addr) (o : Obj) (pm cd doc : Value) (a : Addr) (vs : List Value) (ns : List Int),
     Ground q loose [] XP w s₀ mg mb s₁.heap → YP w s₁.heap →
     s₁.heap.get? fa = some o → o.data = .func (docDef d.name d.params d.body d.scope pm cd doc) → s₁.heap.CodeRec cd d.name → mg d.name = some (.ref fa) →
     s₁.heap.get? a = some { cls := .type "list", data := .seq vs.toArray } → IntsAre vs ns → ns.length ≤ n → s₁.gens = #[] →
     codeAny (model l.prog w) callerA (.call (.ref fa) ⟨[.ref a], []⟩) (fun r s' => r = .ok (.ret (.bool true)) ∧ OldK s₁.heap s'.heap ∧ s'.os = s₁.os ∧ AllBare s'.gens) s₁) :
   WalkO q loose XP YP l.row.toRowW d [] (fun f vs => PySem.call f vs) := by
 intro w s₀ s₁ mg mb G Y fa o pm cd doc dV kV ho hd hcd hD hmg hg args vals as hpre hlay hrd hwl hlo
 obtain rfl : dV = .none := Dflts.none hD hdf
 obtain rfl : kV = .none := Dflts.noKw hD
 obtain ⟨a, vs, ns, rfl, rfl, hobj, hints, hlen⟩ := AJ hn hpre hwl
 refine enter_call (codeAny_mono (call w s₀ s₁ mg mb fa o pm cd doc a vs ns G Y ho (fd_plain hd) hcd hmg hobj hints hlen hg) fun r s' hq => ?_)
 obtain ⟨rfl, h2, h3, h4⟩ := hq
 exact ⟨.inl ⟨.bool true, .bool true, [], rfl, fun _ => rfl, .bool true, zX l _, fun _ => ⟨List.Pairwise.nil, fun _ hm => (nomatch hm)⟩⟩, h2, h3, h4⟩
section
variable {prog : Program} {w : World} {A : Around} {E : Value → Shared → Prop} {s : Shared} {K : Frag}
end
end Att
namespace L2
open PySem PySem.Spec PyProof.Rows
theorem rX : ∀ {vs : List Value} {ns : List Int}, IntsAre vs ns → Vals (ns.map V.int) vs
 | _, _, .nil => .nil
 | _, _, .cons n t h => .cons ⟨t, rfl⟩ (rX h)
noncomputable def Er (H : Hp) : Prop := ∀ b, H b = none ∨ ∃ o xs, H b = some (.frz o (.lst xs))
theorem CF {P : Program} {w : World} {K : PySem.W.Frag} {mg mb : Str → Option Value} {CX : CXT} {k : Nat} {fa a : Addr} {fd : FuncData} {x : Str} {sp : Sp} {s₁ : Shared} {vs : List Value} {ns : List Int}
   (KX : K.In s₁.heap) (hns : s₁.heap.Ns mainGlobals mg) (hb : s₁.heap.Ns builtinsNs mb) (hbb : ∀ x : Str, x ≠ "__name__" → mb x = bootBuiltins x) (hlim : s₁.heap.NoLimit) (hg : s₁.gens = #[])
   (ha : s₁.heap.get? a = some { cls := .type "list", data := .seq vs.toArray }) (hi : IntsAre vs ns) (hl : ns.length ≤ sizeLine) (hr : jY k callerA)
   (F : ∀ base : Heap, K.In base → base.Ns mainGlobals mg → bR P w K mg base CX k fa fd [x] sp) (hbind : ∀ (s : Shared) (u : Value), BindsTo s fd ⟨[u], []⟩ [(x, u)])
   (hsp : ∀ H : Hp, Er H → SqL K H a (ns.map V.int) → sp [.ref a] H (fun v _ => v = .bl true) fun _ _ _ => False)
   (hCX : ∀ H e s', CX [] H s₁ (fun _ _ _ => False) e s' → False) :
   codeAny (model P w) callerA (.call (.ref fa) ⟨[.ref a], []⟩) (fun r s' => r = .ok (.ret (.bool true)) ∧ OldK s₁.heap s'.heap ∧ s'.os = s₁.os ∧ AllBare s'.gens) s₁ := by
 have rv := rX hi
 have lenV := hi.length
 have core : ∀ H : Hp, Er H → SqL K H a (ns.map V.int) → HOk P w H s₁.heap → (∀ b, H b ≠ none → b = a) → (H a ≠ none → K.lookup a = none) →
     codeAny (model P w) callerA (.call (.ref fa) ⟨[.ref a], []⟩) (fun r s' => r = .ok (.ret (.bool true)) ∧ OldK s₁.heap s'.heap ∧ s'.os = s₁.os ∧ AllBare s'.gens) s₁ := by
   intro H hO hS hok hA hK
   have pj : ∀ {b : Addr} {o : Obj}, s₁.heap.get? b = some o → H b = none → (ud s₁.heap H).get? b = some o := fun e n => BP e n
   have noA : ∀ {b : Addr} {o : Obj} {es : Array DictEntry} {ep : Nat}, s₁.heap.get? b = some o → o.data = .dict es ep → H b = none := fun {b o es ep} e d => by
     cases q : H b with
     | none => rfl
     | some u =>
       have e' : b = a := hA b (by rw [q]; simp)
       subst e'
       rw [ha] at e; cases e
       have d' : Data.seq vs.toArray _ = Data.dict es ep := d
       cases d'
   have nsK : ∀ {b : Addr} {m : Str → Option Value}, s₁.heap.Ns b m → (ud s₁.heap H).Ns b m := fun {b m} ⟨o, es, ep, e, d, r⟩ => ⟨o, es, ep, pj e (noA e d), d, r⟩
   have hKb : K.In (ud s₁.heap H) := fun b o e => pj (KX b o e) (by
     cases q : H b with
     | none => rfl
     | some u =>
       have e' : b = a := hA b (by rw [q]; simp)
       subst e'
       rw [hK (by rw [q]; simp)] at e; cases e)
   have hM : Mod K mg (ud s₁.heap H) := ⟨hKb, nsK hns, ⟨mb, nsK hb, hbb⟩, let ⟨mc, h1, h2⟩ := hlim; ⟨mc, nsK h1, h2⟩⟩
   have e0 : DP P w K mg (ud s₁.heap H) callerA [] s₁ H := ⟨rfl, hM, fun b o e => EU e, Nat.le_of_eq (AE _ _), trivial, fun b hb => absurd (show b ∈ ([] : List Addr) from hb) (by simp), hok, .of_eq hg⟩
   refine codeAny_mono ((F _ hKb (nsK hns)).run callerA [] s₁ H ⟨[.ref a], []⟩ [.ref a] [.ref a] _ _ hr e0 (hbind s₁ (.ref a)) (.cons rfl .nil) (hsp H hO hS)) fun r s' h => ?_
   cases r with
   | error e => exact (hCX H e s' h).elim
   | ok fl =>
     cases fl with
     | next => exact False.elim h
     | brk => exact False.elim h
     | cont => exact False.elim h
     | ret u =>
       obtain ⟨v, H', os, bare, un, hok', r', q⟩ := h
       have q' : v = .bl true := q
       subst q'
       obtain rfl : u = Value.bool true := r'
       refine ⟨rfl, OldK.of_keep fun b o e => ?_, os, bare⟩
       cases q : H b with
       | none => exact un.keep b o e q (by intro z; exact absurd (show b ∈ ([] : List Addr) from z) (by simp)) (by simp)
       | some u =>
         rcases hO b with z | ⟨ob, xs, z⟩
         · rw [q] at z; cases z
         · have z2 := un.frzs b ob _ z
           obtain ⟨e1, _⟩ := hok b _ z
           obtain ⟨e2, _⟩ := hok' b _ z2
           rw [e] at e1; cases e1
           exact e2
 cases hk : K.lookup a with
 | some o =>
   have e := KX a o hk
   rw [ha] at e
   cases e
   refine core (fun _ => none) (fun _ => .inl rfl) (.inr ⟨_, vs.toArray, _, hk, rfl, rfl, rfl, by rw [List.size_toArray, lenV]; exact hl, by simpa using rv⟩) (fun b u z => by have z' : (none : Option HO) = some u := z; cases z') (fun b z => absurd rfl z) fun z => absurd rfl z
 | none =>
   refine core (fun b => if b = a then some (.frz { cls := .type "list", data := .seq vs.toArray } (.lst (ns.map V.int))) else none) (fun b => ?_) (.inl (.inr ⟨{ cls := .type "list", data := .seq vs.toArray }, if_pos rfl⟩)) (fun b u z => ?_) (fun b z => ?_) fun _ => hk
   · by_cases hb : b = a
     · exact .inr ⟨_, _, if_pos hb⟩
     · exact .inl (if_neg hb)
   · by_cases hb : b = a
     · have z' := (if_pos hb).symm.trans z
       cases z'
       subst hb
       exact ⟨ha, by rw [List.length_map]; exact hl, vs, _, rv, ha⟩
     · have z' := (if_neg hb).symm.trans z
       cases z'
   · by_cases hb : b = a
     · exact hb
     · exact absurd (if_neg hb) z
end L2
namespace L2
open PySem PySem.Spec PyProof.Rows
theorem D5 {l : PySem.W.OpenLaw} {n k : Nat} {q : Program} {loose : List Str} {XP : (Str → Option Value) → Heap → Prop} {YP : World → Heap → Prop} {d : DefRec} {K : Params → PySem.W.Frag} {CX : World → CXT} {sp : World → Sp} {x : Str}
   (hn : l.most = some n) (hn2 : n ≤ sizeLine) (hdf : d.params.defaults = []) (hr : jY k callerA)
   (hY : ∀ (w : World) (h : Heap), YP w h → (K w.params).In h)
   (F : ∀ (w : World) (mg : Str → Option Value) (fa : Addr) (h : Heap), (K w.params).In h → h.Ns mainGlobals mg → mg d.name = some (.ref fa) →
     ∃ fd : FuncData, (∀ (s : Shared) (u : Value), BindsTo s fd ⟨[u], []⟩ [(x, u)]) ∧
       ∀ base : Heap, (K w.params).In base → base.Ns mainGlobals mg → bR l.prog w (K w.params) mg base (CX w) k fa fd [x] (sp w))
   (hsp : ∀ (w : World) (H : Hp) (a : Addr) (ns : List Int), ns.length ≤ n → Er H → SqL (K w.params) H a (ns.map V.int) → sp w [.ref a] H (fun v _ => v = .bl true) fun _ _ _ => False)
   (hCX : ∀ (w : World) (H : Hp) (s : Shared) (e : Value) (s' : Shared), CX w [] H s (fun _ _ _ => False) e s' → False) :
   PySem.W.WalkO q loose XP YP l.row.toRowW d [] (fun f vs => PySem.call f vs) := by
 refine Att.wI hn hdf fun w s₀ s₁ mg mb fa o pm cd doc a vs ns G Y ho hd hcd hmg hobj hints hlen hg => ?_
 have KX := hY w _ Y
 obtain ⟨fd, hb, hF⟩ := F w mg fa _ KX G.T.g hmg
 exact CF KX G.T.g G.T.b G.T.builtins G.T.nolimit hg hobj hints (Nat.le_trans hlen hn2) hr hF hb (fun H hO hS => hsp w H a ns hlen hO hS) fun H e s' => hCX w H s₁ e s'
end L2
namespace L2
open PySem PySem.Spec PyProof.Rows
noncomputable def aG (s : Stmt) : Arguments := match s with
 | .FunctionDef _ a _ _ _ _ _ _ _ _ => a
 | _ => { posonlyargs := [], args := [], vararg := none, kwonlyargs := [], kw_defaults := [], kwarg := none, defaults := [] }
noncomputable def ah (s : Stmt) : List Stmt := match s with
 | .FunctionDef _ _ b _ _ _ _ _ _ _ => b
 | _ => []
noncomputable def ab (s : Stmt) : Scope := match s with
 | .FunctionDef _ _ _ _ _ _ sc _ _ _ => sc
 | _ => { kind := .function, names := [], isGenerator := false, isCoroutine := false }
noncomputable abbrev CX0 : CXT := fun _ _ _ _ _ _ => False
structure Fun (K : PySem.W.Frag) (x qual : Str) (st : Stmt) (f : Addr) (fd : FuncData) : Prop where
 ex : ∃ (oc : Value) (od : Option Addr) (dV kV doc pm : Value) (an : Option Addr) (cdv ct : Value) (osl : Array (Option Value)),
   fd = PySem.W.fnOf x qual (aG st) (ah st) (ab st) dV kV doc pm an cdv ct ∧ K.lookup f = some ⟨oc, od, .func fd, osl⟩ ∧ PySem.W.codeIn K cdv qual = true
 kp : PySem.W.keepIn K (.ref f) = true
section
variable {P : Program} {w : World} {K : PySem.W.Frag} {mg : Str → Option Value} {base : Heap}
theorem Fun.ok {x qual : Str} {st : Stmt} {f : Addr} {fd : FuncData} {N ps : List Str} {k : Nat} {sp : Sp} (F : Fun K x qual st f fd) (S : aF N ps (ab st)) (len : ∀ vs H Q E, sp vs H Q E → vs.length = ps.length)
   (hbody : ∀ (cdv : Value) (A : Around) (outer : List Env) (s : Shared) (H : Hp) (vs : List V) (Q : VK) (E : XK), jY k (A.deeper (envOfC qual (ab st) s.heap.objs.size f cdv)) → sp vs H Q E →
     ∃ t, PSs (xu CX0 P w K mg base N qual (ab st) f cdv A outer s H E).nox (ah st) t ∧ t { nx := fun _ H' => Q .non H', rt := Q } (start N vs) H) : bR P w K mg base CX0 (k + 1) f fd ps sp := by
 obtain ⟨oc, od, dV, kV, doc, pm, an, cdv, ct, osl, rfl, lk, hcd⟩ := F.ex
 refine JY lk hcd S len fun A outer s H vs Q E hr hsp => ?_
 obtain ⟨t, h, q⟩ := hbody cdv A outer s H vs Q E hr hsp
 exact ⟨t, h.nox, q⟩
theorem Fun.binds {x qual : Str} {st : Stmt} {f : Addr} {fd : FuncData} {ps : List Str} (_ : Fun K x qual st f fd) (h : ∀ us : List Value, us.length = ps.length → bindArgs fd ⟨us, []⟩ = pure (ps.zip us)) : Binds K fd ps [] := .all h
theorem bc {x qual : Str} {st : Stmt} {f : Addr} {oc : Value} {od an : Option Addr} {osl : Array (Option Value)} {dV kV doc pm cdv ct : Value} (l : K.lookup f = some ⟨oc, od, .func (PySem.W.fnOf x qual (aG st) (ah st) (ab st) dV kV doc pm an cdv ct), osl⟩)
   (c : PySem.W.codeIn K cdv qual = true) (k : PySem.W.keepIn K (.ref f) = true) : Fun K x qual st f (PySem.W.fnOf x qual (aG st) (ah st) (ab st) dV kV doc pm an cdv ct) := ⟨⟨oc, od, dV, kV, doc, pm, an, cdv, ct, osl, rfl, l, c⟩, k⟩
end
section
variable {X : Cx}
end
theorem q0 {A B : Prop} (h : B) : if false = true then A else B := by
 rw [if_neg Bool.false_ne_true]
 exact h
theorem qN {A B : Prop} (h : A) : if true = true then A else B := by
 rw [if_pos rfl]
 exact h
noncomputable def nj (H H' : Hp) : Prop := ∀ b o, H b = some o → H' b = some o
theorem nj.refl (H : Hp) : nj H H := fun _ _ h => h
theorem nj.seq {K : PySem.W.Frag} {H H' : Hp} {a : Addr} {xs : List V} (e : nj H H') (h : SqL K H a xs) : SqL K H' a xs := by
 rcases h with (h | ⟨o, h⟩) | h
 · exact .inl (.inl (e _ _ h))
 · exact .inl (.inr ⟨o, e _ _ h⟩)
 · exact .inr h
end L2
set_option linter.all false
set_option maxRecDepth 100000
namespace Ev
open PySem PySem.Spec PyProof.Rows L2
inductive D where
 | non | bl (b : Bool) | int (i : Int) | str (x : Str) | tup (xs : List D) | lst (xs : List D)
 deriving Inhabited
mutual
inductive Den (K : PySem.W.Frag) (H : Hp) : V → D → Prop where
 | non : Den K H .non .non
 | bl {b : Bool} : Den K H (.bl b) (.bl b)
 | int {i : Int} : Den K H (.int i) (.int i)
 | str {x : Str} : Den K H (.str x) (.str x)
 | tup {a : Addr} {vs : List V} {ds : List D} (h : SqT K H a vs) (r : ye K H vs ds) : Den K H (.ref a) (.tup ds)
 | lst {a : Addr} {vs : List V} {ds : List D} (h : SqL K H a vs) (r : ye K H vs ds) : Den K H (.ref a) (.lst ds)
inductive ye (K : PySem.W.Frag) (H : Hp) : List V → List D → Prop where
 | nil : ye K H [] []
 | cons {v : V} {d : D} {vs : List V} {ds : List D} (h : Den K H v d) (r : ye K H vs ds) : ye K H (v :: vs) (d :: ds)
end
section
variable {K : PySem.W.Frag} {H H' : Hp}
theorem j2 (e : nj H H') {a : Addr} {xs : List V} (h : SqT K H a xs) : SqT K H' a xs := by
 rcases h with (h | ⟨o, h⟩) | h
 · exact .inl (.inl (e _ _ h))
 · exact .inl (.inr ⟨o, e _ _ h⟩)
 · exact .inr h
theorem kf (e : nj H H') {a : Addr} {xs : List V} (h : SqL K H a xs) : SqL K H' a xs := e.seq h
end
noncomputable def aR (i j : Int) : Prop := i.natAbs.log2 < 64 ∨ j.natAbs.log2 < 64 ∨ (i.natAbs.log2 < 1000000 ∧ j.natAbs.log2 < 1000000)
noncomputable instance (i j : Int) : Decidable (aR i j) := inferInstanceAs (Decidable (_ ∨ _ ∨ (_ ∧ _)))
noncomputable def aY (j : Int) : Prop := j ≠ 0 ∧ j.natAbs.log2 < 9000
noncomputable instance (j : Int) : Decidable (aY j) := inferInstanceAs (Decidable (_ ∧ _))
noncomputable def ai : Nat := 1000000
mutual
noncomputable def eqD : D → D → Bool
 | .non, .non => true
 | .bl a, .bl b => a == b
 | .bl a, .int j => (if a then 1 else 0) == j
 | .int i, .bl b => i == (if b then 1 else 0)
 | .int a, .int b => a == b
 | .str a, .str b => a == b
 | .tup xs, .tup ys => nc xs ys
 | .lst xs, .lst ys => nc xs ys
 | .non, .bl _ | .non, .int _ | .non, .str _ | .non, .tup _ | .non, .lst _ => false
 | .bl _, .non | .bl _, .str _ | .bl _, .tup _ | .bl _, .lst _ => false
 | .int _, .non | .int _, .str _ | .int _, .tup _ | .int _, .lst _ => false
 | .str _, .non | .str _, .bl _ | .str _, .int _ | .str _, .tup _ | .str _, .lst _ => false
 | .tup _, .non | .tup _, .bl _ | .tup _, .int _ | .tup _, .str _ | .tup _, .lst _ => false
 | .lst _, .non | .lst _, .bl _ | .lst _, .int _ | .lst _, .str _ | .lst _, .tup _ => false
noncomputable def nc : List D → List D → Bool
 | [], [] => true
 | x :: xs, y :: ys => eqD x y && nc xs ys
 | [], _ :: _ => false
 | _ :: _, [] => false
end
mutual
noncomputable def toP : D → PyData
 | .non => .none
 | .bl b => .bool b
 | .int i => .int i
 | .str x => .str x
 | .tup xs => .tuple (kJ xs)
 | .lst xs => .list (kJ xs)
noncomputable def kJ : List D → List PyData
 | [] => []
 | x :: xs => toP x :: kJ xs
end
mutual
noncomputable def cln : D → Bool
 | .str x => PyData.strOk x
 | .tup xs => va xs
 | .lst xs => va xs
 | .non | .bl _ | .int _ => true
noncomputable def va : List D → Bool
 | [] => true
 | x :: xs => cln x && va xs
end
mutual
noncomputable def dep : D → Nat
 | .tup xs => vp xs + 1
 | .lst xs => vp xs + 1
 | .non | .bl _ | .int _ | .str _ => 0
noncomputable def vp : List D → Nat
 | [] => 0
 | x :: xs => max (dep x) (vp xs)
end
noncomputable def xf (x : D) : Prop := cln x = true ∧ dep x ≤ 64
noncomputable instance (x : D) : Decidable (xf x) := inferInstanceAs (Decidable (_ ∧ _))
end Ev
namespace Ev
open PySem PySem.Spec PyProof.Rows L2
mutual
theorem uc : ∀ x y : D, PyData.eqv (toP x) (toP y) = eqD x y
 | .non, y => by cases y <;> simp [toP, PyData.eqv, eqD]
 | .bl a, y => by cases y <;> simp [toP, PyData.eqv, eqD]
 | .int a, y => by cases y <;> simp [toP, PyData.eqv, eqD]
 | .str a, y => by cases y <;> simp [toP, PyData.eqv, eqD]
 | .tup xs, .tup ys => by simp only [toP, PyData.eqv, eqD]; exact p9 xs ys
 | .lst xs, .lst ys => by simp only [toP, PyData.eqv, eqD]; exact p9 xs ys
 | .tup xs, .non => by simp [toP, PyData.eqv, eqD]
 | .tup xs, .bl _ => by simp [toP, PyData.eqv, eqD]
 | .tup xs, .int _ => by simp [toP, PyData.eqv, eqD]
 | .tup xs, .str _ => by simp [toP, PyData.eqv, eqD]
 | .tup xs, .lst _ => by simp [toP, PyData.eqv, eqD]
 | .lst xs, .non => by simp [toP, PyData.eqv, eqD]
 | .lst xs, .bl _ => by simp [toP, PyData.eqv, eqD]
 | .lst xs, .int _ => by simp [toP, PyData.eqv, eqD]
 | .lst xs, .str _ => by simp [toP, PyData.eqv, eqD]
 | .lst xs, .tup _ => by simp [toP, PyData.eqv, eqD]
theorem p9 : ∀ xs ys : List D, PyData.eqvAll (kJ xs) (kJ ys) = nc xs ys
 | [], [] => by simp [kJ, PyData.eqvAll, nc]
 | [], _ :: _ => by simp [kJ, PyData.eqvAll, nc]
 | _ :: _, [] => by simp [kJ, PyData.eqvAll, nc]
 | x :: xs, y :: ys => by simp only [kJ, PyData.eqvAll, nc]; rw [uc x y, p9 xs ys]
end
mutual
theorem zg : ∀ x : D, (toP x).canLay0 = cln x
 | .non => by simp [toP, PyData.canLay0, cln]
 | .bl _ => by simp [toP, PyData.canLay0, cln]
 | .int _ => by simp [toP, PyData.canLay0, cln]
 | .str _ => by simp [toP, PyData.canLay0, cln]
 | .tup xs => by simp only [toP, PyData.canLay0, cln]; exact p0 xs
 | .lst xs => by simp only [toP, PyData.canLay0, cln]; exact p0 xs
theorem p0 : ∀ xs : List D, PyData.canLayAll0 (kJ xs) = va xs
 | [] => by simp [kJ, PyData.canLayAll0, va]
 | x :: xs => by simp only [kJ, PyData.canLayAll0, va]; rw [zg x, p0 xs]
end
mutual
theorem y7 : ∀ x : D, (toP x).depth = dep x
 | .non => by simp [toP, PyData.depth, dep]
 | .bl _ => by simp [toP, PyData.depth, dep]
 | .int _ => by simp [toP, PyData.depth, dep]
 | .str _ => by simp [toP, PyData.depth, dep]
 | .tup xs => by simp only [toP, PyData.depth, dep]; rw [qv xs]
 | .lst xs => by simp only [toP, PyData.depth, dep]; rw [qv xs]
theorem qv : ∀ xs : List D, PyData.depthAll (kJ xs) = vp xs
 | [] => by simp [kJ, PyData.depthAll, vp]
 | x :: xs => by simp only [kJ, PyData.depthAll, vp]; rw [y7 x, qv xs]
end
theorem jE {x : D} (h : xf x) : SeqAt.shaped (toP x) = true := by
 unfold SeqAt.shaped
 rw [zg, y7, h.1, Bool.true_and]
 exact decide_eq_true h.2
section
variable {X : Cx} {pins : List (Addr × Obj)} {σ : L2.St} {H G : Hp} {s : Shared}
mutual
theorem kb (I : Inv X pins σ H s) (e : nj G H) : ∀ {v : V} {d : D} {u : Value}, Den X.K G v d → RelV v u → ∃ as, Reads s.heap u (toP d) as
 | _, _, _, .non, r => by cases r; exact ⟨_, .none⟩
 | _, _, _, .bl, r => by cases r; exact ⟨_, .bool _⟩
 | _, _, _, .int, r => by obtain ⟨t, rfl⟩ := r; exact ⟨_, .int _ _⟩
 | _, _, _, .str, r => by obtain ⟨t, rfl⟩ := r; exact ⟨_, .str _ _⟩
 | _, _, _, .tup h q, r => by
   cases r
   obtain ⟨its, rv, ⟨o, h1, h2, n, h3⟩, _⟩ := I.tuple (j2 e h)
   obtain ⟨as, z⟩ := nN I e q rv
   exact ⟨_, .tuple h1 h2 h3 (by simpa using z)⟩
 | _, _, _, .lst h q, r => by
   cases r
   obtain ⟨its, rv, ⟨o, n, h1, h2, _, h3⟩, _⟩ := I.list (kf e h)
   obtain ⟨as, z⟩ := nN I e q rv
   exact ⟨_, .list h1 h2 h3 (by simpa using z)⟩
theorem nN (I : Inv X pins σ H s) (e : nj G H) : ∀ {vs : List V} {ds : List D} {us : List Value}, ye X.K G vs ds → Vals vs us → ∃ as, ReadsAll s.heap us (kJ ds) as
 | _, _, _, .nil, .nil => ⟨_, .nil⟩
 | _, _, _, .cons h q, .cons r rs => by
   obtain ⟨as, z⟩ := kb I e h r
   obtain ⟨bs, z'⟩ := nN I e q rs
   exact ⟨_, .cons z z'⟩
end
end
section
variable {K : PySem.W.Frag} {H₀ H H' : Hp} {W : Hp → Hp} {acc : List Nat} {A : List (Option Addr)} {σ : L2.St} {ρ : Env}
theorem eD {H : Hp} {p : Addr} (h : H p = none) (o : HO) : nj H (upd H p o) := fun b u q => by rw [aB (aH q h)]; exact q
end
end Ev
namespace Ev
open PySem PySem.Spec PyProof.Rows L2
noncomputable def Ite (K : PySem.W.Frag) (a : Addr) : L2.It :=
 ⟨fun i H => ∃ xs x, SqL K H a xs ∧ xs[i]? = some x, fun i H v H' => ∃ p x, H p = none ∧ v = .ref p ∧ H' = upd H p (.tup [.int (i : Nat), x]) ∧ ∀ xs, SqL K H a xs → xs[i]? = some x, fun i H => ∃ xs, SqL K H a xs ∧ xs.length ≤ i⟩
theorem zZ {P : Program} {w : World} {K : PySem.W.Frag} {ts : List Expr} {q : Nat} {tp : Pos} (a e it : Addr) (hne : e ≠ it) :
   Turn P w K (.Tuple ts q tp) (Ite K a) [e, it] e (fun i h => (∃ old, IsEnum h e it (i : Nat) old) ∧ h.IsListIter it a i) where
 mem := by simp
 obj := fun i h st b hb => by
   obtain ⟨⟨old, h1⟩, o, h2, h3, h4⟩ := st
   rcases List.mem_cons.mp hb with rfl | hb
   · exact ⟨_, h1, fun v z => nomatch z⟩
   · have z : b = it := by simpa using hb
     subst z
     exact ⟨o, h2, fun v z => by rw [h4] at z; cases z⟩
 keep := fun i h h' st k => by
   obtain ⟨⟨old, h1⟩, o, h2, h3, h4⟩ := st
   exact ⟨⟨old, k e (by simp) _ h1⟩, o, k it (by simp) o h2, h3, h4⟩
 item := by
   intro X hP hw hK hc i pins s σ H E I hf st hg
   subst hP hw hK
   obtain ⟨xs, x, hq, hx⟩ := hg
   obtain ⟨its, rv, p, hz⟩ := I.list hq
   obtain ⟨u, hu, ru⟩ := rv.get hx
   obtain ⟨⟨old, h1⟩, h2⟩ := st
   have fe := hf e (by simp)
   have fi := hf it (by simp)
   refine wpAny_pyNext_enum_item h1 h2 p.isList (x := u) (by simpa using hu) hne fun h' g1 g2 g3 g4 g5 => ⟨_, rfl, ?_⟩
   refine wpAny_letOwnedTupleGo_enum (s := { s with heap := h', toks := s.toks + 1 }) g1 fun h2' k1 k2 => ?_
   have hn : H s.heap.objs.size = none := I.hok.fresh (Nat.le_refl _)
   have le1 : e < s.heap.objs.size := Heap.lt_size h1
   have le2 : it < s.heap.objs.size := by obtain ⟨o, z, _⟩ := h2; exact Heap.lt_size z
   have kp : ∀ b o, b ≠ e → b ≠ it → s.heap.get? b = some o → h2'.get? b = some o := fun b o b1 b2 z => (k2.2 b b1).trans (g5 b o b1 b2 z)
   have nt : h2'.get? s.heap.objs.size = some { cls := .type "tuple", data := .seq #[.int (i : Nat) s.toks, u] } := (k2.2 _ (Nat.ne_of_gt le1)).trans g3
   have ne1 : ∀ b v, H b = some v → b ≠ e := fun b v z q => by rw [q, fe.1] at z; cases z
   have ne2 : ∀ b v, H b = some v → b ≠ it := fun b v z q => by rw [q, fi.1] at z; cases z
   have hok0 : HOk X.prog X.w H h2' := fun b v z => (I.hok b v z).lJ (fun c v' hc' q => kp c v' (by
       rcases hc' with hc' | hc'
       · rw [hc']; exact ne1 b v z
       · exact ne1 c _ hc') (by
       rcases hc' with hc' | hc'
       · rw [hc']; exact ne2 b v z
       · exact ne2 c _ hc') q) (fun _ q => q) fun _ _ q => q
   have hok1 : HOk X.prog X.w (upd H s.heap.objs.size (.tup [.int (i : Nat), x])) h2' := fun b v z => by
     by_cases hb : b = s.heap.objs.size
     · subst hb
       rw [cZ] at z; cases z
       exact ⟨(by show 2 ≤ sizeLine; decide), [.int (i : Nat) s.toks, u], .cons ⟨_, rfl⟩ (.cons ru .nil), _, nt, rfl, _, rfl⟩
     · rw [aB hb] at z
       exact (hok0 b v z).lJ (fun c v' _ q => q) (fun c q => by rw [aB (aH q hn)]; exact q) fun c ys q => by rw [aB (aH q hn)]; exact q
   have I1 : Inv X pins σ (upd H s.heap.objs.size (.tup [.int (i : Nat), x])) { s with heap := h2', toks := s.toks + 1 } := by
     refine I.step (g' := s.gens) (d' := s.drawn) (ch := [e, it]) (fun b hb => ?_) (fun b o _ _ hc' z _ => kp b o (fun q => hc' (by simp [q])) (fun q => hc' (by simp [q])) z)
       (fun b o _ _ hc' z _ => ⟨o.slots, kp b o (fun q => hc' (by simp [q])) (fun q => hc' (by simp [q])) z⟩)
       (fun b o hc' z n => by rw [aB (Nat.ne_of_lt (Heap.lt_size z))]; exact n) (fun b o hc' z => ⟨o, kp b o (fun q => hc' (by simp [q])) (fun q => hc' (by simp [q])) z⟩)
       (fun b ys z => by rw [aB (aH z hn)]; exact z) (fun b o u z => by rw [aB (aH z hn)]; exact z) (fun b ps z => ⟨#[], by rw [aB (aH z hn), z]; simp⟩) (fun m hm => ?_) hok1 I.bare
     · rcases List.mem_cons.mp hb with rfl | hb
       · exact ⟨fe.2.2.2.1, fe.2.1, fe.2.2.2.2.1, fe.2.2.2.2.2⟩
       · have z : b = it := by simpa using hb
         subst z
         exact ⟨fi.2.2.2.1, fi.2.1, fi.2.2.2.2.1, fi.2.2.2.2.2⟩
     · obtain ⟨o, es, ep, ho, r⟩ := hm
       exact ⟨o, es, ep, kp _ o (Ne.symm fe.2.1) (Ne.symm fi.2.1) ho, r⟩
   refine ⟨.ref s.heap.objs.size, _, I1, rfl, ⟨s.heap.objs.size, x, hn, rfl, rfl, fun ys hy => by rw [I.mY hy hq]; exact hx⟩, ⟨⟨_, k1⟩, ?_⟩, fun b hb => ?_⟩
   · obtain ⟨o, z1, z2, z3⟩ := g2
     exact ⟨o, (k2.2 it (Ne.symm hne)).trans z1, z2, z3⟩
   · rcases List.mem_cons.mp hb with rfl | hb
     · rw [aB (Nat.ne_of_lt le1)]; exact fe.1
     · have z : b = it := by simpa using hb
       subst z
       rw [aB (Nat.ne_of_lt le2)]; exact fi.1
 done := by
   intro X hP hw hK hc i pins s σ H E I hf st hg
   subst hP hw hK
   obtain ⟨xs, hq, hx⟩ := hg
   obtain ⟨its, rv, p, hz⟩ := I.list hq
   obtain ⟨⟨old, h1⟩, h2⟩ := st
   obtain ⟨f0, f1, f2, f3, f4, f5⟩ := hf it (by simp)
   have hl := rv.length
   exact wpAny_pyNext_enum_end (I.ok.hd hc) h1 h2 p.isList (by simp; omega) fun h' eb => ⟨rfl, I.turned (t' := s.toks) (fun b o hb z => eb b o hb z) f0 f1 f3 f4 f5⟩
 self := fun _ _ _ _ _ st h => by
   obtain ⟨⟨old, h1⟩, _⟩ := st
   exact wpAny_pyIter_enum h1 h
section
variable {X : Cx}
noncomputable def Cf (K : PySem.W.Frag) (ta : TA) : TI := fun σ H R => ta σ H fun vs H1 => ∃ a, vs = [.ref a] ∧ (∃ xs, SqL K H1 a xs) ∧ R (Ite K a) H1
theorem AF : bootBuiltins "enumerate" = some (.type "enumerate") := by decide +kernel
theorem sL {ts : List Expr} {q : Nat} {tp : Pos} {a : Expr} {ta : TA} {p pos : Pos} (hg : Gl X "enumerate") (hm : X.mg "enumerate" = none) (ha : PA X [a] ta) (hs : starEach [a] X.env = [(false, eval a X.env)]) :
   PI X (.Tuple ts q tp) (.Call (.Name "enumerate" p) [a] [] pos) (Cf X.K ta) := by
 intro pins s σ H R I h
 refine Call_ (jx I hg hm AF (PyProof.Rows.callWith_type1 (thn (ha pos pins s σ H _ I h) fun us s1 ⟨vs, H1, I1, r1, q1⟩ => ?_) hs rfl))
 obtain ⟨l, e, ⟨xs, hq⟩, q⟩ := q1
 subst e
 obtain ⟨u, rfl, ru⟩ := vals1 r1
 cases ru
 obtain ⟨its, rv, pl, hz⟩ := I1.list hq
 refine call_enumerate_list pl.isList fun h' g1 g2 g3 g4 => ?_
 refine wpAny_pyIter_enum (s := { s1 with heap := h' }) g1 ?_
 have I2 : Inv X pins σ H1 { s1 with heap := h' } := I1.kept (t' := s1.toks) g4
 have n1 : H1 (s1.heap.objs.size + 1) = none := I1.hok.fresh (by omega)
 have n2 : H1 s1.heap.objs.size = none := I1.hok.fresh (Nat.le_refl _)
 refine ⟨s1.heap.objs.size + 1, [s1.heap.objs.size + 1, s1.heap.objs.size], _, _, H1, rfl, I2, zZ l (s1.heap.objs.size + 1) s1.heap.objs.size (Nat.succ_ne_self _), ⟨⟨_, g1⟩, g2⟩, fun b hb => ?_, q⟩
 rcases List.mem_cons.mp hb with rfl | hb
 · exact I1.xl (by omega) n1
 · have z : b = s1.heap.objs.size := by simpa using hb
   subst z
   exact I1.xl (Nat.le_refl _) n2
end
end Ev
namespace Ev
open PySem PySem.Spec PyProof.Rows L2
noncomputable def Itz (K : PySem.W.Frag) (a b : Addr) : L2.It :=
 ⟨fun i H => ∃ xs ys x y, SqL K H a xs ∧ SqL K H b ys ∧ xs[i]? = some x ∧ ys[i]? = some y,
  fun i H v H' => ∃ p x y, H p = none ∧ v = .ref p ∧ H' = upd H p (.tup [x, y]) ∧ (∀ xs, SqL K H a xs → xs[i]? = some x) ∧ ∀ ys, SqL K H b ys → ys[i]? = some y,
  fun i H => ∃ xs ys, SqL K H a xs ∧ SqL K H b ys ∧ (xs.length ≤ i ∨ ys.length ≤ i)⟩
noncomputable def zSt (a b z TI TO i1 i2 : Addr) (i : Nat) (h : Heap) : Prop :=
 IsZip h z TI TO .none ∧ IsPair h TI (.ref i1) (.ref i2) ∧ (∃ u v, IsPair h TO u v) ∧ h.IsListIter i1 a i ∧ h.IsListIter i2 b i
theorem se {h : Heap} {a b z TI TO i1 i2 : Addr} {i : Nat} {xs ys : Array Value} (n : TI ≠ TO) (m : i1 ≠ i2) (s : zSt a b z TI TO i1 i2 i h) (l1 : h.IsList a xs) (l2 : h.IsList b ys) : ZipApart z TI TO i1 i2 a b := by
 obtain ⟨h1, h2, ⟨u, v, h3⟩, ⟨o4, h4, c4, d4⟩, ⟨o5, h5, c5, d5⟩⟩ := s
 obtain ⟨o6, h6, c6, n6, d6⟩ := l1
 obtain ⟨o7, h7, c7, n7, d7⟩ := l2
 have kk : ∀ {x y : Addr} {o p : Obj}, h.get? x = some o → h.get? y = some p → o.cls ≠ p.cls → x ≠ y := fun e1 e2 c q => by subst q; rw [e1] at e2; cases e2; exact c rfl
 have cz : ∀ {s t : String}, s ≠ t → Value.type s ≠ Value.type t := fun n q => n (by cases q; rfl)
 refine ⟨kk h2 h1 (cz (by decide)), kk h3 h1 (cz (by decide)), kk h4 h1 ?_, kk h5 h1 ?_, n, kk h2 h4 ?_, kk h2 h5 ?_, kk h3 h4 ?_, kk h3 h5 ?_, m, kk h6 h1 ?_, kk h6 h3 ?_, kk h6 h4 ?_, kk h6 h5 ?_, kk h7 h1 ?_, kk h7 h3 ?_, kk h7 h4 ?_, kk h7 h5 ?_⟩
 all_goals first | (rw [c4]; exact cz (by decide)) | (rw [c5]; exact cz (by decide)) | (rw [c6]; exact cz (by decide)) | (rw [c7]; exact cz (by decide)) | (rw [c6, c4]; exact cz (by decide)) | (rw [c6, c5]; exact cz (by decide)) | (rw [c7, c4]; exact cz (by decide)) | (rw [c7, c5]; exact cz (by decide))
theorem Ci {P : Program} {w : World} {K : PySem.W.Frag} {ts : List Expr} {q : Nat} {tp : Pos} (a b z TI TO i1 i2 : Addr) (nT : TI ≠ TO) (nI : i1 ≠ i2) :
   Turn P w K (.Tuple ts q tp) (Itz K a b) [z, TI, TO, i1, i2] z (zSt a b z TI TO i1 i2) where
 mem := by simp
 obj := fun i h st c hb => by
   obtain ⟨h1, h2, ⟨u, v, h3⟩, ⟨o4, h4, c4, d4⟩, ⟨o5, h5, c5, d5⟩⟩ := st
   simp only [List.mem_cons, List.not_mem_nil, or_false] at hb
   rcases hb with rfl | rfl | rfl | rfl | rfl
   · exact ⟨_, h1, fun v z => nomatch z⟩
   · exact ⟨_, h2, fun v z => nomatch z⟩
   · exact ⟨_, h3, fun v z => nomatch z⟩
   · exact ⟨_, h4, fun v z => by rw [d4] at z; cases z⟩
   · exact ⟨_, h5, fun v z => by rw [d5] at z; cases z⟩
 keep := fun i h h' st k => by
   obtain ⟨h1, h2, ⟨u, v, h3⟩, ⟨o4, h4, c4, d4⟩, ⟨o5, h5, c5, d5⟩⟩ := st
   exact ⟨k z (by simp) _ h1, k TI (by simp) _ h2, ⟨u, v, k TO (by simp) _ h3⟩, ⟨o4, k i1 (by simp) _ h4, c4, d4⟩, ⟨o5, k i2 (by simp) _ h5, c5, d5⟩⟩
 item := by
   intro X hP hw hK hc i pins s σ H E I hf st hg
   subst hP hw hK
   obtain ⟨xs, ys, x, y, hq1, hq2, hx, hy⟩ := hg
   obtain ⟨its1, rv1, p1, hz1⟩ := I.list hq1
   obtain ⟨its2, rv2, p2, hz2⟩ := I.list hq2
   obtain ⟨u1, hu1, ru1⟩ := rv1.get hx
   obtain ⟨u2, hu2, ru2⟩ := rv2.get hy
   have D := se nT nI st p1.isList p2.isList
   obtain ⟨h1, h2, ⟨u, v, h3⟩, h4, h5⟩ := st
   refine wpAny_pyNext_zip_item D h1 h2 h3 h4 h5 p1.isList p2.isList (x := u1) (y := u2) (by simpa using hu1) (by simpa using hu2) fun h' g1 g2 g3 g4 g5 g6 g7 => ⟨_, rfl, ?_⟩
   refine wpAny_letOwnedTupleGo_zip (s := { s with heap := h' }) g1 fun h2' k1 k2 => ?_
   have hn : H s.heap.objs.size = none := I.hok.fresh (Nat.le_refl _)
   have le1 : z < s.heap.objs.size := Heap.lt_size h1
   have lt2 : TI < s.heap.objs.size := Heap.lt_size h2
   have lt3 : TO < s.heap.objs.size := Heap.lt_size h3
   have lt4 : i1 < s.heap.objs.size := by obtain ⟨o, z, _⟩ := h4; exact Heap.lt_size z
   have lt5 : i2 < s.heap.objs.size := by obtain ⟨o, z, _⟩ := h5; exact Heap.lt_size z
   have kp : ∀ c o, c ≠ z → c ≠ TO → c ≠ i1 → c ≠ i2 → s.heap.get? c = some o → h2'.get? c = some o := fun c o b1 b2 b3 b4 e => (k2.2 c b1).trans (g7 c o b1 b2 b3 b4 e)
   have nt : IsPair h2' s.heap.objs.size u1 u2 := (k2.2 _ (Nat.ne_of_gt le1)).trans g5
   have ne : ∀ c, c ∈ [z, TI, TO, i1, i2] → ∀ d v, H d = some v → d ≠ c := fun c hc d v e q => by
     have := (hf c hc).1
     rw [q, this] at e; cases e
   have hok0 : HOk X.prog X.w H h2' := fun d v e => (I.hok d v e).lJ (fun c v' hc' q => kp c v'
       (by rcases hc' with hc' | hc'
           · rw [hc']; exact ne z (by simp) d v e
           · exact ne z (by simp) c _ hc')
       (by rcases hc' with hc' | hc'
           · rw [hc']; exact ne TO (by simp) d v e
           · exact ne TO (by simp) c _ hc')
       (by rcases hc' with hc' | hc'
           · rw [hc']; exact ne i1 (by simp) d v e
           · exact ne i1 (by simp) c _ hc')
       (by rcases hc' with hc' | hc'
           · rw [hc']; exact ne i2 (by simp) d v e
           · exact ne i2 (by simp) c _ hc') q) (fun _ q => q) fun _ _ q => q
   have hok1 : HOk X.prog X.w (upd H s.heap.objs.size (.tup [x, y])) h2' := fun d v e => by
     by_cases hb : d = s.heap.objs.size
     · subst hb
       rw [cZ] at e; cases e
       exact ⟨(by show 2 ≤ sizeLine; decide), [u1, u2], .cons ru1 (.cons ru2 .nil), _, nt, rfl, _, rfl⟩
     · rw [aB hb] at e
       exact (hok0 d v e).lJ (fun c v' _ q => q) (fun c q => by rw [aB (aH q hn)]; exact q) fun c ys q => by rw [aB (aH q hn)]; exact q
   have I1 : Inv X pins σ (upd H s.heap.objs.size (.tup [x, y])) { s with heap := h2' } := by
     refine I.step (t' := s.toks) (g' := s.gens) (d' := s.drawn) (ch := [z, TO, i1, i2]) (fun c hb => ?_) (fun c o _ _ hc' e _ => kp c o (fun q => hc' (by simp [q])) (fun q => hc' (by simp [q])) (fun q => hc' (by simp [q])) (fun q => hc' (by simp [q])) e)
       (fun c o _ _ hc' e _ => ⟨o.slots, kp c o (fun q => hc' (by simp [q])) (fun q => hc' (by simp [q])) (fun q => hc' (by simp [q])) (fun q => hc' (by simp [q])) e⟩)
       (fun c o hc' e n => by rw [aB (Nat.ne_of_lt (Heap.lt_size e))]; exact n) (fun c o hc' e => ⟨o, kp c o (fun q => hc' (by simp [q])) (fun q => hc' (by simp [q])) (fun q => hc' (by simp [q])) (fun q => hc' (by simp [q])) e⟩)
       (fun c ys e => by rw [aB (aH e hn)]; exact e) (fun c o u e => by rw [aB (aH e hn)]; exact e) (fun c ps e => ⟨#[], by rw [aB (aH e hn), e]; simp⟩) (fun m hm => ?_) hok1 I.bare
     · have hb' : c ∈ [z, TI, TO, i1, i2] := by
         simp only [List.mem_cons, List.not_mem_nil, or_false] at hb ⊢
         rcases hb with h | h | h | h <;> simp [h]
       have fe := hf c hb'
       exact ⟨fe.2.2.2.1, fe.2.1, fe.2.2.2.2.1, fe.2.2.2.2.2⟩
     · obtain ⟨o, es, ep, ho, r⟩ := hm
       exact ⟨o, es, ep, kp _ o (Ne.symm (hf z (by simp)).2.1) (Ne.symm (hf TO (by simp)).2.1) (Ne.symm (hf i1 (by simp)).2.1) (Ne.symm (hf i2 (by simp)).2.1) ho, r⟩
   refine ⟨.ref s.heap.objs.size, _, I1, rfl, ⟨s.heap.objs.size, x, y, hn, rfl, rfl, fun zs hy' => by rw [I.mY hy' hq1]; exact hx, fun zs hy' => by rw [I.mY hy' hq2]; exact hy⟩, ⟨k1, ?_, ⟨u1, u2, (k2.2 TO D.TOz).trans g2⟩, ?_, ?_⟩, fun c hb => ?_⟩
   · exact kp TI _ D.TIz D.TITO D.TIi1 D.TIi2 h2
   · obtain ⟨o, z1, z2, z3⟩ := g3
     exact ⟨o, (k2.2 i1 D.i1z).trans z1, z2, z3⟩
   · obtain ⟨o, z1, z2, z3⟩ := g4
     exact ⟨o, (k2.2 i2 D.i2z).trans z1, z2, z3⟩
   · have fc := (hf c hb).1
     have lt : c < s.heap.objs.size := by
       simp only [List.mem_cons, List.not_mem_nil, or_false] at hb
       rcases hb with rfl | rfl | rfl | rfl | rfl <;> assumption
     rw [aB (Nat.ne_of_lt lt)]
     exact fc
 done := by
   intro X hP hw hK hc i pins s σ H E I hf st hg
   subst hP hw hK
   obtain ⟨xs, ys, hq1, hq2, hx⟩ := hg
   obtain ⟨its1, rv1, p1, hz1⟩ := I.list hq1
   obtain ⟨its2, rv2, p2, hz2⟩ := I.list hq2
   have D := se nT nI st p1.isList p2.isList
   obtain ⟨h1, h2, ⟨u, v, h3⟩, h4, h5⟩ := st
   have hl1 := rv1.length
   have hl2 := rv2.length
   refine wpAny_pyNext_zip_end (I.ok.hd hc) D h1 h2 h3 h4 h5 p1.isList p2.isList (by
     rcases hx with hx | hx
     · left; simp; omega
     · right; simp; omega) fun h' eb => ⟨rfl, ?_⟩
   have ne : ∀ c, c ∈ [z, TI, TO, i1, i2] → ∀ d v, H d = some v → d ≠ c := fun c hc d v e q => by
     have := (hf c hc).1
     rw [q, this] at e; cases e
   have hok0 : HOk X.prog X.w H h' := fun d v e => (I.hok d v e).lJ (fun c v' hc' q => eb c v'
       (by rcases hc' with hc' | hc'
           · rw [hc']; exact ne z (by simp) d v e
           · exact ne z (by simp) c _ hc')
       (by rcases hc' with hc' | hc'
           · rw [hc']; exact ne TO (by simp) d v e
           · exact ne TO (by simp) c _ hc')
       (by rcases hc' with hc' | hc'
           · rw [hc']; exact ne i1 (by simp) d v e
           · exact ne i1 (by simp) c _ hc')
       (by rcases hc' with hc' | hc'
           · rw [hc']; exact ne i2 (by simp) d v e
           · exact ne i2 (by simp) c _ hc') q) (fun _ q => q) fun _ _ q => q
   refine I.step (t' := s.toks) (g' := s.gens) (d' := s.drawn) (ch := [z, TO, i1, i2]) (fun c hb => ?_) (fun c o _ _ hc' e _ => eb c o (fun q => hc' (by simp [q])) (fun q => hc' (by simp [q])) (fun q => hc' (by simp [q])) (fun q => hc' (by simp [q])) e)
       (fun c o _ _ hc' e _ => ⟨o.slots, eb c o (fun q => hc' (by simp [q])) (fun q => hc' (by simp [q])) (fun q => hc' (by simp [q])) (fun q => hc' (by simp [q])) e⟩)
       (fun c o hc' e n => n) (fun c o hc' e => ⟨o, eb c o (fun q => hc' (by simp [q])) (fun q => hc' (by simp [q])) (fun q => hc' (by simp [q])) (fun q => hc' (by simp [q])) e⟩)
       (fun c ys e => e) (fun c o u e => e) (fun c ps e => ⟨#[], by rw [e]; simp⟩) (fun m hm => ?_) hok0 I.bare
   · have hb' : c ∈ [z, TI, TO, i1, i2] := by
       simp only [List.mem_cons, List.not_mem_nil, or_false] at hb ⊢
       rcases hb with h | h | h | h <;> simp [h]
     have fe := hf c hb'
     exact ⟨fe.2.2.2.1, fe.2.1, fe.2.2.2.2.1, fe.2.2.2.2.2⟩
   · obtain ⟨o, es, ep, ho, r⟩ := hm
     exact ⟨o, es, ep, eb _ o (Ne.symm (hf z (by simp)).2.1) (Ne.symm (hf TO (by simp)).2.1) (Ne.symm (hf i1 (by simp)).2.1) (Ne.symm (hf i2 (by simp)).2.1) ho, r⟩
 self := fun _ _ _ _ _ st h => wpAny_pyIter_zip st.1 h
section
variable {X : Cx}
noncomputable def Ld (K : PySem.W.Frag) (ta : TA) : TI := fun σ H R => ta σ H fun vs H1 => ∃ a b, vs = [.ref a, .ref b] ∧ (∃ xs, SqL K H1 a xs) ∧ (∃ ys, SqL K H1 b ys) ∧ R (Itz K a b) H1
theorem JM {ts : List Expr} {q : Nat} {tp : Pos} {a b : Expr} {ta : TA} {p pos : Pos} (hg : Gl X "zip") (hm : X.mg "zip" = none) (ha : PA X [a, b] ta) (hs : starEach [a, b] X.env = (false, eval a X.env) :: starEach [b] X.env) (hs2 : starEach [b] X.env = [(false, eval b X.env)]) :
   PI X (.Tuple ts q tp) (.Call (.Name "zip" p) [a, b] [] pos) (Ld X.K ta) := by
 intro pins s σ H R I h
 refine Call_ (jx I hg hm boot_zip (PyProof.Rows.callWith_type1 (thn (ha pos pins s σ H _ I h) fun us s1 ⟨vs, H1, I1, r1, q1⟩ => ?_) hs (by rw [hs2]; rfl)))
 obtain ⟨l, l', e, ⟨xs, hq1⟩, ⟨ys, hq2⟩, q⟩ := q1
 subst e
 obtain ⟨u, u', rfl, ru, ru'⟩ := vals2 r1
 cases ru
 cases ru'
 obtain ⟨its1, rv1, pl1, hz1⟩ := I1.list hq1
 obtain ⟨its2, rv2, pl2, hz2⟩ := I1.list hq2
 refine call_zip_2 pl1.isList pl2.isList fun h' g1 g2 g3 g4 g5 g6 g7 => ?_
 refine wpAny_pyIter_zip (s := { s1 with heap := h' }) g1 ?_
 have I2 : Inv X pins σ H1 { s1 with heap := h' } := I1.kept (t' := s1.toks) g7
 have nn : ∀ j, H1 (s1.heap.objs.size + j) = none := fun j => I1.hok.fresh (by omega)
 refine ⟨s1.heap.objs.size + 4, [s1.heap.objs.size + 4, s1.heap.objs.size + 2, s1.heap.objs.size + 3, s1.heap.objs.size, s1.heap.objs.size + 1], _, _, H1, rfl, I2, Ci l l' (s1.heap.objs.size + 4) (s1.heap.objs.size + 2) (s1.heap.objs.size + 3) s1.heap.objs.size (s1.heap.objs.size + 1) (by simp) (Ne.symm (Nat.succ_ne_self _)), ⟨g1, g2, ⟨_, _, g3⟩, g4, g5⟩, fun c hb => ?_, q⟩
 have hb' : ∃ j, c = s1.heap.objs.size + j := by
   simp only [List.mem_cons, List.not_mem_nil, or_false] at hb
   rcases hb with h | h | h | h | h
   · exact ⟨_, h⟩
   · exact ⟨_, h⟩
   · exact ⟨_, h⟩
   · exact ⟨0, h⟩
   · exact ⟨_, h⟩
 obtain ⟨j, rfl⟩ := hb'
 exact I1.xl (Nat.le_add_right _ _) (nn j)
end
end Ev
namespace Ev
open PySem PySem.Spec PyProof.Rows L2
theorem B3 : ∀ (names : List (Str × NameKind)) (n : Nat) (acc : List (Str × Addr)) (x : Str) (c : Addr), (cellsFrom n names acc).lookup x = some c → n ≤ c ∨ acc.lookup x = some c
 | [], _, _, _, _, h => .inr h
 | (y, k) :: r, n, acc, x, c, h => by
   unfold cellsFrom at h
   split at h
   · rcases B3 r (n + 1) _ x c h with q | q
     · exact .inl (by omega)
     · rw [List.lookup_cons] at q
       split at q
       · cases q; exact .inl (Nat.le_refl _)
       · exact .inr q
   · exact B3 r n acc x c h
theorem pJ : ∀ (names : List (Str × NameKind)) (n : Nat) (acc : List (Str × Addr)) (x : Str), (x, NameKind.cell) ∉ names → (cellsFrom n names acc).lookup x = acc.lookup x
 | [], _, _, _, _ => rfl
 | (y, k) :: r, n, acc, x, h => by
   have h1 : (x, NameKind.cell) ∉ r := fun z => h (List.mem_cons_of_mem _ z)
   unfold cellsFrom
   split
   · rename_i hk
     rw [pJ r _ _ x h1, List.lookup_cons]
     have : (x == y) = false := by
       rw [beq_eq_false_iff_ne]
       rintro rfl
       exact h (by rw [eq_of_beq hk]; exact List.mem_cons_self)
     rw [this]
   · exact pJ r n acc x h1
theorem um : ∀ (names : List (Str × NameKind)) (n : Nat) (acc : List (Str × Addr)) (x : Str), (x, NameKind.cell) ∈ names → ∃ c, (cellsFrom n names acc).lookup x = some c ∧ n ≤ c
 | (y, k) :: r, n, acc, x, h => by
   unfold cellsFrom
   by_cases hr : (x, NameKind.cell) ∈ r
   · split
     · obtain ⟨c, e, l⟩ := um r (n + 1) ((y, n) :: acc) x hr
       exact ⟨c, e, by omega⟩
     · exact um r n acc x hr
   · rcases List.mem_cons.mp h with q | q
     · cases q
       rw [if_pos (by rfl), pJ r _ _ _ hr]
       exact ⟨n, by simp [List.lookup_cons], Nat.le_refl _⟩
     · exact absurd q hr
theorem xN : ∀ (names : List (Str × NameKind)) (n : Nat) (acc : List (Str × Addr)), (∀ x c, acc.lookup x = some c → c < n) → (∀ x y c, acc.lookup x = some c → acc.lookup y = some c → x = y) →
   ∀ x y c, (cellsFrom n names acc).lookup x = some c → (cellsFrom n names acc).lookup y = some c → x = y
 | [], _, _, _, h => h
 | (z, k) :: r, n, acc, hl, h => by
   unfold cellsFrom
   split
   · refine xN r (n + 1) _ (fun x c e => ?_) (fun x y c e1 e2 => ?_)
     · rw [List.lookup_cons] at e
       split at e
       · cases e; exact Nat.lt_succ_self _
       · exact Nat.lt_succ_of_lt (hl x c e)
     · rw [List.lookup_cons] at e1 e2
       split at e1
       · rename_i q1
         cases e1
         split at e2
         · rename_i q2
           exact (eq_of_beq q1).trans (eq_of_beq q2).symm
         · exact absurd (hl y _ e2) (Nat.lt_irrefl _)
       · split at e2
         · cases e2
           exact absurd (hl x _ e1) (Nat.lt_irrefl _)
         · exact h x y c e1 e2
   · exact xN r n acc hl h
theorem tY : ∀ (names : List (Str × NameKind)) (h : Heap) (acc : List (Str × Addr)), (∀ x c, acc.lookup x = some c → ∃ v, h.IsCell c v) → ∀ x c, (cellsFrom h.objs.size names acc).lookup x = some c → ∃ v, (pushCells h names).IsCell c v
 | [], _, _, ha, x, c, e => ha x c e
 | (z, k) :: r, h, acc, ha, x, c, e => by
   unfold cellsFrom at e
   unfold pushCells
   split at e
   · rename_i hk
     rw [if_pos hk]
     refine tY r _ ((z, h.objs.size) :: acc) (fun y d q => ?_) x c (by rw [Heap.size_push]; exact e)
     rw [List.lookup_cons] at q
     split at q
     · cases q
       exact ⟨none, _, Heap.get?_push_size _ rfl, rfl⟩
     · obtain ⟨v, o, ho, hd⟩ := ha y d q
       exact ⟨v, o, Heap.get?_push_of_some _ ho, hd⟩
   · rename_i hk
     rw [if_neg hk]
     exact tY r h acc ha x c e
noncomputable def gO (env : PySem.Env) : List (Str × NameKind) → List (Str × Addr) → List (Str × Addr)
 | [], acc => acc
 | (n, k) :: r, acc => if k == .free then (match env.cells.lookup n with | some c => gO env r ((n, c) :: acc) | none => gO env r acc) else gO env r acc
theorem pI (env : PySem.Env) : ∀ (names : List (Str × NameKind)) (acc : List (Str × Addr)), (∀ x ∈ names, x.2 = .free → ∃ c, env.cells.lookup x.1 = some c) →
   (forIn (m := Sem) names acc fun x cs => do
     let (name, kind) := x
     if kind == .free then do
       let c ← cellOf env name
       pure (ForInStep.yield ((name, c) :: cs))
     else pure (ForInStep.yield cs)) = pure (gO env names acc)
 | [], acc, _ => rfl
 | (n, k) :: r, acc, h => by
   rw [List.forIn_cons]
   unfold gO
   by_cases hk : (k == .free) = true
   · obtain ⟨c, hc⟩ := h (n, k) List.mem_cons_self (eq_of_beq hk)
     simp only [hk, if_true, cellOf, hc, pure_bind]
     exact pI env r _ fun x hx => h x (List.mem_cons_of_mem _ hx)
   · simp only [hk, Bool.false_eq_true, if_false, pure_bind]
     exact pI env r _ fun x hx => h x (List.mem_cons_of_mem _ hx)
theorem zA {env : PySem.Env} {scope : Scope} (h : ∀ x ∈ scope.names, x.2 = .free → ∃ c, env.cells.lookup x.1 = some c) : closureFor scope env = pure (gO env scope.names []) := by
 unfold closureFor
 have := pI env scope.names [] h
 simp only [bind_pure]
 exact this
theorem jv (env : PySem.Env) : ∀ (names : List (Str × NameKind)) (acc : List (Str × Addr)) (x : Str) (c : Addr), (∀ y d, acc.lookup y = some d → env.cells.lookup y = some d) → (gO env names acc).lookup x = some c → env.cells.lookup x = some c
 | [], _, x, c, ha, h => ha x c h
 | (n, k) :: r, acc, x, c, ha, h => by
   unfold gO at h
   split at h
   · split at h
     · rename_i c' hc
       refine jv env r _ x c (fun y d q => ?_) h
       rw [List.lookup_cons] at q
       split at q
       · rename_i qq
         cases q
         rw [eq_of_beq qq]; exact hc
       · exact ha y d q
     · exact jv env r acc x c ha h
   · exact jv env r acc x c ha h
theorem iA (env : PySem.Env) : ∀ (names : List (Str × NameKind)) (acc : List (Str × Addr)) (x : Str) (c : Addr), (∀ y d, acc.lookup y = some d → env.cells.lookup y = some d) → env.cells.lookup x = some c → ((x, NameKind.free) ∈ names ∨ acc.lookup x = some c) → (gO env names acc).lookup x = some c
 | [], _, x, c, _, _, h => h.elim (fun z => absurd z (by simp)) id
 | (n, k) :: r, acc, x, c, ha, hc, h => by
   unfold gO
   split
   · split
     · rename_i c' hc'
       refine iA env r _ x c (fun y d q => ?_) hc ?_
       · rw [List.lookup_cons] at q
         split at q
         · rename_i qq
           cases q
           rw [eq_of_beq qq]; exact hc'
         · exact ha y d q
       · by_cases q : x = n
         · subst q
           rw [hc] at hc'; cases hc'
           exact .inr (by simp [List.lookup_cons])
         · rcases h with h | h
           · rcases List.mem_cons.mp h with z | z
             · cases z; exact absurd rfl q
             · exact .inl z
           · refine .inr ?_
             rw [List.lookup_cons, beq_eq_false_iff_ne.mpr q]
             exact h
     · rename_i hc'
       refine iA env r acc x c ha hc ?_
       rcases h with h | h
       · rcases List.mem_cons.mp h with z | z
         · cases z; rw [hc] at hc'; cases hc'
         · exact .inl z
       · exact .inr h
   · rename_i hk
     refine iA env r acc x c ha hc ?_
     rcases h with h | h
     · rcases List.mem_cons.mp h with z | z
       · cases z; exact absurd rfl hk
       · exact .inl z
     · exact .inr h
theorem rT {M : Model} {A : Around} {E : Value → Shared → Prop} {s : Shared} {scope : Scope} {cl : List (Str × Addr)} {env : PySem.Env} {Q : PySem.Env → Shared → Prop}
   (h : Q (newEnv scope s.heap.objs.size env.globals (cellsFrom (s.heap.objs.size + 1) scope.names cl) env.qual none .none (some env) builtinsNs) { s with heap := pushCells (s.heap.push { cls := .type "dict", data := .dict #[] }) scope.names }) :
   wpAny M A (newFunctionEnv scope env.globals cl [] env.qual none .none (some env)) Q E s := by
 simp only [newFunctionEnv, Option.isSome_some, if_true]
 refine wpAny_bind (wpAny_alloc ?_)
 refine wpAny_bind (wpAny_layCells _ (fun name kind cells => by cases hkc : kind == NameKind.cell <;> simp [hkc]) _ _ _ _ ?_)
 rw [show ({ s with heap := s.heap.push { cls := .type "dict", data := .dict #[] } } : Shared).heap.objs.size = s.heap.objs.size + 1 from Heap.size_push ..]
 exact wpAny_bind (wpAny_pure (wpAny_pure h))
end Ev
namespace Ev
open PySem PySem.Spec PyProof.Rows L2
noncomputable def aT (X : Cx) (s : Shared) (H : Hp) (scope : Scope) (N : List Str) (fp : List Addr) : Cx :=
 { prog := X.prog, w := X.w, K := X.K, mg := X.mg, base := X.base, A := X.A, N := N, s₀ := s, H₀ := H
   env := compEnvC scope (cellsFrom (s.heap.objs.size + 1 + 1) scope.names (gO X.env scope.names [])) (s.heap.objs.size + 1) X.env
   outer := X.stack, stack := X.stack, ex := fp, fn := fun x => decide ((x, NameKind.cell) ∈ scope.names), calm := X.calm, pn := [], xe := fun _ _ => False }
noncomputable def nR (σ : L2.St) (caps : List (Option Nat)) : L2.St := caps.map fun o => o.bind fun i => (σ[i]?).join
structure lO (X : Cx) (scope : Scope) (N : List Str) (caps : List (Option Nat)) : Prop where
 kind : scope.kind = .function
 loc : ∀ x ∈ scope.names, x.2 = .local → scope.names.lookup x.1 = some .local
 fre : ∀ x ∈ scope.names, x.2 = .free → X.env.kindOf x.1 = some .cell
 one : ∀ x, (x, NameKind.free) ∈ scope.names → (x, NameKind.cell) ∉ scope.names
 noboth : ∀ x, (x, NameKind.free) ∈ scope.names → (x, NameKind.local) ∉ scope.names
 len : N.length = caps.length + 1
 cap : ∀ (j i : Nat), caps[j]? = some (some i) → ∃ x, N[j]? = some x ∧ X.N[i]? = some x ∧ (x, NameKind.free) ∈ scope.names
 acc : ∃ z, N[caps.length]? = some z ∧ ¬ Vis (relabel scope X.env) z
section
variable {X : Cx} {pins : List (Addr × Obj)} {σ : L2.St} {H : Hp} {s : Shared} {scope : Scope} {N : List Str} {caps : List (Option Nat)} {fp : List Addr}
theorem cR {env : PySem.Env} {x : Str} {names : List (Str × NameKind)} (h : ∀ y, (y, NameKind.free) ∈ names → env.kindOf y = some .cell) (hk : env.scope.kind = .function) {k : NameKind}
   (e : (names.map fun (n, k) => if (k == NameKind.free && env.scope.kind == .function && env.kindOf n == some .cell) then (n, NameKind.cell) else (n, k)).lookup x = some k) :
   (x, k) ∈ names ∨ ((x, NameKind.free) ∈ names ∧ k = .cell) := by
 induction names with
 | nil => cases e
 | cons p r ih =>
   obtain ⟨n, q⟩ := p
   rw [List.map_cons] at e
   have hr : ∀ y, (y, NameKind.free) ∈ r → env.kindOf y = some .cell := fun y hy => h y (List.mem_cons_of_mem _ hy)
   have sub : ((x, k) ∈ r ∨ ((x, NameKind.free) ∈ r ∧ k = .cell)) → (x, k) ∈ (n, q) :: r ∨ ((x, NameKind.free) ∈ (n, q) :: r ∧ k = .cell) := fun z =>
     z.elim (fun y => .inl (List.mem_cons_of_mem _ y)) fun y => .inr ⟨List.mem_cons_of_mem _ y.1, y.2⟩
   dsimp only at e
   split at e
   · rename_i c
     rw [List.lookup_cons] at e
     split at e
     · rename_i qq
       cases e
       rw [Bool.and_eq_true, Bool.and_eq_true] at c
       rw [eq_of_beq qq, eq_of_beq c.1.1]
       exact .inr ⟨List.mem_cons_self, rfl⟩
     · exact sub (ih hr e)
   · rename_i c
     rw [List.lookup_cons] at e
     split at e
     · rename_i qq
       cases e
       rw [eq_of_beq qq]
       exact .inl List.mem_cons_self
     · exact sub (ih hr e)
theorem lh (I : Inv X pins σ H s) (c : lO X scope N caps) : ∀ x ∈ scope.names, x.2 = .free → ∃ d, X.env.cells.lookup x.1 = some d := fun x hx hf => I.ok.has x.1 (.inl (c.fre x hx hf))
theorem wu (I : Inv X pins σ H s) (hf : ∀ b ∈ fp, q9 X pins H b) (ho : ∀ b ∈ fp, ∃ o, s.heap.get? b = some o) (c : lO X scope N caps) :
   Inv (aT X s H scope N fp) [] (nR σ caps ++ [some (.ref s.heap.objs.size)]) (upd H s.heap.objs.size (.lst []))
     { s with heap := pushCells ((s.heap.push { cls := .type "list", data := .seq ([] : List Value).toArray }).push { cls := .type "dict", data := .dict #[] }) scope.names } := by
 have hcl : ∀ x d, (gO X.env scope.names []).lookup x = some d → X.env.cells.lookup x = some d := fun x d => jv X.env scope.names [] x d (fun y d z => by simp at z)
 have kp : ∀ b o, s.heap.get? b = some o → (pushCells ((s.heap.push { cls := .type "list", data := .seq ([] : List Value).toArray }).push { cls := .type "dict", data := .dict #[] }) scope.names).get? b = some o := fun b o e =>
   pushCells_keeps _ _ b o (Heap.get?_push_of_some _ (Heap.get?_push_of_some _ e))
 have sz2 : ((s.heap.push { cls := .type "list", data := .seq ([] : List Value).toArray }).push { cls := .type "dict", data := .dict #[] }).objs.size = s.heap.objs.size + 1 + 1 := by rw [Heap.size_push, Heap.size_push]
 have oldc : ∀ x d, X.env.cells.lookup x = some d → d < s.heap.objs.size := fun x d e => by
   obtain ⟨v, o, q, _⟩ := I.cell x d e
   exact Heap.lt_size q
 have cel : ∀ x d, (aT X s H scope N fp).env.cells.lookup x = some d → s.heap.objs.size + 1 + 1 ≤ d ∨ X.env.cells.lookup x = some d := fun x d e => by
   rcases B3 _ _ _ x d e with q | q
   · exact .inl q
   · exact .inr (hcl x d q)
 have ok : (aT X s H scope N fp).Ok := by
   refine ⟨I.ok.mod, c.kind, I.ok.glob, I.ok.blt, Nat.le_succ _, ?_, ?_, ?_, I.ok.hd, I.ok.frames, .inl rfl, ?_, I.bs, Nat.le_trans I.ok.bsz I.sz, ?_, ?_, I.stack, I.y8⟩
   · exact xN _ _ _ (fun x d e => Nat.lt_of_lt_of_le (oldc x d (hcl x d e)) (by omega)) fun x y d e1 e2 => I.ok.inj x y d (hcl x d e1) (hcl y d e2)
   · intro x hx
     have hfk : ∀ y, (y, NameKind.free) ∈ scope.names → X.env.kindOf y = some .cell := fun y hy => c.fre _ hy rfl
     have fre : (x, NameKind.free) ∈ scope.names → ∃ d, (aT X s H scope N fp).env.cells.lookup x = some d := fun hm => by
       obtain ⟨d, hd⟩ := lh I c _ hm rfl
       exact ⟨d, by
         show (cellsFrom _ scope.names _).lookup x = _
         rw [pJ _ _ _ x (c.one x hm)]
         exact iA X.env scope.names [] x d (fun y e z => by simp at z) hd (.inl hm)⟩
     have own : (x, NameKind.cell) ∈ scope.names → ∃ d, (aT X s H scope N fp).env.cells.lookup x = some d := fun hm => by
       obtain ⟨d, e, _⟩ := um scope.names (s.heap.objs.size + 1 + 1) (gO X.env scope.names []) x hm
       exact ⟨d, e⟩
     rcases hx with hx | hx
     · rcases cR hfk I.ok.kind (show (scope.names.map _).lookup x = some .cell from hx) with q | q
       · exact own q
       · exact fre q.1
     · rcases cR hfk I.ok.kind (show (scope.names.map _).lookup x = some .free from hx) with q | q
       · exact fre q
       · exact fre q.1
   · intro x d hfn e
     have hm : (x, NameKind.cell) ∈ scope.names := of_decide_eq_true hfn
     obtain ⟨d', e', l⟩ := um scope.names (s.heap.objs.size + 1 + 1) (gO X.env scope.names []) x hm
     have e2 : (cellsFrom (s.heap.objs.size + 1 + 1) scope.names (gO X.env scope.names [])).lookup x = some d := e
     rw [e'] at e2; cases e2
     exact Nat.le_trans (Nat.le_trans (Nat.le_succ _) (Nat.le_succ _)) l
   · intro b hb
     obtain ⟨o, q⟩ := ho b hb
     have bl := Heap.lt_size q
     refine ⟨fun z => ?_, fun x d e z => ?_⟩
     · have z' : b = s.heap.objs.size + 1 := z
       rw [z'] at bl
       exact absurd bl (Nat.not_lt.mpr (Nat.le_succ _))
     · subst z
       rcases cel x d e with q | q
       · exact absurd (Nat.lt_of_lt_of_le bl (Nat.le_trans (Nat.le_trans (Nat.le_succ _) (Nat.le_succ _)) q)) (Nat.lt_irrefl _)
       · exact (hf d hb).2.2.2.2.1 x d q rfl
   · intro b o e hb
     rcases (hf b hb).2.2.2.1 with q | q
     · exact I.ok.noex b o e q
     · have := Nat.lt_of_lt_of_le (Heap.lt_size e) I.ok.bsz
       exact absurd (Nat.lt_of_lt_of_le this q) (Nat.lt_irrefl _)
   · intro b hb hm
     rcases List.mem_cons.mp (I.yg b hm) with q | q
     · exact (hf b hb).2.1 q
     · exact (hf b hb).2.2.1 q
 have hD : (pushCells ((s.heap.push { cls := .type "list", data := .seq ([] : List Value).toArray }).push { cls := .type "dict", data := .dict #[] }) scope.names).get? s.heap.objs.size = some { cls := .type "list", data := .seq ([] : List Value).toArray } :=
   pushCells_keeps _ _ _ _ (Heap.get?_push_of_some _ (Heap.get?_push_size _ rfl))
 have fr : ∀ a, s.heap.objs.size ≤ a → a ≠ s.heap.objs.size → (upd H s.heap.objs.size (.lst [])) a = none := fun a h1 h2 => by rw [aB h2]; exact I.hok.fresh h1
 refine ⟨ok, rfl, I.bare, Un.laid kp (Nat.le_refl _) (I.hok.fresh (Nat.le_refl _)), ⟨fun _ => none, ?_, fun i x v e1 e2 e3 => ?_⟩, fun x d e => ?_, ?_, fun x d e => ?_, fun p hp => absurd (show p ∈ ([] : List (Addr × Obj)) from hp) (by simp), ?_, ?_⟩
 · have := Heap.Ns.new (s.heap.push { cls := .type "list", data := .seq ([] : List Value).toArray }) (.type "dict")
   rw [Heap.size_push] at this
   exact this.keeps (pushCells_keeps _ _)
 · by_cases hi : i < caps.length
   · rw [List.getElem?_append_left (by unfold nR; rw [List.length_map]; exact hi)] at e2
     unfold nR at e2
     rw [List.getElem?_map] at e2
     cases hc : caps[i]? with
     | none => rw [hc] at e2; cases e2
     | some o =>
       rw [hc] at e2
       cases o with
       | none => cases e2
       | some j =>
         have e2' : (σ[j]?).join = some v := Option.some.inj e2
         have e4 : σ[j]? = some (some v) := by
           cases q : σ[j]? with
           | none => rw [q] at e2'; cases e2'
           | some y => rw [q] at e2'; exact congrArg some e2'
         obtain ⟨x', g1, g2, g3⟩ := c.cap i j hc
         rw [show (aT X s H scope N fp).N = N from rfl, g1] at e1
         cases e1
         have hkc := c.fre _ g3 rfl
         obtain ⟨m, _, hl⟩ := I.loc
         obtain ⟨u, ru, look⟩ := hl j x v g2 e4 (.inr (.inl hkc))
         refine ⟨u, ru, ?_⟩
         rcases look with ⟨k, _⟩ | ⟨k, d, hd, hcell⟩
         · rw [hkc] at k; cases k
         · have e5 : (aT X s H scope N fp).env.cells.lookup x = some d := by
             show (cellsFrom _ scope.names _).lookup x = _
             rw [pJ _ _ _ x (c.one x g3)]
             exact iA X.env scope.names [] x d (fun y e z => by simp at z) hd (.inl g3)
           have hcell' : Heap.IsCell (pushCells ((s.heap.push { cls := .type "list", data := .seq ([] : List Value).toArray }).push { cls := .type "dict", data := .dict #[] }) scope.names) d (some u) := by
             obtain ⟨o, q1, q2⟩ := hcell
             exact ⟨o, kp _ _ q1, q2⟩
           refine .inr ⟨?_, d, e5, hcell'⟩
           rcases e3 with e3 | e3 | e3
           · exfalso
             rcases cR (fun y hy => c.fre _ hy rfl) I.ok.kind (show (scope.names.map _).lookup x = some .local from e3) with q | q
             · have q1 := c.loc _ q rfl
               exact c.noboth x g3 q
             · cases q.2
           · exact .inl e3
           · exact .inr e3
   · exfalso
     obtain ⟨z, z1, z2⟩ := c.acc
     have hl : i < N.length := (List.getElem?_eq_some_iff.mp e1).1
     have : i = caps.length := by have := c.len; omega
     subst this
     rw [show (aT X s H scope N fp).N = N from rfl, z1] at e1
     cases e1
     exact z2 e3
 · rw [show (aT X s H scope N fp).env.cells = cellsFrom (s.heap.objs.size + 1 + 1) scope.names (gO X.env scope.names []) from rfl, ← sz2] at e
   refine tY scope.names _ _ (fun y d' q => ?_) x d e
   obtain ⟨v, o, q1, q2⟩ := I.cell y d' (hcl y d' q)
   exact ⟨v, o, Heap.get?_push_of_some _ (Heap.get?_push_of_some _ q1), q2⟩
 · exact fr _ (Nat.le_succ _) (Nat.succ_ne_self _)
 · rcases cel x d e with q | q
   · exact fr d (by omega) (by intro z; omega)
   · rw [aB (Nat.ne_of_lt (oldc x d q))]; exact I.freeC x d q
 · exact I.hok.laid kp (Nat.le_refl _) ⟨Nat.zero_le _, [], 0, .nil, hD⟩
 · rw [List.length_append]
   unfold nR
   rw [List.length_map, show (aT X s H scope N fp).N = N from rfl, c.len]
   rfl
end
end Ev
namespace Ev
open PySem PySem.Spec PyProof.Rows L2
noncomputable def PTs (X : Cx) (ifs : List Expr) (t : TT) : Prop :=
 ∀ (pins : List (Addr × Obj)) (s : Shared) (σ : L2.St) (H : Hp) (Q : Bool → Hp → Prop), Inv X pins σ H s → t σ H Q →
   wpAny (model X.prog X.w) X.A (forIn ifs true fun c r => if r = true then do let ok ← isTrue c X.env (eval c X.env); pure (ForInStep.yield ok) else pure (ForInStep.yield r)) (TP X pins σ Q) X.xe s
section
variable {prog : Program} {w : World} {A : Around} {R : Result → Shared → Prop} {s : Shared}
theorem pE {elt target iter : Expr} {ifs : List Expr} {scope : Scope} {pos : Pos} {it acc : Value} {env : PySem.Env} (Iv : Nat → Shared → Prop)
   (step : ∀ n s, Iv n s → wpAny (model prog w) A (pyNext it) (fun r s₁ => match r with
     | none => R (.ok .next) s₁
     | some v => wpAny (model prog w) A (letOwnedTupleGo target it v) (fun _ s₀ => wpAny (model prog w) A (assign target env v) (fun _ s₂ =>
         wpAny (model prog w) A (forIn ifs true fun c r => if r = true then do let ok ← isTrue c env (eval c env); pure (ForInStep.yield ok) else pure (ForInStep.yield r)) (fun ok s₃ =>
           if ok = true then wpAny (model prog w) A (eval elt env) (fun x s₄ =>
             wpAny (model prog w) A (call (.builtin "list.append") [acc, x]) (fun _ s₅ => ∃ m, m < n ∧ Iv m s₅) (fun _ _ => False) s₄) (fun _ _ => False) s₃
           else ∃ m, m < n ∧ Iv m s₃) (fun _ _ => False) s₂) (fun _ _ => False) s₀) (fun _ _ => False) s₁) (fun _ _ => False) s)
   (n : Nat) (h : Iv n s) : codeAny (model prog w) A (.compLoop (.ListComp elt [⟨target, iter, ifs, 0⟩] scope pos) 0 it acc env) R s := by
 have no : ∀ {α : Type} {t : Sem α} {Q : α → Shared → Prop} {s : Shared} {E : Value → Shared → Prop}, wpAny (model prog w) A t Q (fun _ _ => False) s → wpAny (model prog w) A t Q E s := fun h => wpAny_mono h (fun _ _ q => q) fun _ _ q => q.elim
 refine codeAny_loop rfl Iv (fun n s hI => ?_) n h
 show wpAny _ A (Sem.onRaise (compTurn (.ListComp elt [⟨target, iter, ifs, 0⟩] scope pos) 0 it acc env) (fun x => do noteFrame x env; theTreesLotGoes x)) _ _ s
 refine wpAny_noted ?_
 rw [compTurn_list]
 refine wpAny_bind (wpAny_standAt (wpAny_bind (thn (no (step n s hI)) fun r s₁ h₁ => ?_)))
 cases r with
 | none => exact wpAny_pure h₁
 | some v =>
   refine wpAny_bind (thn (no h₁) fun _ s₀ h₀ => wpAny_bind (thn (no h₀) fun _ s₂ h₂ => wpAny_bind (thn (no h₂) fun ok s₃ h₃ => ?_)))
   cases ok with
   | false => exact wpAny_pure ⟨rfl, h₃⟩
   | true => exact wpAny_bind (wpAny_bind (thn (no h₃) fun x s₄ h₄ => wpAny_bind (thn (no h₄) fun _ s₅ h₅ => wpAny_pure (wpAny_pure ⟨rfl, h₅⟩))))
end
noncomputable def oA (In : TG → TT → TE → Prop) (caps : List (Option Nat)) (wi : TI) : TE := fun σ H Q => wi σ H fun J H1 => ∃ g tt te, In g tt te ∧ ∀ D, H1 D = none →
 ∃ Z : Nat → Nat → L2.St → Hp → Prop, (∃ m, Z 0 m (nR σ caps ++ [some (.ref D)]) (upd H1 D (.lst []))) ∧ ∀ i m σ' H', Z i m σ' H' →
   (J.stop i H' ∧ Q (.ref D) H') ∨ (J.go i H' ∧ ∀ x H2, J.yld i H' x H2 → g x σ' H2 fun σ2 H3 => tt σ2 H3 fun b H4 =>
     if b = true then te σ2 H4 fun v H5 => ∃ vs m', H5 D = some (.lst vs) ∧ vs.length < sizeLine ∧ m' < m ∧ Z (i + 1) m' σ2 (upd H5 D (.lst (vs ++ [v]))) else ∃ m', m' < m ∧ Z (i + 1) m' σ2 H4)
theorem mP {X : Cx} {elt tg iter : Expr} {ifs : List Expr} {scope : Scope} {N : List Str} {caps : List (Option Nat)} {pos : Pos} {wi : TI} {In : TG → TT → TE → Prop} (hc : X.calm = true) (c : lO X scope N caps) (hi : PI X tg iter wi)
   (hs : ∀ x, foldedSetIterable iter X.env x = pure x)
   (hin : ∀ g tt te, In g tt te → ∀ s H fp, PG (aT X s H scope N fp) tg g ∧ PTs (aT X s H scope N fp) ifs tt ∧ PE (aT X s H scope N fp) elt te) :
   PE X (.ListComp elt [⟨tg, iter, ifs, 0⟩] scope pos) (oA In caps wi) := by
 intro pins s σ H Q I h
 rw [eval_ListComp]
 have hcl := zA (lh I c)
 refine wpAny_comprehension_free (use := none) (g := ⟨tg, iter, ifs, 0⟩) (gs := []) rfl hs hcl c.kind c.loc ?_
 show wpAny _ _ (eval iter X.env) _ _ s
 refine thn (hi pins s σ H _ I h) fun v s1 h1 => thn h1 fun itv s2 h2 => ?_
 obtain ⟨it, fp, tn, J, H2, e, I2, T, st2, f2, g, tt, te, hI, q⟩ := h2
 subst e
 obtain ⟨Z, ⟨m0, z0⟩, turn⟩ := q s2.heap.objs.size (I2.hok.fresh (Nat.le_refl _))
 have ho : ∀ b ∈ fp, ∃ o, s2.heap.get? b = some o := fun b hb => let ⟨o, e, _⟩ := T.obj _ _ st2 b hb; ⟨o, e⟩
 have I4 := wu (scope := scope) (N := N) (caps := caps) I2 f2 ho c
 obtain ⟨hg, ht, he⟩ := hin g tt te hI s2 H2 fp
 refine wpAny_newObj_type (rT ?_) (by show 0 ≤ sizeLine; decide)
 have hC : (s2.heap.push { cls := .type "list", dict := none, data := .seq ([] : List Value).toArray }).objs.size = s2.heap.objs.size + 1 := Heap.size_push ..
 dsimp only
 rw [hC]
 have kp : ∀ b o, s2.heap.get? b = some o → (pushCells ((s2.heap.push { cls := .type "list", data := .seq ([] : List Value).toArray }).push { cls := .type "dict", data := .dict #[] }) scope.names).get? b = some o := fun b o e =>
   pushCells_keeps _ _ b o (Heap.get?_push_of_some _ (Heap.get?_push_of_some _ e))
 have st4 : tn 0 (pushCells ((s2.heap.push { cls := .type "list", data := .seq ([] : List Value).toArray }).push { cls := .type "dict", data := .dict #[] }) scope.names) := T.keep _ _ _ st2 fun b _ o e => kp b o e
 have stat : ∀ {H' : Hp}, (∀ b ∈ fp, H' b = none) → ∀ b ∈ fp, q9 (aT X s2 H2 scope N fp) [] H' b := fun hn b hb =>
   ⟨hn b hb, (I4.ok.exf b hb).1, I4.ok.exfs b hb, .inl hb, (I4.ok.exf b hb).2, fun p hp => absurd (show p ∈ ([] : List (Addr × Obj)) from hp) (by simp)⟩
 have fr4 : ∀ b ∈ fp, (upd H2 s2.heap.objs.size (.lst [])) b = none := fun b hb => by
   obtain ⟨o, e⟩ := ho b hb
   rw [aB (Nat.ne_of_lt (Heap.lt_size e))]; exact (f2 b hb).1
 have loop : codeAny (model X.prog X.w) X.A (.compLoop (.ListComp elt [⟨tg, iter, ifs, 0⟩] scope pos) 0 (.ref it) (.ref s2.heap.objs.size) (aT X s2 H2 scope N fp).env)
     (compPost (model X.prog X.w) X.A X.xe none (EP X pins σ Q) (.ref s2.heap.objs.size) (s2.heap.objs.size + 1))
     { s2 with heap := pushCells ((s2.heap.push { cls := .type "list", data := .seq ([] : List Value).toArray }).push { cls := .type "dict", data := .dict #[] }) scope.names } := by
   refine pE (fun n s' => ∃ i σ' H', Inv (aT X s2 H2 scope N fp) [] σ' H' s' ∧ tn i s'.heap ∧ (∀ b ∈ fp, H' b = none) ∧ Z i n σ' H') ?_ m0 ⟨0, _, _, I4, st4, fr4, z0⟩
   rintro n s3 ⟨i, σ3, H3, I3, st3, fr3, w3⟩
   rcases turn i n σ3 H3 w3 with ⟨stop, qn⟩ | ⟨go, step⟩
   · refine thn (T.done (aT X s2 H2 scope N fp) rfl rfl rfl hc i [] s3 σ3 H3 _ I3 (stat fr3) st3 stop) fun r s5 ⟨hr, I5⟩ => ?_
     subst hr
     obtain ⟨m, hn, _⟩ := id I5.loc
     refine ⟨m, hn, fun h' sb => ⟨.ref s2.heap.objs.size, H3, ?_, rfl, qn⟩⟩
     have lt : ∀ b o, s2.heap.get? b = some o → b ≠ s2.heap.objs.size + 1 := fun b o e => Nat.ne_of_lt (Nat.lt_succ_of_lt (Heap.lt_size e))
     have u := I5.base
     have u' : Un (frs X.stack) fp H2 H3 s2.heap h' := ⟨fun b o e n1 n2 n3 => (sb.2 b (lt b o e)).trans (u.keep b o e n1 n2 n3), fun b o e n1 n2 n3 => let ⟨sl, z⟩ := u.slot b o e n1 n2 n3; ⟨sl, (sb.2 b (lt b o e)).trans z⟩,
       u.free, fun b o e n1 => let ⟨o', z⟩ := u.there b o e n1; ⟨o', (sb.2 b (lt b o e)).trans z⟩, u.tups, u.frzs, u.tbls⟩
     have fC : H3 (s2.heap.objs.size + 1) = none := I5.free
     refine I2.FK (s' := { s5 with heap := h' }) I5.os u' (fun b o e => (I5.hok b o e).lJ (fun d v hd z => (sb.2 d ?_).trans z) (fun _ z => z) fun _ _ z => z) I5.bare fun b hb => ⟨(f2 b hb).2.2.2.1, (f2 b hb).2.1, (f2 b hb).2.2.2.2.1, (f2 b hb).2.2.2.2.2⟩
     rcases hd with hd | hd
     · rw [hd]; exact aH e fC
     · exact aH hd fC
   · refine thn (T.item (aT X s2 H2 scope N fp) rfl rfl rfl hc i [] s3 σ3 H3 _ I3 (stat fr3) st3 go) fun r s4 ⟨u, hr, h4⟩ => ?_
     subst hr
     refine thn h4 fun _ s5 ⟨x, H5, I5, r5, y5, st5, fr5⟩ => ?_
     have I5' := I5.pinned (stat fr5) (T.obj _ _ st5)
     refine thn (hg _ s5 σ3 H5 x u _ I5' r5 (step x H5 y5)) fun _ s6 ⟨σ6, H6, I6, q6⟩ => ?_
     have again : ∀ {s7 : Shared} {σ7 : L2.St} {H7 : Hp} {m' : Nat}, Inv (aT X s2 H2 scope N fp) ([] ++ lB fp s5.heap) σ7 H7 s7 → m' < n → Z (i + 1) m' σ7 H7 →
         ∃ m, m < n ∧ ∃ i σ' H', Inv (aT X s2 H2 scope N fp) [] σ' H' s7 ∧ tn i s7.heap ∧ (∀ b ∈ fp, H' b = none) ∧ Z i m σ' H' := fun {s7 σ7 H7 m'} I7 hm z7 => by
       refine ⟨m', hm, i + 1, σ7, H7, I7.ja, T.keep _ _ _ st5 fun b hb o e => (I7.pin (b, o) (List.mem_append_right _ (List.mem_append_right _ (e8 hb e)))).1, fun b hb => ?_, z7⟩
       obtain ⟨o, e, d⟩ := T.obj _ _ st5 b hb
       exact (I7.pin (b, o) (List.mem_append_right _ (List.mem_append_right _ (e8 hb e)))).2.1
     refine thn (ht _ s6 σ6 H6 _ I6 q6) fun ok s7 ⟨H7, I7, q7⟩ => ?_
     cases ok with
     | false =>
       rw [if_neg (by decide)] at q7
       obtain ⟨m', hm, z7⟩ := q7
       exact again I7 hm z7
     | true =>
       rw [if_pos rfl] at q7
       refine thn (he _ s7 σ6 H7 _ I7 q7) fun v' s8 ⟨v, H8, I8, r8, vs, m', q8, l8, hm, z8⟩ => ?_
       refine thn (n8 (X := aT X s2 H2 scope N fp) _ s8 σ6 H8 (.ref s2.heap.objs.size) [v] (.ref s2.heap.objs.size) [v'] (fun _ H9 => H9 = upd H8 s2.heap.objs.size (.lst (vs ++ [v]))) I8 rfl (.cons r8 .nil) ⟨_, vs, v, rfl, rfl, q8, l8, rfl⟩) fun _ s9 ⟨_, H9, I9, _, e9⟩ => ?_
       subst e9
       exact again I9 hm z8
 exact codeAny_compStart_list loop (T.self _ 0 _ _ _ st4 loop)
end Ev
namespace Ev
open PySem PySem.Spec PyProof.Rows L2
noncomputable def slot : List Str → Str → Option Nat
 | [], _ => none
 | y :: r, x => if y = x then some 0 else (slot r x).map (· + 1)
theorem slot_get : ∀ {N : List Str} {x : Str} {i : Nat}, slot N x = some i → N[i]? = some x
 | [], _, _, h => by cases h
 | y :: r, x, i, h => by
   unfold slot at h
   split at h
   · rename_i e; cases h; rw [e]; rfl
   · cases q : slot r x with
     | none => rw [q] at h; cases h
     | some j =>
       rw [q] at h; cases h
       show (y :: r)[j + 1]? = some x
       rw [List.getElem?_cons_succ]; exact slot_get q
noncomputable def iZ (sc : Scope) (x : Str) : Bool := match sc.names.lookup x with
 | some .local => true
 | some .cell => true
 | _ => false
noncomputable def jU (sc : Scope) (x : Str) : Bool := match sc.names.lookup x with
 | some .globalImplicit => true
 | _ => false
theorem j8 {sc : Scope} {x : Str} (h : iZ sc x = true) : sc.names.lookup x = some .local ∨ sc.names.lookup x = some .cell := by
 unfold iZ at h
 split at h
 · exact .inl (by assumption)
 · exact .inr (by assumption)
 · cases h
theorem mL {sc : Scope} {x : Str} (h : jU sc x = true) : sc.names.lookup x = some .globalImplicit := by
 unfold jU at h
 split at h
 · assumption
 · cases h
noncomputable def jq (scope sc : Scope) : Scope := { scope with names := scope.names.map fun (n, k) => if (k == .free && sc.kind == .function && sc.names.lookup n == some .cell) then (n, .cell) else (n, k) }
theorem gc {scope sc : Scope} {env : PySem.Env} (h : env.scope = sc) : relabel scope env = jq scope sc := by
 subst h; rfl
noncomputable def j7 (scope : Scope) : List Str := (scope.names.filter fun p => (p.2 == .local || p.2 == .cell || p.2 == .free) && p.1 != (".0" : Str)).map (·.1)
section
variable {X : Cx} {k : Nat} {H₀ : Hp}
theorem ni {sc : Scope} {x : Str} (h : sc.names.lookup x = some .local ∨ sc.names.lookup x = some .cell) : Vis sc x := h.elim .inl fun z => .inr (.inl z)
theorem aR.ok {i j : Int} (h : aR i j) : IntMulOk i j := by
 have b : ∀ {k : Int} {n : Nat}, k.natAbs.log2 < n → Builtin.Int.intBits k ≤ n := fun {k n} q => by
   unfold Builtin.Int.intBits
   split
   · exact Nat.zero_le _
   · exact q
 rcases h with h | h | ⟨h1, h2⟩
 · exact .of_left (b h)
 · exact .of_right (b h)
 · exact .of_bits (Nat.le_trans (b h1) (by decide)) (Nat.le_trans (b h2) (by decide))
theorem Di : OpR X (binaryOp .FloorDiv) (rI (fun _ j => aY j) fun i j => .int (i.fdiv j)) := opI fun _ _ _ _ _ _ _ hc q => floordiv_int hc.1 q (.inl (PyProof.noPylong_of_log2 hc.2))
theorem Ew : OpR X (binaryOp .Mult) (rI aR fun i j => .int (i * j)) := opI fun _ _ _ _ _ _ _ hc q => mul_int q hc.ok
theorem EC : OpR X (binaryOp .Add) (rI (fun _ _ => True) fun i j => .int (i + j)) := opI fun _ _ _ _ _ _ _ _ q => add_int q
theorem Eg : OpR X (binaryOp .Sub) (rI (fun _ _ => True) fun i j => .int (i - j)) := opI fun _ _ _ _ _ _ _ _ q => sub_int q
theorem EK : OpR X (binaryOp .BitAnd) (rI (fun _ _ => True) fun i j => .int (Builtin.bitAnd i j)) := opI fun _ _ _ _ _ _ _ _ q => and_int q
theorem pq : OpR X (binaryOp .Add) (fun x y H Q => ∃ l b xs zs, x = .ref l ∧ y = .ref b ∧ SqL X.K H l xs ∧ SqL X.K H b zs ∧ xs.length + zs.length ≤ sizeLine ∧ ∀ p, H p = none → Q (.ref p) (upd H p (.lst (xs ++ zs)))) := by
 intro pins s σ H x y v u Q I rx ry h
 obtain ⟨l, b, xs, zs, rfl, rfl, hH, hB, hz, q⟩ := h
 cases rx
 cases ry
 obtain ⟨its, r, pl, _⟩ := I.list hH
 obtain ⟨its2, r2, pl2, _⟩ := I.list hB
 have hl := r.length
 have hl2 := r2.length
 obtain ⟨⟨cls, dd, data, sl⟩, ho, hc, n, hd⟩ := pl.isList
 obtain ⟨⟨cls2, dd2, data2, sl2⟩, ho2, hc2, n2, hd2⟩ := pl2.isList
 simp only at hc hd hc2 hd2
 subst hc hd hc2 hd2
 have e : its.toArray ++ its2.toArray = (its ++ its2).toArray := by simp
 refine concat_meets ⟨_, ho, rfl⟩ ⟨_, ho2, rfl⟩ noFill_list_add seq_list_add PySem.F.slot_list_add PySem.F.entry_list_add (PySem.F.args_list_add_2 _ _) (list_addW l b its.toArray its2.toArray n n2 dd dd2 sl sl2 (by rw [List.size_toArray, List.size_toArray]; omega)) ⟨ho, ho2, ?_⟩
 rw [e]
 exact ⟨.ref _, _, I.Lw (t' := s.toks) (r.append r2) (by rw [List.length_append]; omega), rfl, q _ I.fresh⟩
theorem cb : ai < sizeLine := by decide
end
end Ev
namespace Ev
open PySem PySem.Spec PyProof.Rows L2
section
variable {X : Cx} {k : Nat} {H₀ : Hp}
end
end Ev
namespace Ev
open PySem PySem.Spec PyProof.Rows L2
section
variable {X : Cx} {k : Nat} {H₀ : Hp}
end
end Ev
namespace Sv
open PySem PySem.Spec PyProof.Rows L2
open Ev (D aR aY ai)
inductive U where
 | non | bl (b : Bool) | int (i : Int) | str (x : Str) | tup (xs : List U) | loc (l : Nat) | exo (c : Nat) | kl (xs : List U)
 deriving Inhabited
noncomputable abbrev Sto := List (Bool × List U)
noncomputable abbrev Env := List (Option U)
inductive Rs (α : Type) where
 | ok (a : α) (st : Sto) | exc (c : Nat) (st : Sto) | bad
noncomputable def Rs.bind {α β : Type} : Rs α → (α → Sto → Rs β) → Rs β
 | .ok a st, f => f a st
 | .exc c st, _ => .exc c st
 | .bad, _ => .bad
noncomputable def Rs.noX {α : Type} : Rs α → Rs α
 | .exc _ _ => .bad
 | x => x
theorem Rs.aa {α β : Type} (a : α) (st : Sto) (f : α → Sto → Rs β) : (Rs.ok a st).bind f = f a st := rfl
theorem bL {α : Type} {x : α} {p : Prop} (h : (none : Option α) = some x) : p := by cases h
noncomputable def uI {α β : Type} (f : α → Option β) : List α → Option (List β)
 | [] => some []
 | x :: xs => (f x).bind fun y => (uI f xs).map (y :: ·)
noncomputable def rsv (st : Sto) : Nat → U → Option D
 | _, .non => some .non
 | _, .bl b => some (.bl b)
 | _, .int i => some (.int i)
 | _, .str x => some (.str x)
 | n + 1, .tup xs => (uI (rsv st n) xs).map .tup
 | n + 1, .kl xs => (uI (rsv st n) xs).map .lst
 | n + 1, .loc l => match st[l]? with | some (_, xs) => (uI (rsv st n) xs).map .lst | none => none
 | _, _ => none
inductive Op2 where
 | add | sub | mul | fdiv | mod | pow | shr | shl | band | bor
inductive Cm where
 | eq | ne | lt | le | gt | ge | isin
inductive Ty where
 | int | bool | tuple | list | str
inductive Bi where
 | len | abs | max | min | int | list | tuple | all | rev
inductive Tg where
 | nm (i : Nat) | tp (is : List Nat)
mutual
inductive E where
 | var (i : Nat)
 | cN | cB (b : Bool) | cI (i : Int) | cS (x : Str)
 | op (o : Op2) (a b : E)
 | neg (a : E) | not (a : E)
 | cmp (o : Cm) (a b : E)
 | chain (o o' : Cm) (a b c : E)
 | and (a b : E) | or (a b : E)
 | ite (c a b : E)
 | tup (es : List E) | lst (es : List E)
 | ix (a i : E)
 | sl (a lo hi : E)
 | call (f : Nat) (es : List E)
 | bi (b : Bi) (es : List E)
 | isi (a : E) (t : Ty)
 | isB (neg : Bool) (a : E) (b : Bool)
 | isN (neg : Bool) (a : E)
 | comp (caps : List (Option Nat)) (t : Tg) (it : It) (ifs : List E) (elt : E)
inductive It where
 | seq (e : E) | rng (e : E) | rng2 (a b : E) | enu (e : E) | zip (a b : E)
end
instance : Inhabited E := ⟨.cN⟩
noncomputable def new (st : Sto) (xs : List U) : Rs U := .ok (.loc st.length) (st ++ [(false, xs)])
noncomputable def uv (st : Sto) : U → Option (List U)
 | .loc l => (st[l]?).map (·.2)
 | .kl xs => some xs
 | _ => none
noncomputable def seq? (st : Sto) : U → Option (List U)
 | .loc l => (st[l]?).map (·.2)
 | .kl xs => some xs
 | .tup xs => some xs
 | _ => none
noncomputable def ev2 : Op2 → U → U → Sto → Rs U
 | .add, .int i, .int j, st => .ok (.int (i + j)) st
 | .add, .tup xs, .tup ys, st => if xs ≠ [] ∧ xs.length + ys.length < ai then .ok (.tup (xs ++ ys)) st else .bad
 | .add, .str x, .str y, st => if x.length + y.length < ai then .ok (.str (x ++ y)) st else .bad
 | .add, .loc a, .loc b, st => match st[a]?, st[b]? with
   | some (_, xs), some (_, ys) => if xs.length + ys.length < ai then new st (xs ++ ys) else .bad
   | _, _ => .bad
 | .add, .kl xs, .loc b, st => match st[b]? with
   | some (_, ys) => if xs.length + ys.length < ai then new st (xs ++ ys) else .bad
   | _ => .bad
 | .add, .loc a, .kl ys, st => match st[a]? with
   | some (_, xs) => if xs.length + ys.length < ai then new st (xs ++ ys) else .bad
   | _ => .bad
 | .add, .kl xs, .kl ys, st => if xs.length + ys.length < ai then new st (xs ++ ys) else .bad
 | .sub, .int i, .int j, st => .ok (.int (i - j)) st
 | .mul, .int i, .int j, st => if aR i j then .ok (.int (i * j)) st else .bad
 | .fdiv, .int i, .int j, st => if aY j then .ok (.int (i.fdiv j)) st else .bad
 | .mod, .int i, .int j, st => if j ≠ 0 then .ok (.int (i.fmod j)) st else .bad
 | .pow, .int i, .int j, st => if 0 ≤ j ∧ j ≤ 1000000 ∧ i.natAbs < 2 ^ 64 then .ok (.int (i ^ j.toNat)) st else .bad
 | .shr, .int i, .int j, st => if 0 ≤ j then .ok (.int (i / 2 ^ j.toNat)) st else .bad
 | .shl, .int i, .int j, st => if 0 ≤ j ∧ j ≤ 1000000 ∧ i.natAbs < 2 ^ 64 then .ok (.int (i * 2 ^ j.toNat)) st else .bad
 | .band, .int i, .int j, st => .ok (.int (Builtin.bitAnd i j)) st
 | .bor, .int i, .int j, st => .ok (.int (Builtin.bitOr i j)) st
 | _, _, _, _ => .bad
noncomputable def oO : List U → Option (List Str)
 | [] => some []
 | .str x :: r => (oO r).map (x :: ·)
 | _ => none
noncomputable def evC : Cm → U → U → Sto → Option Bool
 | .eq, x, y, st => match rsv st 64 x, rsv st 64 y with | some a, some b => if Ev.xf a ∧ Ev.xf b then some (Ev.eqD a b) else none | _, _ => none
 | .ne, x, y, st => match rsv st 64 x, rsv st 64 y with | some a, some b => if Ev.xf a ∧ Ev.xf b then some (!Ev.eqD a b) else none | _, _ => none
 | .lt, .int i, .int j, _ => some (decide (i < j))
 | .le, .int i, .int j, _ => some (decide (i ≤ j))
 | .gt, .int i, .int j, _ => some (decide (j < i))
 | .ge, .int i, .int j, _ => some (decide (j ≤ i))
 | .isin, .str x, .tup ys, _ => (oO ys).map fun l => l.any (· == x)
 | _, _, _, _ => none
noncomputable def ofO : Option Bool → Sto → Rs U
 | some b, st => .ok (.bl b) st
 | none, _ => .bad
noncomputable def AA : Ty → U → Bool
 | .int, .int _ => true
 | .int, .bl _ => true
 | .bool, .bl _ => true
 | .tuple, .tup _ => true
 | .list, .loc _ => true
 | .list, .kl _ => true
 | .str, .str _ => true
 | _, _ => false
noncomputable def allB : List U → Option Bool
 | [] => some true
 | .bl b :: r => (allB r).map (b && ·)
 | _ => none
noncomputable def BD (xs : List U) (lo hi : Option Int) : List U := (xs.drop (HT.sIx xs.length 0 lo)).take (HT.sIx xs.length xs.length hi - HT.sIx xs.length 0 lo)
noncomputable def xY : E → U → Option (Option Int)
 | .cN, _ => some none
 | _, .int i => some (some i)
 | _, _ => none
noncomputable def Fp (x : U) (lo hi : Option Int) (st : Sto) : Rs U := match uv st x with
 | some xs => new st (BD xs lo hi)
 | none => .bad
noncomputable def Al (b : Bool) : U → Bool
 | .bl c => c == b
 | _ => false
noncomputable def Aa : U → Bool
 | .non => true
 | _ => false
noncomputable def pY : List U → Option (List Int)
 | [] => some []
 | .int i :: r => (pY r).map (i :: ·)
 | _ => none
noncomputable def xK (a : Int) (as : List Int) : Int := as.foldl (fun m x => if m < x then x else m) a
noncomputable def ofM : Option (List Int) → Sto → Rs U
 | some (a :: as), st => .ok (.int (xK a as)) st
 | _, _ => .bad
noncomputable def evB : Bi → List U → Sto → Rs U
 | .len, [x], st => match seq? st x with | some xs => .ok (.int xs.length) st | none => .bad
 | .abs, [.int i], st => .ok (.int (if i < 0 then -i else i)) st
 | .max, [.int i, .int j], st => .ok (.int (if j > i then j else i)) st
 | .max, [x], st => match uv st x with | some xs => ofM (pY xs) st | none => .bad
 | .min, [.int i, .int j], st => .ok (.int (if j < i then j else i)) st
 | .int, [.int i], st => .ok (.int i) st
 | .int, [.bl b], st => .ok (.int (if b then 1 else 0)) st
 | .list, [x], st => match seq? st x with | some xs => new st xs | none => .bad
 | .tuple, [x], st => match seq? st x with | some xs => .ok (.tup xs) st | none => .bad
 | .all, [x], st => match uv st x with | some xs => ofO (allB xs) st | none => .bad
 | .rev, [x], st => match uv st x with | some xs => new st xs.reverse | none => .bad
 | _, _, _ => .bad
noncomputable def evI (x y : U) (st : Sto) : Rs U := match seq? st x, y with
 | some xs, .int i => match atI xs i with | some d => .ok d st | none => .bad
 | _, _ => .bad
noncomputable def t8 (ρ : Env) (i : Nat) (st : Sto) : Rs U := match ρ[i]? with | some (some d) => .ok d st | _ => .bad
noncomputable def lr : List Nat → List U → Env → Option Env
 | [], [], ρ => some ρ
 | i :: is, x :: xs, ρ => lr is xs (ρ.set i (some x))
 | _, _, _ => none
noncomputable def iD : Tg → U → Env → Option Env
 | .nm i, d, ρ => some (ρ.set i (some d))
 | .tp is, .tup xs, ρ => lr is xs ρ
 | _, _, _ => none
inductive Sq where
 | vals (xs : List U) | lst (l : Nat) | enu (l : Nat) | zip (p q : Sq)
noncomputable def JV : Option U → Option U → Option U
 | some x, some y => some (.tup [x, y])
 | _, _ => none
noncomputable def Sq.at : Sq → Sto → Nat → Option (Option U)
 | .vals xs, _, i => some xs[i]?
 | .lst l, st, i => (st[l]?).map fun o => o.2[i]?
 | .enu l, st, i => (st[l]?).map fun o => (o.2[i]?).map fun x => .tup [.int (i : Nat), x]
 | .zip p q, st, i => (p.at st i).bind fun o => (q.at st i).map fun o' => JV o o'
noncomputable def Sq.len : Sq → Sto → Nat
 | .vals xs, _ => xs.length
 | .lst l, st => ((st[l]?).map fun o => o.2.length).getD 0
 | .enu l, st => ((st[l]?).map fun o => o.2.length).getD 0
 | .zip p q, st => min (p.len st) (q.len st)
noncomputable def src (st : Sto) : U → Option Sq
 | .loc l => if l < st.length then some (.lst l) else none
 | .kl xs => some (.vals xs)
 | _ => none
noncomputable def La : Option Sq → Option Sq → Sto → Rs Sq
 | some p, some q, st => .ok (.zip p q) st
 | _, _, _ => .bad
noncomputable def uY (k : Nat) : List U → List U
 | [] => []
 | x :: xs => .tup [.int (k : Nat), x] :: uY (k + 1) xs
noncomputable def la (lo : Int) (n : Nat) : List U := (List.range n).map fun k => U.int (lo + (k : Nat))
noncomputable def kL (ρ : Env) (caps : List (Option Nat)) : Env := caps.map fun o => o.bind fun i => (ρ[i]?).join
noncomputable def lL (f : U → Sto → Rs (Option U)) (q : Sq) : Nat → Nat → Sto → Rs (List U)
 | 0, _, _ => .bad
 | n + 1, i, st => match q.at st i with
   | none => .bad
   | some none => .ok [] st
   | some (some x) => (f x st).bind fun o st1 => (lL f q n (i + 1) st1).bind fun ys st2 => .ok (match o with | some y => y :: ys | none => ys) st2
noncomputable abbrev Fn := Nat → List U → Sto → Rs U
mutual
noncomputable def xE (Φ : Fn) : E → Env → Sto → Rs U
 | .var i, ρ, st => t8 ρ i st
 | .cN, _, st => .ok .non st
 | .cB b, _, st => .ok (.bl b) st
 | .cI i, _, st => .ok (.int i) st
 | .cS x, _, st => .ok (.str x) st
 | .op o a b, ρ, st => (xE Φ a ρ st).bind fun x st1 => (xE Φ b ρ st1).bind fun y st2 => ev2 o x y st2
 | .neg a, ρ, st => (xE Φ a ρ st).bind fun x st1 => match x with | .int i => .ok (.int (-i)) st1 | _ => .bad
 | .not a, ρ, st => (xE Φ a ρ st).bind fun x st1 => match x with | .bl b => .ok (.bl (!b)) st1 | _ => .bad
 | .cmp o a b, ρ, st => (xE Φ a ρ st).bind fun x st1 => (xE Φ b ρ st1).bind fun y st2 => ofO (evC o x y st2) st2
 | .chain o o' a b c, ρ, st => (xE Φ a ρ st).bind fun x st1 => (xE Φ b ρ st1).bind fun y st2 => match evC o x y st2 with
   | some true => (xE Φ c ρ st2).bind fun u st3 => ofO (evC o' y u st3) st3
   | some false => .ok (.bl false) st2
   | none => .bad
 | .and a b, ρ, st => (xE Φ a ρ st).bind fun x st1 => match x with | .bl true => xE Φ b ρ st1 | .bl false => .ok (.bl false) st1 | _ => .bad
 | .or a b, ρ, st => (xE Φ a ρ st).bind fun x st1 => match x with | .bl true => .ok (.bl true) st1 | .bl false => xE Φ b ρ st1 | _ => .bad
 | .ite c a b, ρ, st => (xE Φ c ρ st).bind fun x st1 => match x with | .bl true => xE Φ a ρ st1 | .bl false => xE Φ b ρ st1 | _ => .bad
 | .tup es, ρ, st => (xEs Φ es ρ st).bind fun xs st1 => if xs.length < ai then .ok (.tup xs) st1 else .bad
 | .lst es, ρ, st => (xEs Φ es ρ st).bind fun xs st1 => if xs.length < ai then new st1 xs else .bad
 | .ix a i, ρ, st => (xE Φ a ρ st).bind fun x st1 => (xE Φ i ρ st1).bind fun y st2 => evI x y st2
 | .sl a l h, ρ, st => (xE Φ a ρ st).bind fun x st1 => (xE Φ l ρ st1).bind fun y st2 => match xY l y with
   | none => .bad
   | some lo => (xE Φ h ρ st2).bind fun z st3 => match xY h z with | none => .bad | some hi => Fp x lo hi st3
 | .call f es, ρ, st => (xEs Φ es ρ st).bind fun xs st1 => Φ f xs st1
 | .bi b es, ρ, st => (xEs Φ es ρ st).bind fun xs st1 => evB b xs st1
 | .isi a t, ρ, st => (xE Φ a ρ st).bind fun x st1 => match x with | .exo _ => .bad | x => .ok (.bl (AA t x)) st1
 | .isB n a b, ρ, st => (xE Φ a ρ st).bind fun x st1 => .ok (.bl (n ^^ Al b x)) st1
 | .isN n a, ρ, st => (xE Φ a ρ st).bind fun x st1 => .ok (.bl (n ^^ Aa x)) st1
 | .comp caps t it ifs elt, ρ, st => (xIt Φ it ρ st).bind fun q st1 => if q.len st1 < ai then
     ((lL (fun x st => match iD t x (kL ρ caps ++ [none]) with
         | none => .bad
         | some ρ1 => (xIf Φ ifs ρ1 st).bind fun b st2 => if b then (xE Φ elt ρ1 st2).bind fun y st3 => .ok (some y) st3 else .ok none st2) q (q.len st1 + 1) 0 st1).bind fun ys st2 => new st2 ys).noX
   else .bad
noncomputable def xEs (Φ : Fn) : List E → Env → Sto → Rs (List U)
 | [], _, st => .ok [] st
 | e :: es, ρ, st => (xE Φ e ρ st).bind fun x st1 => (xEs Φ es ρ st1).bind fun xs st2 => .ok (x :: xs) st2
noncomputable def xIf (Φ : Fn) : List E → Env → Sto → Rs Bool
 | [], _, st => .ok true st
 | c :: cs, ρ, st => (xE Φ c ρ st).bind fun x st1 => match x with | .bl true => xIf Φ cs ρ st1 | .bl false => .ok false st1 | _ => .bad
noncomputable def xIt (Φ : Fn) : It → Env → Sto → Rs Sq
 | .seq e, ρ, st => (xE Φ e ρ st).bind fun x st1 => match x with | .loc l => (if l < st1.length then .ok (.lst l) st1 else .bad) | .tup xs => .ok (.vals xs) st1 | .kl xs => .ok (.vals xs) st1 | _ => .bad
 | .rng e, ρ, st => (xE Φ e ρ st).bind fun x st1 => match x with | .int j => if -(2 ^ 62) ≤ j ∧ j < 2 ^ 62 then .ok (.vals (la 0 j.toNat)) st1 else .bad | _ => .bad
 | .rng2 a b, ρ, st => (xE Φ a ρ st).bind fun x st1 => (xE Φ b ρ st1).bind fun y st2 => match x, y with
   | .int i, .int j => if (-(2 ^ 62) ≤ i ∧ i < 2 ^ 62) ∧ -(2 ^ 62) ≤ j ∧ j < 2 ^ 62 then .ok (.vals (la i (j - i).toNat)) st2 else .bad
   | _, _ => .bad
 | .enu e, ρ, st => (xE Φ e ρ st).bind fun x st1 => match x with | .loc l => (if l < st1.length then .ok (.enu l) st1 else .bad) | .kl xs => .ok (.vals (uY 0 xs)) st1 | _ => .bad
 | .zip a b, ρ, st => (xE Φ a ρ st).bind fun x st1 => (xE Φ b ρ st1).bind fun y st2 => La (src st2 x) (src st2 y) st2
end
inductive Lm where
 | append | extend | insert | pop | popAt | clear
inductive S where
 | set (t : Tg) (e : E)
 | put (a i e : E)
 | mth (m : Lm) (a : E) (es : List E)
 | ret (e : E) | retN
 | ite (c : E) (a b : List S)
 | for (t : Tg) (it : It) (body : List S)
 | while (c : E) (body : List S)
 | expr (e : E)
 | raise (c : Nat)
 | brk | cont | pas | nev
 deriving Inhabited
inductive Fl where
 | nx (ρ : Env) | rt (d : U) | bk (ρ : Env) | ct (ρ : Env)
noncomputable def evM : Lm → U → List U → Sto → Option Sto
 | .append, .loc l, [x], st => match st[l]? with | some (false, xs) => if xs.length < ai then some (st.set l (false, xs ++ [x])) else none | _ => none
 | .extend, .loc l, [.loc k], st => match st[l]?, st[k]? with
   | some (false, xs), some (false, ys) => if xs.length + ys.length < ai then some (st.set l (false, xs ++ ys)) else none
   | _, _ => none
 | .insert, .loc l, [.int i, x], st => match st[l]? with
   | some (false, xs) => if xs.length < ai ∧ 0 ≤ i ∧ i.toNat ≤ xs.length then some (st.set l (false, xs.insertIdx i.toNat x)) else none
   | _ => none
 | .pop, .loc l, [], st => match st[l]? with | some (false, xs) => if xs = [] then none else some (st.set l (false, xs.dropLast)) | _ => none
 | .popAt, .loc l, [.int i], st => match st[l]? with
   | some (false, xs) => if xs.length < ai then (L2.ixN xs.length i).map fun j => st.set l (false, xs.eraseIdx j) else none
   | _ => none
 | .clear, .loc l, [], st => match st[l]? with | some (false, _) => some (st.set l (false, [])) | _ => none
 | _, _, _, _ => none
noncomputable def evP (x y z : U) (st : Sto) : Option Sto := match x, y with
 | .loc l, .int i => match st[l]? with
   | some (false, xs) => (L2.ixN xs.length i).map fun j => st.set l (false, xs.set j z)
   | _ => none
 | _, _ => none
noncomputable def ofS : Option Sto → Env → Rs Fl
 | some st, ρ => .ok (.nx ρ) st
 | none, _ => .bad
noncomputable def loop (f : U → Env → Sto → Rs Fl) (q : Sq) : Nat → Nat → Env → Sto → Rs Fl
 | 0, _, _, _ => .bad
 | n + 1, i, ρ, st => match q.at st i with
   | none => .bad
   | some none => .ok (.nx ρ) st
   | some (some x) => (f x ρ st).bind fun r st1 => match r with
     | .nx ρ' => loop f q n (i + 1) ρ' st1
     | .ct ρ' => loop f q n (i + 1) ρ' st1
     | .bk ρ' => .ok (.nx ρ') st1
     | .rt d => .ok (.rt d) st1
noncomputable def oG (c : Env → Sto → Rs U) (f : Env → Sto → Rs Fl) : Nat → Env → Sto → Rs Fl
 | 0, _, _ => .bad
 | n + 1, ρ, st => (c ρ st).bind fun x st1 => match x with
   | .bl true => (f ρ st1).bind fun r st2 => match r with
     | .nx ρ' => oG c f n ρ' st2
     | .ct ρ' => oG c f n ρ' st2
     | .bk ρ' => .ok (.nx ρ') st2
     | .rt d => .ok (.rt d) st2
   | .bl false => .ok (.nx ρ) st1
   | _ => .bad
mutual
noncomputable def xS (Φ : Fn) (n : Nat) : S → Env → Sto → Rs Fl
 | .set t e, ρ, st => (xE Φ e ρ st).bind fun x st1 => match iD t x ρ with | some ρ' => .ok (.nx ρ') st1 | none => .bad
 | .put a i e, ρ, st => (xE Φ e ρ st).bind fun z st1 => (xE Φ a ρ st1).bind fun x st2 => (xE Φ i ρ st2).bind fun y st3 => ofS (evP x y z st3) ρ
 | .mth m a es, ρ, st => (xE Φ a ρ st).bind fun x st1 => match x with
   | .loc l => if l < st1.length then (xEs Φ es ρ st1).bind fun xs st2 => ofS (evM m (.loc l) xs st2) ρ else .bad
   | _ => .bad
 | .ret e, ρ, st => (xE Φ e ρ st).bind fun x st1 => .ok (.rt x) st1
 | .retN, _, st => .ok (.rt .non) st
 | .ite c a b, ρ, st => (xE Φ c ρ st).bind fun x st1 => match x with | .bl true => xSs Φ n a ρ st1 | .bl false => xSs Φ n b ρ st1 | _ => .bad
 | .for t it body, ρ, st => ((xIt Φ it ρ st).bind fun q st1 => loop (fun x ρ' st' => match iD t x ρ' with | some ρ2 => xSs Φ n body ρ2 st' | none => .bad) q (q.len st1 + 1) 0 ρ st1).noX
 | .while c body, ρ, st => (oG (fun ρ' st' => xE Φ c ρ' st') (fun ρ' st' => xSs Φ n body ρ' st') n ρ st).noX
 | .expr e, ρ, st => (xE Φ e ρ st).bind fun _ st1 => .ok (.nx ρ) st1
 | .raise c, _, st => .exc c st
 | .brk, ρ, st => .ok (.bk ρ) st
 | .cont, ρ, st => .ok (.ct ρ) st
 | .pas, ρ, st => .ok (.nx ρ) st
 | .nev, _, _ => .bad
noncomputable def xSs (Φ : Fn) (n : Nat) : List S → Env → Sto → Rs Fl
 | [], ρ, st => .ok (.nx ρ) st
 | s :: ss, ρ, st => (xS Φ n s ρ st).bind fun r st1 => match r with | .nx ρ' => xSs Φ n ss ρ' st1 | r => .ok r st1
end
noncomputable def run : Rs Fl → Rs U
 | .ok (.rt d) st => .ok d st
 | .ok (.nx _) st => .ok .non st
 | _ => .bad
noncomputable def J3 : U → Nat
 | .int i => i.natAbs
 | _ => 0
noncomputable def fuel : List U → Nat
 | [] => 1
 | d :: r => J3 d + fuel r
noncomputable def mk (Φ : Fn) (ir : List S) (np nl : Nat) (ds : List U) (st : Sto) : Rs U :=
 if ds.length = np then run (xSs Φ (fuel ds) ir (ds.map some ++ List.replicate (nl - np) none) st) else .bad
noncomputable def tab (fs : List (List U → Sto → Rs U)) (i : Nat) : List U → Sto → Rs U := fs.getD i fun _ _ => .bad
end Sv
namespace Sv
open PySem PySem.Spec PyProof.Rows L2
open Ev (D aR aY ai j2 kf eD)
structure Zt where
 K : PySem.W.Frag
 cl : Nat → Addr
noncomputable def LA (C a : Addr) (h : Heap) : Prop := ∃ o vs, h.get? a = some o ∧ o.cls = .ref C ∧ o.data = .fields vs ∧ vs[2]? = some .none
noncomputable def SqF (K : PySem.W.Frag) (H : Hp) (a : Addr) (vs : List V) : Prop := (∃ o, H a = some (.frz o (.lst vs))) ∨ SqL K (fun _ => none) a vs
theorem SqF.sq {K : PySem.W.Frag} {H : Hp} {a : Addr} {vs : List V} (h : SqF K H a vs) : SqL K H a vs := by
 rcases h with ⟨o, h⟩ | ((h | ⟨o, h⟩) | h)
 · exact .inl (.inr ⟨o, h⟩)
 · cases h
 · cases h
 · exact .inr h
mutual
inductive br (Z : Zt) (m : List Addr) (H : Hp) : V → U → Prop where
 | non : br Z m H .non .non
 | bl {b : Bool} : br Z m H (.bl b) (.bl b)
 | int {i : Int} : br Z m H (.int i) (.int i)
 | str {x : Str} : br Z m H (.str x) (.str x)
 | tup {a : Addr} {vs : List V} {ds : List U} (h : SqT Z.K H a vs) (r : ak Z m H vs ds) : br Z m H (.ref a) (.tup ds)
 | loc {a : Addr} {l : Nat} (h : m[l]? = some a) : br Z m H (.ref a) (.loc l)
 | exo {a : Addr} {c : Nat} (h : H a = some (.ext (LA (Z.cl c) a))) : br Z m H (.ref a) (.exo c)
 | kl {a : Addr} {vs : List V} {ds : List U} (h : SqF Z.K H a vs) (r : ak Z m H vs ds) : br Z m H (.ref a) (.kl ds)
inductive ak (Z : Zt) (m : List Addr) (H : Hp) : List V → List U → Prop where
 | nil : ak Z m H [] []
 | cons {v : V} {d : U} {vs : List V} {ds : List U} (h : br Z m H v d) (r : ak Z m H vs ds) : ak Z m H (v :: vs) (d :: ds)
end
structure Go (m : List Addr) (H : Hp) (m' : List Addr) (H' : Hp) : Prop where
 pre : m <+: m'
 kp : ∀ b o, H b = some o → (b ∉ m ∨ ∀ xs, o ≠ .lst xs) → H' b = some o
 tr : ∀ b, H' b = none → H b = none
 fr : ∀ (l : Nat) a, m.length ≤ l → m'[l]? = some a → H a = none
theorem Go.refl (m : List Addr) (H : Hp) : Go m H m H := ⟨List.prefix_refl m, fun _ _ h _ => h, fun _ h => h, fun l a hl e => by rw [List.getElem?_eq_none hl] at e; cases e⟩
theorem ky {m m' : List Addr} (h : m <+: m') {l : Nat} {a : Addr} (e : m[l]? = some a) : m'[l]? = some a := by
 obtain ⟨r, rfl⟩ := h
 rw [List.getElem?_append_left (List.getElem?_eq_some_iff.mp e).1]; exact e
theorem x9 {m m' : List Addr} (h : m <+: m') {l : Nat} {a : Addr} (q : l < m.length) (e : m'[l]? = some a) : m[l]? = some a := by
 have := ky h (List.getElem?_eq_getElem q)
 rw [e] at this
 rw [List.getElem?_eq_getElem q]; exact this.symm
theorem Go.trans {m m1 m2 : List Addr} {H H1 H2 : Hp} (g : Go m H m1 H1) (g' : Go m1 H1 m2 H2) : Go m H m2 H2 := by
 refine ⟨g.pre.trans g'.pre, fun b o h hn => ?_, fun b h => g.tr b (g'.tr b h), fun l a hl e => ?_⟩
 · refine g'.kp b o (g.kp b o h hn) ?_
   rcases hn with hn | hn
   · refine .inl fun hm => ?_
     obtain ⟨l, hl⟩ := List.getElem?_of_mem hm
     rcases Nat.lt_or_ge l m.length with q | q
     · exact hn (List.mem_of_getElem? (x9 g.pre q hl))
     · rw [g.fr l b q hl] at h; cases h
   · exact .inr hn
 · rcases Nat.lt_or_ge l m1.length with q | q
   · exact g.fr l a hl (x9 g'.pre q e)
   · exact g.tr a (g'.fr l a q e)
section
variable {Z : Zt} {m m' : List Addr} {H H' : Hp}
theorem goT (g : Go m H m' H') {a : Addr} {xs : List V} (h : SqT Z.K H a xs) : SqT Z.K H' a xs := by
 rcases h with (h | ⟨o, h⟩) | h
 · exact .inl (.inl (g.kp _ _ h (.inr fun _ z => nomatch z)))
 · exact .inl (.inr ⟨o, g.kp _ _ h (.inr fun _ z => nomatch z)⟩)
 · exact .inr h
theorem goF (g : Go m H m' H') {a : Addr} {xs : List V} (h : SqF Z.K H a xs) : SqF Z.K H' a xs := by
 rcases h with ⟨o, h⟩ | h
 · exact .inl ⟨o, g.kp _ _ h (.inr fun _ z => nomatch z)⟩
 · exact .inr h
mutual
theorem br.mono (g : Go m H m' H') : ∀ {v : V} {d : U}, br Z m H v d → br Z m' H' v d
 | _, _, .non => .non
 | _, _, .bl => .bl
 | _, _, .int => .int
 | _, _, .str => .str
 | _, _, .tup h r => .tup (goT g h) (ak.mono g r)
 | _, _, .loc h => .loc (ky g.pre h)
 | _, _, .exo h => .exo (g.kp _ _ h (.inr fun _ z => nomatch z))
 | _, _, .kl h r => .kl (goF g h) (ak.mono g r)
theorem ak.mono (g : Go m H m' H') : ∀ {vs : List V} {ds : List U}, ak Z m H vs ds → ak Z m' H' vs ds
 | _, _, .nil => .nil
 | _, _, .cons h r => .cons (br.mono g h) (ak.mono g r)
end
theorem ak.length : ∀ {vs : List V} {ds : List U}, ak Z m H vs ds → vs.length = ds.length
 | _, _, .nil => rfl
 | _, _, .cons _ r => congrArg (· + 1) r.length
theorem ak.get : ∀ {vs : List V} {ds : List U} {i : Nat} {d : U}, ak Z m H vs ds → ds[i]? = some d → ∃ v, vs[i]? = some v ∧ br Z m H v d
 | _, _, _, _, .nil, e => by simp at e
 | _, _, 0, _, .cons h _, e => by simp at e; subst e; exact ⟨_, rfl, h⟩
 | _, _, i + 1, d, .cons _ r, e => by
   obtain ⟨v, h1, h2⟩ := ak.get (i := i) (d := d) r (by simpa using e)
   exact ⟨v, by simpa using h1, h2⟩
theorem ak.append : ∀ {xs ys : List V} {ds es : List U}, ak Z m H xs ds → ak Z m H ys es → ak Z m H (xs ++ ys) (ds ++ es)
 | _, _, _, _, .nil, s => s
 | _, _, _, _, .cons h r, s => .cons h (ak.append r s)
theorem ak.take : ∀ {xs : List V} {ds : List U} (n : Nat), ak Z m H xs ds → ak Z m H (xs.take n) (ds.take n)
 | _, _, 0, _ => .nil
 | _, _, _ + 1, .nil => .nil
 | _, _, n + 1, .cons h r => .cons h (ak.take n r)
theorem ak.drop : ∀ {xs : List V} {ds : List U} (n : Nat), ak Z m H xs ds → ak Z m H (xs.drop n) (ds.drop n)
 | _, _, 0, r => r
 | _, _, _ + 1, .nil => .nil
 | _, _, n + 1, .cons _ r => ak.drop n r
theorem ak.set : ∀ {xs : List V} {ds : List U} (n : Nat) {v : V} {d : U}, ak Z m H xs ds → br Z m H v d → ak Z m H (xs.set n v) (ds.set n d)
 | _, _, _, _, _, .nil, _ => .nil
 | _, _, 0, _, _, .cons _ r, h => .cons h r
 | _, _, n + 1, _, _, .cons h r, h' => .cons h (ak.set n r h')
theorem ak.erase : ∀ {xs : List V} {ds : List U} (n : Nat), ak Z m H xs ds → ak Z m H (xs.eraseIdx n) (ds.eraseIdx n)
 | _, _, _, .nil => .nil
 | _, _, 0, .cons _ r => r
 | _, _, n + 1, .cons h r => .cons h (ak.erase n r)
theorem ak.dropLast : ∀ {xs : List V} {ds : List U}, ak Z m H xs ds → ak Z m H xs.dropLast ds.dropLast
 | _, _, .nil => .nil
 | _, _, .cons _ .nil => .nil
 | _, _, .cons h (.cons h' r) => .cons h (ak.dropLast (.cons h' r))
theorem ak.insert : ∀ {xs : List V} {ds : List U} (n : Nat) {v : V} {d : U}, ak Z m H xs ds → br Z m H v d → ak Z m H (xs.insertIdx n v) (ds.insertIdx n d)
 | _, _, 0, _, _, r, h => .cons h r
 | _, _, _ + 1, _, _, .nil, _ => .nil
 | _, _, n + 1, _, _, .cons h r, h' => .cons h (ak.insert n r h')
theorem nV {xs : List V} {d : U} (h : ak Z m H xs [d]) : ∃ x, xs = [x] ∧ br Z m H x d := by
 cases h with
 | cons a r => cases r; exact ⟨_, rfl, a⟩
theorem JB {xs : List V} {d e : U} (h : ak Z m H xs [d, e]) : ∃ x y, xs = [x, y] ∧ br Z m H x d ∧ br Z m H y e := by
 cases h with
 | cons a r =>
   obtain ⟨y, rfl, b⟩ := nV r
   exact ⟨_, _, rfl, a, b⟩
theorem pg {v : V} {i : Int} (h : br Z m H v (.int i)) : v = .int i := by cases h; rfl
theorem jt {v : V} {b : Bool} (h : br Z m H v (.bl b)) : v = .bl b := by cases h; rfl
theorem lV {v : V} {l : Nat} (h : br Z m H v (.loc l)) : ∃ a, v = .ref a ∧ m[l]? = some a := by cases h; exact ⟨_, rfl, by assumption⟩
end
noncomputable def Lay (Z : Zt) (H : Hp) (a : Addr) (fz : Bool) (vs : List V) : Prop := if fz = true then SqL Z.K H a vs ∧ ∃ o, H a = some o else H a = some (.lst vs)
structure R (Z : Zt) (m : List Addr) (st : Sto) (H : Hp) : Prop where
 len : m.length = st.length
 inj : ∀ (i j : Nat) a, m[i]? = some a → m[j]? = some a → i = j
 obj : ∀ (l : Nat) a fz ds, m[l]? = some a → st[l]? = some (fz, ds) → ∃ vs, Lay Z H a fz vs ∧ ak Z m H vs ds
theorem Lay.sq {Z : Zt} {H : Hp} {a : Addr} {fz : Bool} {vs : List V} (h : Lay Z H a fz vs) : SqL Z.K H a vs := by
 unfold Lay at h
 split at h
 · exact h.1
 · exact .inl (.inl h)
theorem Lay.tr {Z : Zt} {H : Hp} {a : Addr} {fz : Bool} {vs : List V} (h : Lay Z H a fz vs) : ∃ o, H a = some o := by
 unfold Lay at h
 split at h
 · exact h.2
 · exact ⟨_, h⟩
theorem Lay.upd {Z : Zt} {H : Hp} {a p : Addr} {fz : Bool} {vs : List V} {o : HO} (h : Lay Z H a fz vs) (hn : a ≠ p) : Lay Z (upd H p o) a fz vs := by
 unfold Lay at h ⊢
 split at h
 · rename_i q
   rw [if_pos q]
   refine ⟨?_, by rw [aB hn]; exact h.2⟩
   rcases h.1 with (h | ⟨o, h⟩) | h
   · exact .inl (.inl (by rw [aB hn]; exact h))
   · exact .inl (.inr ⟨o, by rw [aB hn]; exact h⟩)
   · exact .inr h
 · rename_i q
   rw [if_neg q, aB hn]; exact h
section
variable {Z : Zt} {m m' : List Addr} {H H' : Hp} {st : Sto}
theorem R.at (r : R Z m st H) {l : Nat} {fz : Bool} {ds : List U} (e : st[l]? = some (fz, ds)) : ∃ a vs, m[l]? = some a ∧ Lay Z H a fz vs ∧ ak Z m H vs ds := by
 have hl := (List.getElem?_eq_some_iff.mp e).1
 have hm : l < m.length := by rw [r.len]; exact hl
 obtain ⟨vs, h1, h2⟩ := r.obj l _ fz ds (List.getElem?_eq_getElem hm) e
 exact ⟨_, vs, List.getElem?_eq_getElem hm, h1, h2⟩
theorem R.loc (r : R Z m st H) {l : Nat} {a : Addr} (e : m[l]? = some a) : ∃ fz ds vs, st[l]? = some (fz, ds) ∧ Lay Z H a fz vs ∧ ak Z m H vs ds := by
 have hl := (List.getElem?_eq_some_iff.mp e).1
 have hs : l < st.length := by rw [← r.len]; exact hl
 obtain ⟨vs, h1, h2⟩ := r.obj l a st[l].1 st[l].2 e (List.getElem?_eq_getElem hs)
 exact ⟨_, _, vs, List.getElem?_eq_getElem hs, h1, h2⟩
theorem R.in (r : R Z m st H) {a : Addr} (e : a ∈ m) : ∃ o, H a = some o := by
 obtain ⟨l, hl⟩ := List.getElem?_of_mem e
 obtain ⟨_, _, _, _, h, _⟩ := r.loc hl
 exact h.tr
theorem R.out (r : R Z m st H) {p : Addr} (h : H p = none) : p ∉ m := fun z => by
 obtain ⟨o, q⟩ := r.in z
 rw [h] at q; cases q
theorem Go.new (r : R Z m st H) {p : Addr} {o : HO} (h : H p = none) : Go m H m (upd H p o) := by
 refine ⟨List.prefix_refl m, fun b u e _ => ?_, fun b e => ?_, fun l a hl e => by rw [List.getElem?_eq_none hl] at e; cases e⟩
 · rw [aB (aH e h)]; exact e
 · unfold L2.upd at e
   split at e
   · cases e
   · exact e
theorem R.upd (r : R Z m st H) {p : Addr} {o : HO} (h : H p = none) : R Z m st (upd H p o) := by
 refine ⟨r.len, r.inj, fun l a fz ds e1 e2 => ?_⟩
 obtain ⟨vs, h1, h2⟩ := r.obj l a fz ds e1 e2
 obtain ⟨o, ho⟩ := h1.tr
 exact ⟨vs, h1.upd (aH ho h), h2.mono (Go.new r h)⟩
theorem R.new (r : R Z m st H) {p : Addr} {vs : List V} {ds : List U} (h : H p = none) (hv : ak Z m H vs ds) :
   Go m H (m ++ [p]) (L2.upd H p (.lst vs)) ∧ R Z (m ++ [p]) (st ++ [(false, ds)]) (L2.upd H p (.lst vs)) ∧ br Z (m ++ [p]) (L2.upd H p (.lst vs)) (.ref p) (.loc st.length) := by
 have hp := r.out h
 have g : Go m H (m ++ [p]) (L2.upd H p (.lst vs)) := by
   have g0 := Go.new r (o := .lst vs) h
   refine ⟨List.prefix_append m [p], g0.kp, g0.tr, fun l a hl e => ?_⟩
   rw [List.getElem?_append_right hl] at e
   have := List.mem_of_getElem? e
   rw [List.mem_singleton] at this
   rw [this]; exact h
 have hl : (m ++ [p])[st.length]? = some p := by rw [← r.len, List.getElem?_append_right (Nat.le_refl _), Nat.sub_self]; rfl
 refine ⟨g, ⟨by rw [List.length_append, List.length_append, r.len]; rfl, fun i j a e1 e2 => ?_, fun l a fz es e1 e2 => ?_⟩, .loc hl⟩
 · have key : ∀ (i : Nat) a, (m ++ [p])[i]? = some a → (m[i]? = some a ∧ a ≠ p) ∨ (i = m.length ∧ a = p) := fun i a e => by
     rcases Nat.lt_or_ge i m.length with q | q
     · rw [List.getElem?_append_left q] at e
       exact .inl ⟨e, fun z => hp (z ▸ List.mem_of_getElem? e)⟩
     · have hi := (List.getElem?_eq_some_iff.mp e).1
       rw [List.length_append, List.length_singleton] at hi
       rw [List.getElem?_append_right q] at e
       have := List.mem_of_getElem? e
       rw [List.mem_singleton] at this
       exact .inr ⟨by omega, this⟩
   rcases key i a e1 with ⟨q1, q2⟩ | ⟨q1, q2⟩ <;> rcases key j a e2 with ⟨w1, w2⟩ | ⟨w1, w2⟩
   · exact r.inj i j a q1 w1
   · exact absurd w2 q2
   · exact absurd q2 w2
   · rw [q1, w1]
 · rcases Nat.lt_or_ge l m.length with q | q
   · rw [List.getElem?_append_left q] at e1
     rw [List.getElem?_append_left (by rw [← r.len]; exact q)] at e2
     obtain ⟨ws, h1, h2⟩ := r.obj l a fz es e1 e2
     obtain ⟨o, ho⟩ := h1.tr
     exact ⟨ws, h1.upd (aH ho h), h2.mono g⟩
   · have hi := (List.getElem?_eq_some_iff.mp e1).1
     rw [List.length_append, List.length_singleton] at hi
     obtain rfl : l = m.length := by omega
     rw [List.getElem?_append_right (Nat.le_refl _), Nat.sub_self] at e1
     rw [r.len, List.getElem?_append_right (Nat.le_refl _), Nat.sub_self] at e2
     cases e1; cases e2
     exact ⟨vs, by unfold Lay; rw [if_neg (by decide)]; exact cZ, hv.mono g⟩
theorem R.put (r : R Z m st H) {l : Nat} {a : Addr} {vs : List V} {es ds : List U} (e : m[l]? = some a) (hs : st[l]? = some (false, es)) (hv : ak Z m H vs ds) :
   Go m H m (L2.upd H a (.lst vs)) ∧ R Z m (st.set l (false, ds)) (L2.upd H a (.lst vs)) := by
 obtain ⟨us, hu, _⟩ := r.obj l a false es e hs
 have ha : H a = some (.lst us) := by unfold Lay at hu; rw [if_neg (by decide)] at hu; exact hu
 have g : Go m H m (L2.upd H a (.lst vs)) := by
   refine ⟨List.prefix_refl m, fun b u q hn => ?_, fun b q => ?_, fun l a hl e => by rw [List.getElem?_eq_none hl] at e; cases e⟩
   · by_cases hb : b = a
     · subst hb
       rcases hn with hn | hn
       · exact absurd (List.mem_of_getElem? e) hn
       · rw [ha] at q; cases q; exact absurd rfl (hn us)
     · rw [aB hb]; exact q
   · unfold L2.upd at q
     split at q
     · cases q
     · exact q
 refine ⟨g, ⟨by rw [List.length_set]; exact r.len, r.inj, fun k b fz xs e1 e2 => ?_⟩⟩
 by_cases hk : k = l
 · subst hk
   rw [e] at e1; cases e1
   rw [List.getElem?_set_self (List.getElem?_eq_some_iff.mp hs).1] at e2
   cases e2
   exact ⟨vs, by unfold Lay; rw [if_neg (by decide)]; exact cZ, hv.mono g⟩
 · rw [List.getElem?_set_ne (Ne.symm hk)] at e2
   obtain ⟨ws, h1, h2⟩ := r.obj k b fz xs e1 e2
   exact ⟨ws, h1.upd (fun z => hk (r.inj k l b e1 (z ▸ e))), h2.mono g⟩
theorem R.side (r : R Z m st H) {p : Addr} {us vs : List V} (h : H p = some (.lst us)) (hp : p ∉ m) : R Z m st (L2.upd H p (.lst vs)) ∧ ∀ {v : V} {d : U}, br Z m H v d → br Z m (L2.upd H p (.lst vs)) v d := by
 have kT : ∀ {a : Addr} {xs : List V}, SqT Z.K H a xs → SqT Z.K (L2.upd H p (.lst vs)) a xs := fun {a xs} q => by
   have ne : ∀ {o : HO}, H a = some o → (∀ xs, o ≠ .lst xs) → a ≠ p := fun ho hn z => by subst z; rw [h] at ho; cases ho; exact hn us rfl
   rcases q with (q | ⟨o, q⟩) | q
   · exact .inl (.inl (by rw [aB (ne q fun _ z => nomatch z)]; exact q))
   · exact .inl (.inr ⟨o, by rw [aB (ne q fun _ z => nomatch z)]; exact q⟩)
   · exact .inr q
 have kF : ∀ {a : Addr} {xs : List V}, SqF Z.K H a xs → SqF Z.K (L2.upd H p (.lst vs)) a xs := fun {a xs} q => by
   rcases q with ⟨o, q⟩ | q
   · exact .inl ⟨o, by rw [aB (fun z => by subst z; rw [h] at q; cases q)]; exact q⟩
   · exact .inr q
 have key : (∀ {v : V} {d : U}, br Z m H v d → br Z m (L2.upd H p (.lst vs)) v d) := by
   intro v d hd
   refine br.rec (motive_1 := fun v d _ => br Z m (L2.upd H p (.lst vs)) v d) (motive_2 := fun ws es _ => ak Z m (L2.upd H p (.lst vs)) ws es) .non .bl .int .str (fun h _ ih => .tup (kT h) ih) (fun h => .loc h) (fun {a c} q => .exo ?_) (fun h _ ih => .kl (kF h) ih) .nil (fun _ _ i1 i2 => .cons i1 i2) hd
   rw [aB (fun z => by subst z; rw [h] at q; cases q)]; exact q
 have keys : ∀ {ws : List V} {es : List U}, ak Z m H ws es → ak Z m (L2.upd H p (.lst vs)) ws es := by
   intro ws es hd
   refine ak.rec (motive_1 := fun v d _ => br Z m (L2.upd H p (.lst vs)) v d) (motive_2 := fun ws es _ => ak Z m (L2.upd H p (.lst vs)) ws es) .non .bl .int .str (fun h _ ih => .tup (kT h) ih) (fun h => .loc h) (fun {a c} q => .exo ?_) (fun h _ ih => .kl (kF h) ih) .nil (fun _ _ i1 i2 => .cons i1 i2) hd
   rw [aB (fun z => by subst z; rw [h] at q; cases q)]; exact q
 refine ⟨⟨r.len, r.inj, fun l a fz ds e1 e2 => ?_⟩, key⟩
 obtain ⟨ws, h1, h2⟩ := r.obj l a fz ds e1 e2
 exact ⟨ws, h1.upd (fun z => hp (z ▸ List.mem_of_getElem? e1)), keys h2⟩
end
structure bX (Z : Zt) (m : List Addr) (H : Hp) (σ : L2.St) (ρ : Env) : Prop where
 len : σ.length = ρ.length
 get : ∀ (i : Nat) (d : U), ρ[i]? = some (some d) → ∃ v, σ[i]? = some (some v) ∧ br Z m H v d
theorem bX.mono {Z : Zt} {m m' : List Addr} {H H' : Hp} {σ : L2.St} {ρ : Env} (e : bX Z m H σ ρ) (g : Go m H m' H') : bX Z m' H' σ ρ :=
 ⟨e.len, fun i d h => let ⟨v, h1, h2⟩ := e.get i d h; ⟨v, h1, h2.mono g⟩⟩
theorem bX.set {Z : Zt} {m : List Addr} {H : Hp} {σ : L2.St} {ρ : Env} (e : bX Z m H σ ρ) {i : Nat} {v : V} {d : U} (h : br Z m H v d) : bX Z m H (σ.set i (some v)) (ρ.set i (some d)) := by
 refine ⟨by rw [List.length_set, List.length_set]; exact e.len, fun j x hx => ?_⟩
 by_cases q : i = j
 · subst q
   by_cases hl : i < ρ.length
   · rw [List.getElem?_set_self hl] at hx
     cases hx
     exact ⟨v, List.getElem?_set_self (by rw [e.len]; exact hl), h⟩
   · rw [List.getElem?_eq_none (by rw [List.length_set]; omega)] at hx; cases hx
 · rw [List.getElem?_set_ne q] at hx
   rw [List.getElem?_set_ne q]
   exact e.get j x hx
noncomputable def post {α : Type} (ex : Nat → Sto → Prop) (k : α → Sto → Prop) : Rs α → Prop
 | .ok a st => k a st
 | .exc c st => ex c st
 | .bad => False
theorem ay {α β : Type} {ex : Nat → Sto → Prop} {k : β → Sto → Prop} {x : Rs α} {f : α → Sto → Rs β} (h : post ex k (x.bind f)) : post ex (fun a st => post ex k (f a st)) x := by
 cases x with
 | ok a st => exact h
 | exc c st => exact h
 | bad => exact h
theorem ao {α : Type} {ex ex' : Nat → Sto → Prop} {k k' : α → Sto → Prop} {x : Rs α} (h : post ex k x) (he : ∀ c st, ex c st → ex' c st) (hk : ∀ a st, x = .ok a st → k a st → k' a st) : post ex' k' x := by
 cases x with
 | ok a st => exact hk a st rfl h
 | exc c st => exact he c st h
 | bad => exact h
theorem pX {α : Type} {ex : Nat → Sto → Prop} {k : α → Sto → Prop} {x : Rs α} (h : post ex k x.noX) : post (fun _ _ => False) k x := by
 cases x with
 | ok a st => exact h
 | exc c st => exact h
 | bad => exact h
end Sv
namespace Sv
open PySem PySem.Spec PyProof.Rows L2
open Ev (D aR aY ai j2 kf eD)
section
variable {Z : Zt} {m : List Addr} {H : Hp} {st : Sto}
theorem lK {f : U → Option D} (ih : ∀ {v : V} {d : U} {x : D}, br Z m H v d → f d = some x → Ev.Den Z.K H v x) : ∀ {vs : List V} {ds : List U} {xs : List D}, ak Z m H vs ds → uI f ds = some xs → Ev.ye Z.K H vs xs
 | _, _, _, .nil, h => by cases h; exact .nil
 | _, _, _, .cons a r, h => by
   rw [uI] at h
   obtain ⟨y, h1, h⟩ := Option.bind_eq_some_iff.mp h
   obtain ⟨ys, h2, rfl⟩ := Option.map_eq_some_iff.mp h
   exact .cons (ih a h1) (lK ih r h2)
theorem jw (r : R Z m st H) : ∀ (n : Nat) {v : V} {d : U} {x : D}, br Z m H v d → rsv st n d = some x → Ev.Den Z.K H v x
 | n, _, _, _, .non, h => by cases n <;> (rw [rsv] at h; cases h; exact .non)
 | n, _, _, _, .bl, h => by cases n <;> (rw [rsv] at h; cases h; exact .bl)
 | n, _, _, _, .int, h => by cases n <;> (rw [rsv] at h; cases h; exact .int)
 | n, _, _, _, .str, h => by cases n <;> (rw [rsv] at h; cases h; exact .str)
 | 0, _, _, _, .tup _ _, h => by rw [rsv] at h <;> first | cases h | (intros; simp_all)
 | n + 1, _, _, _, .tup q rr, h => by
   rw [rsv] at h
   obtain ⟨xs, h1, rfl⟩ := Option.map_eq_some_iff.mp h
   exact .tup q (lK (fun a b => jw r n a b) rr h1)
 | 0, _, _, _, .kl _ _, h => by rw [rsv] at h <;> first | cases h | (intros; simp_all)
 | n + 1, _, _, _, .kl q rr, h => by
   rw [rsv] at h
   obtain ⟨xs, h1, rfl⟩ := Option.map_eq_some_iff.mp h
   exact .lst q.sq (lK (fun a b => jw r n a b) rr h1)
 | 0, _, _, _, .loc _, h => by rw [rsv] at h <;> first | cases h | (intros; simp_all)
 | n + 1, _, _, _, .loc q, h => by
   rw [rsv] at h
   split at h
   · rename_i xs e
     obtain ⟨ys, h1, rfl⟩ := Option.map_eq_some_iff.mp h
     obtain ⟨a, vs, e1, l1, d1⟩ := r.at e
     rw [q] at e1; cases e1
     exact .lst l1.sq (lK (fun a b => jw r n a b) d1 h1)
   · cases h
 | n, _, _, _, .exo _, h => by cases n <;> (rw [rsv] at h <;> first | cases h | (intros; simp_all))
end
noncomputable def kE (Z : Zt) (Ex : Nat → Hp → Prop) (m : List Addr) (H : Hp) : Nat → Sto → Prop := fun c st' => ∀ m' H', Go m H m' H' → R Z m' st' H' → Ex c H'
noncomputable def kV (Z : Zt) (m : List Addr) (H : Hp) (Q : VK) : U → Sto → Prop := fun d st' => ∀ m' H' v, Go m H m' H' → R Z m' st' H' → br Z m' H' v d → Q v H'
noncomputable def kB (Z : Zt) (m : List Addr) (H : Hp) (Q : Bool → Hp → Prop) : Bool → Sto → Prop := fun b st' => ∀ m' H', Go m H m' H' → R Z m' st' H' → Q b H'
noncomputable def kT (Z : Zt) (m : List Addr) (H : Hp) (Q : Bool → Hp → Prop) : U → Sto → Prop := fun d st' => ∃ b, d = .bl b ∧ ∀ m' H', Go m H m' H' → R Z m' st' H' → Q b H'
noncomputable def kA (Z : Zt) (m : List Addr) (H : Hp) (Q : List V → Hp → Prop) : List U → Sto → Prop := fun ds st' => ∀ m' H' vs, Go m H m' H' → R Z m' st' H' → ak Z m' H' vs ds → Q vs H'
theorem kE.sh {Z : Zt} {Ex : Nat → Hp → Prop} {m m1 : List Addr} {H H1 : Hp} (g : Go m H m1 H1) : ∀ c st, kE Z Ex m H c st → kE Z Ex m1 H1 c st := fun _ _ h m' H' g' => h m' H' (g.trans g')
theorem kV.sh {Z : Zt} {m m1 : List Addr} {H H1 : Hp} {Q : VK} (g : Go m H m1 H1) : ∀ d st, kV Z m H Q d st → kV Z m1 H1 Q d st := fun _ _ h m' H' v g' => h m' H' v (g.trans g')
theorem kT.sh {Z : Zt} {m m1 : List Addr} {H H1 : Hp} {Q : Bool → Hp → Prop} (g : Go m H m1 H1) : ∀ d st, kT Z m H Q d st → kT Z m1 H1 Q d st := fun _ _ ⟨b, e, h⟩ => ⟨b, e, fun m' H' g' => h m' H' (g.trans g')⟩
noncomputable abbrev Po (Z : Zt) (Ex : Nat → Hp → Prop) (m : List Addr) (H : Hp) (Q : VK) (x : Rs U) : Prop := post (kE Z Ex m H) (kV Z m H Q) x
theorem Po.sh {Z : Zt} {Ex : Nat → Hp → Prop} {m m1 : List Addr} {H H1 : Hp} {Q : VK} {x : Rs U} (h : Po Z Ex m H Q x) (g : Go m H m1 H1) : Po Z Ex m1 H1 Q x := ao h (kE.sh g) fun a st _ => kV.sh g a st
noncomputable abbrev PoT (Z : Zt) (Ex : Nat → Hp → Prop) (m : List Addr) (H : Hp) (Q : Bool → Hp → Prop) (x : Rs U) : Prop := post (kE Z Ex m H) (kT Z m H Q) x
theorem PoT.sh {Z : Zt} {Ex : Nat → Hp → Prop} {m m1 : List Addr} {H H1 : Hp} {Q : Bool → Hp → Prop} {x : Rs U} (h : PoT Z Ex m H Q x) (g : Go m H m1 H1) : PoT Z Ex m1 H1 Q x := ao h (kE.sh g) fun a st _ => kT.sh g a st
section
variable (Z : Zt) (Φ : Fn) (Ex : Nat → Hp → Prop)
noncomputable def lE (e : E) : TE := fun σ H Q => ∃ m st ρ, R Z m st H ∧ bX Z m H σ ρ ∧ Po Z Ex m H Q (xE Φ e ρ st)
noncomputable def lT (e : E) : TT := fun σ H Q => ∃ m st ρ, R Z m st H ∧ bX Z m H σ ρ ∧ PoT Z Ex m H Q (xE Φ e ρ st)
noncomputable def lIf (es : List E) : TT := fun σ H Q => ∃ m st ρ, R Z m st H ∧ bX Z m H σ ρ ∧ post (kE Z Ex m H) (kB Z m H Q) (xIf Φ es ρ st)
noncomputable def lEs (es : List E) : TA := fun σ H Q => ∃ m st ρ, R Z m st H ∧ bX Z m H σ ρ ∧ post (kE Z Ex m H) (kA Z m H Q) (xEs Φ es ρ st)
noncomputable def lP (e : E) : TO := fun σ H Q => ∃ m st ρ, R Z m st H ∧ bX Z m H σ ρ ∧ post (kE Z Ex m H) (fun d st' => ∃ o, xY e d = some o ∧ ∀ m' H', Go m H m' H' → R Z m' st' H' → Q o H') (xE Φ e ρ st)
noncomputable def lG (t : Tg) : TG := fun v σ H Q => ∃ m st ρ d ρ', R Z m st H ∧ bX Z m H σ ρ ∧ br Z m H v d ∧ iD t d ρ = some ρ' ∧ ∀ σ', bX Z m H σ' ρ' → Q σ' H
noncomputable def Yl (J : L2.It) (q : Sq) (m0 : List Addr) (H0 : Hp) : Prop := ∀ m st H, Go m0 H0 m H → R Z m st H → ∀ i, match q.at st i with
 | none => True
 | some none => J.stop i H
 | some (some x) => J.go i H ∧ ∀ v H', J.yld i H v H' → Go m H m H' ∧ R Z m st H' ∧ br Z m H' v x
noncomputable def lI (it : It) : TI := fun σ H Rr => ∃ m st ρ, R Z m st H ∧ bX Z m H σ ρ ∧ post (kE Z Ex m H) (fun q st' => ∀ J m' H', Go m H m' H' → R Z m' st' H' → Yl Z J q m' H' → Rr J H') (xIt Φ it ρ st)
noncomputable def spU (F : List U → Sto → Rs U) : Sp := fun vs H Q E => ∃ m st ds, R Z m st H ∧ ak Z m H vs ds ∧ post (fun c st' => ∀ m' H', Go m H m' H' → R Z m' st' H' → E (.ref (Z.cl c)) none H') (kV Z m H Q) (F ds st)
noncomputable def xk : XK := fun C _ H' => ∃ c, C = .ref (Z.cl c) ∧ Ex c H'
end
noncomputable def rO (Z : Zt) (Ex : Nat → Hp → Prop) (g : U → U → Sto → Rs U) : R2 := fun x y H Q => ∃ m st a b, R Z m st H ∧ br Z m H x a ∧ br Z m H y b ∧ Po Z Ex m H Q (g a b st)
noncomputable def rB (Z : Zt) (Ex : Nat → Hp → Prop) (g : List U → Sto → Rs U) : List V → Hp → VK → Prop := fun xs H Q => ∃ m st ds, R Z m st H ∧ ak Z m H xs ds ∧ Po Z Ex m H Q (g ds st)
noncomputable abbrev zt (X : Cx) (cl : Nat → Addr) : Zt := ⟨X.K, cl⟩
theorem Po.ok {Z : Zt} {Ex : Nat → Hp → Prop} {m : List Addr} {H : Hp} {Q : VK} {d : U} {st : Sto} (h : Po Z Ex m H Q (.ok d st)) (r : R Z m st H) {v : V} (dv : br Z m H v d) : Q v H := h m H v (Go.refl m H) r dv
theorem Po.new {Z : Zt} {Ex : Nat → Hp → Prop} {m : List Addr} {H : Hp} {Q : VK} {st : Sto} {xs : List U} (h : Po Z Ex m H Q (new st xs)) (r : R Z m st H) {vs : List V} (dv : ak Z m H vs xs) {p : Addr} (hp : H p = none) : Q (.ref p) (upd H p (.lst vs)) := by
 obtain ⟨g, r', d'⟩ := r.new hp dv
 exact h _ _ _ g r' d'
theorem Po.tup {Z : Zt} {Ex : Nat → Hp → Prop} {m : List Addr} {H : Hp} {Q : VK} {st : Sto} {xs : List U} (h : Po Z Ex m H Q (.ok (.tup xs) st)) (r : R Z m st H) {vs : List V} (dv : ak Z m H vs xs) {p : Addr} (hp : H p = none) : Q (.ref p) (upd H p (.tup vs)) :=
 h m _ _ (Go.new r hp) (r.upd hp) (.tup (.inl (.inl cZ)) (dv.mono (Go.new r hp)))
noncomputable def trO : Operator → Option Op2
 | .Add => some .add
 | .Sub => some .sub
 | .Mult => some .mul
 | .FloorDiv => some .fdiv
 | .Mod => some .mod
 | .Pow => some .pow
 | .RShift => some .shr
 | .LShift => some .shl
 | .BitAnd => some .band
 | .BitOr => some .bor
 | _ => none
noncomputable def trC : CmpOp → Option Cm
 | .Eq => some .eq
 | .NotEq => some .ne
 | .Lt => some .lt
 | .LtE => some .le
 | .Gt => some .gt
 | .GtE => some .ge
 | .In => some .isin
 | _ => none
section
variable {X : Cx} {cl : Nat → Addr} {Ex : Nat → Hp → Prop}
theorem gg {f : Value → Value → Sem Value} {C : Int → Int → Prop} {g : Int → Int → V} {h : U → U → Sto → Rs U} {h' : Int → Int → U} (o : OpR X f (rI C g))
   (sh : ∀ a b st, h a b st = .bad ∨ ∃ i j, a = .int i ∧ b = .int j ∧ C i j ∧ h a b st = .ok (h' i j) st) (sd : ∀ Z m H i j, br Z m H (g i j) (h' i j)) : OpR X f (rO (zt X cl) Ex h) := by
 intro pins s σ H x y v u Q I rx ry q
 obtain ⟨m, st, a, b, r, dx, dy, q⟩ := q
 rcases sh a b st with e | ⟨i, j, rfl, rfl, c, e⟩
 · rw [e] at q; exact q.elim
 · rw [e] at q
   have e1 := pg dx
   have e2 := pg dy
   subst e1 e2
   exact o pins s σ H _ _ v u Q I rx ry ⟨i, j, rfl, rfl, c, q.ok r (sd _ _ _ _ _)⟩
theorem HS : ∀ {op : Operator} {o : Op2}, trO op = some o → OpR X (binaryOp op) (rO (zt X cl) Ex (ev2 o)) := by
 intro op o h
 cases op <;> simp only [trO.eq_def, Option.some.injEq, reduceCtorEq] at h <;> subst h
 case Add =>
   intro pins s σ H x y v u Q I rx ry q
   obtain ⟨m, st, a, b, r, dx, dy, q⟩ := q
   cases dx <;> first | exact False.elim q | (cases dy <;> first | exact False.elim q | simp only [ev2.eq_def] at q)
   case int.int i j => exact Ev.EC pins s σ H _ _ v u Q I rx ry ⟨i, j, rfl, rfl, trivial, q.ok r .int⟩
   case str.str x y =>
     split at q
     · rename_i hl
       exact xD pins s σ H _ _ v u Q I rx ry ⟨_, _, rfl, rfl, by have := Ev.cb; omega, q.ok r .str⟩
     · exact q.elim
   case tup.tup p vs xs h1 r1 p2 vs2 ys h2 r2 =>
     split at q
     · rename_i hl
       have l1 := r1.length
       have l2 := r2.length
       refine DA pins s σ H _ _ v u Q I rx ry ⟨p, p2, vs, vs2, rfl, rfl, h1, h2, ?_, ?_, fun e => ?_, fun _ z hz => q.tup r (r1.append r2) hz⟩
       · intro z; rw [z] at l1; exact hl.1 (List.eq_nil_of_length_eq_zero l1.symm)
       · have := Ev.cb; have := hl.2; omega
       · subst e
         have : ys = [] := List.eq_nil_of_length_eq_zero l2.symm
         subst this
         rw [List.append_nil] at q
         exact q.ok r (.tup h1 r1)
     · exact q.elim
   case loc.loc a l h1 a2 l2 h2 =>
     split at q
     · rename_i xs ys e1 e2
       split at q
       · rename_i hl
         obtain ⟨b, vs, f1, f2, f3⟩ := r.at e1
         obtain ⟨b2, vs2, g1, g2, g3⟩ := r.at e2
         rw [h1] at f1; cases f1
         rw [h2] at g1; cases g1
         have l1 := f3.length
         have l2 := g3.length
         refine Ev.pq pins s σ H _ _ v u Q I rx ry ⟨_, _, vs, vs2, rfl, rfl, f2.sq, g2.sq, ?_, fun z hz => q.new r (f3.append g3) hz⟩
         have := Ev.cb
         omega
       · exact q.elim
     · exact q.elim
   case loc.kl a l h1 a2 vs2 ys h2 g3 =>
     split at q
     · rename_i xs e1
       split at q
       · rename_i hl
         obtain ⟨b, vs, f1, f2, f3⟩ := r.at e1
         rw [h1] at f1; cases f1
         have l1 := f3.length
         have l2 := g3.length
         refine Ev.pq pins s σ H _ _ v u Q I rx ry ⟨_, _, vs, vs2, rfl, rfl, f2.sq, h2.sq, ?_, fun z hz => q.new r (f3.append g3) hz⟩
         have := Ev.cb
         omega
       · exact q.elim
     · exact q.elim
   case kl.loc a vs xs h1 f3 a2 l2 h2 =>
     split at q
     · rename_i ys e2
       split at q
       · rename_i hl
         obtain ⟨b2, vs2, g1, g2, g3⟩ := r.at e2
         rw [h2] at g1; cases g1
         have l1 := f3.length
         have l2 := g3.length
         refine Ev.pq pins s σ H _ _ v u Q I rx ry ⟨_, _, vs, vs2, rfl, rfl, h1.sq, g2.sq, ?_, fun z hz => q.new r (f3.append g3) hz⟩
         have := Ev.cb
         omega
       · exact q.elim
     · exact q.elim
   case kl.kl a vs xs h1 f3 a2 vs2 ys h2 g3 =>
     split at q
     · rename_i hl
       have l1 := f3.length
       have l2 := g3.length
       refine Ev.pq pins s σ H _ _ v u Q I rx ry ⟨_, _, vs, vs2, rfl, rfl, h1.sq, h2.sq, ?_, fun z hz => q.new r (f3.append g3) hz⟩
       have := Ev.cb
       omega
     · exact q.elim
 case Sub => exact gg (h' := fun i j => .int (i - j)) Ev.Eg (fun a b st => by cases a <;> first | exact .inl rfl | (cases b <;> first | exact .inl rfl | exact .inr ⟨_, _, rfl, rfl, trivial, rfl⟩)) fun _ _ _ _ _ => .int
 case Mult =>
   refine gg (h' := fun i j => .int (i * j)) Ev.Ew (fun a b st => ?_) fun _ _ _ _ _ => .int
   cases a <;> first | exact .inl rfl | (cases b <;> first | exact .inl rfl | skip)
   simp only [ev2.eq_def]
   split
   · exact .inr ⟨_, _, rfl, rfl, by assumption, rfl⟩
   · exact .inl rfl
 case FloorDiv =>
   refine gg (h' := fun i j => .int (i.fdiv j)) Ev.Di (fun a b st => ?_) fun _ _ _ _ _ => .int
   cases a <;> first | exact .inl rfl | (cases b <;> first | exact .inl rfl | skip)
   simp only [ev2.eq_def]
   split
   · exact .inr ⟨_, _, rfl, rfl, by assumption, rfl⟩
   · exact .inl rfl
 case Mod =>
   refine gg (h' := fun i j => .int (i.fmod j)) Fo (fun a b st => ?_) fun _ _ _ _ _ => .int
   cases a <;> first | exact .inl rfl | (cases b <;> first | exact .inl rfl | skip)
   simp only [ev2.eq_def]
   split
   · exact .inr ⟨_, _, rfl, rfl, by assumption, rfl⟩
   · exact .inl rfl
 case Pow =>
   refine gg (h' := fun i j => .int (i ^ j.toNat)) Gy (fun a b st => ?_) fun _ _ _ _ _ => .int
   cases a <;> first | exact .inl rfl | (cases b <;> first | exact .inl rfl | skip)
   simp only [ev2.eq_def]
   split
   · exact .inr ⟨_, _, rfl, rfl, by assumption, rfl⟩
   · exact .inl rfl
 case RShift =>
   refine gg (h' := fun i j => .int (i / 2 ^ j.toNat)) Ik (fun a b st => ?_) fun _ _ _ _ _ => .int
   cases a <;> first | exact .inl rfl | (cases b <;> first | exact .inl rfl | skip)
   simp only [ev2.eq_def]
   split
   · exact .inr ⟨_, _, rfl, rfl, by assumption, rfl⟩
   · exact .inl rfl
 case LShift =>
   refine gg (h' := fun i j => .int (i * 2 ^ j.toNat)) Gm (fun a b st => ?_) fun _ _ _ _ _ => .int
   cases a <;> first | exact .inl rfl | (cases b <;> first | exact .inl rfl | skip)
   simp only [ev2.eq_def]
   split
   · exact .inr ⟨_, _, rfl, rfl, by assumption, rfl⟩
   · exact .inl rfl
 case BitAnd => exact gg (h' := fun i j => .int (Builtin.bitAnd i j)) Ev.EK (fun a b st => by cases a <;> first | exact .inl rfl | (cases b <;> first | exact .inl rfl | exact .inr ⟨_, _, rfl, rfl, trivial, rfl⟩)) fun _ _ _ _ _ => .int
 case BitOr =>
   have orB : OpR X (binaryOp .BitOr) (rI (fun _ _ => True) fun i j => .int (Builtin.bitOr i j)) := fun pins s σ H x y v u Q I rx ry ⟨i, j, h1, h2, _, q⟩ => Kg pins s σ H x y v u Q I rx ry ⟨i, j, h1, h2, q⟩
   exact gg (h' := fun i j => .int (Builtin.bitOr i j)) orB (fun a b st => by cases a <;> first | exact .inl rfl | (cases b <;> first | exact .inl rfl | exact .inr ⟨_, _, rfl, rfl, trivial, rfl⟩)) fun _ _ _ _ _ => .int
theorem vC {Z : Zt} {m : List Addr} {H : Hp} : ∀ {vs : List V} {ds : List U} {us : List Value} {l : List Str}, ak Z m H vs ds → Vals vs us → oO ds = some l → StrsAre us l
 | _, _, _, _, .nil, r, h => by cases r; cases h; exact .nil
 | _, _, _, _, .cons d ds, r, h => by
   cases r with
   | cons ra rr =>
     cases d with
     | str =>
       rw [oO] at h
       obtain ⟨l', h1, rfl⟩ := Option.map_eq_some_iff.mp h
       obtain ⟨t, rfl⟩ := ra
       exact .cons _ t (vC ds rr h1)
     | _ => cases h
noncomputable def rC (Z : Zt) (Ex : Nat → Hp → Prop) (o : Cm) : R2 := rO Z Ex fun a b st => ofO (evC o a b st) st
theorem nJ (hu : X.A.units + 64 < cLine) : ∀ {op : CmpOp} {o : Cm}, trC op = some o → OpR X (compareOp op) (rC (zt X cl) Ex o) := by
 intro op o h
 have ltB : OpR X (compareOp .Lt) (rI (fun _ _ => True) fun i j => .bl (decide (i < j))) := fun pins s σ H x y v u Q I rx ry ⟨i, j, h1, h2, _, q⟩ => Kq pins s σ H x y v u Q I rx ry ⟨i, j, h1, h2, q⟩
 have leB : OpR X (compareOp .LtE) (rI (fun _ _ => True) fun i j => .bl (decide (i ≤ j))) := fun pins s σ H x y v u Q I rx ry ⟨i, j, h1, h2, _, q⟩ => J4 pins s σ H x y v u Q I rx ry ⟨i, j, h1, h2, q⟩
 have gtB : OpR X (compareOp .Gt) (rI (fun _ _ => True) fun i j => .bl (decide (j < i))) := fun pins s σ H x y v u Q I rx ry ⟨i, j, h1, h2, _, q⟩ => J7 pins s σ H x y v u Q I rx ry ⟨i, j, h1, h2, q⟩
 have geB : OpR X (compareOp .GtE) (rI (fun _ _ => True) fun i j => .bl (decide (j ≤ i))) := fun pins s σ H x y v u Q I rx ry ⟨i, j, h1, h2, _, q⟩ => J1 pins s σ H x y v u Q I rx ry ⟨i, j, h1, h2, q⟩
 cases op <;> simp only [trC.eq_def, Option.some.injEq, reduceCtorEq] at h <;> subst h
 case Eq =>
   intro pins s σ H x y v u Q I rx ry q
   obtain ⟨m, st, a, b, r, dx, dy, q⟩ := q
   simp only [evC.eq_def] at q
   split at q
   · rename_i a' b' e1 e2
     split at q
     · rename_i c
       obtain ⟨as, r1⟩ := Ev.kb I (nj.refl H) (jw r _ dx e1) rx
       obtain ⟨bs, r2⟩ := Ev.kb I (nj.refl H) (jw r _ dy e2) ry
       exact eq_dataH r1 r2 (Ev.jE c.1) (Ev.jE c.2) hu ⟨.bl _, H, I, by rw [Ev.uc]; rfl, Po.ok q r .bl⟩
     · exact q.elim
   · exact q.elim
 case NotEq =>
   intro pins s σ H x y v u Q I rx ry q
   obtain ⟨m, st, a, b, r, dx, dy, q⟩ := q
   simp only [evC.eq_def] at q
   split at q
   · rename_i a' b' e1 e2
     split at q
     · rename_i c
       obtain ⟨as, r1⟩ := Ev.kb I (nj.refl H) (jw r _ dx e1) rx
       obtain ⟨bs, r2⟩ := Ev.kb I (nj.refl H) (jw r _ dy e2) ry
       exact ne_dataH r1 r2 (Ev.jE c.1) (Ev.jE c.2) hu ⟨.bl _, H, I, by rw [Ev.uc]; rfl, Po.ok q r .bl⟩
     · exact q.elim
   · exact q.elim
 case In =>
   intro pins s σ H x y v u Q I rx ry q
   obtain ⟨m, st, a, b, r, dx, dy, q⟩ := q
   cases dx with
   | str =>
     cases dy with
     | tup h1 r1 =>
       rename_i i b' vs ys
       have e : evC .isin (.str i) (.tup ys) st = (oO ys).map fun l => l.any (· == i) := rfl
       dsimp only at q
       rw [e] at q
       cases hs : oO ys with
       | none => rw [hs] at q; exact q.elim
       | some l =>
         rw [hs] at q
         obtain ⟨t, rfl⟩ := rx
         cases ry
         obtain ⟨its, rv, tp, hz⟩ := I.tuple h1
         exact in_tuple_strs tp (by simpa using vC r1 rv hs) ⟨.bl _, H, I, rfl, Po.ok q r .bl⟩
     | _ => exact q.elim
   | _ => cases dy <;> exact q.elim
 case Lt => exact gg (h' := fun i j => .bl (decide (i < j))) ltB (fun a b st => by cases a <;> first | exact .inl rfl | (cases b <;> first | exact .inl rfl | exact .inr ⟨_, _, rfl, rfl, trivial, rfl⟩)) fun _ _ _ _ _ => .bl
 case LtE => exact gg (h' := fun i j => .bl (decide (i ≤ j))) leB (fun a b st => by cases a <;> first | exact .inl rfl | (cases b <;> first | exact .inl rfl | exact .inr ⟨_, _, rfl, rfl, trivial, rfl⟩)) fun _ _ _ _ _ => .bl
 case Gt => exact gg (h' := fun i j => .bl (decide (j < i))) gtB (fun a b st => by cases a <;> first | exact .inl rfl | (cases b <;> first | exact .inl rfl | exact .inr ⟨_, _, rfl, rfl, trivial, rfl⟩)) fun _ _ _ _ _ => .bl
 case GtE => exact gg (h' := fun i j => .bl (decide (j ≤ i))) geB (fun a b st => by cases a <;> first | exact .inl rfl | (cases b <;> first | exact .inl rfl | exact .inr ⟨_, _, rfl, rfl, trivial, rfl⟩)) fun _ _ _ _ _ => .bl
end
end Sv
namespace Sv
open PySem PySem.Spec PyProof.Rows L2
open Ev (D aR aY ai j2 kf eD)
section
variable {X : Cx} {cl : Nat → Addr} {Ex : Nat → Hp → Prop}
theorem pf {Z : Zt} {m : List Addr} {H : Hp} {st : Sto} (r : R Z m st H) {v : V} {d : U} {xs : List U} (dv : br Z m H v d) (e : seq? st d = some xs) :
   ∃ p vs, v = .ref p ∧ (SqL Z.K H p vs ∨ (SqT Z.K H p vs ∧ d = .tup xs)) ∧ ak Z m H vs xs := by
 cases dv with
 | tup h1 r1 => cases e; exact ⟨_, _, rfl, .inr ⟨h1, rfl⟩, r1⟩
 | kl h1 r1 => cases e; exact ⟨_, _, rfl, .inl h1.sq, r1⟩
 | loc h =>
   simp only [seq?] at e
   obtain ⟨⟨fz, ys⟩, e1, e2⟩ := Option.map_eq_some_iff.mp e
   cases e2
   obtain ⟨a, vs, f1, f2, f3⟩ := r.at e1
   rw [h] at f1; cases f1
   exact ⟨_, vs, rfl, .inl f2.sq, f3⟩
 | _ => cases e
theorem pb {Z : Zt} {m : List Addr} {H : Hp} {st : Sto} (r : R Z m st H) {v : V} {d : U} {xs : List U} (dv : br Z m H v d) (e : uv st d = some xs) :
   ∃ p vs, v = .ref p ∧ SqL Z.K H p vs ∧ ak Z m H vs xs := by
 cases dv with
 | kl h1 r1 => cases e; exact ⟨_, _, rfl, h1.sq, r1⟩
 | loc h =>
   simp only [uv] at e
   obtain ⟨⟨fz, ys⟩, e1, e2⟩ := Option.map_eq_some_iff.mp e
   cases e2
   obtain ⟨a, vs, f1, f2, f3⟩ := r.at e1
   rw [h] at f1; cases f1
   exact ⟨_, vs, rfl, f2.sq, f3⟩
 | _ => cases e
theorem Ha : fX X (.builtin "len") (rB (zt X cl) Ex (evB .len)) := by
 intro pins s σ H xs us Q I r q
 obtain ⟨m, st, ds, rr, dn, q⟩ := q
 match ds, q with
 | [x], q =>
   obtain ⟨v, rfl, dx⟩ := nV dn
   simp only [evB.eq_def] at q
   split at q
   · rename_i ys e
     obtain ⟨p, vs, rfl, h1, h2⟩ := pf rr dx e
     have hl := h2.length
     refine sU pins s σ H _ us Q I r ⟨p, vs, rfl, h1.imp id fun z => z.1, ?_⟩
     rw [hl]; exact Po.ok q rr .int
   · exact q.elim
theorem IQ : fX X (.builtin "abs") (rB (zt X cl) Ex (evB .abs)) := by
 intro pins s σ H xs us Q I r q
 obtain ⟨m, st, ds, rr, dn, q⟩ := q
 match ds, q with
 | [.int i], q =>
   obtain ⟨x, rfl, dx⟩ := nV dn
   cases dx
   exact AW pins s σ H _ us Q I r ⟨i, rfl, Po.ok q rr .int⟩
theorem p8 {Z : Zt} {m : List Addr} {H : Hp} : ∀ {vs : List V} {ds : List U} {us : List Value} {ns : List Int}, ak Z m H vs ds → Vals vs us → pY ds = some ns → ∃ xs : List (Int × Tok), us = xs.map (fun p => Value.int p.1 p.2) ∧ xs.map (·.1) = ns
 | _, _, _, _, .nil, .nil, h => by cases h; exact ⟨[], rfl, rfl⟩
 | _, _, _, ns, .cons dv r, .cons rv rs, h => by
   cases dv with
   | @int i =>
     rw [pY] at h
     obtain ⟨ns', h1, rfl⟩ := Option.map_eq_some_iff.mp h
     obtain ⟨xs, rfl, rfl⟩ := p8 r rs h1
     obtain ⟨t, rfl⟩ := (show ∃ t, _ = Value.int i t from rv)
     exact ⟨(i, t) :: xs, rfl, rfl⟩
   | _ => cases h
theorem ER {a M : Int} {as : List Int} (h1 : M ∈ a :: as) (h2 : ∀ x ∈ a :: as, x ≤ M) : xK a as = M := by
 obtain ⟨z1, z2, z3⟩ := PyProof.Rows.fold_max as a
 have k1 : xK a as ∈ a :: as := by rcases z1 with z | z; exact List.mem_cons.mpr (.inl z); exact List.mem_cons_of_mem _ z
 have k2 : M ≤ xK a as := by rcases List.mem_cons.mp h1 with rfl | z; exact z2; exact z3 _ z
 exact Int.le_antisymm (h2 _ k1) k2
theorem I0 (hc : X.calm = true) : fX X (.builtin "max") (rB (zt X cl) Ex (evB .max)) := by
 intro pins s σ H xs us Q I r q
 obtain ⟨m, st, ds, rr, dn, q⟩ := q
 match ds, q with
 | [.int i, .int j], q =>
   obtain ⟨x, y, rfl, dx, dy⟩ := JB dn
   cases dx; cases dy
   exact Aq hc pins s σ H _ us Q I r ⟨i, j, rfl, Po.ok q rr .int⟩
 | [x], q =>
   obtain ⟨v, rfl, dx⟩ := nV dn
   simp only [evB.eq_def] at q
   split at q
   · rename_i ys e
     obtain ⟨p, vs, rfl, h1, h2⟩ := pb rr dx e
     cases hb : pY ys with
     | none => rw [hb] at q; exact q.elim
     | some ns =>
       match ns, hb with
       | [], hb => rw [hb] at q; exact q.elim
       | a :: as, hb =>
         rw [hb] at q
         obtain ⟨u, rfl, ru⟩ := vals1 r
         cases (show u = Value.ref _ from ru)
         obtain ⟨its, rv, p, hz⟩ := I.list h1
         obtain ⟨xs, rfl, hx⟩ := p8 h2 rv hb
         have hlen : 0 < xs.length := by have := congrArg List.length hx; simp only [List.length_map, List.length_cons] at this; omega
         refine max_intList (xs := xs.toArray) (I.ok.hd hc) (by have := p.isList; simpa [intItems] using this) (by simpa using hlen) fun v h' tk hv k => ?_
         obtain ⟨g1, g2⟩ := argBest_gt (numAt xs.toArray) (xs.toArray.size - 1)
         rw [List.size_toArray] at g1 g2 hv
         revert hv g1 g2
         generalize argBest (fun i j => decide (numAt xs.toArray i > numAt xs.toArray j)) (xs.length - 1) = b
         intro hv g1 g2
         have nat : ∀ i (w : Int × Tok), xs[i]? = some w → numAt xs.toArray i = w.1 := fun i w e => by simp [numAt, e]
         obtain ⟨w, hw⟩ : ∃ w, xs[b]? = some w := ⟨xs[b]'(by omega), List.getElem?_eq_getElem _⟩
         have ev : v = Value.int w.1 w.2 := by
           simp only [intItems, Array.getElem?_map, List.getElem?_toArray, hw, Option.map_some, Option.some.injEq] at hv
           exact hv.symm
         have em : xK a as = w.1 := by
           refine ER (by rw [← hx]; exact List.mem_map.mpr ⟨w, List.mem_of_getElem? hw, rfl⟩) fun x hx' => ?_
           rw [← hx] at hx'
           obtain ⟨y, hy, rfl⟩ := List.mem_map.mp hx'
           obtain ⟨i, hi, e⟩ := List.getElem_of_mem hy
           have := g2 i (by omega)
           rw [nat i y (by rw [List.getElem?_eq_getElem hi, e]), nat b w hw] at this
           exact this
         exact ⟨.int (xK a as), H, I.kept k, ⟨w.2, by rw [em, ev]⟩, Po.ok q rr .int⟩
   · exact q.elim
theorem GV (hc : X.calm = true) : fX X (.builtin "min") (rB (zt X cl) Ex (evB .min)) := by
 intro pins s σ H xs us Q I r q
 obtain ⟨m, st, ds, rr, dn, q⟩ := q
 match ds, q with
 | [.int i, .int j], q =>
   obtain ⟨x, y, rfl, dx, dy⟩ := JB dn
   cases dx; cases dy
   exact zY hc pins s σ H _ us Q I r ⟨i, j, rfl, Po.ok q rr .int⟩
theorem Gb : fX X (.type "int") (rB (zt X cl) Ex (evB .int)) := by
 intro pins s σ H xs us Q I r q
 obtain ⟨m, st, ds, rr, dn, q⟩ := q
 match ds, q with
 | [.int i], q =>
   obtain ⟨x, rfl, dx⟩ := nV dn
   cases dx
   exact rH pins s σ H _ us Q I r (.inl ⟨i, rfl, Po.ok q rr .int⟩)
 | [.bl b], q =>
   obtain ⟨x, rfl, dx⟩ := nV dn
   cases dx
   exact rH pins s σ H _ us Q I r (.inr ⟨b, rfl, Po.ok q rr .int⟩)
theorem D8 : fX X (.type "list") (rB (zt X cl) Ex (evB .list)) := by
 intro pins s σ H xs us Q I r q
 obtain ⟨m, st, ds, rr, dn, q⟩ := q
 match ds, q with
 | [x], q =>
   obtain ⟨v, rfl, dx⟩ := nV dn
   simp only [evB.eq_def] at q
   split at q
   · rename_i ys e
     obtain ⟨p, vs, rfl, h1, h2⟩ := pf rr dx e
     exact tu pins s σ H _ us Q I r ⟨p, vs, rfl, h1.imp id fun z => z.1, fun l hl => Po.new q rr h2 hl⟩
   · exact q.elim
theorem Bw : fX X (.type "tuple") (rB (zt X cl) Ex (evB .tuple)) := by
 intro pins s σ H xs us Q I r q
 obtain ⟨m, st, ds, rr, dn, q⟩ := q
 match ds, q with
 | [x], q =>
   obtain ⟨v, rfl, dx⟩ := nV dn
   simp only [evB.eq_def] at q
   split at q
   · rename_i ys e
     obtain ⟨p, vs, rfl, h1, h2⟩ := pf rr dx e
     rcases h1 with h1 | ⟨h1, _⟩
     · exact kY pins s σ H _ us Q I r ⟨p, vs, rfl, .inl ⟨h1, fun l hl => Po.tup q rr h2 hl⟩⟩
     · exact kY pins s σ H _ us Q I r ⟨p, vs, rfl, .inr ⟨h1, Po.ok q rr (.tup h1 h2)⟩⟩
   · exact q.elim
theorem pA {Z : Zt} {m : List Addr} {H : Hp} : ∀ {vs : List V} {ds : List U} {us : List Value} {b : Bool}, ak Z m H vs ds → Vals vs us → allB ds = some b → (∀ u ∈ us, ∃ c, u = Value.bool c) ∧ b = (List.range us.length).all fun i => us[i]? == some (Value.bool true)
 | _, _, _, b, .nil, .nil, h => by
   cases h
   exact ⟨fun u hu => absurd hu (by simp), rfl⟩
 | _, _, _, b, .cons dv r, .cons rv rs, h => by
   cases dv with
   | @bl c =>
     rw [allB] at h
     obtain ⟨b', h1, h2⟩ := Option.map_eq_some_iff.mp h
     obtain ⟨i1, i2⟩ := pA r rs h1
     obtain rfl := (show _ = Value.bool c from rv)
     refine ⟨fun u hu => ?_, ?_⟩
     · rcases List.mem_cons.mp hu with rfl | hu
       · exact ⟨c, rfl⟩
       · exact i1 u hu
     · rw [← h2, i2, List.length_cons, List.range_succ_eq_map, List.all_cons, List.all_map]
       congr 1
       cases c <;> rfl
   | _ => cases h
theorem Hg (hc : X.calm = true) : fX X (.builtin "all") (rB (zt X cl) Ex (evB .all)) := by
 intro pins s σ H xs us Q I r q
 obtain ⟨m, st, ds, rr, dn, q⟩ := q
 match ds, q with
 | [x], q =>
   obtain ⟨v, rfl, dx⟩ := nV dn
   simp only [evB.eq_def] at q
   split at q
   · rename_i ys e
     obtain ⟨p, vs, rfl, h1, h2⟩ := pb rr dx e
     cases hb : allB ys with
     | none => rw [hb] at q; exact q.elim
     | some b =>
       rw [hb] at q
       obtain ⟨u, rfl, ru⟩ := vals1 r
       cases (show u = Value.ref _ from ru)
       obtain ⟨its, rv, p, hz⟩ := I.list h1
       obtain ⟨i1, i2⟩ := pA h2 rv hb
       have lt : ∀ a, s.heap.IsList a its.toArray → a ≠ s.heap.objs.size := fun a ⟨o, z, _⟩ => Nat.ne_of_lt (Heap.lt_size z)
       refine call_all_walk (wpAny_pyIter_list p.isList ⟨_, _, _, _, _, _, fun i => its[i]? == some (Value.bool true), rfl, Walks.list (A := X.A.in1) (I.ok.hd hc) _ _ (lt _ p.isList) its.toArray, ⟨⟨_, Heap.get?_push_size _ rfl, rfl, rfl⟩, ?_⟩, fun i v s' Q' E' hP hQ => ?_, fun h' tk hk => ?_⟩)
       · obtain ⟨o, z1, z2⟩ := p.isList
         exact ⟨o, Heap.get?_push_of_some _ z1, z2⟩
       · have hP' : its[i]? = some v := by simpa using hP
         obtain ⟨c, rfl⟩ := i1 v (List.mem_of_getElem? hP')
         refine wpAny_truthy_bool ?_
         have hQ : Q' (its[i]? == some (Value.bool true)) s' := hQ
         rw [hP'] at hQ
         cases c
         · exact hQ
         · exact hQ
       · have e1 : its.toArray.size = its.length := List.size_toArray
         refine ⟨.bl b, H, I.kept (t' := tk) fun b' o z => ?_, ?_, Po.ok q rr .bl⟩
         · refine hk b' o (fun hm => ?_) (Heap.get?_push_of_some _ z)
           have : b' = s.heap.objs.size := by simpa using hm
           exact absurd (Heap.lt_size z) (by rw [this]; exact Nat.lt_irrefl _)
         · rw [e1, ← i2]; rfl
   · exact q.elim
noncomputable def aO : List Str := ["len", "abs", "max", "min", "int", "bool", "list", "tuple", "str", "isinstance", "range", "enumerate", "all", "zip", "sorted", "sum", "any", "reversed"]
noncomputable def trT (x : Str) : Option Ty :=
 if x = "int" then some .int else if x = "bool" then some .bool else if x = "tuple" then some .tuple else if x = "list" then some .list else if x = "str" then some .str else none
noncomputable def trB (x : Str) : Option Bi :=
 if x = "len" then some .len else if x = "abs" then some .abs else if x = "max" then some .max else if x = "min" then some .min else if x = "int" then some .int else
 if x = "list" then some .list else if x = "tuple" then some .tuple else if x = "all" then some .all else none
theorem KR (hc : X.calm = true) (hb : ∀ x ∈ aO, X.mg x = none) {x : Str} {b : Bi} {p pos : Pos} {e : Expr} {es : List Expr} {t : TA} (h : trB x = some b) (hg : Gl X x) (ha : PA X (e :: es) t)
   (he : starEach (e :: es) X.env = (false, eval e X.env) :: starEach es X.env) (hpl : (backTo pos (starEach es X.env)).any (·.1) = false) : PE X (.Call (.Name x p) (e :: es) [] pos) (tCB (rB (zt X cl) Ex (evB b)) t) := by
 unfold trB at h
 split at h
 · rename_i q; subst q; cases h
   exact jb Ha hg (hb _ (by simp [aO])) (by decide +kernel) ha (by decide) (by decide) he hpl
 split at h
 · rename_i q; subst q; cases h
   exact jb IQ hg (hb _ (by simp [aO])) (by decide +kernel) ha (by decide) (by decide) he hpl
 split at h
 · rename_i q; subst q; cases h
   exact jb (I0 hc) hg (hb _ (by simp [aO])) (by decide +kernel) ha (by decide) (by decide) he hpl
 split at h
 · rename_i q; subst q; cases h
   exact jb (GV hc) hg (hb _ (by simp [aO])) (by decide +kernel) ha (by decide) (by decide) he hpl
 split at h
 · rename_i q; subst q; cases h
   exact ny Gb hg (hb _ (by simp [aO])) (by decide +kernel) ha (by decide) (by decide) he hpl
 split at h
 · rename_i q; subst q; cases h
   exact ny D8 hg (hb _ (by simp [aO])) (by decide +kernel) ha (by decide) (by decide) he hpl
 split at h
 · rename_i q; subst q; cases h
   exact ny Bw hg (hb _ (by simp [aO])) (by decide +kernel) ha (by decide) (by decide) he hpl
 split at h
 · rename_i q; subst q; cases h
   exact jb (Hg hc) hg (hb _ (by simp [aO])) (by decide +kernel) ha (by decide) (by decide) he hpl
 cases h
theorem xP : typeLookup (Value.type "list_reverseiterator") (Str.ofString "__len__") = pure none := by with_unfolding_all rfl
theorem Bf : typeLookup (Value.type "list_reverseiterator") (Str.ofString "__length_hint__") = pure (some (.builtin "list_reverseiterator.__length_hint__")) := by with_unfolding_all rfl
theorem E7 : isSubtype (.type "list_reverseiterator") (.type "list_reverseiterator") = pure true := by with_unfolding_all rfl
theorem Am : splitId "list_reverseiterator.__length_hint__" = some ("list_reverseiterator", "__length_hint__") := by with_unfolding_all rfl
theorem wq {prog : Program} {w : World} {A : Around} {E : Value → Shared → Prop} {s : Shared} {I : Addr} {Q : Bool → Shared → Prop}
   (ht : s.TypeIs (.ref I) "list_reverseiterator") (q : Q false s) : wpAny (model prog w) A (Builtin.List.listLengthHint (.ref I)) Q E s := by
 unfold Builtin.List.listLengthHint
 refine wpAny_bind (wpAny_specialOf ht xP ?_)
 dsimp only
 refine wpAny_bind (wpAny_specialOf ht Bf ?_)
 simp only [Am]
 refine wpAny_bind (wpAny_isInstance ht E7 ?_)
 simp only [Bool.not_true, Bool.false_eq_true, if_false]
 exact wpAny_pure q
theorem qP {prog : Program} {w : World} {A : Around} {E : Value → Shared → Prop} {s : Shared} {I l : Addr} {items : Array Value} {Q : Value → Shared → Prop}
   (hh : A.handled = none) (hl : l ≠ I) (hi : s.heap.IsRevIter I l (items.size - 1)) (hs : s.heap.IsList l items) (hz : items.size ≤ sizeLine)
   (q : ∀ (h' : Heap) (tk : Nat) (acc : Array Value) (c : Nat), (∀ b o, b ≠ I → s.heap.get? b = some o → h'.get? b = some o) → h'.get? s.heap.objs.size = some { cls := .type "list", data := .seq acc c } →
     ItemsOf (fun i v => items[items.size - 1 - i]? = some v) acc items.size → Q (.ref s.heap.objs.size) { s with heap := h', toks := tk }) :
   wpAny (model prog w) A (call (.type "list") [.ref I]) Q E s := by
 refine callType_codes F.called_list (F.typeCall_list_1 _) F.entry_list_init (code_list_new _ (Q₁ := fun v s₁ => v = .ref s.heap.objs.size ∧ s₁ = { s with heap := s.heap.push { cls := .type "list", data := .seq #[] } }) ⟨rfl, rfl⟩) ?_
 rintro obj s₁ ⟨rfl, rfl⟩
 have hS : (s.heap.push { cls := .type "list", data := .seq #[] }).get? s.heap.objs.size = some { cls := .type "list", data := .seq #[] } := Heap.get?_push_size _ rfl
 refine ⟨⟨_, hS, rfl⟩, F.args_list_init_2 _ _, ?_⟩
 have hIlt : I < s.heap.objs.size := by obtain ⟨o, z, _⟩ := hi; exact Heap.lt_size z
 have hllt : l < s.heap.objs.size := by obtain ⟨o, z, _⟩ := hs; exact Heap.lt_size z
 have hIne : I ≠ s.heap.objs.size := Nat.ne_of_lt hIlt
 have hlne : l ≠ s.heap.objs.size := Nat.ne_of_lt hllt
 unfold Builtin.«list.__init__»
 simp only [List.isEmpty_nil, Bool.not_true, Bool.false_eq_true, if_false, List.length_cons, List.length_nil, gt_iff_lt, Nat.lt_irrefl]
 refine wpAny_bind ?_
 unfold Builtin.List.listItems
 refine wpAny_bind (wpAny_seqItems hS rfl ?_)
 refine wpAny_pure ?_
 have fin : ∀ (h2 : Heap) (c : Nat), (∀ b o, b ≠ s.heap.objs.size → s.heap.get? b = some o → h2.get? b = some o) → h2.get? s.heap.objs.size = some { cls := .type "list", data := .seq #[] c } →
     codeAny (model prog w) A.in1 (Code.builtin "list.extend.loop" { pos := [Value.ref s.heap.objs.size, Value.ref I, Value.none] }) (wants (fun r s₂ => r = Value.none ∧ Q (Value.ref s.heap.objs.size) s₂) E) { s with heap := h2 } := by
   intro h2 c kp e
   have W := (Walks.listRev (prog := prog) (w := w) (A := A.in1.in1) hh I l hl items).toS
   refine codeAny_extend_loopS W hz s.heap.objs.size ?_ _ (items.size - 0) 0 _ _ c rfl (Nat.zero_le _) ⟨Nat.zero_le _, ?_, ?_⟩ e (ItemsOf.nil _) fun s' acc' c' mv e' it => ?_
   · intro z
     simp only [List.mem_cons, List.not_mem_nil, or_false] at z
     rcases z with z | z
     · exact hIne z.symm
     · exact hlne z.symm
   · obtain ⟨o, z1, z2, z3⟩ := hi
     exact ⟨o, kp _ _ hIne z1, z2, by rw [z3]; simp⟩
   · obtain ⟨o, z1, z2⟩ := hs
     exact ⟨o, kp _ _ hlne z1, z2⟩
   · rw [mv.eq_with]
     refine ⟨rfl, q _ _ _ _ (fun b o hb z => ?_) e' it⟩
     have hb2 : b ≠ s.heap.objs.size := Nat.ne_of_lt (Heap.lt_size z)
     exact mv.heap b o (by simp only [List.mem_cons, List.not_mem_nil, or_false]; exact fun y => y.elim hb2 hb) (kp _ _ hb2 z)
 have kp0 : ∀ b o, b ≠ s.heap.objs.size → s.heap.get? b = some o → (s.heap.push { cls := .type "list", data := .seq #[] }).get? b = some o := fun b o _ z => Heap.get?_push_of_some _ z
 unfold Builtin.List.listUpdate
 refine wpAny_bind (wpAny_updateSeq hS rfl ?_)
 refine wpAny_bind (wpAny_letGo ?_)
 have hS1 : ∃ c, ((s.heap.push { cls := .type "list", data := .seq #[] }).update s.heap.objs.size (Obj.mapSeq fun x => #[])).get? s.heap.objs.size = some { cls := .type "list", data := .seq #[] c } := ⟨_, Heap.get?_update_self _ hS rfl⟩
 have kp1 : ∀ b o, b ≠ s.heap.objs.size → s.heap.get? b = some o → ((s.heap.push { cls := .type "list", data := .seq #[] }).update s.heap.objs.size (Obj.mapSeq fun x => #[])).get? b = some o := fun b o hb z => by rw [Heap.get?_update_other _ _ (Ne.symm hb)]; exact kp0 b o hb z
 revert kp1 hS1
 generalize (s.heap.push { cls := .type "list", data := .seq #[] }).update s.heap.objs.size (Obj.mapSeq fun x => #[]) = h1
 rintro ⟨c1, hS1⟩ kp1
 have hi1 : h1.IsRevIter I l (items.size - 1) := by obtain ⟨o, z1, z2⟩ := hi; exact ⟨o, kp1 _ _ hIne z1, z2⟩
 have ht : Shared.TypeIs { s with heap := h1 } (.ref I) "list_reverseiterator" := by obtain ⟨o, z1, z2, _⟩ := hi1; exact ⟨o, z1, z2⟩
 unfold Builtin.List.listExtendWith
 refine wpAny_bind (wpAny_typeOf ht ?_)
 have nsame : (Builtin.List.listSameRef (Value.ref s.heap.objs.size) (Value.ref I) || Value.type "list_reverseiterator" == Value.type "list" || Value.type "list_reverseiterator" == Value.type "tuple") = false := by
   have : Builtin.List.listSameRef (Value.ref s.heap.objs.size) (Value.ref I) = false := by
     unfold Builtin.List.listSameRef
     simp [Ne.symm hIne]
   rw [this]; rfl
 rw [if_neg (by rw [nsame]; decide)]
 refine wpAny_bind (wpAny_pyIter_revIter hi1 ?_)
 refine wpAny_bind (wpAny_holding (wq ht ?_))
 have go : ∀ (h2 : Heap) (c : Nat), (∀ b o, b ≠ s.heap.objs.size → s.heap.get? b = some o → h2.get? b = some o) → h2.get? s.heap.objs.size = some { cls := .type "list", data := .seq #[] c } →
     wpAny (model prog w) A.in1.in1 (again (Code.builtin "list.extend.loop" { pos := [Value.ref s.heap.objs.size, Value.ref I, Value.none] })) (fun fin s' =>
     match fin with
     | Fin.done f => wants (fun r s₂ => r = Value.none ∧ Q (Value.ref s.heap.objs.size) s₂) E (Except.ok f) s'
     | Fin.again c' =>
       c'.quiet = true ∧
         codeAny (model prog w) A.in1 c' (wants (fun r s₂ => r = Value.none ∧ Q (Value.ref s.heap.objs.size) s₂) E) s')
     (fun e s' => wants (fun r s₂ => r = Value.none ∧ Q (Value.ref s.heap.objs.size) s₂) E (Except.error e) s') { s with heap := h2 } := fun h2 c k1 k2 =>
   wpAny_pure ⟨plainId_quiet F.plain_extend_loop _, fin h2 c k1 k2⟩
 refine wpAny_ite_split (fun _ => ?_) (fun _ => go h1 c1 kp1 hS1)
 refine wpAny_bind (wpAny_rule ?_)
 refine wpAny_bind ?_
 unfold Builtin.List.listTouch Builtin.List.listUpdate
 refine wpAny_bind (wpAny_updateSeq hS1 rfl ?_)
 have hS2 := Heap.get?_update_self (Obj.mapSeq fun x => x.push Value.none) hS1 rfl
 refine wpAny_updateSeq hS2 rfl ?_
 exact go _ _ (fun b o hb z => by rw [Heap.get?_update_other _ _ (Ne.symm hb), Heap.get?_update_other _ _ (Ne.symm hb)]; exact kp1 b o hb z) (Heap.get?_update_self _ hS2 rfl)
theorem y4 {Z : Zt} {m : List Addr} {H : Hp} : ∀ {vs : List V} {ds : List U}, ak Z m H vs ds → ak Z m H vs.reverse ds.reverse
 | _, _, .nil => .nil
 | _, _, .cons a r => by
   rw [List.reverse_cons, List.reverse_cons]
   exact (y4 r).append (.cons a .nil)
theorem Jy (hc : X.calm = true) {pins : List (Addr × Obj)} {s : Shared} {σ : L2.St} {H : Hp} {xs : List V} {us : List Value} {Q : VK} (I : Inv X pins σ H s) (r : Vals xs us) (q : rB (zt X cl) Ex (evB .rev) xs H Q) :
   wpAny (model X.prog X.w) X.A (call (.type "reversed") us) (fun v s2 => wpAny (model X.prog X.w) X.A (call (.type "list") [v]) (EP X pins σ Q) X.xe s2) X.xe s := by
 obtain ⟨m, st, ds, rr, dn, q⟩ := q
 match ds, q with
 | [x], q =>
   obtain ⟨v, rfl, dx⟩ := nV dn
   simp only [evB.eq_def] at q
   split at q
   · rename_i ys e
     obtain ⟨p, vs, rfl, h1, h2⟩ := pb rr dx e
     obtain ⟨u, rfl, ru⟩ := vals1 r
     cases (show u = Value.ref _ from ru)
     obtain ⟨its, rv, pl, hz⟩ := I.list h1
     have hlen := rv.length
     have ne : p ≠ s.heap.objs.size := by obtain ⟨o, z, _⟩ := pl.isList; exact Nat.ne_of_lt (Heap.lt_size z)
     refine call_reversed_list pl.isList ?_
     have hp := Heap.get?_push_size s.heap (o := revObj p (its.toArray.size - 1)) rfl
     refine qP (items := its.toArray) (I.ok.hd hc) ne ⟨_, hp, rfl, rfl⟩ ?_ (by rw [List.size_toArray, ← hlen]; exact hz) fun h' tk acc c kp e' it => ?_
     · obtain ⟨o, z1, z2⟩ := pl.isList
       exact ⟨o, Heap.get?_push_of_some _ z1, z2⟩
     · have ea : acc = its.reverse.toArray := by
         obtain ⟨i1, i2⟩ := it
         have i1 : acc.size = its.length := i1.trans List.size_toArray
         refine Array.ext (by rw [i1]; simp) fun i hi1 hi2 => ?_
         have hi3 : i < its.length := i1 ▸ hi1
         have this : its.toArray[its.toArray.size - 1 - i]? = some acc[i] := i2 i acc[i] (Array.getElem?_eq_getElem _)
         rw [List.getElem?_toArray, List.size_toArray, List.getElem?_eq_getElem (by omega)] at this
         have hb : i < its.reverse.length := by rw [List.length_reverse]; exact hi3
         exact (Option.some.inj this).symm.trans ((List.getElem_reverse hb).symm.trans (List.getElem_toArray (xs := its.reverse) hi2).symm)
       subst ea
       have kq : ∀ b u, s.heap.get? b = some u → h'.get? b = some u := fun b u z => kp b u (Nat.ne_of_lt (Heap.lt_size z)) (Heap.get?_push_of_some _ z)
       refine ⟨.ref (s.heap.push (revObj p (its.toArray.size - 1))).objs.size, upd H (s.heap.push (revObj p (its.toArray.size - 1))).objs.size (.lst vs.reverse), I.laid (t' := tk) kq ?_ (show iB X.prog X.w _ h' _ (.lst vs.reverse) from ⟨by rw [List.length_reverse]; exact hz, its.reverse, c, rv.reverse, e'⟩), rfl, Po.new q rr (y4 h2) ?_⟩
       · rw [Heap.size_push]; exact Nat.le_succ _
       · exact I.hok.fresh (by rw [Heap.size_push]; exact Nat.le_succ _)
   · exact q.elim
theorem IA (hc : X.calm = true) (hb : ∀ x ∈ aO, X.mg x = none) {p p2 pos pos2 : Pos} {e : Expr} {t : TA} (hg : Gl X "list") (hg2 : Gl X "reversed") (ha : PA X [e] t)
   (he : starEach [e] X.env = (false, eval e X.env) :: starEach [] X.env) : PE X (.Call (.Name "list" p) [.Call (.Name "reversed" p2) [e] [] pos2] [] pos) (tCB (rB (zt X cl) Ex (evB .rev)) t) := by
 intro pins s σ H Q I h
 refine wpAny_Call_Name_kw (jx I hg (hb _ (by simp [aO])) (by decide +kernel : bootBuiltins "list" = some (.type "list")) ?_ (by decide) (by decide))
 refine PyProof.Rows.callWith_type1 ?_ rfl rfl
 refine Calls.spliced_cons ?_
 refine wpAny_Call_Name_kw (jx I hg2 (hb _ (by simp [aO])) (by decide +kernel : bootBuiltins "reversed" = some (.type "reversed")) ?_ (by decide) (by decide))
 refine PyProof.Rows.callWith_type1 (thn (ha pos2 pins s σ H _ I h) fun us s1 ⟨vs, H1, I1, r1, q1⟩ => ?_) he rfl
 exact thn (Jy hc I1 r1 q1) fun v s2 z => Calls.spliced_nil z
noncomputable def tyN : Ty → String
 | .int => "int" | .bool => "bool" | .tuple => "tuple" | .list => "list" | .str => "str"
noncomputable def JX : U → String
 | .non => "NoneType" | .bl _ => "bool" | .int _ => "int" | .str _ => "str" | .tup _ => "tuple" | .loc _ => "list" | .kl _ => "list" | .exo _ => "NoneType"
theorem Hy (K : PySem.W.Frag) (d : U) (t : Ty) : PySem.W.kitOne K (.type (JX d)) (.type (tyN t)) = some (AA t d) := by
 cases d <;> cases t <;> (show PySem.W.kitOne K (.type _) (.type _) = some _) <;> with_unfolding_all rfl
theorem He (t : Ty) : fX X (.builtin "isinstance") (fun xs H Q => ∃ m st x d, R (zt X cl) m st H ∧ xs = [x, .ty (tyN t)] ∧ br (zt X cl) m H x d ∧ (∀ c, d ≠ .exo c) ∧ Q (.bl (AA t d)) H) := by
 intro pins s σ H xs us Q I r q
 obtain ⟨m, st, x, d, rr, rfl, dx, ne, q⟩ := q
 obtain ⟨u, w, rfl, rx, rt⟩ := vals2 r
 cases (show w = Value.type (tyN t) from rt)
 have kt := Hy X.K d t
 have fin : ∀ tk, EP X pins σ Q (.bool (AA t d)) { s with toks := tk } := fun tk => ⟨.bl _, H, I.tok _, rfl, q⟩
 cases dx with
 | non => cases (show u = Value.none from rx); exact PySem.W.kia_one PySem.W.kitx_none I.kIn True.intro kt (fun z => nomatch z) fin
 | bl => cases (show u = Value.bool _ from rx); exact PySem.W.kia_one PySem.W.kitx_bool I.kIn True.intro kt (fun z => nomatch z) fin
 | int => obtain ⟨t', z⟩ := (show ∃ t, u = Value.int _ t from rx); cases z; exact PySem.W.kia_one PySem.W.kitx_int I.kIn True.intro kt (fun z => nomatch z) fin
 | str => obtain ⟨t', z⟩ := (show ∃ t, u = Value.str _ t from rx); cases z; exact PySem.W.kia_one PySem.W.kitx_str I.kIn True.intro kt (fun z => nomatch z) fin
 | tup h r1 =>
   cases (show u = Value.ref _ from rx)
   obtain ⟨its, _, ⟨o, h1, h2, _⟩, _⟩ := I.tuple h
   exact PySem.W.kia_one PySem.W.kitx_tuple I.kIn ⟨o, h1, h2⟩ kt (fun z => nomatch z) fin
 | loc h =>
   cases (show u = Value.ref _ from rx)
   obtain ⟨fz, ds, vs, _, ly, _⟩ := rr.loc h
   obtain ⟨its, _, ⟨o, n, h1, h2, _⟩, _⟩ := I.list ly.sq
   exact PySem.W.kia_one PySem.W.kitx_list I.kIn ⟨o, h1, h2⟩ kt (fun z => nomatch z) fin
 | exo h => exact absurd rfl (ne _)
 | kl h r1 =>
   cases (show u = Value.ref _ from rx)
   obtain ⟨its, _, ⟨o, n, h1, h2, _⟩, _⟩ := I.list h.sq
   exact PySem.W.kia_one PySem.W.kitx_list I.kIn ⟨o, h1, h2⟩ kt (fun z => nomatch z) fin
theorem KH (hb : ∀ x ∈ aO, X.mg x = none) {x : Str} {t : Ty} {p : Pos} (h : trT x = some t) (hg : Gl X x) : PE X (.Name x p) (tC (.ty (tyN t))) := by
 unfold trT at h
 split at h
 · rename_i q; subst q; cases h
   exact mQ (u := .type "int") hg (hb _ (by simp [aO])) (by decide +kernel) rfl (by decide) (by decide)
 split at h
 · rename_i q; subst q; cases h
   exact mQ (u := .type "bool") hg (hb _ (by simp [aO])) (by decide +kernel) rfl (by decide) (by decide)
 split at h
 · rename_i q; subst q; cases h
   exact mQ (u := .type "tuple") hg (hb _ (by simp [aO])) (by decide +kernel) rfl (by decide) (by decide)
 split at h
 · rename_i q; subst q; cases h
   exact mQ (u := .type "list") hg (hb _ (by simp [aO])) (by decide +kernel) rfl (by decide) (by decide)
 split at h
 · rename_i q; subst q; cases h
   exact mQ (u := .type "str") hg (hb _ (by simp [aO])) (by decide +kernel) rfl (by decide) (by decide)
 cases h
theorem E8 {Z : Zt} {m : List Addr} {H : Hp} {vs : List V} {ds : List U} {i : Int} {d : U} (r : ak Z m H vs ds) (h : atI ds i = some d) : ∃ v, atI vs i = some v ∧ br Z m H v d := by
 unfold atI at h ⊢
 rw [r.length]
 cases e : ixN ds.length i with
 | none => rw [e] at h; cases h
 | some j =>
   rw [e] at h
   obtain ⟨v, h1, h2⟩ := r.get (show ds[j]? = some d from h)
   exact ⟨v, h1, h2⟩
theorem II : IxR X (rO (zt X cl) Ex evI) := by
 intro value slice pins s σ H x y v u Q I rx ry q hs
 obtain ⟨m, st, a, b, r, dx, dy, q⟩ := q
 unfold evI at q
 split at q
 · rename_i xs i e
   cases dy
   split at q
   · rename_i z hz
     obtain ⟨p, vs, rfl, h1, h2⟩ := pf r dx e
     obtain ⟨w, g1, g2⟩ := E8 h2 hz
     rcases h1 with h1 | ⟨h1, _⟩
     · exact Fc value slice pins s σ H _ _ v u Q I rx ry ⟨p, vs, _, w, rfl, rfl, h1, g1, Po.ok q r g2⟩ hs
     · exact Gs value slice pins s σ H _ _ v u Q I rx ry ⟨p, vs, _, w, rfl, rfl, h1, g1, Po.ok q r g2⟩ hs
   · exact q.elim
 · exact q.elim
theorem DM {Z : Zt} {m : List Addr} {H : Hp} {vs : List V} {ds : List U} (r : ak Z m H vs ds) (lo hi : Option Int) : ak Z m H (Aw vs lo hi) (BD ds lo hi) := by
 unfold Aw BD
 rw [r.length]
 exact (r.drop _).take _
theorem Ez : JJ X (fun o i v H Q => ∃ m st a b c, R (zt X cl) m st H ∧ br (zt X cl) m H o a ∧ br (zt X cl) m H i b ∧ br (zt X cl) m H v c ∧ ∃ st', evP a b c st = some st' ∧ ∀ H', Go m H m H' → R (zt X cl) m st' H' → Q H') := by
 intro pins s σ H o i v ov iv u Q I ro ri rv q
 obtain ⟨m, st, a, b, c, r, dA, db, dc, st', e, q⟩ := q
 unfold evP at e
 split at e
 · rename_i l j
   split at e
   · rename_i xs hs
     obtain ⟨k, hk, rfl⟩ := Option.map_eq_some_iff.mp e
     obtain ⟨p, rfl, hp⟩ := lV dA
     cases db
     obtain ⟨p', vs, f1, f2, f3⟩ := r.at hs
     rw [hp] at f1; cases f1
     unfold Lay at f2
     rw [if_neg (by decide)] at f2
     have hl := f3.length
     obtain ⟨g, r'⟩ := r.put hp hs (f3.set k dc)
     exact set_list pins s σ H _ _ v ov iv u Q I ro ri rv ⟨_, vs, _, k, rfl, rfl, f2, by rw [hl]; exact hk, q _ g r'⟩
   · cases e
 · cases e
end
end Sv
namespace Sv
open PySem PySem.Spec PyProof.Rows L2
open Ev (D aR aY ai j2 kf eD slot slot_get iZ jU j8 mL jq gc j7 aT nR lO PTs mP oA Cf Ite)
structure Tr where
 sc : Scope
 N : List Str
 F : List Str
 cap : List Nat
 cst : List (Str × Int)
noncomputable def iC (T : Tr) (scope : Scope) : List (Option Nat) := (j7 scope).map fun x => if (x, NameKind.free) ∈ scope.names then slot T.N x else none
noncomputable def qr (T : Tr) (scope : Scope) : Tr :=
 { sc := jq scope T.sc, N := j7 scope ++ [("#" : Str)], F := T.F, cap := (List.range (iC T scope).length).filter fun j => ((iC T scope).getD j none).isSome, cst := T.cst }
noncomputable def yG (T : Tr) (scope : Scope) : Bool :=
 scope.names.all (fun p => p.2 != .free || (slot T.N p.1).isSome) && scope.kind == .function && T.sc.kind == .function && scope.names.all (fun p => p.2 != .local || scope.names.lookup p.1 == some .local) && scope.names.all (fun p => p.2 != .free || T.sc.names.lookup p.1 == some .cell)
   && scope.names.all (fun p => p.2 != .free || (!decide ((p.1, NameKind.cell) ∈ scope.names) && !decide ((p.1, NameKind.local) ∈ scope.names))) && decide (j7 scope ++ [("#" : Str)]).Nodup
   && !iZ (jq scope T.sc) ("#" : Str) && (match (jq scope T.sc).names.lookup ("#" : Str) with | some .free => false | _ => true)
noncomputable def trV (T : Tr) (x : Str) : Option Nat :=
 if iZ T.sc x = true ∧ (x == ("__debug__" : Str)) = false ∧ (x == ("__classdict__" : Str)) = false then slot T.N x else none
noncomputable def eL (T : Tr) : List Expr → Option (List Nat)
 | [] => some []
 | .Name x _ :: r => (trV T x).bind fun i => if i ∈ T.cap then none else (eL T r).bind fun is => some (i :: is)
 | _ => none
noncomputable def mf (T : Tr) : Expr → Option Tg
 | .Name x _ => (trV T x).bind fun i => if i ∈ T.cap then none else some (.nm i)
 | .Tuple es _ _ => (eL T es).bind fun is => some (.tp is)
 | _ => none
noncomputable def uF : Expr → It → Bool
 | .Tuple _ _ _, _ => true
 | _, .enu _ => false
 | _, .zip _ _ => false
 | _, _ => true
noncomputable def Jr (T : Tr) (x : Str) : Expr → List Expr → Option Expr
 | .Call (.Name y _) [a] [] _, [] => if x = "list" ∧ y = "reversed" ∧ jU T.sc y = true ∧ slot T.F y = none then some a else none
 | _, _ => none
theorem CA {T : Tr} {x : Str} {e a : Expr} {es : List Expr} (h : Jr T x e es = some a) : x = "list" ∧ es = [] ∧ jU T.sc "reversed" = true ∧ ∃ p q, e = .Call (.Name "reversed" p) [a] [] q := by
 unfold Jr at h
 split at h
 · split at h
   · rename_i hh
     obtain ⟨rfl, rfl, h3, _⟩ := hh
     cases h
     exact ⟨rfl, rfl, h3, _, _, rfl⟩
   · cases h
 · cases h
noncomputable def stE (T : Tr) (rE : Tr → Expr → Option E) (rEs : List Expr → Option (List E)) (rP : Option Expr → Option E) (rI : Expr → Option It) (rIf : Tr → List Expr → Option (List E)) : Expr → Option E
 | .Name x _ => if jU T.sc x = true ∧ (x == ("__debug__" : Str)) = false then (T.cst.lookup x).bind fun i => some (.cI i) else (trV T x).bind fun i => some (.var i)
 | .Constant (.int i) _ _ => some (.cI i)
 | .Constant (.bool b) _ _ => some (.cB b)
 | .Constant .none _ _ => some .cN
 | .Constant (.str x) _ _ => some (.cS x)
 | .BinOp a o b _ => (trO o).bind fun o' => (rE T a).bind fun a' => (rE T b).bind fun b' => some (.op o' a' b')
 | .UnaryOp .USub a _ => (rE T a).bind fun a' => some (.neg a')
 | .UnaryOp .Not a _ => (rE T a).bind fun a' => some (.not a')
 | .Compare a [o] [b] _ =>
   match o, b with
   | .Is, .Constant (.bool c) _ _ => (rE T a).bind fun a' => some (.isB false a' c)
   | .IsNot, .Constant (.bool c) _ _ => (rE T a).bind fun a' => some (.isB true a' c)
   | .Is, .Constant .none _ _ => (rE T a).bind fun a' => some (.isN false a')
   | .IsNot, .Constant .none _ _ => (rE T a).bind fun a' => some (.isN true a')
   | o, b => (trC o).bind fun o' => (rE T a).bind fun a' => (rE T b).bind fun b' => some (.cmp o' a' b')
 | .Compare a [o, p] [b, c] _ => (trC o).bind fun o' => (trC p).bind fun p' => (rE T a).bind fun a' => (rE T b).bind fun b' => (rE T c).bind fun c' => some (.chain o' p' a' b' c')
 | .BoolOp _ [a] _ => rE T a
 | .BoolOp .And (a :: b :: r) pos => (rE T a).bind fun a' => (rE T (.BoolOp .And (b :: r) pos)).bind fun b' => some (.and a' b')
 | .BoolOp .Or (a :: b :: r) pos => (rE T a).bind fun a' => (rE T (.BoolOp .Or (b :: r) pos)).bind fun b' => some (.or a' b')
 | .IfExp c a b _ => (rE T c).bind fun c' => (rE T a).bind fun a' => (rE T b).bind fun b' => some (.ite c' a' b')
 | .Tuple es _ _ => (rEs es).bind fun es' => some (.tup es')
 | .List es _ => (rEs es).bind fun es' => some (.lst es')
 | .Subscript a (.Slice lo hi none _) _ => (rE T a).bind fun a' => (rP lo).bind fun l' => (rP hi).bind fun h' => some (.sl a' l' h')
 | .Subscript _ (.Slice _ _ (some _) _) _ => none
 | .Subscript a i _ => (rE T a).bind fun a' => (rE T i).bind fun i' => some (.ix a' i')
 | .Call (.Name x _) (e :: es) [] _ =>
   if jU T.sc x = true ∧ (x == ("__debug__" : Str)) = false then
     match slot T.F x with
     | some k => (rEs (e :: es)).bind fun es' => some (.call k es')
     | none =>
       if x = "isinstance" then
         match es with
         | [.Name t _] => if jU T.sc t = true then (trT t).bind fun ty => (rE T e).bind fun a' => some (.isi a' ty) else none
         | _ => none
       else match Jr T x e es with
         | some a => (rEs [a]).bind fun es' => some (.bi .rev es')
         | none => (trB x).bind fun b => (rEs (e :: es)).bind fun es' => some (.bi b es')
   else none
 | .ListComp elt [⟨tg, iter, ifs, asy⟩] scope _ =>
   if asy = 0 ∧ yG T scope = true then
     (mf (qr T scope) tg).bind fun t => (rI iter).bind fun it => (rIf (qr T scope) ifs).bind fun fs => (rE (qr T scope) elt).bind fun e =>
       if uF tg it = true then some (.comp (iC T scope) t it fs e) else none
   else none
 | _ => none
mutual
noncomputable def trE (T : Tr) : Nat → Expr → Option E
 | 0, _ => none
 | n + 1, e => stE T (fun T' e' => trE T' n e') (fun es => jy T n es) (fun o => trP T n o) (fun i => trI T n i) (fun T' es => wy T' n es) e
noncomputable def jy (T : Tr) : Nat → List Expr → Option (List E)
 | 0, _ => none
 | _ + 1, [] => some []
 | n + 1, e :: es => (trE T n e).bind fun e' => (jy T n es).bind fun es' => some (e' :: es')
noncomputable def trP (T : Tr) : Nat → Option Expr → Option E
 | _, none => some .cN
 | 0, some _ => none
 | n + 1, some e => (trE T n e).bind fun e' => match e' with | .cN => none | e' => some e'
noncomputable def wy (T : Tr) : Nat → List Expr → Option (List E)
 | _, [] => some []
 | 0, _ :: _ => none
 | n + 1, [c] => (trE T n c).bind fun c' => some [c']
 | _ + 1, _ :: _ :: _ => none
noncomputable def trI (T : Tr) : Nat → Expr → Option It
 | 0, _ => none
 | n + 1, .Call (.Name x p) (a :: r) [] pos =>
   if x = "range" ∧ jU T.sc x = true ∧ slot T.F x = none then
     match r with
     | [] => (trE T n a).bind fun e => some (.rng e)
     | [b] => (trE T n a).bind fun e => (trE T n b).bind fun e2 => some (.rng2 e e2)
     | _ => none
   else if x = "enumerate" ∧ jU T.sc x = true ∧ slot T.F x = none then
     match r with
     | [] => (trE T n a).bind fun e => some (.enu e)
     | _ => none
   else if x = "zip" ∧ jU T.sc x = true ∧ slot T.F x = none then
     match r with
     | [b] => (trE T n a).bind fun e => (trE T n b).bind fun e2 => some (.zip e e2)
     | _ => none
   else (trE T n (.Call (.Name x p) (a :: r) [] pos)).bind fun e => some (.seq e)
 | n + 1, it => (trE T n it).bind fun e => some (.seq e)
end
theorem dH {T : Tr} {n : Nat} {e : Expr} {e' : E} (h : trE T n e = some e') (es : List Expr) (env : PySem.Env) : starEach (e :: es) env = (false, eval e env) :: starEach es env := by
 cases n with
 | zero => rw [trE] at h; cases h
 | succ n =>
   cases e with
   | Starred v p => exact bL (show (none : Option E) = some _ from h)
   | _ => rfl
theorem pQ {T : Tr} : ∀ {n : Nat} {es : List Expr} {es' : List E}, jy T n es = some es' → ∀ (env : PySem.Env) (pos : Pos), (backTo pos (starEach es env)).any (·.1) = false
 | 0, _, _, h, _, _ => by rw [jy] at h; cases h
 | _ + 1, [], _, _, _, _ => rfl
 | n + 1, e :: es, _, h, env, pos => by
   simp only [jy, Option.bind_eq_some_iff] at h
   obtain ⟨e', h1, es', h2, _⟩ := h
   rw [dH h1]
   have q := pQ h2 env pos
   unfold backTo at q ⊢
   rw [List.map_cons, List.any_cons]
   exact q
theorem fo {T : Tr} {n : Nat} {e : Expr} {es : List Expr} {es' : List E} (h : jy T n (e :: es) = some es') (env : PySem.Env) : starEach (e :: es) env = (false, eval e env) :: starEach es env := by
 cases n with
 | zero => rw [jy] at h; cases h
 | succ n =>
   simp only [jy, Option.bind_eq_some_iff, Option.some.injEq] at h
   obtain ⟨z1, z2, _⟩ := h
   exact dH z2 es env
theorem gd {T : Tr} {n : Nat} {e : Expr} {es : List Expr} {es' : List E} (h : jy T n (e :: es) = some es') (env : PySem.Env) (pos : Pos) : (backTo pos (starEach es env)).any (·.1) = false := by
 cases n with
 | zero => rw [jy] at h; cases h
 | succ n =>
   simp only [jy, Option.bind_eq_some_iff, Option.some.injEq] at h
   obtain ⟨z1, z2, z3, z4, _⟩ := h
   exact pQ z4 env pos
theorem Jf {T : Tr} {n : Nat} {e : Expr} {e' : E} (h : trE T n e = some e') (env : PySem.Env) (x : Value) : foldedSetIterable e env x = pure x := by
 cases n with
 | zero => rw [trE] at h; cases h
 | succ n =>
   cases e with
   | Set a b c => exact bL (show (none : Option E) = some _ from h)
   | _ => rfl
structure Cal (P : Program) (w : World) (K : PySem.W.Frag) (mg : Str → Option Value) (base : Heap) (CX : CXT) (cl : Nat → Addr) (k : Nat) (x : Str) (F : List U → Sto → Rs U) : Prop where
 ex : ∃ (f : Addr) (fd : FuncData) (ps : List Str) (G : List U → Sto → Rs U),
   bR P w K mg base CX k f fd ps (spU ⟨K, cl⟩ G) ∧ mg x = some (.ref f) ∧ PySem.W.keepIn K (.ref f) = true ∧ ∀ n : Nat, ∃ (dvs : List V) (dus : List Value) (dds : List U), Binds K fd ps dus ∧ Vals dvs dus ∧ (∀ m H, ak ⟨K, cl⟩ m H dvs dds) ∧ ∀ ds st, ds.length = n → F ds st = G (ds ++ dds) st
structure Bg (X : Cx) (T : Tr) (Φ : Fn) (cl : Nat → Addr) (CX : CXT) (Ex : Nat → Hp → Prop) (k : Nat) : Prop where
 sc : X.env.scope = T.sc
 nm : X.N = T.N
 nd : T.N.Nodup
 calm : X.calm = true
 room : jY k X.A
 blt : ∀ x ∈ aO, X.mg x = none
 cal : ∀ i x, T.F[i]? = some x → Cal X.prog X.w X.K X.mg X.base CX cl k x (Φ i)
 fn : ∀ (i : Nat) (x : Str), T.N[i]? = some x → i ∉ T.cap → T.sc.names.lookup x = some .cell → X.fn x = true
 cst : ∀ x i, T.cst.lookup x = some i → ∃ t, X.mg x = some (.int i t)
 cxn : ∀ outer H s E e s', (∀ C a H', ¬ E C a H') → ¬ CX outer H s E e s'
 pas : Passes CX X (xk (zt X cl) Ex)
section
variable {X : Cx} {T : Tr} {Φ : Fn} {cl : Nat → Addr} {CX : CXT} {Ex : Nat → Hp → Prop} {k : Nat}
theorem PE.wk {e : Expr} {t t' : TE} (h : PE X e t) (f : ∀ σ H Q, t' σ H Q → t σ H Q) : PE X e t' := fun pins s σ H Q I q => h pins s σ H Q I (f σ H Q q)
theorem PT.wk {e : Expr} {t t' : TT} (h : PT X e t) (f : ∀ σ H Q, t' σ H Q → t σ H Q) : PT X e t' := fun pins s σ H Q I q => h pins s σ H Q I (f σ H Q q)
theorem PW.wk {e : Expr} {t t' : TT} (h : PW X e t) (f : ∀ σ H Q, t' σ H Q → t σ H Q) : PW X e t' := fun wh pins s σ H Q I q => h wh pins s σ H Q I (f σ H Q q)
theorem PA.wk {e : List Expr} {t t' : TA} (h : PA X e t) (f : ∀ σ H Q, t' σ H Q → t σ H Q) : PA X e t' := fun p pins s σ H Q I q => h p pins s σ H Q I (f σ H Q q)
theorem PO.wk {e : Option Expr} {t t' : TO} (h : PO X e t) (f : ∀ σ H Q, t' σ H Q → t σ H Q) : PO X e t' := fun pins s σ H Q I q => h pins s σ H Q I (f σ H Q q)
theorem PI.wk {tg e : Expr} {t t' : TI} (h : PI X tg e t) (f : ∀ σ H Q, t' σ H Q → t σ H Q) : PI X tg e t' := fun pins s σ H Q I q => h pins s σ H Q I (f σ H Q q)
theorem PG.wk {e : Expr} {t t' : TG} (h : PG X e t) (f : ∀ v σ H Q, t' v σ H Q → t v σ H Q) : PG X e t' := fun pins s σ H v u Q I r q => h pins s σ H v u Q I r (f v σ H Q q)
theorem PGs.wk {e : List Expr} {t t' : TGs} (h : PGs X e t) (f : ∀ v σ H Q, t' v σ H Q → t v σ H Q) : PGs X e t' := fun pins s σ H v u Q I r q => h pins s σ H v u Q I r (f v σ H Q q)
theorem KU {tg it : Expr} {w1 w2 : TI} (h1 : PI X tg it w1) (h2 : PI X tg it w2) : PI X tg it (fun σ H R => w1 σ H R ∨ w2 σ H R) := by
 intro pins s σ H R I h
 rcases h with h | h
 · exact h1 pins s σ H R I h
 · exact h2 pins s σ H R I h
theorem Bg.gl (B : Bg X T Φ cl CX Ex k) {x : Str} (h : jU T.sc x = true) : Gl X x := by
 show X.env.scope.names.lookup x = _
 rw [B.sc]; exact mL h
theorem Bg.vis (B : Bg X T Φ cl CX Ex k) {x : Str} {i : Nat} (h : trV T x = some i) : X.N[i]? = some x ∧ (X.env.scope.names.lookup x = some .local ∨ X.env.scope.names.lookup x = some .cell) ∧ (x == ("__debug__" : Str)) = false ∧ (x == ("__classdict__" : Str)) = false := by
 unfold trV at h
 split at h
 · rename_i c
   exact ⟨by rw [B.nm]; exact slot_get h, by rw [B.sc]; exact j8 c.1, c.2.1, c.2.2⟩
 · cases h
theorem Bg.sto (B : Bg X T Φ cl CX Ex k) {x : Str} {i : Nat} (h : trV T x = some i) (hc : i ∉ T.cap) : X.fn x = true ∨ X.env.scope.names.lookup x = some .local := by
 have hv := (B.vis h).2.1
 rcases hv with z | z
 · exact .inr z
 · refine .inl (B.fn i x ?_ hc (by rw [← B.sc]; exact z))
   unfold trV at h
   split at h
   · exact slot_get h
   · cases h
theorem zp (B : Bg X T Φ cl CX Ex k) : ∀ {es : List Expr} {is : List Nat}, eL T es = some is → PGs X es (fun vs σ H Q => ∃ m st ρ ds ρ', R (zt X cl) m st H ∧ bX (zt X cl) m H σ ρ ∧ ak (zt X cl) m H vs ds ∧ lr is ds ρ = some ρ' ∧ ∀ σ', bX (zt X cl) m H σ' ρ' → Q σ' H) ∧
   (assignEach es X.env).length = is.length ∧ (assignEach es X.env).findIdx? (·.1) = none
 | [], is, h => by
   cases h
   refine ⟨PGs.wk Fg ?_, rfl, rfl⟩
   rintro vs σ H Q ⟨m, st, ρ, ds, ρ', r, en, dn, e, q⟩
   cases dn with
   | nil => cases e; exact ⟨rfl, q _ en⟩
   | cons _ _ => cases e
 | .Name x p :: es, is, h => by
   simp only [eL, Option.bind_eq_some_iff] at h
   obtain ⟨i, h1, h2⟩ := h
   split at h2
   · cases h2
   · rename_i na
     simp only [Option.bind_eq_some_iff, Option.some.injEq] at h2
     obtain ⟨is', h3, rfl⟩ := h2
     obtain ⟨v1, v2, v3, v4⟩ := B.vis h1
     have nd : X.N.Nodup := by rw [B.nm]; exact B.nd
     obtain ⟨ih, il, ix⟩ := zp B h3
     refine ⟨PGs.wk (CS (yZ nd v1 v2 (B.sto h1 na)) ih rfl) ?_, ?_, ?_⟩
     · rintro vs σ H Q ⟨m, st, ρ, ds, ρ', r, en, dn, e, q⟩
       cases dn with
       | nil => cases e
       | cons d1 dr =>
         rw [lr] at e
         exact ⟨_, _, rfl, m, st, _, _, ρ', r, en.set d1, dr, e, q⟩
     · show (assignEach es X.env).length + 1 = _
       rw [il]; rfl
     · show List.findIdx? _ ((false, _) :: assignEach es X.env) = none
       rw [List.findIdx?_cons, ix]; rfl
 | .BoolOp _ _ _ :: _, _, h => by simp [eL] at h
 | .NamedExpr _ _ _ :: _, _, h => by simp [eL] at h
 | .BinOp _ _ _ _ :: _, _, h => by simp [eL] at h
 | .UnaryOp _ _ _ :: _, _, h => by simp [eL] at h
 | .Lambda _ _ _ _ :: _, _, h => by simp [eL] at h
 | .IfExp _ _ _ _ :: _, _, h => by simp [eL] at h
 | .Dict _ _ _ :: _, _, h => by simp [eL] at h
 | .Set _ _ _ :: _, _, h => by simp [eL] at h
 | .ListComp _ _ _ _ :: _, _, h => by simp [eL] at h
 | .SetComp _ _ _ _ :: _, _, h => by simp [eL] at h
 | .DictComp _ _ _ _ _ :: _, _, h => by simp [eL] at h
 | .GeneratorExp _ _ _ _ :: _, _, h => by simp [eL] at h
 | .Await _ _ :: _, _, h => by simp [eL] at h
 | .Yield _ _ :: _, _, h => by simp [eL] at h
 | .YieldFrom _ _ :: _, _, h => by simp [eL] at h
 | .Compare _ _ _ _ :: _, _, h => by simp [eL] at h
 | .Call _ _ _ _ :: _, _, h => by simp [eL] at h
 | .FormattedValue _ _ _ _ :: _, _, h => by simp [eL] at h
 | .JoinedStr _ _ :: _, _, h => by simp [eL] at h
 | .Constant _ _ _ :: _, _, h => by simp [eL] at h
 | .Attribute _ _ _ :: _, _, h => by simp [eL] at h
 | .Subscript _ _ _ :: _, _, h => by simp [eL] at h
 | .Starred _ _ :: _, _, h => by simp [eL] at h
 | .List _ _ :: _, _, h => by simp [eL] at h
 | .Tuple _ _ _ :: _, _, h => by simp [eL] at h
 | .Slice _ _ _ _ :: _, _, h => by simp [eL] at h
theorem wo : ∀ {is : List Nat} {ds : List U} {ρ ρ' : Env}, lr is ds ρ = some ρ' → ds.length = is.length
 | [], [], _, _, _ => rfl
 | _ :: _, _ :: _, _, _, h => by rw [lr] at h; exact congrArg (· + 1) (wo h)
theorem pL (B : Bg X T Φ cl CX Ex k) {tg : Expr} {t : Tg} (h : mf T tg = some t) : PG X tg (lG (zt X cl) t) := by
 have nd : X.N.Nodup := by rw [B.nm]; exact B.nd
 cases tg <;> simp only [mf, Option.bind_eq_some_iff, reduceCtorEq] at h
 case Name x p =>
   obtain ⟨i, h1, h2⟩ := h
   split at h2
   · cases h2
   · rename_i na
     cases h2
     obtain ⟨v1, v2, v3, v4⟩ := B.vis h1
     refine PG.wk (yZ nd v1 v2 (B.sto h1 na)) ?_
     rintro v σ H Q ⟨m, st, ρ, d, ρ', r, en, dv, e, q⟩
     rw [iD] at e; cases e
     exact q _ (en.set dv)
 case Tuple es a b =>
   obtain ⟨is, h1, h2⟩ := h
   cases h2
   obtain ⟨g1, g2, g3⟩ := zp B h1
   refine PG.wk (Jh B.calm g1 g2 g3) ?_
   rintro v σ H Q ⟨m, st, ρ, d, ρ', r, en, dv, e, q⟩
   cases dv with
   | tup h1 r1 =>
     rw [iD] at e
     exact ⟨_, _, rfl, h1, by rw [r1.length, wo e], m, st, ρ, _, ρ', r, en, r1, e, q⟩
   | _ => cases e
theorem EE {Z : Zt} {m0 : List Addr} {H0 : Hp} {a : Addr} {l : Nat} (h : m0[l]? = some a) : Yl Z (Itl Z.K a) (.lst l) m0 H0 := by
 intro m st H g r i
 obtain ⟨fz, ds, vs, e, ly, dn⟩ := r.loc (ky g.pre h)
 simp only [Sq.at, e, Option.map_some]
 have hl := dn.length
 cases hx : ds[i]? with
 | none => exact ⟨vs, ly.sq, by have := List.getElem?_eq_none_iff.mp hx; omega⟩
 | some x =>
   obtain ⟨v, hv, dv⟩ := dn.get hx
   refine ⟨⟨vs, v, ly.sq, hv⟩, fun y H' ⟨e1, e2⟩ => ?_⟩
   subst e1
   have ex : y = v := by have := e2 vs ly.sq; rw [hv] at this; exact (Option.some.inj this).symm
   subst ex
   exact ⟨Go.refl m _, r, dv⟩
theorem HC {Z : Zt} {m0 : List Addr} {H0 : Hp} {a : Addr} {vs : List V} {xs : List U} (h : SqT Z.K H0 a vs) (d : ak Z m0 H0 vs xs) : Yl Z (Itt Z.K a) (.vals xs) m0 H0 := by
 intro m st H g r i
 have h' := goT g h
 have d' := d.mono g
 have hl := d'.length
 simp only [Sq.at]
 cases hx : xs[i]? with
 | none => exact ⟨vs, h', by have := List.getElem?_eq_none_iff.mp hx; omega⟩
 | some x =>
   obtain ⟨v, hv, dv⟩ := d'.get hx
   refine ⟨⟨vs, v, h', hv⟩, fun y H' ⟨e1, e2⟩ => ?_⟩
   subst e1
   have ex : y = v := by have := e2 vs h'; rw [hv] at this; exact (Option.some.inj this).symm
   subst ex
   exact ⟨Go.refl m _, r, dv⟩
theorem Ks {Z : Zt} {m0 : List Addr} {H0 : Hp} {a : Addr} {vs : List V} {xs : List U} (h : SqF Z.K H0 a vs) (d : ak Z m0 H0 vs xs) : Yl Z (Itl Z.K a) (.vals xs) m0 H0 := by
 intro m st H g r i
 have h' := (goF g h).sq
 have d' := d.mono g
 have hl := d'.length
 simp only [Sq.at]
 cases hx : xs[i]? with
 | none => exact ⟨vs, h', by have := List.getElem?_eq_none_iff.mp hx; omega⟩
 | some x =>
   obtain ⟨v, hv, dv⟩ := d'.get hx
   refine ⟨⟨vs, v, h', hv⟩, fun y H' ⟨e1, e2⟩ => ?_⟩
   subst e1
   have ex : y = v := by have := e2 vs h'; rw [hv] at this; exact (Option.some.inj this).symm
   subst ex
   exact ⟨Go.refl m _, r, dv⟩
theorem vg : ∀ (xs : List U) (k i : Nat), (uY k xs)[i]? = (xs[i]?).map fun x => .tup [.int ((k + i : Nat) : Int), x]
 | [], _, _ => by simp [uY]
 | x :: xs, k, 0 => by simp [uY]
 | x :: xs, k, i + 1 => by
   simp only [uY, List.getElem?_cons_succ]
   rw [vg xs (k + 1) i, show k + 1 + i = k + (i + 1) by omega]
theorem IL {Z : Zt} {m0 : List Addr} {H0 : Hp} {a : Addr} {vs : List V} {xs : List U} (h : SqF Z.K H0 a vs) (d : ak Z m0 H0 vs xs) : Yl Z (Ite Z.K a) (.vals (uY 0 xs)) m0 H0 := by
 intro m st H g r i
 have h' := (goF g h).sq
 have d' := d.mono g
 have hl := d'.length
 simp only [Sq.at]
 rw [vg, Nat.zero_add]
 cases hx : xs[i]? with
 | none => exact ⟨vs, h', by have := List.getElem?_eq_none_iff.mp hx; omega⟩
 | some x =>
   obtain ⟨v, hv, dv⟩ := d'.get hx
   refine ⟨⟨vs, v, h', hv⟩, fun y H' ⟨p, x', hp, e0, e1, e2⟩ => ?_⟩
   subst e0 e1
   have ex : x' = v := by have := e2 vs h'; rw [hv] at this; exact (Option.some.inj this).symm
   subst ex
   have g' := Go.new r (o := .tup [.int (i : Nat), x']) hp
   exact ⟨g', r.upd hp, .tup (.inl (.inl cZ)) (.cons .int (.cons (dv.mono g') .nil))⟩
theorem xi (lo : Int) (n i : Nat) : (la lo n)[i]? = if i < n then some (.int (lo + (i : Nat))) else none := by
 simp only [la, List.getElem?_map, List.getElem?_range]
 split <;> simp_all
theorem Bd {Z : Zt} {m0 : List Addr} {H0 : Hp} (lo : Int) (n : Nat) : Yl Z (Itr lo n) (.vals (la lo n)) m0 H0 := by
 intro m st H g r i
 simp only [Sq.at, xi]
 by_cases hi : i < n
 · rw [if_pos hi]
   refine ⟨hi, fun y H' ⟨e1, e2⟩ => ?_⟩
   subst e1 e2
   exact ⟨Go.refl m _, r, .int⟩
 · rw [if_neg hi]
   show n ≤ i
   omega
theorem FY {Z : Zt} {m0 : List Addr} {H0 : Hp} {a : Addr} {l : Nat} (h : m0[l]? = some a) : Yl Z (Ite Z.K a) (.enu l) m0 H0 := by
 intro m st H g r i
 obtain ⟨fz, ds, vs, e, ly, dn⟩ := r.loc (ky g.pre h)
 simp only [Sq.at, e, Option.map_some]
 have hl := dn.length
 cases hx : ds[i]? with
 | none => exact ⟨vs, ly.sq, by have := List.getElem?_eq_none_iff.mp hx; omega⟩
 | some x =>
   obtain ⟨v, hv, dv⟩ := dn.get hx
   refine ⟨⟨vs, v, ly.sq, hv⟩, fun y H' ⟨p, x', hp, e0, e1, e2⟩ => ?_⟩
   subst e0 e1
   have ex : x' = v := by have := e2 vs ly.sq; rw [hv] at this; exact (Option.some.inj this).symm
   subst ex
   have g' := Go.new r (o := .tup [.int (i : Nat), x']) hp
   exact ⟨g', r.upd hp, .tup (.inl (.inl cZ)) (.cons .int (.cons (dv.mono g') .nil))⟩
noncomputable def Hb (Z : Zt) (a : Addr) (p : Sq) (m0 : List Addr) (H0 : Hp) : Prop := ∀ m st H, Go m0 H0 m H → R Z m st H → ∀ i, match p.at st i with
 | none => True
 | some none => ∃ vs, SqL Z.K H a vs ∧ vs.length ≤ i
 | some (some x) => ∃ vs v, SqL Z.K H a vs ∧ vs[i]? = some v ∧ br Z m H v x
theorem zE {Z : Zt} {m0 : List Addr} {st0 : Sto} {H0 : Hp} {v : V} {x : U} {p : Sq} (r0 : R Z m0 st0 H0) (d : br Z m0 H0 v x) (e : src st0 x = some p) : ∃ a, v = .ref a ∧ (∃ xs, SqL Z.K H0 a xs) ∧ Hb Z a p m0 H0 := by
 cases d with
 | loc hl =>
   simp only [src] at e
   split at e
   · cases e
     obtain ⟨_, _, vs0, _, ly0, _⟩ := r0.loc hl
     refine ⟨_, rfl, ⟨vs0, ly0.sq⟩, ?_⟩
     intro m st H g r i
     obtain ⟨fz, ds, vs, e, ly, dn⟩ := r.loc (ky g.pre hl)
     simp only [Sq.at, e, Option.map_some]
     have hl := dn.length
     cases hx : ds[i]? with
     | none => exact ⟨vs, ly.sq, by have := List.getElem?_eq_none_iff.mp hx; omega⟩
     | some x =>
       obtain ⟨v, hv, dv⟩ := dn.get hx
       exact ⟨vs, v, ly.sq, hv, dv⟩
   · cases e
 | kl h1 d1 =>
   cases e
   refine ⟨_, rfl, ⟨_, h1.sq⟩, ?_⟩
   intro m st H g r i
   have h' := (goF g h1).sq
   have d' := d1.mono g
   have hl := d'.length
   simp only [Sq.at]
   split
   · trivial
   · rename_i hx
     exact ⟨_, h', by have := List.getElem?_eq_none_iff.mp (Option.some.inj hx); omega⟩
   · rename_i x hx
     obtain ⟨v, hv, dv⟩ := d'.get (Option.some.inj hx)
     exact ⟨_, v, h', hv, dv⟩
 | _ => cases e
theorem IS {Z : Zt} {m0 : List Addr} {H0 : Hp} {a b : Addr} {p q : Sq} (sa : Hb Z a p m0 H0) (sb : Hb Z b q m0 H0) : Yl Z (Ev.Itz Z.K a b) (.zip p q) m0 H0 := by
 intro m st H g r i
 have ha := sa m st H g r i
 have hb := sb m st H g r i
 simp only [Sq.at]
 cases ep : p.at st i with
 | none => trivial
 | some o =>
   cases eq : q.at st i with
   | none => trivial
   | some o' =>
     rw [ep] at ha
     rw [eq] at hb
     cases o with
     | none =>
       obtain ⟨vs, h1, h2⟩ := ha
       cases o' with
       | none => obtain ⟨ws, h3, _⟩ := hb; exact ⟨vs, ws, h1, h3, .inl h2⟩
       | some y => obtain ⟨ws, w, h3, _⟩ := hb; exact ⟨vs, ws, h1, h3, .inl h2⟩
     | some x =>
       obtain ⟨vs, v, h1, h2, dv⟩ := ha
       cases o' with
       | none => obtain ⟨ws, h3, h4⟩ := hb; exact ⟨vs, ws, h1, h3, .inr h4⟩
       | some y =>
         obtain ⟨ws, w, h3, h4, dw⟩ := hb
         refine ⟨⟨vs, ws, v, w, h1, h3, h2, h4⟩, fun u H' ⟨p', x', y', hp, e0, e1, e2, e3⟩ => ?_⟩
         subst e0 e1
         have ex : x' = v := by have := e2 vs h1; rw [h2] at this; exact (Option.some.inj this).symm
         have ey : y' = w := by have := e3 ws h3; rw [h4] at this; exact (Option.some.inj this).symm
         subst ex ey
         have g' := Go.new r (o := .tup [x', y']) hp
         exact ⟨g', r.upd hp, .tup (.inl (.inl cZ)) (.cons (dv.mono g') (.cons (dw.mono g') .nil))⟩
end
end Sv
namespace Sv
open PySem PySem.Spec PyProof.Rows L2
open Ev (D aR aY ai j2 kf eD slot slot_get iZ jU j8 mL jq gc j7 aT nR lO PTs mP oA Cf Ite cR)
section
variable {X : Cx} {T : Tr} {Φ : Fn} {cl : Nat → Addr} {CX : CXT} {Ex : Nat → Hp → Prop} {k : Nat}
theorem vv {a b : Bool} (h : (a && b) = true) : a = true ∧ b = true := by rw [Bool.and_eq_true] at h; exact h
theorem Et {T : Tr} {scope : Scope} {j i : Nat} (h : (iC T scope)[j]? = some (some i)) : ∃ x, (j7 scope)[j]? = some x ∧ T.N[i]? = some x ∧ (x, NameKind.free) ∈ scope.names := by
 unfold iC at h
 rw [List.getElem?_map] at h
 cases e : (j7 scope)[j]? with
 | none => rw [e] at h; cases h
 | some x =>
   rw [e] at h
   have h' : (if (x, NameKind.free) ∈ scope.names then slot T.N x else none) = some i := Option.some.inj h
   split at h'
   · rename_i hm
     exact ⟨x, rfl, slot_get h', hm⟩
   · cases h'
structure Cz (T : Tr) (scope : Scope) : Prop where
 slt : ∀ x, (x, NameKind.free) ∈ scope.names → (slot T.N x).isSome = true
 kind : scope.kind = .function
 tk : T.sc.kind = .function
 loc : ∀ x ∈ scope.names, x.2 = .local → scope.names.lookup x.1 = some .local
 fre : ∀ x ∈ scope.names, x.2 = .free → T.sc.names.lookup x.1 = some .cell
 one : ∀ x, (x, NameKind.free) ∈ scope.names → (x, NameKind.cell) ∉ scope.names
 nob : ∀ x, (x, NameKind.free) ∈ scope.names → (x, NameKind.local) ∉ scope.names
 nd : (j7 scope ++ [("#" : Str)]).Nodup
 vis : ¬ Vis (jq scope T.sc) ("#" : Str)
theorem vE {T : Tr} {scope : Scope} (h : yG T scope = true) : Cz T scope := by
 unfold yG at h
 obtain ⟨h, h9⟩ := vv h
 obtain ⟨h, h8⟩ := vv h
 obtain ⟨h, h6⟩ := vv h
 obtain ⟨h, h5⟩ := vv h
 obtain ⟨h, h4⟩ := vv h
 obtain ⟨h, h3⟩ := vv h
 obtain ⟨h, h2⟩ := vv h
 obtain ⟨h0, h1⟩ := vv h
 rw [List.all_eq_true] at h0 h3 h4 h5
 refine ⟨fun x hx => by simpa using h0 _ hx, eq_of_beq h1, eq_of_beq h2, fun x hx hk => ?_, fun x hx hk => ?_, fun x hx hm => ?_, fun x hx hm => ?_, of_decide_eq_true h6, fun hv => ?_⟩
 · have := h3 x hx
   rw [hk] at this
   simpa using this
 · have := h4 x hx
   rw [hk] at this
   simpa using this
 · have := h5 _ hx
   simp [hm] at this
 · have := h5 _ hx
   simp [hm] at this
 · rcases hv with hv | hv | hv
   · unfold iZ at h8; rw [hv] at h8; simp at h8
   · unfold iZ at h8; rw [hv] at h8; simp at h8
   · rw [hv] at h9; simp at h9
theorem A7 (B : Bg X T Φ cl CX Ex k) {scope : Scope} (b : Cz T scope) : lO X scope (qr T scope).N (iC T scope) where
 kind := b.kind
 loc := b.loc
 fre := fun x hx hk => by
   show X.env.scope.names.lookup x.1 = _
   rw [B.sc]; exact b.fre x hx hk
 one := b.one
 noboth := b.nob
 len := by
   show (j7 scope ++ [("#" : Str)]).length = _
   unfold iC
   rw [List.length_append, List.length_map]; rfl
 cap := fun j i h => by
   obtain ⟨x, h1, h2, h3⟩ := Et h
   refine ⟨x, ?_, by rw [B.nm]; exact h2, h3⟩
   show (j7 scope ++ [("#" : Str)])[j]? = some x
   rw [List.getElem?_append_left (List.getElem?_eq_some_iff.mp h1).1]; exact h1
 acc := by
   refine ⟨("#" : Str), ?_, by rw [gc B.sc]; exact b.vis⟩
   show (j7 scope ++ [("#" : Str)])[(iC T scope).length]? = _
   unfold iC
   rw [List.length_map, List.getElem?_append_right (Nat.le_refl _), Nat.sub_self]
   rfl
theorem HW {X' : Cx} {Z : Zt} (h : ∀ outer H s E e s', (∀ C a H', ¬ E C a H') → ¬ CX outer H s E e s') : Passes CX X' (xk Z fun _ _ => False) := fun _ _ _ _ _ _ _ q => absurd q (h _ _ _ _ _ _ fun _ _ _ ⟨_, _, z⟩ => z)
theorem BL (B : Bg X T Φ cl CX Ex k) {scope : Scope} (b : Cz T scope) (s : Shared) (H : Hp) (fp : List Addr) : Bg (aT X s H scope (qr T scope).N fp) (qr T scope) Φ cl CX (fun _ _ => False) k where
 sc := gc B.sc
 nm := rfl
 nd := b.nd
 calm := B.calm
 room := B.room
 blt := B.blt
 cal := B.cal
 cst := B.cst
 cxn := B.cxn
 pas := HW B.cxn
 fn := fun i x hx hc hl => by
   show decide _ = true
   refine decide_eq_true ?_
   have hfk : ∀ y, (y, NameKind.free) ∈ scope.names → X.env.kindOf y = some .cell := fun y hy => by
     show X.env.scope.names.lookup y = _
     rw [B.sc]; exact b.fre _ hy rfl
   have hl' : (relabel scope X.env).names.lookup x = some .cell := by rw [gc B.sc]; exact hl
   rcases cR hfk (by rw [B.sc]; exact b.tk) hl' with q | q
   · exact q
   · exfalso
     have hx' : (j7 scope ++ [("#" : Str)])[i]? = some x := hx
     have il : i < (j7 scope).length := by
       rcases Nat.lt_or_ge i (j7 scope).length with z | z
       · exact z
       · exfalso
         have e0 : i = (j7 scope).length := by
           have := (List.getElem?_eq_some_iff.mp hx').1
           rw [List.length_append, List.length_singleton] at this
           omega
         rw [e0, List.getElem?_append_right (Nat.le_refl _), Nat.sub_self] at hx'
         have ex : x = ("#" : Str) := (Option.some.inj hx').symm
         rw [ex] at hl
         exact b.vis (.inr (.inl hl))
     rw [List.getElem?_append_left il] at hx'
     cases hs : slot T.N x with
     | none =>
       have := b.slt x q.1
       rw [hs] at this; cases this
     | some j =>
       have hc' : (iC T scope)[i]? = some (some j) := by
         unfold iC
         rw [List.getElem?_map, hx']
         show some (if (x, NameKind.free) ∈ scope.names then slot T.N x else none) = _
         rw [if_pos q.1, hs]
       apply hc
       show i ∈ (List.range (iC T scope).length).filter _
       rw [List.mem_filter, List.mem_range]
       refine ⟨by unfold iC; rw [List.length_map]; exact il, ?_⟩
       rw [List.getD_eq_getElem?_getD, hc']
       rfl
theorem vW {ρ : Env} {caps : List (Option Nat)} {j : Nat} {d : U} (h : (kL ρ caps ++ [none])[j]? = some (some d)) : ∃ i, j < caps.length ∧ caps[j]? = some (some i) ∧ ρ[i]? = some (some d) := by
 have cl : (kL ρ caps).length = caps.length := by unfold kL; rw [List.length_map]
 rcases Nat.lt_or_ge j caps.length with z | z
 · rw [List.getElem?_append_left (by rw [cl]; exact z)] at h
   unfold kL at h
   rw [List.getElem?_map] at h
   cases e : caps[j]? with
   | none => rw [e] at h; cases h
   | some o =>
     rw [e] at h
     have h' : (o.bind fun i => (ρ[i]?).join) = some d := Option.some.inj h
     cases o with
     | none => cases h'
     | some i =>
       refine ⟨i, z, rfl, ?_⟩
       have h2 : (ρ[i]?).join = some d := h'
       cases q : ρ[i]? with
       | none => rw [q] at h2; cases h2
       | some y => rw [q] at h2; exact congrArg some h2
 · rw [List.getElem?_append_right (by rw [cl]; exact z)] at h
   have := List.mem_of_getElem? h
   simp at this
theorem Ax {Z : Zt} {m : List Addr} {H : Hp} {σ : L2.St} {ρ : Env} {caps : List (Option Nat)} {D0 : Addr} (en : bX Z m H σ ρ) : bX Z m H (nR σ caps ++ [some (.ref D0)]) (kL ρ caps ++ [none]) := by
 refine ⟨by unfold nR kL; simp, fun j d h => ?_⟩
 obtain ⟨i, hj, e1, e2⟩ := vW h
 obtain ⟨v, g1, g2⟩ := en.get i d e2
 refine ⟨v, ?_, g2⟩
 rw [List.getElem?_append_left (by unfold nR; rw [List.length_map]; exact hj)]
 unfold nR
 rw [List.getElem?_map, e1]
 show some ((σ[i]?).join) = _
 rw [g1]; rfl
theorem rZ : ∀ {is : List Nat} {ds : List U} {ρ ρ' : Env}, lr is ds ρ = some ρ' → ρ'.length = ρ.length ∧ ∀ (i : Nat), i ∉ is → ρ'[i]? = ρ[i]?
 | [], [], _, _, h => by cases h; exact ⟨rfl, fun _ _ => rfl⟩
 | j :: is, x :: xs, ρ, ρ', h => by
   rw [lr] at h
   obtain ⟨h1, h2⟩ := rZ h
   refine ⟨by rw [h1, List.length_set], fun i hi => ?_⟩
   rw [h2 i (fun z => hi (List.mem_cons_of_mem _ z)), List.getElem?_set_ne (fun z => hi (by rw [z]; exact List.mem_cons_self))]
noncomputable def tgS : Tg → List Nat
 | .nm i => [i]
 | .tp is => is
theorem Ak {t : Tg} {d : U} {ρ ρ' : Env} (h : iD t d ρ = some ρ') : ρ'.length = ρ.length ∧ ∀ (i : Nat), i ∉ tgS t → ρ'[i]? = ρ[i]? := by
 cases t with
 | nm j =>
   rw [iD] at h; cases h
   refine ⟨List.length_set, fun i hi => List.getElem?_set_ne (fun z => hi (by subst z; exact List.mem_singleton_self _))⟩
 | tp is =>
   cases d <;> rw [iD] at h <;> first | cases h | exact rZ h | (intros; simp_all)
theorem wN {T : Tr} : ∀ {es : List Expr} {is : List Nat}, eL T es = some is → ∀ i ∈ is, i ∉ T.cap
 | [], _, h => by cases h; exact fun i hi => absurd hi (by simp)
 | e :: es, is, h => by
   cases e <;> simp only [eL, Option.bind_eq_some_iff, reduceCtorEq] at h
   obtain ⟨i, h1, h2⟩ := h
   split at h2
   · cases h2
   · rename_i na
     simp only [Option.bind_eq_some_iff, Option.some.injEq] at h2
     obtain ⟨is', h3, rfl⟩ := h2
     intro j hj
     rcases List.mem_cons.mp hj with rfl | hj
     · exact na
     · exact wN h3 j hj
theorem HJ {T : Tr} {tg : Expr} {t : Tg} (h : mf T tg = some t) : ∀ i ∈ tgS t, i ∉ T.cap := by
 cases tg <;> simp only [mf, Option.bind_eq_some_iff, reduceCtorEq] at h
 case Name x p =>
   obtain ⟨i, h1, h2⟩ := h
   split at h2
   · cases h2
   · rename_i na
     cases h2
     intro j hj
     rw [show j = i from List.mem_singleton.mp hj]; exact na
 case Tuple es a b =>
   obtain ⟨is, h1, h2⟩ := h
   cases h2
   exact wN h1
theorem EO {T : Tr} {scope : Scope} {tg : Expr} {t : Tg} {ρ : Env} (h : mf (qr T scope) tg = some t) {i : Nat} {d : U} (e : (kL ρ (iC T scope) ++ [none])[i]? = some (some d)) : i ∉ tgS t := fun hi => by
 refine HJ h i hi ?_
 obtain ⟨j, hl, e1, _⟩ := vW e
 show i ∈ (List.range (iC T scope).length).filter _
 rw [List.mem_filter, List.mem_range]
 refine ⟨hl, ?_⟩
 rw [List.getD_eq_getElem?_getD, e1]; rfl
theorem Go.oM {m m' : List Addr} {H H' : Hp} (g : Go m H m' H') {p : Addr} {o : HO} (hp : p ∉ m) (h : H p = some o) : p ∉ m' := fun z => by
 obtain ⟨l, hl⟩ := List.getElem?_of_mem z
 rcases Nat.lt_or_ge l m.length with q | q
 · exact hp (List.mem_of_getElem? (x9 g.pre q hl))
 · rw [g.fr l p q hl] at h; cases h
theorem Go.side {m m' : List Addr} {H H' : Hp} (g : Go m H m' H') {p : Addr} {o : HO} (hp : H p = none) : Go m H m' (upd H' p o) := by
 refine ⟨g.pre, fun b u e hn => ?_, fun b e => ?_, g.fr⟩
 · rw [aB (aH e hp)]; exact g.kp b u e hn
 · unfold L2.upd at e
   split at e
   · cases e
   · exact g.tr b e
theorem R.adopt {Z : Zt} {m : List Addr} {st : Sto} {H : Hp} (r : R Z m st H) {p : Addr} {vs : List V} {ds : List U} (hp : p ∉ m) (h : H p = some (.lst vs)) (dn : ak Z m H vs ds) :
   R Z (m ++ [p]) (st ++ [(false, ds)]) H ∧ br Z (m ++ [p]) H (.ref p) (.loc st.length) := by
 have up : ∀ {vs : List V} {ds : List U}, ak Z m H vs ds → ak Z (m ++ [p]) H vs ds := fun {vs ds} d => by
   refine ak.rec (motive_1 := fun v d _ => br Z (m ++ [p]) H v d) (motive_2 := fun ws es _ => ak Z (m ++ [p]) H ws es) .non .bl .int .str (fun h _ ih => .tup h ih) (fun h => .loc (ky (List.prefix_append m [p]) h)) (fun h => .exo h) (fun h _ ih => .kl h ih) .nil (fun _ _ i1 i2 => .cons i1 i2) d
 have hl : (m ++ [p])[st.length]? = some p := by rw [← r.len, List.getElem?_append_right (Nat.le_refl _), Nat.sub_self]; rfl
 refine ⟨⟨by rw [List.length_append, List.length_append, r.len]; rfl, fun i j a e1 e2 => ?_, fun l a fz es e1 e2 => ?_⟩, .loc hl⟩
 · have key : ∀ (i : Nat) a, (m ++ [p])[i]? = some a → (m[i]? = some a ∧ a ≠ p) ∨ (i = m.length ∧ a = p) := fun i a e => by
     rcases Nat.lt_or_ge i m.length with q | q
     · rw [List.getElem?_append_left q] at e
       exact .inl ⟨e, fun z => hp (z ▸ List.mem_of_getElem? e)⟩
     · have hi := (List.getElem?_eq_some_iff.mp e).1
       rw [List.length_append, List.length_singleton] at hi
       rw [List.getElem?_append_right q] at e
       have := List.mem_of_getElem? e
       rw [List.mem_singleton] at this
       exact .inr ⟨by omega, this⟩
   rcases key i a e1 with ⟨q1, q2⟩ | ⟨q1, q2⟩ <;> rcases key j a e2 with ⟨w1, w2⟩ | ⟨w1, w2⟩
   · exact r.inj i j a q1 w1
   · exact absurd w2 q2
   · exact absurd q2 w2
   · rw [q1, w1]
 · rcases Nat.lt_or_ge l m.length with q | q
   · rw [List.getElem?_append_left q] at e1
     rw [List.getElem?_append_left (by rw [← r.len]; exact q)] at e2
     obtain ⟨ws, h1, h2⟩ := r.obj l a fz es e1 e2
     exact ⟨ws, h1, up h2⟩
   · have hi := (List.getElem?_eq_some_iff.mp e1).1
     rw [List.length_append, List.length_singleton] at hi
     obtain rfl : l = m.length := by omega
     rw [List.getElem?_append_right (Nat.le_refl _), Nat.sub_self] at e1
     rw [r.len, List.getElem?_append_right (Nat.le_refl _), Nat.sub_self] at e2
     cases e1; cases e2
     exact ⟨vs, by unfold Lay; rw [if_neg (by decide)]; exact h, up dn⟩
theorem Go.adopt {m m' : List Addr} {H H' : Hp} (g : Go m H m' H') {p : Addr} (hp : H p = none) : Go m H (m' ++ [p]) H' := by
 refine ⟨g.pre.trans (List.prefix_append m' [p]), g.kp, g.tr, fun l a hl e => ?_⟩
 rcases Nat.lt_or_ge l m'.length with q | q
 · rw [List.getElem?_append_left q] at e; exact g.fr l a hl e
 · rw [List.getElem?_append_right q] at e
   have := List.mem_of_getElem? e
   rw [List.mem_singleton] at this
   rw [this]; exact hp
structure Snd (X : Cx) (T : Tr) (Φ : Fn) (cl : Nat → Addr) (Ex : Nat → Hp → Prop) (n : Nat) : Prop where
 e : ∀ pe e, trE T n pe = some e → PE X pe (lE (zt X cl) Φ Ex e) ∧ PT X pe (lT (zt X cl) Φ Ex e)
 w : ∀ op vs pos e, trE T n (.BoolOp op vs pos) = some e → PW X (.BoolOp op vs pos) (lT (zt X cl) Φ Ex e)
 a : ∀ es es', jy T n es = some es' → PA X es (lEs (zt X cl) Φ Ex es')
 p : ∀ e e', trP T n e = some e' → PO X e (lP (zt X cl) Φ Ex e')
 f : ∀ es es', wy T n es = some es' → PTs X es (lIf (zt X cl) Φ Ex es')
 i : ∀ tg it it', trI T n it = some it' → uF tg it' = true → PI X tg it (lI (zt X cl) Φ Ex it') ∧ ∀ x, foldedSetIterable it X.env x = pure x
theorem zf {scope : Scope} {tg : Expr} {t : Tg} {it : It} {fs : List E} {e : E} (h1 : mf (qr T scope) tg = some t) : ∀ σ H Q, lE (zt X cl) Φ Ex (.comp (iC T scope) t it fs e) σ H Q →
   oA (fun g tt te => g = lG (zt X cl) t ∧ tt = lIf (zt X cl) Φ (fun _ _ => False) fs ∧ te = lE (zt X cl) Φ (fun _ _ => False) e) (iC T scope) (lI (zt X cl) Φ Ex it) σ H Q := by
 rintro σ H Q ⟨m, st, ρ, r, en, h⟩
 simp only [xE] at h
 refine ⟨m, st, ρ, r, en, ao (ay h) (fun _ _ z => z) fun q st1 _ hq J m1 H1 g1 r1 yl => ?_⟩
 split at hq
 · rename_i hlx
   have hq := ay (pX hq)
   refine ⟨_, _, _, ⟨rfl, rfl, rfl⟩, fun D0 hD => ?_⟩
   have rD := r1.upd (o := .lst []) hD
   have gD := Go.new r1 (o := .lst []) hD
   generalize hf : (fun (x : U) (st : Sto) => match iD t x (kL ρ (iC T scope) ++ [none]) with
       | none => (Rs.bad : Rs (Option U))
       | some ρ1 => (xIf Φ fs ρ1 st).bind fun b st2 => if b = true then (xE Φ e ρ1 st2).bind fun y st3 => .ok (some y) st3 else .ok none st2) = f at hq
   refine ⟨fun i n σ' H' => ∃ m' st' us vs, R (zt X cl) m' st' H' ∧ D0 ∉ m' ∧ Go m1 H1 m' H' ∧ bX (zt X cl) m' H' σ' (kL ρ (iC T scope) ++ [none]) ∧ H' D0 = some (.lst vs) ∧ ak (zt X cl) m' H' vs us ∧ us.length ≤ i ∧ i + n = q.len st1 + 1 ∧
     post (fun _ _ => False) (fun rest st2 => post (fun _ _ => False) (kV (zt X cl) m H Q) (new st2 (us ++ rest))) (lL f q n i st'), ⟨q.len st1 + 1, m1, st1, [], [], rD, r1.out hD, gD, Ax (en.mono (g1.trans gD)), cZ, .nil, Nat.le_refl _, by omega, hq⟩, ?_⟩
   rintro i n σ' H' ⟨m', st', us, vs, r', hDm, g', en', hv, du, hul, hin, hc⟩
   cases n with
   | zero => exact hc.elim
   | succ n =>
     rw [lL] at hc
     have yi := yl m' st' H' g' r' i
     split at hc
     · exact hc.elim
     · rename_i hat
       rw [hat] at yi
       refine .inl ⟨yi, ?_⟩
       have hc : post (fun _ _ => False) (kV (zt X cl) m H Q) (new st' (us ++ [])) := hc
       rw [List.append_nil] at hc
       obtain ⟨ra, da⟩ := r'.adopt hDm hv du
       exact hc _ H' _ (g1.trans (g'.adopt hD)) ra da
     · rename_i x hat
       rw [hat] at yi
       refine .inr ⟨yi.1, fun v H2 hy => ?_⟩
       obtain ⟨g2, r2, dv⟩ := yi.2 v H2 hy
       have hc := ay hc
       subst hf
       dsimp only at hc
       split at hc
       · exact hc.elim
       · rename_i ρ1 hset
         have hv2 := g2.kp _ _ hv (.inl hDm)
         refine ⟨m', st', _, x, ρ1, r2, en'.mono g2, dv, hset, fun σ2 en2 => ?_⟩
         have less : ∀ {m3 : List Addr} {H3 : Hp}, bX (zt X cl) m3 H3 σ2 ρ1 → bX (zt X cl) m3 H3 σ2 (kL ρ (iC T scope) ++ [none]) := fun z => by
           obtain ⟨l1, l2⟩ := Ak hset
           exact ⟨by rw [z.len, l1], fun j d hj => z.get j d (by rw [l2 j (EO h1 hj)]; exact hj)⟩
         refine ⟨m', st', ρ1, r2, en2, ao (ay hc) (fun _ _ z => z.elim) fun bb st2 _ hb m2 H4 g3 r3 => ?_⟩
         have hv4 := g3.kp _ _ hv2 (.inl hDm)
         have hD4 := g3.oM hDm hv2
         cases bb with
         | false =>
           rw [if_neg (by decide)] at hb
           have hb := ay hb
           refine q0 ⟨n, Nat.lt_succ_self n, m2, st2, us, vs, r3, hD4, (g'.trans g2).trans g3, less (en2.mono g3), hv4, du.mono (g2.trans g3), by omega, by omega, ?_⟩
           exact ao hb (fun _ _ z => z) fun rest st3 _ z => z
         | true =>
           rw [if_pos rfl] at hb
           refine qN ⟨m2, st2, ρ1, r3, en2.mono g3, ao (ay hb) (fun _ _ z => z.elim) fun y st3 _ hy m3 H5 w g4 r4 dw => ?_⟩
           have hv5 := g4.kp _ _ hv4 (.inl hD4)
           have hD5 := g4.oM hD4 hv4
           have hy := ay hy
           have g5 := (((g'.trans g2).trans g3).trans g4)
           obtain ⟨r5, k5⟩ := r4.side (vs := vs ++ [w]) hv5 hD5
           have ks : ∀ {ws : List V} {es : List U}, ak (zt X cl) m3 H5 ws es → ak (zt X cl) m3 (upd H5 D0 (.lst (vs ++ [w]))) ws es := fun {ws es} z => by
             induction ws generalizing es with
             | nil => cases z; exact .nil
             | cons a ws ih => cases z with | cons z1 z2 => exact .cons (k5 z1) (ih z2)
           have l5 := du.length
           have le : us.length ≤ i := hul
           refine ⟨vs, n, hv5, ?_, Nat.lt_succ_self n, m3, st3, us ++ [y], vs ++ [w], r5, hD5, g5.side hD, ?_, cZ, (ks (du.mono ((g2.trans g3).trans g4))).append (.cons (k5 dw) .nil), by rw [List.length_append, List.length_singleton]; omega, by omega, ?_⟩
           · have := Ev.cb; omega
           · have z := less (en2.mono (g3.trans g4))
             exact ⟨z.len, fun j d hj => let ⟨v', e1, e2⟩ := z.get j d hj; ⟨v', e1, k5 e2⟩⟩
           · refine ao hy (fun _ _ z => z) fun rest st4 _ z => ?_
             have z : post (fun _ _ => False) (kV (zt X cl) m H Q) (new st4 (us ++ y :: rest)) := z
             rw [List.append_assoc]; exact z
 · exact hq.elim
theorem Bx {n : Nat} (B : Bg X T Φ cl CX Ex k) (S : Snd X T Φ cl Ex n) (IH : ∀ {X : Cx} {T : Tr} {Ex : Nat → Hp → Prop}, Bg X T Φ cl CX Ex k → Snd X T Φ cl Ex n) {elt tg iter : Expr} {ifs : List Expr} {scope : Scope} {pos : Pos} {t : Tg} {it : It} {fs : List E} {e : E}
   (hb : yG T scope = true) (h1 : mf (qr T scope) tg = some t) (h2 : trI T n iter = some it) (h3 : wy (qr T scope) n ifs = some fs) (h4 : trE (qr T scope) n elt = some e) (ho : uF tg it = true) :
   PE X (.ListComp elt [⟨tg, iter, ifs, 0⟩] scope pos) (lE (zt X cl) Φ Ex (.comp (iC T scope) t it fs e)) := by
 have b := vE hb
 obtain ⟨hi, hs⟩ := S.i tg iter it h2 ho
 refine PE.wk (mP (In := fun g tt te => g = lG (zt X cl) t ∧ tt = lIf (zt X cl) Φ (fun _ _ => False) fs ∧ te = lE (zt X cl) Φ (fun _ _ => False) e) B.calm (A7 B b) hi hs ?_) ?_
 · rintro g tt te ⟨rfl, rfl, rfl⟩ s H fp
   have B' := BL B b s H fp
   have S' := IH B'
   exact ⟨pL B' h1, S'.f _ _ h3, (S'.e _ _ h4).1⟩
 · exact zf h1
end
end Sv
namespace Sv
open PySem PySem.Spec PyProof.Rows L2
open Ev (D aR aY ai j2 kf eD slot slot_get iZ jU j8 mL jq gc j7 aT nR lO PTs mP oA Cf Ite cR sL ni)
section
variable {X : Cx} {T : Tr} {Φ : Fn} {cl : Nat → Addr} {CX : CXT} {Ex : Nat → Hp → Prop} {k : Nat}
theorem PoT.po {Z : Zt} {m : List Addr} {H : Hp} {Q : Bool → Hp → Prop} {x : Rs U} (h : PoT Z Ex m H Q x) : Po Z Ex m H (fun v H => ∃ b, v = .bl b ∧ Q b H) x :=
 ao h (fun _ _ z => z) fun d st _ ⟨b, e, q⟩ m' H' v g r dv => by subst e; exact ⟨b, jt dv, q m' H' g r⟩
theorem cW {Z : Zt} {m : List Addr} {st : Sto} {ρ : Env} {H : Hp} {σ : L2.St} {Q Q1 : VK} {a : E} {f : U → Sto → Rs U} (r : R Z m st H) (en : bX Z m H σ ρ) (h : Po Z Ex m H Q ((xE Φ a ρ st).bind f))
   (k : ∀ x st1 m1 H1 v, Go m H m1 H1 → R Z m1 st1 H1 → bX Z m1 H1 σ ρ → br Z m1 H1 v x → Po Z Ex m1 H1 Q (f x st1) → Q1 v H1) : lE Z Φ Ex a σ H Q1 :=
 ⟨m, st, ρ, r, en, ao (ay h) (fun _ _ z => z) fun x st1 _ hx m1 H1 v g1 r1 dv => k x st1 m1 H1 v g1 r1 (en.mono g1) dv (Po.sh hx g1)⟩
theorem EA {Z : Zt} {m : List Addr} {st : Sto} {ρ : Env} {H : Hp} {σ : L2.St} {Q : VK} {Q1 : Bool → Hp → Prop} {a : E} {f : U → Sto → Rs U} (r : R Z m st H) (en : bX Z m H σ ρ) (h : Po Z Ex m H Q ((xE Φ a ρ st).bind f)) (hf : ∀ x st, (∀ b, x ≠ .bl b) → f x st = .bad)
   (k : ∀ b st1 m1 H1, Go m H m1 H1 → R Z m1 st1 H1 → bX Z m1 H1 σ ρ → Po Z Ex m1 H1 Q (f (.bl b) st1) → Q1 b H1) : lT Z Φ Ex a σ H Q1 :=
 ⟨m, st, ρ, r, en, ao (ay h) (fun _ _ z => z) fun x st1 _ hx => by
   cases x with
   | bl b => exact ⟨b, rfl, fun m1 H1 g1 r1 => k b st1 m1 H1 g1 r1 (en.mono g1) (Po.sh hx g1)⟩
   | _ => rw [hf _ _ (by intro b z; cases z)] at hx; exact hx.elim⟩
theorem mw {Z : Zt} {m : List Addr} {st : Sto} {ρ : Env} {H : Hp} {σ : L2.St} {Q : Bool → Hp → Prop} {Q1 : Bool → Hp → Prop} {a : E} {f : U → Sto → Rs U} (r : R Z m st H) (en : bX Z m H σ ρ) (h : PoT Z Ex m H Q ((xE Φ a ρ st).bind f)) (hf : ∀ x st, (∀ b, x ≠ .bl b) → f x st = .bad)
   (k : ∀ b st1 m1 H1, Go m H m1 H1 → R Z m1 st1 H1 → bX Z m1 H1 σ ρ → PoT Z Ex m1 H1 Q (f (.bl b) st1) → Q1 b H1) : lT Z Φ Ex a σ H Q1 :=
 ⟨m, st, ρ, r, en, ao (ay h) (fun _ _ z => z) fun x st1 _ hx => by
   cases x with
   | bl b => exact ⟨b, rfl, fun m1 H1 g1 r1 => k b st1 m1 H1 g1 r1 (en.mono g1) (PoT.sh hx g1)⟩
   | _ => rw [hf _ _ (by intro b z; cases z)] at hx; exact hx.elim⟩
theorem lC {Z : Zt} {m : List Addr} {st : Sto} {ρ : Env} {H : Hp} {σ : L2.St} {Q : VK} {Q1 : List V → Hp → Prop} {es : List E} {f : List U → Sto → Rs U} (r : R Z m st H) (en : bX Z m H σ ρ) (h : Po Z Ex m H Q ((xEs Φ es ρ st).bind f))
   (k : ∀ xs st1 m1 H1 vs, Go m H m1 H1 → R Z m1 st1 H1 → ak Z m1 H1 vs xs → Po Z Ex m1 H1 Q (f xs st1) → Q1 vs H1) : lEs Z Φ Ex es σ H Q1 :=
 ⟨m, st, ρ, r, en, ao (ay h) (fun _ _ z => z) fun xs st1 _ hx m1 H1 vs g1 r1 dv => k xs st1 m1 H1 vs g1 r1 dv (Po.sh hx g1)⟩
theorem tf {Z : Zt} {a b : E} {g : U → U → Sto → Rs U} {m : List Addr} {st : Sto} {ρ : Env} {H : Hp} {σ : L2.St} {Q : VK} (r : R Z m st H) (en : bX Z m H σ ρ)
   (h : Po Z Ex m H Q ((xE Φ a ρ st).bind fun x st1 => (xE Φ b ρ st1).bind fun y st2 => g x y st2)) : tOp (rO Z Ex g) (lE Z Φ Ex a) (lE Z Φ Ex b) σ H Q :=
 cW r en h fun x st1 m1 H1 v g1 r1 en1 dv h1 => cW r1 en1 h1 fun y st2 m2 H2 u g2 r2 _ du h2 => ⟨m2, st2, x, y, r2, dv.mono g2, du, h2⟩
theorem IM {n : Nat} (B : Bg X T Φ cl CX Ex k) (S : Snd X T Φ cl Ex n) : ∀ tg it it', trI T (n + 1) it = some it' → uF tg it' = true → PI X tg it (lI (zt X cl) Φ Ex it') ∧ ∀ x, foldedSetIterable it X.env x = pure x := by
 intro tg it it' h ho
 have seq : ∀ e, trE T n it = some e → it' = .seq e → PI X tg it (lI (zt X cl) Φ Ex it') ∧ ∀ x, foldedSetIterable it X.env x = pure x := by
   intro e he hi
   subst hi
   refine ⟨?_, fun x => Jf he _ _⟩
   have pe := (S.e _ _ he).1
   refine PI.wk (KU (Fq pe) (JG pe)) ?_
   rintro σ H Rr ⟨m, st, ρ, r, en, hq⟩
   simp only [xIt] at hq
   cases ho : xE Φ e ρ st with
   | bad => rw [ho] at hq; exact hq.elim
   | exc c st1 => rw [ho] at hq; exact .inl ⟨m, st, ρ, r, en, by rw [ho]; exact hq⟩
   | ok x st1 =>
     rw [ho, Rs.aa] at hq
     cases x with
     | loc l =>
       refine .inl ⟨m, st, ρ, r, en, ?_⟩
       rw [ho]
       intro m1 H1 v g1 r1 dv
       obtain ⟨a, rfl, hl⟩ := lV dv
       dsimp only at hq
       split at hq
       · obtain ⟨fz, ds, vs, _, ly, _⟩ := r1.loc hl
         exact ⟨a, rfl, ⟨vs, ly.sq⟩, hq _ m1 H1 g1 r1 (EE hl)⟩
       · exact hq.elim
     | tup xs =>
       refine .inr ⟨m, st, ρ, r, en, ?_⟩
       rw [ho]
       intro m1 H1 v g1 r1 dv
       cases dv with
       | tup h1 d1 => exact ⟨_, rfl, ⟨_, h1⟩, hq _ m1 H1 g1 r1 (HC h1 d1)⟩
     | kl xs =>
       refine .inl ⟨m, st, ρ, r, en, ?_⟩
       rw [ho]
       intro m1 H1 v g1 r1 dv
       cases dv with
       | kl h1 d1 => exact ⟨_, rfl, ⟨_, h1.sq⟩, hq _ m1 H1 g1 r1 (Ks h1 d1)⟩
     | _ => exact hq.elim
 unfold trI at h
 split at h
 · cases h
 · rename_i n' x p a rr pos hn
   cases hn
   split at h
   · rename_i c
     obtain ⟨rfl, c2, _⟩ := c
     split at h
     · simp only [Option.bind_eq_some_iff, Option.some.injEq] at h
       obtain ⟨e, h3, rfl⟩ := h
       have st := dH h3 [] X.env
       refine ⟨?_, fun _ => rfl⟩
       refine PI.wk (AS (B.gl c2) (B.blt _ (by simp [aO])) (gZ (S.e _ _ h3).1 nL st) st) ?_
       rintro σ H Rr ⟨m, st, ρ, r, en, hq⟩
       simp only [xIt] at hq
       refine ⟨m, st, ρ, r, en, ao (ay hq) (fun _ _ z => z) fun x st1 _ hx m1 H1 v g1 r1 dv => ?_⟩
       cases dv with
       | @int j =>
         dsimp only at hx
         split at hx
         · rename_i hj
           exact ⟨j, rfl, hj.1, hj.2, hx _ m1 H1 g1 r1 (Bd 0 _)⟩
         · exact hx.elim
       | _ => exact hx.elim
     · rename_i bx
       simp only [Option.bind_eq_some_iff, Option.some.injEq] at h
       obtain ⟨e, h3, e2, h4, rfl⟩ := h
       have st2 := dH h4 [] X.env
       have st := dH h3 [bx] X.env
       refine ⟨?_, fun _ => rfl⟩
       refine PI.wk (AU (B.gl c2) (B.blt _ (by simp [aO])) (gZ (S.e _ _ h3).1 (gZ (S.e _ _ h4).1 nL st2) st) (st.trans (by rw [st2]; rfl)) st2) ?_
       rintro σ H Rr ⟨m, st, ρ, r, en, hq⟩
       simp only [xIt] at hq
       refine ⟨m, st, ρ, r, en, ao (ay hq) (fun _ _ z => z) fun x st1 _ hx m1 H1 v g1 r1 dv => ?_⟩
       refine ⟨m1, st1, ρ, r1, en.mono g1, ao (ay hx) (fun c s z => kE.sh g1 c s z) fun y st2 _ hy m2 H2 u g2 r2 du => ?_⟩
       cases dv with
       | @int i =>
         cases du with
         | @int j =>
           dsimp only at hy
           split at hy
           · rename_i hj
             exact ⟨i, j, rfl, ⟨hj.1.1, hj.1.2, hj.2.1, hj.2.2⟩, hy _ m2 H2 (g1.trans g2) r2 (Bd i _)⟩
           · exact hy.elim
         | _ => exact hy.elim
       | _ => cases du <;> exact hy.elim
     · cases h
   · split at h
     · rename_i c
       obtain ⟨rfl, c2, _⟩ := c
       split at h
       · simp only [Option.bind_eq_some_iff, Option.some.injEq] at h
         obtain ⟨e, h3, rfl⟩ := h
         have st := dH h3 [] X.env
         obtain ⟨ts, q, tp, rfl⟩ : ∃ ts q tp, tg = .Tuple ts q tp := by
           cases tg <;> first | exact ⟨_, _, _, rfl⟩ | cases ho
         refine ⟨?_, fun _ => rfl⟩
         refine PI.wk (sL (B.gl c2) (B.blt _ (by simp [aO])) (gZ (S.e _ _ h3).1 nL st) st) ?_
         rintro σ H Rr ⟨m, st, ρ, r, en, hq⟩
         simp only [xIt] at hq
         refine ⟨m, st, ρ, r, en, ao (ay hq) (fun _ _ z => z) fun x st1 _ hx m1 H1 v g1 r1 dv => ?_⟩
         cases dv with
         | loc hl =>
           dsimp only at hx
           split at hx
           · obtain ⟨fz, ds, vs, _, ly, _⟩ := r1.loc hl
             exact ⟨_, rfl, ⟨vs, ly.sq⟩, hx _ m1 H1 g1 r1 (FY hl)⟩
           · exact hx.elim
         | kl h1 d1 => exact ⟨_, rfl, ⟨_, h1.sq⟩, hx _ m1 H1 g1 r1 (IL h1 d1)⟩
         | _ => exact hx.elim
       · cases h
     · split at h
       · rename_i c
         obtain ⟨rfl, c2, _⟩ := c
         split at h
         · rename_i bx
           simp only [Option.bind_eq_some_iff, Option.some.injEq] at h
           obtain ⟨e, h3, e2, h4, rfl⟩ := h
           have st2 := dH h4 [] X.env
           have st := dH h3 [bx] X.env
           obtain ⟨ts, q, tp, rfl⟩ : ∃ ts q tp, tg = .Tuple ts q tp := by
             cases tg <;> first | exact ⟨_, _, _, rfl⟩ | cases ho
           refine ⟨?_, fun _ => rfl⟩
           refine PI.wk (Ev.JM (B.gl c2) (B.blt _ (by simp [aO])) (gZ (S.e _ _ h3).1 (gZ (S.e _ _ h4).1 nL st2) st) st st2) ?_
           rintro σ H Rr ⟨m, st, ρ, r, en, hq⟩
           simp only [xIt] at hq
           refine ⟨m, st, ρ, r, en, ao (ay hq) (fun _ _ z => z) fun x st1 _ hx m1 H1 v g1 r1 dv => ?_⟩
           refine ⟨m1, st1, ρ, r1, en.mono g1, ao (ay hx) (fun c s z => kE.sh g1 c s z) fun y st2 _ hy m2 H2 u g2 r2 du => ?_⟩
           cases e1 : src st2 x with
           | none => rw [e1] at hy; exact hy.elim
           | some p =>
             cases e3 : src st2 y with
             | none => rw [e1, e3] at hy; exact hy.elim
             | some q =>
               rw [e1, e3] at hy
               obtain ⟨a, rfl, ha, sa⟩ := zE r2 (dv.mono g2) e1
               obtain ⟨b, rfl, hb, sb⟩ := zE r2 du e3
               exact ⟨a, b, rfl, ha, hb, hy _ m2 H2 (g1.trans g2) r2 (IS sa sb)⟩
         · cases h
       · simp only [Option.bind_eq_some_iff, Option.some.injEq] at h
         obtain ⟨e, h3, rfl⟩ := h
         exact seq e h3 rfl
 · rename_i n' heq hn
   cases heq
   simp only [Option.bind_eq_some_iff, Option.some.injEq] at h
   obtain ⟨e, h3, rfl⟩ := h
   exact seq e h3 rfl
theorem Dl {n : Nat} (S : Snd X T Φ cl Ex n) : ∀ es es', jy T (n + 1) es = some es' → PA X es (lEs (zt X cl) Φ Ex es') := by
 intro es es' h
 cases es with
 | nil =>
   simp only [jy, Option.some.injEq] at h
   subst h
   refine PA.wk nL ?_
   rintro σ H Q ⟨m, st, ρ, r, en, q⟩
   simp only [xEs] at q
   exact q m H [] (Go.refl m H) r .nil
 | cons e es =>
   simp only [jy, Option.bind_eq_some_iff, Option.some.injEq] at h
   obtain ⟨e', h1, es', h2, rfl⟩ := h
   refine PA.wk (gZ (S.e _ _ h1).1 (S.a _ _ h2) (dH h1 _ _)) ?_
   rintro σ H Q ⟨m, st, ρ, r, en, q⟩
   simp only [xEs] at q
   refine ⟨m, st, ρ, r, en, ao (ay q) (fun _ _ z => z) fun x st1 _ hx m1 H1 v g1 r1 dv => ?_⟩
   refine ⟨m1, st1, ρ, r1, en.mono g1, ao (ay hx) (fun c s z => kE.sh g1 c s z) fun xs st2 _ hy m2 H2 vs g2 r2 dvs => ?_⟩
   exact hy m2 H2 _ (g1.trans g2) r2 (.cons (dv.mono g2) dvs)
theorem yv {Φ : Fn} : ∀ {es : List E} {ρ : Env} {st st' : Sto} {xs : List U}, xEs Φ es ρ st = .ok xs st' → xs.length = es.length
 | [], ρ, st, st', xs, h => by rw [xEs] at h; cases h; rfl
 | e :: es, ρ, st, st', xs, h => by
   rw [xEs] at h
   cases h1 : xE Φ e ρ st with
   | ok x st1 =>
     rw [h1, Rs.aa] at h
     cases h2 : xEs Φ es ρ st1 with
     | ok ys st2 =>
       rw [h2, Rs.aa] at h
       cases h
       rw [List.length_cons, List.length_cons, yv h2]
     | exc c s => rw [h2] at h; cases h
     | bad => rw [h2] at h; cases h
   | exc c s => rw [h1] at h; cases h
   | bad => rw [h1] at h; cases h
theorem Eh (B : Bg X T Φ cl CX Ex k) {i : Nat} {x : Str} {e : Expr} {es : List Expr} {es' : List E} {p pos : Pos} (hi : slot T.F x = some i) (hg : Gl X x) (hdb : (x == ("__debug__" : Str)) = false) (ha : PA X (e :: es) (lEs (zt X cl) Φ Ex es'))
   (he : starEach (e :: es) X.env = (false, eval e X.env) :: starEach es X.env) (hpl : (backTo pos (starEach es X.env)).any (·.1) = false) : PE X (.Call (.Name x p) (e :: es) [] pos) (lE (zt X cl) Φ Ex (.call i es')) := by
 obtain ⟨f, fd, ps, G, F, hm, hk, hn⟩ := (B.cal i x (slot_get hi)).ex
 obtain ⟨dvs, dus, dds, hb, hd, hdd, hF⟩ := hn es'.length
 refine PE.wk (Em F B.room hg hm hk hb hd B.pas ha hdb he hpl) ?_
 rintro σ H Q ⟨m, st, ρ, r, en, q⟩
 simp only [xE] at q
 refine ⟨m, st, ρ, r, en, ao (ay q) (fun _ _ z => z) fun xs st1 ex hx m1 H1 vs g1 r1 dv => ?_⟩
 have h1 := Po.sh hx g1
 rw [hF _ _ (yv ex)] at h1
 exact ⟨m1, st1, xs ++ dds, r1, dv.append (hdd _ _), ao h1 (fun c s z m' H' g r => ⟨c, rfl, z m' H' g r⟩) fun _ _ _ z => z⟩
theorem zo : PTs X [] (lIf (zt X cl) Φ Ex []) := by
 rintro pins s σ H Q I ⟨m, st, ρ, r, en, q⟩
 simp only [xIf] at q
 exact wpAny_tests_nil ⟨H, I, q m H (Go.refl m H) r⟩
theorem zq : PO X none (lP (zt X cl) Φ Ex .cN) := by
 refine PO.wk DE ?_
 rintro σ H Q ⟨m, st, ρ, r, en, q⟩
 simp only [xE] at q
 obtain ⟨o, e, q⟩ := q
 cases e
 exact q m H (Go.refl m H) r
end
end Sv
namespace Sv
open PySem PySem.Spec PyProof.Rows L2
open Ev (D aR aY ai j2 kf eD slot slot_get iZ jU j8 mL jq gc j7 aT nR lO PTs mP oA Cf Ite cR sL ni)
section
variable {Φ : Fn} {cl : Nat → Addr} {CX : CXT} {k : Nat}
theorem Bk {X : Cx} {Ex : Nat → Hp → Prop} (ng c : Bool) : OpR X (compareOp (if ng then .IsNot else .Is)) (fun x y H Q => ∃ m d, y = .bl c ∧ br (zt X cl) m H x d ∧ Q (.bl (ng ^^ Al c d)) H) := by
 rintro pins s σ H x y v u Q I rx ry ⟨m, d, hy, dx, q⟩
 subst hy
 cases (show u = Value.bool c from ry)
 have pl : plainIs v (.bool c) = true ∧ (v == Value.bool c) = Al c d := by
   cases dx with
   | non => cases (show v = Value.none from rx); exact ⟨rfl, rfl⟩
   | @bl bb => cases (show v = Value.bool bb from rx); exact ⟨rfl, by cases bb <;> cases c <;> rfl⟩
   | int => obtain ⟨t, z⟩ := (show ∃ t, v = Value.int _ t from rx); cases z; exact ⟨rfl, rfl⟩
   | str => obtain ⟨t, z⟩ := (show ∃ t, v = Value.str _ t from rx); cases z; exact ⟨rfl, rfl⟩
   | tup _ _ => cases (show v = Value.ref _ from rx); exact ⟨rfl, rfl⟩
   | loc _ => cases (show v = Value.ref _ from rx); exact ⟨rfl, rfl⟩
   | exo _ => cases (show v = Value.ref _ from rx); exact ⟨rfl, rfl⟩
   | kl _ _ => cases (show v = Value.ref _ from rx); exact ⟨rfl, rfl⟩
 cases ng with
 | true =>
   refine wpAny_isNot_plain pl.1 ⟨.bl _, H, I, ?_, q⟩
   rw [pl.2]
   show Value.bool _ = Value.bool _
   cases Al c d <;> rfl
 | false =>
   refine wpAny_is_plain pl.1 ⟨.bl _, H, I, ?_, q⟩
   rw [pl.2]
   show Value.bool _ = Value.bool _
   cases Al c d <;> rfl
theorem AY {X : Cx} (ng : Bool) : OpR X (compareOp (if ng then .IsNot else .Is)) (fun x y H Q => ∃ m d, y = .non ∧ br (zt X cl) m H x d ∧ Q (.bl (ng ^^ Aa d)) H) := by
 rintro pins s σ H x y v u Q I rx ry ⟨m, d, hy, dx, q⟩
 subst hy
 have hd : decide (x = .non) = Aa d := by cases dx <;> rfl
 cases ng with
 | true => exact Ee pins s σ H _ _ v u Q I rx ry ⟨rfl, by rw [hd]; cases h : Aa d <;> rw [h] at q <;> exact q⟩
 | false => exact IK pins s σ H _ _ v u Q I rx ry ⟨rfl, by rw [hd]; cases h : Aa d <;> rw [h] at q <;> exact q⟩
theorem yF {T : Tr} {n : Nat} {e : Expr} {e' : E} (h : trE T n e = some e') (o : CmpOp) : behindInMarks o e = false := by
 cases n with
 | zero => rw [trE] at h; cases h
 | succ n => rw [trE] at h; cases e <;> first | rfl | (simp [stE.eq_def] at h)
theorem jl : ∀ (n : Nat) {X : Cx} {T : Tr} {Ex : Nat → Hp → Prop}, Bg X T Φ cl CX Ex k → Snd X T Φ cl Ex n
 | 0, X, T, Ex, B => ⟨(fun _ _ h => by exact bL (show (none : Option E) = some _ from h)), (fun _ _ _ _ h => by exact bL (show (none : Option E) = some _ from h)), (fun _ _ h => by simp [jy] at h), (fun e e' h => by
     cases e with
     | none => simp only [trP, Option.some.injEq] at h; subst h; exact zq
     | some e => simp [trP] at h), (fun es es' h => by
     cases es with
     | nil => simp only [wy, Option.some.injEq] at h; subst h; exact zo
     | cons a r => simp [wy] at h), (fun _ _ _ h => by unfold trI at h; cases h)⟩
 | n + 1, X, T, Ex, B => by
   have S := jl n B
   have val : ∀ pe e, PE X pe (lE (zt X cl) Φ Ex e) → (∀ whole, isTrue pe X.env whole = (do let v ← whole; standAt pe.pos; holding [v] (truthy v))) → PE X pe (lE (zt X cl) Φ Ex e) ∧ PT X pe (lT (zt X cl) Φ Ex e) :=
     fun pe e h he => ⟨h, PT.wk (HX h he) fun σ H Q ⟨m, st, ρ, r, en, q⟩ => ⟨m, st, ρ, r, en, q.po⟩⟩
   have W1 : ∀ op vs pos e, trE T (n + 1) (.BoolOp op vs pos) = some e → PE X (.BoolOp op vs pos) (lE (zt X cl) Φ Ex e) ∧ PW X (.BoolOp op vs pos) (lT (zt X cl) Φ Ex e) := by
     intro op vs pos e h
     match op, vs with
     | op, [] => cases op <;> exact bL (show (none : Option E) = some _ from h)
     | op, [a] =>
       have h' : trE T n a = some e := by cases op <;> simpa only [trE, stE.eq_def] using h
       obtain ⟨h1, h2⟩ := S.e a e h'
       refine ⟨Gj h1, ?_⟩
       cases op with
       | And => exact pw_and1 h2
       | Or => exact pw_or1 h2
     | .And, a :: b :: rs =>
       simp only [trE, stE.eq_def, Option.bind_eq_some_iff, Option.some.injEq] at h
       obtain ⟨a', h1, b', h2, rfl⟩ := h
       obtain ⟨p1, p2⟩ := S.e a a' h1
       obtain ⟨q1, q2⟩ := S.e _ b' h2
       refine ⟨PE.wk (Ge p1 q1) ?_, PW.wk (pw_and p2 (S.w _ _ _ _ h2)) ?_⟩
       · rintro σ H Q ⟨m, st, ρ, r, en, q⟩
         simp only [xE] at q
         refine cW r en q fun x st1 m1 H1 v g1 r1 en1 dv h1 => ?_
         match x, h1 with
         | .bl true, h1 => exact ⟨true, jt dv, qN ⟨m1, st1, ρ, r1, en1, h1⟩⟩
         | .bl false, h1 => exact ⟨false, jt dv, q0 (Po.ok h1 r1 .bl)⟩
       · rintro σ H Q ⟨m, st, ρ, r, en, q⟩
         simp only [xE] at q
         refine mw r en q (fun x st hx => by cases x <;> first | rfl | exact absurd rfl (hx _)) fun b st1 m1 H1 g1 r1 en1 h1 => ?_
         cases b with
         | true => exact qN ⟨m1, st1, ρ, r1, en1, h1⟩
         | false => obtain ⟨b, eb, h1⟩ := h1; cases eb; exact q0 (h1 m1 H1 (Go.refl _ _) r1)
     | .Or, a :: b :: rs =>
       simp only [trE, stE.eq_def, Option.bind_eq_some_iff, Option.some.injEq] at h
       obtain ⟨a', h1, b', h2, rfl⟩ := h
       obtain ⟨p1, p2⟩ := S.e a a' h1
       obtain ⟨q1, q2⟩ := S.e _ b' h2
       refine ⟨PE.wk (K7 p1 q1) ?_, PW.wk (pw_or p2 (S.w _ _ _ _ h2)) ?_⟩
       · rintro σ H Q ⟨m, st, ρ, r, en, q⟩
         simp only [xE] at q
         refine cW r en q fun x st1 m1 H1 v g1 r1 en1 dv h1 => ?_
         match x, h1 with
         | .bl false, h1 => exact ⟨false, jt dv, q0 ⟨m1, st1, ρ, r1, en1, h1⟩⟩
         | .bl true, h1 => exact ⟨true, jt dv, qN (Po.ok h1 r1 .bl)⟩
       · rintro σ H Q ⟨m, st, ρ, r, en, q⟩
         simp only [xE] at q
         refine mw r en q (fun x st hx => by cases x <;> first | rfl | exact absurd rfl (hx _)) fun b st1 m1 H1 g1 r1 en1 h1 => ?_
         cases b with
         | false => exact q0 ⟨m1, st1, ρ, r1, en1, h1⟩
         | true => obtain ⟨b, eb, h1⟩ := h1; cases eb; exact qN (h1 m1 H1 (Go.refl _ _) r1)
   refine ⟨?_, fun op vs pos e h => (W1 op vs pos e h).2, Dl S, ?_, ?_, IM B S⟩
   case refine_2 =>
     intro e e' h
     cases e with
     | none => simp only [trP, Option.some.injEq] at h; subst h; exact zq
     | some e =>
       simp only [trP, Option.bind_eq_some_iff] at h
       obtain ⟨e1, h1, h2⟩ := h
       have hne : e' = e1 ∧ e1 ≠ .cN := by
         split at h2
         · cases h2
         · rename_i hn
           cases h2
           exact ⟨rfl, hn⟩
       obtain ⟨rfl, hn⟩ := hne
       refine PO.wk (DH (S.e _ _ h1).1) ?_
       rintro σ H Q ⟨m, st, ρ, r, en, q⟩
       refine ⟨m, st, ρ, r, en, ao q (fun _ _ z => z) fun d st1 _ ⟨o, bb, q⟩ m1 H1 v g1 r1 dv => ?_⟩
       obtain ⟨i, rfl, rfl⟩ : ∃ i, d = .int i ∧ o = some i := by
         unfold xY at bb
         split at bb
         · exact absurd rfl hn
         · cases bb; exact ⟨_, rfl, rfl⟩
         · cases bb
       exact ⟨i, pg dv, q m1 H1 g1 r1⟩
   case refine_3 =>
     intro es es' h
     match es with
     | [] => simp only [wy, Option.some.injEq] at h; subst h; exact zo
     | [c] =>
       simp only [wy, Option.bind_eq_some_iff, Option.some.injEq] at h
       obtain ⟨c', h1, rfl⟩ := h
       rintro pins s σ H Q I ⟨m, st, ρ, r, en, q⟩
       simp only [xIf] at q
       refine wpAny_tests_one ((S.e _ _ h1).2 pins s σ H Q I ⟨m, st, ρ, r, en, ao (ay q) (fun _ _ z => z) fun x st1 _ hx => ?_⟩)
       match x, hx with
       | .bl true, hx => exact ⟨true, rfl, hx⟩
       | .bl false, hx => exact ⟨false, rfl, hx⟩
     | _ :: _ :: _ => simp [wy] at h
   intro pe e h
   cases pe with
   | BoolOp op vs pos => exact ⟨(W1 op vs pos e h).1, (W1 op vs pos e h).2.pt⟩
   | Name x pos =>
     simp only [trE, stE.eq_def] at h
     split at h
     · rename_i hg
       simp only [Option.bind_eq_some_iff, Option.some.injEq] at h
       obtain ⟨i, h1, rfl⟩ := h
       obtain ⟨t, hm⟩ := B.cst x i h1
       refine val _ _ (PE.wk (E5 (v := .int i) (B.gl hg.1) hm ⟨t, rfl⟩ hg.2) ?_) (fun _ => rfl)
       rintro σ H Q ⟨m, st, ρ, r, en, q⟩
       simp only [xE] at q
       exact Po.ok q r .int
     · simp only [Option.bind_eq_some_iff, Option.some.injEq] at h
       obtain ⟨i, h1, rfl⟩ := h
       obtain ⟨v1, v2, v3, v4⟩ := B.vis h1
       refine val _ _ (PE.wk (FZ v1 (ni v2) v3 v4) ?_) (fun _ => rfl)
       rintro σ H Q ⟨m, st, ρ, r, en, q⟩
       simp only [xE, t8] at q
       split at q
       · rename_i hz
         obtain ⟨v, g1, g2⟩ := en.get i _ hz
         exact ⟨v, g1, Po.ok q r g2⟩
       · exact q.elim
   | Constant c kk pos =>
     have cst : ∀ (v : V) (e : E) (d : U), (∀ ρ st, xE Φ e ρ st = .ok d st) → (∀ m H, br (zt X cl) m H v d) → ∀ σ H Q, lE (zt X cl) Φ Ex e σ H Q → tC v σ H Q := fun v e d h1 h2 σ H Q ⟨m, st, ρ, r, en, q⟩ => by
       rw [h1] at q
       exact Po.ok q r (h2 _ _)
     cases c <;> simp only [trE, stE.eq_def, Option.some.injEq, reduceCtorEq] at h <;> subst h
     case none => exact val _ _ (PE.wk xW (cst _ _ .non (fun _ _ => by simp only [xE]) fun _ _ => .non)) (fun _ => rfl)
     case bool b => exact val _ _ (PE.wk B5 (cst _ _ (.bl b) (fun _ _ => by simp only [xE]) fun _ _ => .bl)) (fun _ => rfl)
     case int i => exact val _ _ (PE.wk Jg (cst _ _ (.int i) (fun _ _ => by simp only [xE]) fun _ _ => .int)) (fun _ => rfl)
     case str x => exact val _ _ (PE.wk Hw (cst _ _ (.str x) (fun _ _ => by simp only [xE]) fun _ _ => .str)) (fun _ => rfl)
   | BinOp a o b pos =>
     simp only [trE, stE.eq_def, Option.bind_eq_some_iff, Option.some.injEq] at h
     obtain ⟨o', h0, a', h1, b', h2, rfl⟩ := h
     refine val _ _ (PE.wk (Kh (HS (cl := cl) (Ex := Ex) h0) (S.e _ _ h1).1 (S.e _ _ h2).1) ?_) (fun _ => rfl)
     rintro σ H Q ⟨m, st, ρ, r, en, q⟩
     simp only [xE] at q
     exact tf r en q
   | UnaryOp o a pos =>
     cases o <;> simp only [trE, stE.eq_def, Option.bind_eq_some_iff, Option.some.injEq, reduceCtorEq] at h
     case USub =>
       obtain ⟨a', h1, rfl⟩ := h
       refine val _ _ (PE.wk (K2 IG (S.e _ _ h1).1) ?_) (fun _ => rfl)
       rintro σ H Q ⟨m, st, ρ, r, en, q⟩
       simp only [xE] at q
       refine cW r en q fun x st1 m1 H1 v g1 r1 en1 dv h1 => ?_
       match x, h1 with
       | .int i, h1 => exact ⟨i, pg dv, Po.ok h1 r1 .int⟩
     case Not =>
       obtain ⟨a', h1, rfl⟩ := h
       refine ⟨PE.wk (JA (S.e _ _ h1).1) ?_, PT.wk (IJ (S.e _ _ h1).2) ?_⟩
       · rintro σ H Q ⟨m, st, ρ, r, en, q⟩
         simp only [xE] at q
         refine cW r en q fun x st1 m1 H1 v g1 r1 en1 dv h1 => ?_
         match x, h1 with
         | .bl b, h1 => exact ⟨b, jt dv, Po.ok h1 r1 .bl⟩
       · rintro σ H Q ⟨m, st, ρ, r, en, q⟩
         simp only [xE] at q
         refine mw r en q (fun x st hx => by cases x <;> first | rfl | exact absurd rfl (hx _)) fun b st1 m1 H1 g1 r1 en1 h1 => ?_
         obtain ⟨b', eb, h1⟩ := h1
         cases eb
         exact h1 m1 H1 (Go.refl _ _) r1
   | Compare a os bs pos =>
     match os, bs with
     | [o], [b] =>
       have cmp : ∀ e, ((trC o).bind fun o' => (trE T n a).bind fun a' => (trE T n b).bind fun b' => some (.cmp o' a' b')) = some e → PE X (.Compare a [o] [b] pos) (lE (zt X cl) Φ Ex e) ∧ PT X (.Compare a [o] [b] pos) (lT (zt X cl) Φ Ex e) := by
         intro e h
         simp only [Option.bind_eq_some_iff, Option.some.injEq] at h
         obtain ⟨o', h0, a', h1, b', h2, rfl⟩ := h
         have hm : behindInMarks o b = false := yF h2 o
         refine ⟨PE.wk (tj (nJ (cl := cl) (Ex := Ex) B.room.units h0) (S.e _ _ h1).1 (S.e _ _ h2).1 hm) ?_, PT.wk (sX (nJ (cl := cl) (Ex := Ex) B.room.units h0) (S.e _ _ h1).1 (S.e _ _ h2).1 hm) ?_⟩
         · rintro σ H Q ⟨m, st, ρ, r, en, q⟩
           simp only [xE] at q
           exact tf r en q
         · rintro σ H Q ⟨m, st, ρ, r, en, q⟩
           simp only [xE] at q
           exact tf r en q.po
       have isb : ∀ (ng c : Bool) (a' : E) (kk : Nat) (pp : Pos), trE T n a = some a' → b = .Constant (.bool c) kk pp → o = (if ng then .IsNot else .Is) → PE X (.Compare a [o] [b] pos) (lE (zt X cl) Φ Ex (.isB ng a' c)) ∧ PT X (.Compare a [o] [b] pos) (lT (zt X cl) Φ Ex (.isB ng a' c)) := by
         intro ng c a' kk pp h1 hb ho
         subst hb ho
         have hm : behindInMarks (if ng then .IsNot else .Is) (.Constant (.bool c) kk pp) = false := by cases ng <;> rfl
         refine ⟨PE.wk (tj (Bk (cl := cl) (Ex := Ex) ng c) (S.e _ _ h1).1 B5 hm) ?_, PT.wk (sX (Bk (cl := cl) (Ex := Ex) ng c) (S.e _ _ h1).1 B5 hm) ?_⟩
         · rintro σ H Q ⟨m, st, ρ, r, en, q⟩
           simp only [xE] at q
           exact cW r en q fun x st1 m1 H1 v g1 r1 en1 dv h1 => ⟨m1, x, rfl, dv, Po.ok h1 r1 .bl⟩
         · rintro σ H Q ⟨m, st, ρ, r, en, q⟩
           simp only [xE] at q
           exact cW r en q.po fun x st1 m1 H1 v g1 r1 en1 dv h1 => ⟨m1, x, rfl, dv, Po.ok h1 r1 .bl⟩
       have isn : ∀ (ng : Bool) (a' : E) (kk : Nat) (pp : Pos), trE T n a = some a' → b = .Constant .none kk pp → o = (if ng then .IsNot else .Is) → PE X (.Compare a [o] [b] pos) (lE (zt X cl) Φ Ex (.isN ng a')) ∧ PT X (.Compare a [o] [b] pos) (lT (zt X cl) Φ Ex (.isN ng a')) := by
         intro ng a' kk pp h1 hb ho
         subst hb ho
         have hm : behindInMarks (if ng then .IsNot else .Is) (.Constant .none kk pp) = false := by cases ng <;> rfl
         refine ⟨PE.wk (tj (AY (cl := cl) ng) (S.e _ _ h1).1 xW hm) ?_, PT.wk (sX (AY (cl := cl) ng) (S.e _ _ h1).1 xW hm) ?_⟩
         · rintro σ H Q ⟨m, st, ρ, r, en, q⟩
           simp only [xE] at q
           exact cW r en q fun x st1 m1 H1 v g1 r1 en1 dv h1 => ⟨m1, x, rfl, dv, Po.ok h1 r1 .bl⟩
         · rintro σ H Q ⟨m, st, ρ, r, en, q⟩
           simp only [xE] at q
           exact cW r en q.po fun x st1 m1 H1 v g1 r1 en1 dv h1 => ⟨m1, x, rfl, dv, Po.ok h1 r1 .bl⟩
       simp only [trE, stE.eq_def] at h
       split at h
       · simp only [Option.bind_eq_some_iff, Option.some.injEq] at h
         obtain ⟨a', h1, rfl⟩ := h
         exact isb false _ a' _ _ h1 rfl rfl
       · simp only [Option.bind_eq_some_iff, Option.some.injEq] at h
         obtain ⟨a', h1, rfl⟩ := h
         exact isb true _ a' _ _ h1 rfl rfl
       · simp only [Option.bind_eq_some_iff, Option.some.injEq] at h
         obtain ⟨a', h1, rfl⟩ := h
         exact isn false a' _ _ h1 rfl rfl
       · simp only [Option.bind_eq_some_iff, Option.some.injEq] at h
         obtain ⟨a', h1, rfl⟩ := h
         exact isn true a' _ _ h1 rfl rfl
       · exact cmp e h
     | [o, p], [b, c] =>
       simp only [trE, stE.eq_def, Option.bind_eq_some_iff, Option.some.injEq] at h
       obtain ⟨o', h0, p', h0', a', h1, b', h2, c', h3, rfl⟩ := h
       have hm : lastMarks [o, p] [b, c] = false := yF h3 p
       have core : ∀ σ H Q, lE (zt X cl) Φ Ex (.chain o' p' a' b' c') σ H Q → xt (rC (zt X cl) Ex o') (rC (zt X cl) Ex p') (lE (zt X cl) Φ Ex a') (lE (zt X cl) Φ Ex b') (lE (zt X cl) Φ Ex c') σ H Q := by
         rintro σ H Q ⟨m, st, ρ, r, en, q⟩
         simp only [xE] at q
         refine cW r en q fun x st1 m1 H1 v g1 r1 en1 dv q1 => cW r1 en1 q1 fun y st2 m2 H2 u g2 r2 en2 du q2 => ?_
         refine ⟨m2, st2, x, y, r2, dv.mono g2, du, ?_⟩
         show Po _ _ _ _ _ (ofO (evC o' x y st2) st2)
         cases ho : evC o' x y st2 with
         | none => rw [ho] at q2; exact q2.elim
         | some tt =>
           rw [ho] at q2
           intro m3 H3 w g3 r3 dw
           cases tt with
           | true =>
             refine ⟨true, jt dw, qN (cW r3 (en2.mono g3) (Po.sh q2 g3) fun z st4 m4 H4 w' g4 r4 en4 dw' q4 => ?_)⟩
             exact ⟨m4, st4, y, z, r4, (du.mono g3).mono g4, dw', q4⟩
           | false => exact ⟨false, jt dw, q0 (Po.ok (Po.sh q2 g3) r3 .bl)⟩
       refine ⟨PE.wk (CG (nJ (cl := cl) (Ex := Ex) B.room.units h0) (nJ (cl := cl) (Ex := Ex) B.room.units h0') (S.e _ _ h1).1 (S.e _ _ h2).1 (S.e _ _ h3).1 hm) core, PT.wk (A4 (nJ (cl := cl) (Ex := Ex) B.room.units h0) (nJ (cl := cl) (Ex := Ex) B.room.units h0') (S.e _ _ h1).1 (S.e _ _ h2).1 (S.e _ _ h3).1 hm) ?_⟩
       rintro σ H Q ⟨m, st, ρ, r, en, q⟩
       exact core σ H _ ⟨m, st, ρ, r, en, q.po⟩
     | [], _ => exact bL (show (none : Option E) = some _ from h)
     | [_], [] => exact bL (show (none : Option E) = some _ from h)
     | [_], _ :: _ :: _ => exact bL (show (none : Option E) = some _ from h)
     | [_, _], [] => exact bL (show (none : Option E) = some _ from h)
     | [_, _], [_] => exact bL (show (none : Option E) = some _ from h)
     | [_, _], _ :: _ :: _ :: _ => exact bL (show (none : Option E) = some _ from h)
     | _ :: _ :: _ :: _, _ => exact bL (show (none : Option E) = some _ from h)
   | IfExp c a b pos =>
     simp only [trE, stE.eq_def, Option.bind_eq_some_iff, Option.some.injEq] at h
     obtain ⟨c', h0, a', h1, b', h2, rfl⟩ := h
     have core : ∀ σ H Q, lE (zt X cl) Φ Ex (.ite c' a' b') σ H Q → tIf (lT (zt X cl) Φ Ex c') (lE (zt X cl) Φ Ex a') (lE (zt X cl) Φ Ex b') σ H Q := by
       rintro σ H Q ⟨m, st, ρ, r, en, q⟩
       simp only [xE] at q
       refine EA r en q (fun x st hx => by cases x <;> first | rfl | exact absurd rfl (hx _)) fun bb st1 m1 H1 g1 r1 en1 q1 => ?_
       cases bb with
       | true => exact qN ⟨m1, st1, ρ, r1, en1, q1⟩
       | false => exact q0 ⟨m1, st1, ρ, r1, en1, q1⟩
     refine ⟨PE.wk (By (S.e _ _ h0).2 (S.e _ _ h1).1 (S.e _ _ h2).1) core, ?_⟩
     rintro pins s σ H Q I ⟨m, st, ρ, r, en, q⟩
     simp only [xE] at q
     show wpAny _ _ (do if ← isTrue c X.env (eval c X.env) then isTrue a X.env (eval a X.env) else isTrue b X.env (eval b X.env)) _ _ _
     have rd : lT (zt X cl) Φ Ex c' σ H (fun bb H1 => if bb = true then lT (zt X cl) Φ Ex a' σ H1 Q else lT (zt X cl) Φ Ex b' σ H1 Q) := by
       refine mw r en q (fun x st hx => by cases x <;> first | rfl | exact absurd rfl (hx _)) fun bb st1 m1 H1 g1 r1 en1 q1 => ?_
       cases bb with
       | true => exact qN ⟨m1, st1, ρ, r1, en1, q1⟩
       | false => exact q0 ⟨m1, st1, ρ, r1, en1, q1⟩
     refine wpAny_bind (thn ((S.e _ _ h0).2 pins s σ H _ I rd) ?_)
     rintro bb s1 ⟨H1, I1, hq⟩
     cases bb with
     | true => rw [if_pos rfl] at hq; exact (S.e _ _ h1).2 pins s1 σ H1 Q I1 hq
     | false => rw [if_neg (by decide)] at hq; exact (S.e _ _ h2).2 pins s1 σ H1 Q I1 hq
   | Tuple es kk pos =>
     simp only [trE, stE.eq_def, Option.bind_eq_some_iff, Option.some.injEq] at h
     obtain ⟨es', h1, rfl⟩ := h
     refine val _ _ (PE.wk (Gq (S.a _ _ h1)) ?_) (fun _ => rfl)
     rintro σ H Q ⟨m, st, ρ, r, en, q⟩
     simp only [xE] at q
     refine lC r en q fun xs st1 m1 H1 vs g1 r1 dv q1 => ?_
     split at q1
     · exact ⟨by have := dv.length; have := Ev.cb; omega, fun p hp => Po.tup q1 r1 dv hp⟩
     · exact q1.elim
   | List es pos =>
     simp only [trE, stE.eq_def, Option.bind_eq_some_iff, Option.some.injEq] at h
     obtain ⟨es', h1, rfl⟩ := h
     refine val _ _ (PE.wk (GH (S.a _ _ h1)) ?_) (fun _ => rfl)
     rintro σ H Q ⟨m, st, ρ, r, en, q⟩
     simp only [xE] at q
     refine lC r en q fun xs st1 m1 H1 vs g1 r1 dv q1 => ?_
     split at q1
     · exact ⟨by have := dv.length; have := Ev.cb; omega, fun p hp => Po.new q1 r1 dv hp⟩
     · exact q1.elim
   | Subscript a i pos =>
     have plain : (∀ l u st p, i ≠ .Slice l u st p) → PE X (.Subscript a i pos) (lE (zt X cl) Φ Ex e) ∧ PT X (.Subscript a i pos) (lT (zt X cl) Φ Ex e) := by
       intro hi
       have hps : yw i := fun o v => by cases i <;> first | rfl | exact absurd rfl (hi _ _ _ _)
       have h' : ((trE T n a).bind fun a' => (trE T n i).bind fun i' => some (.ix a' i')) = some e := by
         cases i <;> first | exact absurd rfl (hi _ _ _ _) | (simpa only [trE, stE.eq_def] using h)
       simp only [Option.bind_eq_some_iff, Option.some.injEq] at h'
       obtain ⟨a', h1, i', h2, rfl⟩ := h'
       refine val _ _ (PE.wk (Kz (II (cl := cl) (Ex := Ex)) (S.e _ _ h1).1 (S.e _ _ h2).1 hps) ?_) (fun _ => rfl)
       rintro σ H Q ⟨m, st, ρ, r, en, q⟩
       simp only [xE] at q
       exact tf r en q
     cases i with
     | Slice lo hi st p2 =>
       cases st with
       | some y => exact bL (show (none : Option E) = some _ from h)
       | none =>
         simp only [trE, stE.eq_def, Option.bind_eq_some_iff, Option.some.injEq] at h
         obtain ⟨a', h1, l', h2, u', h3, rfl⟩ := h
         refine val _ _ (PE.wk (Bc DQ (S.e _ _ h1).1 (S.p _ _ h2) (S.p _ _ h3)) ?_) (fun _ => rfl)
         rintro σ H Q ⟨m, st, ρ, r, en, q⟩
         simp only [xE] at q
         refine cW r en q fun x st1 m1 H1 v g1 r1 en1 dv q1 => ?_
         refine ⟨m1, st1, ρ, r1, en1, ao (ay q1) (fun _ _ z => z) fun y st2 _ q2 => ?_⟩
         cases hy : xY l' y with
         | none => rw [hy] at q2; exact q2.elim
         | some lo' =>
           rw [hy] at q2
           refine ⟨lo', rfl, fun m2 H2 g2 r2 => ?_⟩
           refine ⟨m2, st2, ρ, r2, en1.mono g2, ao (ay q2) (fun c s z => kE.sh g2 c s z) fun z st3 _ q3 => ?_⟩
           cases hz : xY u' z with
           | none => rw [hz] at q3; exact q3.elim
           | some hi' =>
             rw [hz] at q3
             refine ⟨hi', rfl, fun m3 H3 g3 r3 => ?_⟩
             dsimp only at q3
             unfold Fp at q3
             split at q3
             · rename_i xs e1
               obtain ⟨p, vs, rfl, s1, d1⟩ := pb r3 (dv.mono (g2.trans g3)) e1
               exact ⟨p, vs, rfl, s1, fun p' hp' => Po.new (Po.sh q3 (g2.trans g3)) r3 (DM d1 _ _) hp'⟩
             · exact q3.elim
     | _ => exact plain (fun _ _ _ _ z => nomatch z)
   | Call f es ks pos =>
     obtain ⟨x, p, e0, es0, rfl, rfl, rfl⟩ : ∃ x p e0 es0, f = .Name x p ∧ es = e0 :: es0 ∧ ks = [] := by
       cases f with
       | Name x p =>
         cases es with
         | cons e0 es0 =>
           cases ks with
           | nil => exact ⟨_, _, _, _, rfl, rfl, rfl⟩
           | cons k ks => exact bL (show (none : Option E) = some _ from h)
         | nil => exact bL (show (none : Option E) = some _ from h)
       | _ => exact bL (show (none : Option E) = some _ from h)
     simp only [trE, stE.eq_def] at h
     split at h
     · rename_i hg
       have gl := B.gl hg.1
       split at h
       · rename_i i hi
         simp only [Option.bind_eq_some_iff, Option.some.injEq] at h
         obtain ⟨es', h1, rfl⟩ := h
         exact val _ _ (Eh B hi gl hg.2 (S.a _ _ h1) (fo h1 _) (gd h1 _ _)) (fun _ => rfl)
       · split at h
         · rename_i hx
           subst hx
           split at h
           · rename_i t q
             split at h
             · rename_i hgt
               simp only [Option.bind_eq_some_iff, Option.some.injEq] at h
               obtain ⟨ty, h0, a', h1, rfl⟩ := h
               refine val _ _ (PE.wk (jb (He (cl := cl) ty) gl (B.blt _ (by simp [aO])) (by decide +kernel) (gZ (S.e _ _ h1).1 (gZ (KH B.blt h0 (B.gl hgt)) nL rfl) (dH h1 _ _)) (by decide) hg.2 (dH h1 _ _) rfl) ?_) (fun _ => rfl)
               rintro σ H Q ⟨m, st, ρ, r, en, q⟩
               simp only [xE] at q
               refine cW r en q fun x st1 m1 H1 v g1 r1 en1 dv q1 => ?_
               have ne : (∀ c, x ≠ .exo c) ∧ Po (zt X cl) Ex m1 H1 Q (.ok (.bl (AA ty x)) st1) := by
                 cases x <;> first | exact ⟨(by intro c z; cases z), q1⟩ | exact q1.elim
               exact ⟨m1, st1, v, x, r1, rfl, dv, ne.1, Po.ok ne.2 r1 .bl⟩
             · cases h
           · cases h
         · split at h
           · rename_i a ha
             obtain ⟨rfl, rfl, hgr, p, q, rfl⟩ := CA ha
             simp only [Option.bind_eq_some_iff, Option.some.injEq] at h
             obtain ⟨es', h1, rfl⟩ := h
             refine val _ _ (PE.wk (IA (cl := cl) (Ex := Ex) B.calm B.blt gl (B.gl hgr) (S.a _ _ h1) (fo h1 _)) ?_) (fun _ => rfl)
             rintro σ H Q ⟨m, st, ρ, r, en, q⟩
             simp only [xE] at q
             exact lC r en q fun xs st1 m1 H1 vs g1 r1 dv q1 => ⟨m1, st1, xs, r1, dv, q1⟩
           simp only [Option.bind_eq_some_iff, Option.some.injEq] at h
           obtain ⟨b, h0, es', h1, rfl⟩ := h
           refine val _ _ (PE.wk (KR (cl := cl) (Ex := Ex) B.calm B.blt h0 gl (S.a _ _ h1) (fo h1 _) (gd h1 _ _)) ?_) (fun _ => rfl)
           rintro σ H Q ⟨m, st, ρ, r, en, q⟩
           simp only [xE] at q
           exact lC r en q fun xs st1 m1 H1 vs g1 r1 dv q1 => ⟨m1, st1, xs, r1, dv, q1⟩
     · cases h
   | ListComp elt gens scope pos =>
     match gens with
     | [⟨tg, iter, ifs, asy⟩] =>
       simp only [trE, stE.eq_def] at h
       split at h
       · rename_i hb0
         obtain ⟨rfl, hb⟩ := hb0
         simp only [Option.bind_eq_some_iff] at h
         obtain ⟨t, h1, it, h2, fs, h3, e', h4, h5⟩ := h
         split at h5
         · rename_i ho
           cases h5
           exact val _ _ (Bx B S (fun B' => jl n B') hb h1 h2 h3 h4 ho) (fun _ => rfl)
         · cases h5
       · cases h
     | [] => exact bL (show (none : Option E) = some _ from h)
     | ⟨_, _, _, _⟩ :: _ :: _ => exact bL (show (none : Option E) = some _ from h)
   | _ => exact bL (show (none : Option E) = some _ from h)
end
end Sv
namespace Sv
open PySem PySem.Spec PyProof.Rows L2
open Ev (D aR aY ai j2 kf eD slot slot_get iZ jU ni)
section
variable {X : Cx} {cl : Nat → Addr}
theorem A3 {α : Type} : ∀ (its : List α) (k : Nat) (y : α), k ≤ its.length → its.insertIdx k y = its.take k ++ [y] ++ its.drop k
 | _, 0, _, _ => rfl
 | a :: r, k + 1, y, h => by
   rw [List.insertIdx_succ_cons, A3 r k y (by simpa using h)]
   rfl
theorem HH {its : List Value} {k : Nat} {y : Value} (h : k ≤ its.length) : (its.toArray.extract 0 k).push y ++ its.toArray.extract k = (its.insertIdx k y).toArray := by
 apply Array.toList_inj.mp
 simp only [Array.toList_append, Array.toList_push, Array.toList_extract, List.extract_eq_drop_take, List.drop_zero, Nat.sub_zero, List.size_toArray]
 rw [A3 its k y h]
 congr 1
 exact List.take_of_length_le (by rw [List.length_drop]; exact Nat.le_refl _)
noncomputable def DY : V → List V → Hp → VK → Prop := fun x vs H Q => ∃ l xs, ∃ i : Int, ∃ y, x = .ref l ∧ vs = [.int i, y] ∧ H l = some (.lst xs) ∧ 0 ≤ i ∧ i.toNat ≤ xs.length ∧ xs.length < sizeLine ∧ Q .non (upd H l (.lst (xs.insertIdx i.toNat y)))
theorem An : MtM X "list.insert" DY := by
 intro pins s σ H x vs v us Q I rx rv h
 obtain ⟨l, xs, i, y, rfl, rfl, hH, h0, h1, h2, q⟩ := h
 cases rx
 obtain ⟨u, w, rfl, ru, rw'⟩ := rv.two
 obtain ⟨t, rfl⟩ := ru
 obtain ⟨z, its, n, r, hl, e⟩ := I.xF hH
 have hi : i < 2 ^ 63 := by have := Int.toNat_of_nonneg h0; have : sizeLine < 2 ^ 62 := (by decide); omega
 have hf : Builtin.List.listFitsIndex i = true := by
   unfold Builtin.List.listFitsIndex
   rw [Bool.and_eq_true]
   exact ⟨decide_eq_true (by omega), decide_eq_true hi⟩
 refine call_meets PySem.F.slot_list_insert ⟨_, e, rfl⟩ PySem.F.entry_list_insert (PySem.F.args_list_insert_3 _ _ _) (PySem.AutoSeq1.list_insert_list_int_val_1 l its.toArray n i t w (by simp [hf]) (by rw [List.size_toArray]; omega)) ⟨e, ?_⟩
 have vi : ∀ {xs : List V} {us : List Value} (k : Nat) {a : V} {b : Value}, Vals xs us → RelV a b → Vals (xs.insertIdx k a) (us.insertIdx k b) := fun {xs us} k {a b} r ra => by
   induction k generalizing xs us with
   | zero => exact .cons ra r
   | succ k ih => cases r with
     | nil => exact .nil
     | cons r1 r2 => exact .cons r1 (ih r2)
 refine ⟨.non, _, I.Ad (its' := its.insertIdx i.toNat w) hH e ?_ (vi _ r rw') ?_, rfl, q⟩
 · show (its.toArray.extract 0 (if i < 0 then (i + (its.toArray.size : Int)).toNat else min i.toNat its.toArray.size)).push w ++ its.toArray.extract (if i < 0 then (i + (its.toArray.size : Int)).toNat else min i.toNat its.toArray.size) = _
   rw [if_neg (by omega), List.size_toArray, Nat.min_eq_left (by omega)]
   exact HH (by omega)
 · rw [List.length_insertIdx_of_le_length h1]; omega
noncomputable def rM (Z : Zt) (lm : Lm) : V → List V → Hp → VK → Prop := fun x vs H Q => ∃ m st a ds st', R Z m st H ∧ br Z m H x a ∧ ak Z m H vs ds ∧ evM lm a ds st = some st' ∧ ∀ v H', Go m H m H' → R Z m st' H' → Q v H'
theorem lx {Z : Zt} {m : List Addr} {st : Sto} {H : Hp} (r : R Z m st H) {x : V} {l : Nat} {xs : List U} (d : br Z m H x (.loc l)) (e : st[l]? = some (false, xs)) : ∃ a vs, x = .ref a ∧ m[l]? = some a ∧ H a = some (.lst vs) ∧ ak Z m H vs xs := by
 obtain ⟨a, rfl, hl⟩ := lV d
 obtain ⟨b, vs, f1, f2, f3⟩ := r.at e
 rw [hl] at f1; cases f1
 unfold Lay at f2
 rw [if_neg (by decide)] at f2
 exact ⟨_, vs, rfl, hl, f2, f3⟩
theorem Co : MtR X "list.append" (rM (zt X cl) .append) := by
 rintro pins s σ H x vs v us Q I rx rv ⟨m, st, a, ds, st', r, dx, dn, e, q⟩
 match a, ds, e with
 | .loc l, [d], e =>
   simp only [evM.eq_def] at e
   split at e
   · rename_i xs hs
     split at e
     · rename_i hl
       cases e
       obtain ⟨p, ws, rfl, f1, f2, f3⟩ := lx r dx hs
       obtain ⟨y, rfl, dy⟩ := nV dn
       obtain ⟨g, r'⟩ := r.put f1 hs (f3.append (.cons dy .nil))
       exact n8 pins s σ H _ _ v us Q I rx rv ⟨p, ws, y, rfl, rfl, f2, by have := f3.length; have := Ev.cb; omega, q _ _ g r'⟩
     · cases e
   · cases e
theorem BV : MtR X "list.extend" (rM (zt X cl) .extend) := by
 rintro pins s σ H x vs v us Q I rx rv ⟨m, st, a, ds, st', r, dx, dn, e, q⟩
 match a, ds, e with
 | .loc l, [.loc j], e =>
   simp only [evM.eq_def] at e
   split at e
   · rename_i xs ys hs hs2
     split at e
     · rename_i hl
       cases e
       obtain ⟨p, ws, rfl, f1, f2, f3⟩ := lx r dx hs
       obtain ⟨y, rfl, dy⟩ := nV dn
       obtain ⟨p2, ws2, rfl, k1, k2, k3⟩ := lx r dy hs2
       obtain ⟨g, r'⟩ := r.put f1 hs (f3.append k3)
       exact zO pins s σ H _ _ v us Q I rx rv ⟨p, p2, ws, ws2, rfl, rfl, f2, k2, by have := f3.length; have := k3.length; have := Ev.cb; omega, q _ _ g r'⟩
     · cases e
   · cases e
theorem BQ : MtR X "list.insert" (rM (zt X cl) .insert) := by
 rintro pins s σ H x vs v us Q I rx rv ⟨m, st, a, ds, st', r, dx, dn, e, q⟩
 match a, ds, e with
 | .loc l, [.int i, d], e =>
   simp only [evM.eq_def] at e
   split at e
   · rename_i xs hs
     split at e
     · rename_i hl
       cases e
       obtain ⟨p, ws, rfl, f1, f2, f3⟩ := lx r dx hs
       obtain ⟨y1, y2, rfl, dy1, dy2⟩ := JB dn
       cases dy1
       obtain ⟨g, r'⟩ := r.put f1 hs (f3.insert i.toNat dy2)
       have l3 := f3.length
       exact An pins s σ H _ _ v us Q I rx rv ⟨p, ws, i, y2, rfl, rfl, f2, hl.2.1, by have := hl.2.2; omega, by have := hl.1; have := Ev.cb; omega, q _ _ g r'⟩
     · cases e
   · cases e
theorem KL : MtR X "list.pop" (rM (zt X cl) .pop) := by
 rintro pins s σ H x vs v us Q I rx rv ⟨m, st, a, ds, st', r, dx, dn, e, q⟩
 match a, ds, e with
 | .loc l, [], e =>
   simp only [evM.eq_def] at e
   split at e
   · rename_i xs hs
     split at e
     · cases e
     · rename_i hn
       cases e
       obtain ⟨p, ws, rfl, f1, f2, f3⟩ := lx r dx hs
       cases dn
       obtain ⟨g, r'⟩ := r.put f1 hs f3.dropLast
       have l3 := f3.length
       have hl : ws.length - 1 < ws.length := by
         have : xs.length ≠ 0 := fun z => hn (List.eq_nil_of_length_eq_zero z)
         omega
       exact JL pins s σ H _ _ v us Q I rx rv ⟨p, ws, ws[ws.length - 1], rfl, rfl, f2, List.getElem?_eq_getElem hl, q _ _ g r'⟩
   · cases e
theorem Dx : MtR X "list.pop" (rM (zt X cl) .popAt) := by
 rintro pins s σ H x vs v us Q I rx rv ⟨m, st, a, ds, st', r, dx, dn, e, q⟩
 match a, ds, e with
 | .loc l, [.int i], e =>
   simp only [evM.eq_def] at e
   split at e
   · rename_i xs hs
     split at e
     · rename_i hlm
       obtain ⟨j, hj, rfl⟩ := Option.map_eq_some_iff.mp e
       obtain ⟨p, ws, rfl, f1, f2, f3⟩ := lx r dx hs
       obtain ⟨y, rfl, dy⟩ := nV dn
       cases dy
       obtain ⟨g, r'⟩ := r.put f1 hs (f3.erase j)
       have l3 := f3.length
       obtain ⟨h1, h2, h3, h4⟩ := tT hj
       have : ai < 2 ^ 62 := by decide
       exact Bm pins s σ H _ _ v us Q I rx rv ⟨p, ws, i, j, ws[j]'(by omega), rfl, rfl, f2, by omega, by omega, by rw [l3]; exact h1, List.getElem?_eq_getElem (by omega), q _ _ g r'⟩
     · cases e
   · cases e
theorem DF : MtR X "list.clear" (rM (zt X cl) .clear) := by
 rintro pins s σ H x vs v us Q I rx rv ⟨m, st, a, ds, st', r, dx, dn, e, q⟩
 match a, ds, e with
 | .loc l, [], e =>
   simp only [evM.eq_def] at e
   split at e
   · rename_i xs hs
     cases e
     obtain ⟨p, ws, rfl, f1, f2, f3⟩ := lx r dx hs
     cases dn
     obtain ⟨g, r'⟩ := r.put f1 hs (ak.nil)
     exact A2 pins s σ H _ _ v us Q I rx rv ⟨p, ws, rfl, rfl, f2, q _ _ g r'⟩
   · cases e
noncomputable def trM (m : Str) (n : Nat) : Option Lm :=
 if m = "append" ∧ n = 1 then some .append else if m = "extend" ∧ n = 1 then some .extend else if m = "insert" ∧ n = 2 then some .insert else
 if m = "pop" ∧ n = 0 then some .pop else if m = "pop" ∧ n = 1 then some .popAt else if m = "clear" ∧ n = 0 then some .clear else none
noncomputable def isNm : Expr → Bool
 | .Name _ _ => true
 | _ => false
noncomputable def tJ : Expr → Bool
 | .Tuple _ _ _ => false
 | _ => true
noncomputable def stS (T : Tr) (rE : Expr → Option E) (rEs : List Expr → Option (List E)) (rI : Expr → Option It) (rS : List Stmt → Option (List S)) : Stmt → Option S
 | .Assign [.Subscript a i p] e _ => if tJ i = true then (rE e).bind fun e' => (rE a).bind fun a' => (rE i).bind fun i' => some (.put a' i' e') else none
 | .Assign [tg] e _ => if tJ e = true ∨ isNm tg = true then (mf T tg).bind fun t => (rE e).bind fun e' => some (.set t e') else none
 | .Return (some e) _ => (rE e).bind fun e' => some (.ret e')
 | .Return none _ => some .retN
 | .If c a b _ => (rE c).bind fun c' => (rS a).bind fun a' => (rS b).bind fun b' => some (.ite c' a' b')
 | .For tg it body [] _ => (mf T tg).bind fun t => (rI it).bind fun it' => (rS body).bind fun b' => if uF tg it' = true then some (.for t it' b') else none
 | .While c body [] _ => (rE c).bind fun c' => (rS body).bind fun b' => some (.while c' b')
 | .Expr (.Call (.Attribute o m apos) es [] cpos) _ =>
   if (apos.endLine == cpos.line) = true then (trM m es.length).bind fun lm => (rE o).bind fun o' => (rEs es).bind fun es' => some (.mth lm o' es') else none
 | .Expr (.Call (.Name f p) es ks q) _ => (rE (.Call (.Name f p) es ks q)).bind fun e' => some (.expr e')
 | .Break _ => some .brk
 | .Continue _ => some .cont
 | .Pass _ => some .pas
 | .Raise _ _ _ => some .nev
 | _ => none
mutual
noncomputable def trS (T : Tr) : Nat → Stmt → Option S
 | 0, _ => none
 | n + 1, s => stS T (fun e => trE T n e) (fun es => jy T n es) (fun i => trI T n i) (fun ss => cK T n ss) s
noncomputable def cK (T : Tr) : Nat → List Stmt → Option (List S)
 | 0, _ => none
 | _ + 1, [] => some []
 | n + 1, s :: ss => (trS T n s).bind fun s' => (cK T n ss).bind fun ss' => some (s' :: ss')
end
end
end Sv
namespace Sv
open PySem PySem.Spec PyProof.Rows L2
open Ev (D aR aY ai j2 kf eD slot slot_get iZ jU ni)
noncomputable def kF (Z : Zt) (m : List Addr) (H : Hp) (D : Ends) : Fl → Sto → Prop
 | .nx ρ, st' => ∀ m' H' σ', Go m H m' H' → R Z m' st' H' → bX Z m' H' σ' ρ → D.nx σ' H'
 | .rt d, st' => ∀ m' H' v, Go m H m' H' → R Z m' st' H' → br Z m' H' v d → D.rt v H'
 | .bk ρ, st' => ∀ m' H' σ', Go m H m' H' → R Z m' st' H' → bX Z m' H' σ' ρ → D.bk σ' H'
 | .ct ρ, st' => ∀ m' H' σ', Go m H m' H' → R Z m' st' H' → bX Z m' H' σ' ρ → D.ct σ' H'
theorem kF.sh {Z : Zt} {m m1 : List Addr} {H H1 : Hp} {D : Ends} (g : Go m H m1 H1) : ∀ f st, kF Z m H D f st → kF Z m1 H1 D f st
 | .nx _, _, h => fun m' H' σ' g' => h m' H' σ' (g.trans g')
 | .rt _, _, h => fun m' H' v g' => h m' H' v (g.trans g')
 | .bk _, _, h => fun m' H' σ' g' => h m' H' σ' (g.trans g')
 | .ct _, _, h => fun m' H' σ' g' => h m' H' σ' (g.trans g')
noncomputable abbrev PoF (Z : Zt) (Ex : Nat → Hp → Prop) (m : List Addr) (H : Hp) (D : Ends) (x : Rs Fl) : Prop := post (kE Z Ex m H) (kF Z m H D) x
theorem PoF.sh {Z : Zt} {Ex : Nat → Hp → Prop} {m m1 : List Addr} {H H1 : Hp} {D : Ends} {x : Rs Fl} (h : PoF Z Ex m H D x) (g : Go m H m1 H1) : PoF Z Ex m1 H1 D x := ao h (kE.sh g) fun a st _ => kF.sh g a st
section
variable (Z : Zt) (Φ : Fn) (Ex : Nat → Hp → Prop) (n : Nat)
noncomputable def lS (s : S) : TS := fun D σ H => ∃ m st ρ, R Z m st H ∧ bX Z m H σ ρ ∧ PoF Z Ex m H D (xS Φ n s ρ st)
noncomputable def lSs (ss : List S) : TS := fun D σ H => ∃ m st ρ, R Z m st H ∧ bX Z m H σ ρ ∧ PoF Z Ex m H D (xSs Φ n ss ρ st)
end
section
variable {X : Cx} {T : Tr} {Φ : Fn} {cl : Nat → Addr} {CX : CXT} {Ex : Nat → Hp → Prop} {k : Nat}
theorem PS.wk {e : Stmt} {t t' : TS} (h : PS X e t) (f : ∀ E σ H, t' E σ H → t E σ H) : PS X e t' := fun pins s σ H E I q => h pins s σ H E I (f E σ H q)
theorem PSs.wk {e : List Stmt} {t t' : TS} (h : PSs X e t) (f : ∀ E σ H, t' E σ H → t E σ H) : PSs X e t' := fun pins s σ H E I q => h pins s σ H E I (f E σ H q)
theorem PS.nox {st : Stmt} {t : TS} (h : PS X.nox st t) : PS X st t := fun pins s σ H D I hw =>
 wpAny_mono (h pins s σ H D (I.qj _) hw) (fun _ _ q => q.jj) fun _ _ z => False.elim z
theorem Bg.nox (B : Bg X T Φ cl CX Ex k) : Bg X.nox T Φ cl CX (fun _ _ => False) k :=
 ⟨B.sc, B.nm, B.nd, B.calm, B.room, B.blt, B.cal, B.fn, B.cst, B.cxn, HW B.cxn⟩
theorem gW {Z : Zt} {m : List Addr} {st : Sto} {ρ : Env} {H : Hp} {σ : L2.St} {D : Ends} {Q1 : VK} {a : E} {f : U → Sto → Rs Fl} (r : R Z m st H) (en : bX Z m H σ ρ) (h : PoF Z Ex m H D ((xE Φ a ρ st).bind f))
   (k : ∀ x st1 m1 H1 v, Go m H m1 H1 → R Z m1 st1 H1 → bX Z m1 H1 σ ρ → br Z m1 H1 v x → PoF Z Ex m1 H1 D (f x st1) → Q1 v H1) : lE Z Φ Ex a σ H Q1 :=
 ⟨m, st, ρ, r, en, ao (ay h) (fun _ _ z => z) fun x st1 _ hx m1 H1 v g1 r1 dv => k x st1 m1 H1 v g1 r1 (en.mono g1) dv (PoF.sh hx g1)⟩
theorem Bn {Z : Zt} {m : List Addr} {st : Sto} {ρ : Env} {H : Hp} {σ : L2.St} {D : Ends} {Q1 : List V → Hp → Prop} {es : List E} {f : List U → Sto → Rs Fl} (r : R Z m st H) (en : bX Z m H σ ρ) (h : PoF Z Ex m H D ((xEs Φ es ρ st).bind f))
   (k : ∀ xs st1 m1 H1 vs, Go m H m1 H1 → R Z m1 st1 H1 → bX Z m1 H1 σ ρ → ak Z m1 H1 vs xs → PoF Z Ex m1 H1 D (f xs st1) → Q1 vs H1) : lEs Z Φ Ex es σ H Q1 :=
 ⟨m, st, ρ, r, en, ao (ay h) (fun _ _ z => z) fun xs st1 _ hx m1 H1 vs g1 r1 dv => k xs st1 m1 H1 vs g1 r1 (en.mono g1) dv (PoF.sh hx g1)⟩
theorem yW {Z : Zt} {m : List Addr} {st : Sto} {ρ : Env} {H : Hp} {σ : L2.St} {D : Ends} {Q1 : Bool → Hp → Prop} {a : E} {f : U → Sto → Rs Fl} (r : R Z m st H) (en : bX Z m H σ ρ) (h : PoF Z Ex m H D ((xE Φ a ρ st).bind f)) (hf : ∀ x st, (∀ b, x ≠ .bl b) → f x st = .bad)
   (k : ∀ b st1 m1 H1, Go m H m1 H1 → R Z m1 st1 H1 → bX Z m1 H1 σ ρ → PoF Z Ex m1 H1 D (f (.bl b) st1) → Q1 b H1) : lT Z Φ Ex a σ H Q1 :=
 ⟨m, st, ρ, r, en, ao (ay h) (fun _ _ z => z) fun x st1 _ hx => by
   cases x with
   | bl b => exact ⟨b, rfl, fun m1 H1 g1 r1 => k b st1 m1 H1 g1 r1 (en.mono g1) (PoF.sh hx g1)⟩
   | _ => rw [hf _ _ (by intro b z; cases z)] at hx; exact hx.elim⟩
theorem ES {T : Tr} {n : Nat} {e : Expr} {e' : E} (h : trE T n e = some e') (t : Option Expr) (l : Nat) (env : PySem.Env) (hs : ∀ a b c d, e ≠ .ListComp a b c d) : swapsWith e t l env = pure false := by
 cases n with
 | zero => rw [trE] at h; cases h
 | succ n =>
   cases e with
   | ListComp a b c d => exact absurd rfl (hs _ _ _ _)
   | SetComp a b c d => exact bL (show (none : Option E) = some _ from h)
   | DictComp a b c d e => exact bL (show (none : Option E) = some _ from h)
   | _ => rfl
end
end Sv
namespace Ev
open PySem PySem.Spec PyProof.Rows L2
theorem uC {X : Cx} {gT : TG} {y : Str} {py spos : Pos} {elt tg iter : Expr} {ifs : List Expr} {scope : Scope} {N : List Str} {caps : List (Option Nat)} {pos : Pos} {wi : TI} {In : TG → TT → TE → Prop} (hT : PG X (.Name y py) gT) (hc : X.calm = true) (c : lO X scope N caps) (hi : PI X tg iter wi)
   (hs : ∀ x, foldedSetIterable iter X.env x = pure x)
   (hin : ∀ g tt te, In g tt te → ∀ s H fp, PG (aT X s H scope N fp) tg g ∧ PTs (aT X s H scope N fp) ifs tt ∧ PE (aT X s H scope N fp) elt te)
   (hsw : swapsWith (.ListComp elt [⟨tg, iter, ifs, 0⟩] scope pos) (some (.Name y py)) spos.line X.env = pure true) :
   PS X (.Assign [.Name y py] (.ListComp elt [⟨tg, iter, ifs, 0⟩] scope pos) spos) (Ja (oA In caps wi) gT) := by
 intro pins s σ H D I h
 rw [exec_Assign_Name_used _ _ _ _ hsw]
 refine wpAny_bind (wpAny_standAt (wpAny_bind ?_))
 show wpAny _ _ (do let _ ← comprehension (.ListComp elt [⟨tg, iter, ifs, 0⟩] scope pos) scope X.env _ (newList []) false _ (some (assign (.Name y py) X.env))) _ _ s
 refine wpAny_bind ?_
 have hcl := zA (lh I c)
 refine wpAny_comprehension_free (use := some (assign (.Name y py) X.env)) (Q := fun _ s' => wpAny (model X.prog X.w) X.A (pure ()) (fun _ s'' => wpAny (model X.prog X.w) X.A (pure Flow.next) (SP X pins D) X.xe s'') X.xe s') (g := ⟨tg, iter, ifs, 0⟩) (gs := []) rfl hs hcl c.kind c.loc ?_
 show wpAny _ _ (eval iter X.env) _ _ s
 refine thn (hi pins s σ H _ I h) fun v s1 h1 => thn h1 fun itv s2 h2 => ?_
 obtain ⟨it, fp, tn, J, H2, e, I2, T, st2, f2, g, tt, te, hI, q⟩ := h2
 subst e
 obtain ⟨Z, ⟨m0, z0⟩, turn⟩ := q s2.heap.objs.size (I2.hok.fresh (Nat.le_refl _))
 have ho : ∀ b ∈ fp, ∃ o, s2.heap.get? b = some o := fun b hb => let ⟨o, e, _⟩ := T.obj _ _ st2 b hb; ⟨o, e⟩
 have I4 := wu (scope := scope) (N := N) (caps := caps) I2 f2 ho c
 obtain ⟨hg, ht, he⟩ := hin g tt te hI s2 H2 fp
 refine wpAny_newObj_type (rT ?_) (by show 0 ≤ sizeLine; decide)
 have hC : (s2.heap.push { cls := .type "list", dict := none, data := .seq ([] : List Value).toArray }).objs.size = s2.heap.objs.size + 1 := Heap.size_push ..
 dsimp only
 rw [hC]
 have kp : ∀ b o, s2.heap.get? b = some o → (pushCells ((s2.heap.push { cls := .type "list", data := .seq ([] : List Value).toArray }).push { cls := .type "dict", data := .dict #[] }) scope.names).get? b = some o := fun b o e =>
   pushCells_keeps _ _ b o (Heap.get?_push_of_some _ (Heap.get?_push_of_some _ e))
 have st4 : tn 0 (pushCells ((s2.heap.push { cls := .type "list", data := .seq ([] : List Value).toArray }).push { cls := .type "dict", data := .dict #[] }) scope.names) := T.keep _ _ _ st2 fun b _ o e => kp b o e
 have stat : ∀ {H' : Hp}, (∀ b ∈ fp, H' b = none) → ∀ b ∈ fp, q9 (aT X s2 H2 scope N fp) [] H' b := fun hn b hb =>
   ⟨hn b hb, (I4.ok.exf b hb).1, I4.ok.exfs b hb, .inl hb, (I4.ok.exf b hb).2, fun p hp => absurd (show p ∈ ([] : List (Addr × Obj)) from hp) (by simp)⟩
 have fr4 : ∀ b ∈ fp, (upd H2 s2.heap.objs.size (.lst [])) b = none := fun b hb => by
   obtain ⟨o, e⟩ := ho b hb
   rw [aB (Nat.ne_of_lt (Heap.lt_size e))]; exact (f2 b hb).1
 have loop : codeAny (model X.prog X.w) X.A (.compLoop (.ListComp elt [⟨tg, iter, ifs, 0⟩] scope pos) 0 (.ref it) (.ref s2.heap.objs.size) (aT X s2 H2 scope N fp).env)
     (compPost (model X.prog X.w) X.A X.xe (some (assign (.Name y py) X.env)) (fun _ s' => wpAny (model X.prog X.w) X.A (pure ()) (fun _ s'' => wpAny (model X.prog X.w) X.A (pure Flow.next) (SP X pins D) X.xe s'') X.xe s') (.ref s2.heap.objs.size) (s2.heap.objs.size + 1))
     { s2 with heap := pushCells ((s2.heap.push { cls := .type "list", data := .seq ([] : List Value).toArray }).push { cls := .type "dict", data := .dict #[] }) scope.names } := by
   refine pE (fun n s' => ∃ i σ' H', Inv (aT X s2 H2 scope N fp) [] σ' H' s' ∧ tn i s'.heap ∧ (∀ b ∈ fp, H' b = none) ∧ Z i n σ' H') ?_ m0 ⟨0, _, _, I4, st4, fr4, z0⟩
   rintro n s3 ⟨i, σ3, H3, I3, st3, fr3, w3⟩
   rcases turn i n σ3 H3 w3 with ⟨stop, qn⟩ | ⟨go, step⟩
   · refine thn (T.done (aT X s2 H2 scope N fp) rfl rfl rfl hc i [] s3 σ3 H3 _ I3 (stat fr3) st3 stop) fun r s5 ⟨hr, I5⟩ => ?_
     subst hr
     obtain ⟨m, hn, _⟩ := id I5.loc
     have I6 : Inv X pins σ H3 s5 := by
       have lt : ∀ b o, s2.heap.get? b = some o → b ≠ s2.heap.objs.size + 1 := fun b o e => Nat.ne_of_lt (Nat.lt_succ_of_lt (Heap.lt_size e))
       have u := I5.base
       have u' : Un (frs X.stack) fp H2 H3 s2.heap s5.heap := ⟨fun b o e n1 n2 n3 => u.keep b o e n1 n2 n3, fun b o e n1 n2 n3 => u.slot b o e n1 n2 n3, u.free, fun b o e n1 => u.there b o e n1, u.tups, u.frzs, u.tbls⟩
       exact I2.FK (s' := s5) I5.os u' I5.hok I5.bare fun b hb => ⟨(f2 b hb).2.2.2.1, (f2 b hb).2.1, (f2 b hb).2.2.2.2.1, (f2 b hb).2.2.2.2.2⟩
     have fC : H3 (s2.heap.objs.size + 1) = none := I5.free
     have fk : q9 X pins H3 (s2.heap.objs.size + 1) := I2.xl (Nat.le_succ _) fC
     obtain ⟨oC, es, ep, hoC, hdC, rC⟩ := id hn
     have hpin := I6.pinned (fp := [s2.heap.objs.size + 1]) (fun b hb => by rw [List.mem_singleton.mp hb]; exact fk) (fun b hb => by rw [List.mem_singleton.mp hb]; exact ⟨oC, hoC, fun v z => by rw [hdC] at z; cases z⟩)
     have hmem : (s2.heap.objs.size + 1, oC) ∈ lB [s2.heap.objs.size + 1] s5.heap := e8 (List.mem_singleton_self _) hoC
     refine thn (hT _ s5 σ H3 (.ref s2.heap.objs.size) (.ref s2.heap.objs.size) _ hpin rfl qn) fun _ s6 ⟨σ6, H6, I7, q7⟩ => ?_
     obtain ⟨p1, p2, p3, p4, p5⟩ := I7.pin _ (List.mem_append_right _ (List.mem_append_right _ hmem))
     refine ⟨m, ⟨oC, es, ep, p1, hdC, rC⟩, fun h' sb => wpAny_pure (wpAny_pure ?_)⟩
     refine ⟨σ6, H6, ?_, q7⟩
     exact (I7.ja).turned (t' := s6.toks) (it := s2.heap.objs.size + 1) (fun b o hb e => (sb.2 b hb).trans e) p2 p3 fk.2.2.2.1 fk.2.2.2.2.1 fk.2.2.2.2.2
   · refine thn (T.item (aT X s2 H2 scope N fp) rfl rfl rfl hc i [] s3 σ3 H3 _ I3 (stat fr3) st3 go) fun r s4 ⟨u, hr, h4⟩ => ?_
     subst hr
     refine thn h4 fun _ s5 ⟨x, H5, I5, r5, y5, st5, fr5⟩ => ?_
     have I5' := I5.pinned (stat fr5) (T.obj _ _ st5)
     refine thn (hg _ s5 σ3 H5 x u _ I5' r5 (step x H5 y5)) fun _ s6 ⟨σ6, H6, I6, q6⟩ => ?_
     have again : ∀ {s7 : Shared} {σ7 : L2.St} {H7 : Hp} {m' : Nat}, Inv (aT X s2 H2 scope N fp) ([] ++ lB fp s5.heap) σ7 H7 s7 → m' < n → Z (i + 1) m' σ7 H7 →
         ∃ m, m < n ∧ ∃ i σ' H', Inv (aT X s2 H2 scope N fp) [] σ' H' s7 ∧ tn i s7.heap ∧ (∀ b ∈ fp, H' b = none) ∧ Z i m σ' H' := fun {s7 σ7 H7 m'} I7 hm z7 => by
       refine ⟨m', hm, i + 1, σ7, H7, I7.ja, T.keep _ _ _ st5 fun b hb o e => (I7.pin (b, o) (List.mem_append_right _ (List.mem_append_right _ (e8 hb e)))).1, fun b hb => ?_, z7⟩
       obtain ⟨o, e, d⟩ := T.obj _ _ st5 b hb
       exact (I7.pin (b, o) (List.mem_append_right _ (List.mem_append_right _ (e8 hb e)))).2.1
     refine thn (ht _ s6 σ6 H6 _ I6 q6) fun ok s7 ⟨H7, I7, q7⟩ => ?_
     cases ok with
     | false =>
       rw [if_neg (by decide)] at q7
       obtain ⟨m', hm, z7⟩ := q7
       exact again I7 hm z7
     | true =>
       rw [if_pos rfl] at q7
       refine thn (he _ s7 σ6 H7 _ I7 q7) fun v' s8 ⟨v, H8, I8, r8, vs, m', q8, l8, hm, z8⟩ => ?_
       refine thn (n8 (X := aT X s2 H2 scope N fp) _ s8 σ6 H8 (.ref s2.heap.objs.size) [v] (.ref s2.heap.objs.size) [v'] (fun _ H9 => H9 = upd H8 s2.heap.objs.size (.lst (vs ++ [v]))) I8 rfl (.cons r8 .nil) ⟨_, vs, v, rfl, rfl, q8, l8, rfl⟩) fun _ s9 ⟨_, H9, I9, _, e9⟩ => ?_
       subst e9
       exact again I9 hm z8
 exact codeAny_compStart_list loop (T.self _ 0 _ _ _ st4 loop)
end Ev
namespace Sv
open PySem PySem.Spec PyProof.Rows L2
open Ev (D aR aY ai j2 kf eD slot slot_get iZ jU ni uC oA PTs aT)
section
variable {Φ : Fn} {cl : Nat → Addr} {CX : CXT} {k : Nat}
structure Lu (X : Cx) (T : Tr) (Φ : Fn) (cl : Nat → Addr) (Ex : Nat → Hp → Prop) (m n : Nat) : Prop where
 s : ∀ ps s, trS T n ps = some s → PS X ps (lS (zt X cl) Φ Ex m s)
 ss : ∀ ps s, cK T n ps = some s → PSs X ps (lSs (zt X cl) Φ Ex m s)
theorem CD {tg e : Expr} (h : tJ e = true ∨ isNm tg = true) (env : PySem.Env) : swappedStores [tg] e env = pure none := by
 cases tg with
 | Tuple a b c =>
   rcases h with h | h
   · cases e <;> first | rfl | cases h
   · cases h
 | List a b =>
   rcases h with h | h
   · cases e <;> first | rfl | cases h
   · cases h
 | _ => rfl
theorem zT {X : Cx} {T : Tr} {Ex : Nat → Hp → Prop} {n : Nat} (B : Bg X T Φ cl CX Ex k) {elt tg iter : Expr} {ifs : List Expr} {scope : Scope} {pos : Pos} {e : E} {y : Str} {py spos : Pos} {t : Tg} {m : Nat} {asy : Int} (hT : mf T (.Name y py) = some t)
   (he : trE T n (.ListComp elt [⟨tg, iter, ifs, asy⟩] scope pos) = some e) (hsw : swapsWith (.ListComp elt [⟨tg, iter, ifs, asy⟩] scope pos) (some (.Name y py)) spos.line X.env = pure true) :
   PS X (.Assign [.Name y py] (.ListComp elt [⟨tg, iter, ifs, asy⟩] scope pos) spos) (lS (zt X cl) Φ Ex m (.set t e)) := by
 have hasg := pL B hT
 cases n with
 | zero => rw [trE] at he; cases he
 | succ n =>
   simp only [trE, stE.eq_def] at he
   split at he
   · rename_i hb0
     obtain ⟨rfl, hb⟩ := hb0
     simp only [Option.bind_eq_some_iff] at he
     obtain ⟨t', h1, it, h2, fs, h3, e', h4, h5⟩ := he
     split at h5
     · rename_i ho
       cases h5
       have b := vE hb
       have S := jl n B
       obtain ⟨hi, hs⟩ := S.i tg iter it h2 ho
       refine PS.wk (uC (In := fun g tt te => g = lG (zt X cl) t' ∧ tt = lIf (zt X cl) Φ (fun _ _ => False) fs ∧ te = lE (zt X cl) Φ (fun _ _ => False) e') hasg B.calm (A7 B b) hi hs ?_ hsw) ?_
       · rintro g tt te ⟨rfl, rfl, rfl⟩ s H fp
         have B' := BL B b s H fp
         have S' := jl n B'
         exact ⟨pL B' h1, S'.f _ _ h3, (S'.e _ _ h4).1⟩
       · rintro D σ H ⟨m, st, ρ, r, en, h⟩
         simp only [xS] at h
         have key : lE (zt X cl) Φ Ex (.comp (iC T scope) t' it fs e') σ H (fun x H1 => lG (zt X cl) t x σ H1 D.nx) := by
           refine gW r en h fun x st1 m1 H1 v g1 r1 en1 dv q1 => ?_
           split at q1
           · rename_i ρ' hset
             exact ⟨m1, st1, ρ, x, ρ', r1, en1, dv, hset, fun σ' en' => q1 m1 H1 σ' (Go.refl _ _) r1 en'⟩
           · exact q1.elim
         exact zf h1 σ H _ key
     · cases h5
   · cases he
theorem pj {T : Tr} {n : Nat} {o : Expr} {o' : E} {m : Str} (h : trE T n o = some o') (env : PySem.Env) (w : Sem Value) : attributeBase o m env w = w := by
 cases n with
 | zero => rw [trE] at h; cases h
 | succ n =>
   cases o with
   | Call f es ks pos =>
     cases f with
     | Name x p =>
       cases es with
       | cons e0 es0 => rfl
       | nil =>
         cases ks with
         | cons k ks => rfl
         | nil => exact bL (show (none : Option E) = some _ from h)
     | _ => rfl
   | _ => rfl
theorem nW {Z : Zt} {m : List Addr} {H : Hp} {D : Ends} {Ex : Nat → Hp → Prop} {o : Option Sto} {ρ : Env} (h : PoF Z Ex m H D (ofS o ρ)) : ∃ st', o = some st' ∧ ∀ m' H' σ', Go m H m' H' → R Z m' st' H' → bX Z m' H' σ' ρ → D.nx σ' H' := by
 cases o with
 | none => exact h.elim
 | some st' => exact ⟨st', rfl, h⟩
theorem sJ (m : Nat) : ∀ (n : Nat) {X : Cx} {T : Tr} {Ex : Nat → Hp → Prop}, Bg X T Φ cl CX Ex k → Lu X T Φ cl Ex m n
 | 0, X, T, Ex, B => ⟨(fun _ _ h => by exact bL (show (none : Option Sv.S) = some _ from h)), (fun _ _ h => by simp [cK] at h)⟩
 | n + 1, X, T, Ex, B => by
   have S := sJ m n B
   have Z := jl n B
   refine ⟨?_, ?_⟩
   case refine_2 =>
     intro ps s h
     cases ps with
     | nil =>
       simp only [cK, Option.some.injEq] at h
       subst h
       refine PSs.wk D9 ?_
       rintro D σ H ⟨m, st, ρ, r, en, q⟩
       simp only [xSs] at q
       exact q m H σ (Go.refl m H) r en
     | cons p ps =>
       simp only [cK, Option.bind_eq_some_iff, Option.some.injEq] at h
       obtain ⟨s', h1, ss', h2, rfl⟩ := h
       refine PSs.wk (Dd (S.s _ _ h1) (S.ss _ _ h2)) ?_
       rintro D σ H ⟨m, st, ρ, r, en, q⟩
       simp only [xSs] at q
       refine ⟨m, st, ρ, r, en, ao (ay q) (fun _ _ z => z) fun f st1 _ hf => ?_⟩
       cases f with
       | nx ρ' => exact fun m1 H1 σ1 g1 r1 en1 => ⟨m1, st1, ρ', r1, en1, PoF.sh hf g1⟩
       | rt d => exact hf
       | bk ρ' => exact hf
       | ct ρ' => exact hf
   case refine_1 =>
     intro ps s h
     cases ps with
     | Assign ts e pos =>
       match ts with
       | [] => exact bL (show (none : Option Sv.S) = some _ from h)
       | t :: t2 :: rs => cases t <;> exact bL (show (none : Option Sv.S) = some _ from h)
       | [tg] =>
         have gen : (∀ a i p, tg ≠ .Subscript a i p) → PS X (.Assign [tg] e pos) (lS (zt X cl) Φ Ex m s) := by
           intro hns
           have h' : (if tJ e = true ∨ isNm tg = true then (mf T tg).bind fun t => (trE T n e).bind fun e' => some (.set t e') else none) = some s := by
             cases tg <;> first | (simpa only [trS, stS.eq_def] using h) | exact absurd rfl (hns _ _ _)
           split at h'
           · rename_i hnt
             simp only [Option.bind_eq_some_iff, Option.some.injEq] at h'
             obtain ⟨t, h1, e', h3, rfl⟩ := h'
             have rd : ∀ D σ H, lS (zt X cl) Φ Ex m (.set t e') D σ H → Ja (lE (zt X cl) Φ Ex e') (lG (zt X cl) t) D σ H := by
               rintro D σ H ⟨m, st, ρ, r, en, q⟩
               simp only [xS] at q
               refine gW r en q fun x st1 m1 H1 v g1 r1 en1 dv q1 => ?_
               split at q1
               · rename_i ρ' hset
                 exact ⟨m1, st1, ρ, x, ρ', r1, en1, dv, hset, fun σ' en' => q1 m1 H1 σ' (Go.refl _ _) r1 en'⟩
               · exact q1.elim
             have ord : swapsWithSole [tg] e pos.line X.env = pure false → PS X (.Assign [tg] e pos) (lS (zt X cl) Φ Ex m (.set t e')) := fun hsw => by
               refine PS.wk (BH (Z.e _ _ h3).1 (pL B h1) hsw (CD hnt _) ?_) rd
               cases tg <;> first | rfl | (simp [mf] at h1)
             by_cases hl : ∃ a b c d, e = .ListComp a b c d
             · obtain ⟨elt, gens, sc, lp, rfl⟩ := hl
               match gens, h3 with
               | [⟨tg', iter, ifs, asy⟩], h3 =>
                 cases tg with
                 | Name y py =>
                   have hb : ∃ b, swapsWith (.ListComp elt [⟨tg', iter, ifs, asy⟩] sc lp) (some (.Name y py)) pos.line X.env = pure b := ⟨_, rfl⟩
                   obtain ⟨b, hb⟩ := hb
                   cases b with
                   | true => exact zT B h1 h3 hb
                   | false => exact ord hb
                 | Tuple _ _ _ => exact ord rfl
                 | _ => simp [mf] at h1
               | [], h3 => cases n <;> exact bL (show (none : Option E) = some _ from h3)
               | ⟨_, _, _, _⟩ :: _ :: _, h3 => cases n <;> exact bL (show (none : Option E) = some _ from h3)
             · exact ord (ES h3 _ _ _ fun a b c d z => hl ⟨a, b, c, d, z⟩)
           · cases h'
         cases tg with
         | Subscript a i p =>
           simp only [trS, stS.eq_def] at h
           split at h
           · rename_i hnt
             simp only [Option.bind_eq_some_iff, Option.some.injEq] at h
             obtain ⟨e', h1, a', h2, i', h3, rfl⟩ := h
             have hsw : swapsWithSole [.Subscript a i p] e pos.line X.env = pure false := by cases e <;> rfl
             have hns : ∀ l u st q, i ≠ .Slice l u st q := by
               rintro l u st q rfl
               cases n <;> exact bL (show (none : Option E) = some _ from h3)
             refine PS.wk (BH (Z.e _ _ h1).1 (GB (Z.e _ _ h2).1 (Z.e _ _ h3).1 (Ez (cl := cl)) (fun v => by cases i <;> first | rfl | exact absurd rfl (hns _ _ _ _))) hsw (by cases e <;> rfl) rfl) ?_
             rintro D σ H ⟨m, st, ρ, r, en, q⟩
             simp only [xS] at q
             refine gW r en q fun z st1 m1 H1 w g1 r1 en1 dw q1 => gW r1 en1 q1 fun x st2 m2 H2 v g2 r2 en2 dv q2 => gW r2 en2 q2 fun y st3 m3 H3 u g3 r3 en3 du q3 => ?_
             obtain ⟨st', e1, q4⟩ := nW q3
             exact ⟨m3, st3, x, y, z, r3, dv.mono g3, du, dw.mono (g2.trans g3), st', e1, fun H' g' r' => q4 m3 H' σ g' r' (en3.mono g')⟩
           · cases h
         | _ => exact gen (fun _ _ _ z => nomatch z)
     | Return v pos =>
       cases v with
       | none =>
         simp only [trS, stS.eq_def, Option.some.injEq] at h
         subst h
         refine PS.wk EY ?_
         rintro D σ H ⟨m, st, ρ, r, en, q⟩
         simp only [xS] at q
         exact q m H _ (Go.refl m H) r .non
       | some e =>
         simp only [trS, stS.eq_def, Option.bind_eq_some_iff, Option.some.injEq] at h
         obtain ⟨e', h1, rfl⟩ := h
         refine PS.wk (HL (Z.e _ _ h1).1) ?_
         rintro D σ H ⟨m, st, ρ, r, en, q⟩
         simp only [xS] at q
         exact gW r en q fun x st1 m1 H1 v g1 r1 en1 dv q1 => q1 m1 H1 v (Go.refl _ _) r1 dv
     | If c a b pos =>
       simp only [trS, stS.eq_def, Option.bind_eq_some_iff, Option.some.injEq] at h
       obtain ⟨c', h1, a', h2, b', h3, rfl⟩ := h
       refine PS.wk (KD (Z.e _ _ h1).2 (S.ss _ _ h2) (S.ss _ _ h3)) ?_
       rintro D σ H ⟨m, st, ρ, r, en, q⟩
       simp only [xS] at q
       refine yW r en q (fun x st hx => by cases x <;> first | rfl | exact absurd rfl (hx _)) fun b st1 m1 H1 g1 r1 en1 q1 => ?_
       cases b with
       | true => exact qN ⟨m1, st1, ρ, r1, en1, q1⟩
       | false => exact q0 ⟨m1, st1, ρ, r1, en1, q1⟩
     | For tg it body orelse pos =>
       cases orelse with
       | cons a r => exact bL (show (none : Option Sv.S) = some _ from h)
       | nil =>
         simp only [trS, stS.eq_def, Option.bind_eq_some_iff] at h
         obtain ⟨t, h1, it', h2, b', h3, h4⟩ := h
         split at h4
         · rename_i ho
           cases h4
           have BN := B.nox
           have ZN := jl n BN
           have SN := sJ m n BN
           obtain ⟨hi, hs⟩ := ZN.i tg it it' h2 ho
           refine PS.wk (PS.nox (JH PassesOwn.never B.calm hi (pL BN h1) (SN.ss _ _ h3) hs)) ?_
           rintro D σ H ⟨m0, st, ρ, r, en, q⟩
           simp only [xS] at q
           have q := ay (pX q)
           refine ⟨m0, st, ρ, r, en, ao q (fun _ _ z => z.elim) fun sq st1 _ hq J m1 H1 g1 r1 yl => ?_⟩
           generalize hf : (fun (x : U) (ρ' : Env) (st' : Sto) => match iD t x ρ' with | some ρ2 => xSs Φ m b' ρ2 st' | none => (Rs.bad : Rs Fl)) = f at hq
           refine ⟨fun i n σ' H' => ∃ m' st' ρ', R (zt X cl) m' st' H' ∧ bX (zt X cl) m' H' σ' ρ' ∧ Go m1 H1 m' H' ∧ post (fun _ _ => False) (kF (zt X cl) m' H' D) (loop f sq n i ρ' st'), ⟨sq.len st1 + 1, m1, st1, ρ, r1, en.mono g1, Go.refl _ _, ao hq (fun _ _ z => z) fun a s _ => kF.sh g1 a s⟩, ?_⟩
           rintro i n σ' H' ⟨m', st', ρ', r', en', g', hc⟩
           cases n with
           | zero => exact hc.elim
           | succ n =>
             rw [loop] at hc
             have yi := yl m' st' H' g' r' i
             split at hc
             · exact hc.elim
             · rename_i hat
               rw [hat] at yi
               exact .inl ⟨yi, hc m' H' σ' (Go.refl _ _) r' en'⟩
             · rename_i x hat
               rw [hat] at yi
               refine .inr ⟨yi.1, fun σ3 H3 => ∃ n', n' < n + 1 ∧ ∃ m' st' ρ', R (zt X cl) m' st' H3 ∧ bX (zt X cl) m' H3 σ3 ρ' ∧ Go m1 H1 m' H3 ∧ post (fun _ _ => False) (kF (zt X cl) m' H3 D) (loop f sq n' (i + 1) ρ' st'), fun _ _ z => z, fun v H2 hy => ?_⟩
               obtain ⟨g2, r2, dv⟩ := yi.2 v H2 hy
               have hc := ay hc
               subst hf
               dsimp only at hc
               split at hc
               · rename_i ρ2 hset
                 refine ⟨m', st', ρ', x, ρ2, r2, en'.mono g2, dv, hset, fun σ2 en2 => ⟨m', st', ρ2, r2, en2, ao hc (fun _ _ z => z.elim) fun fl st3 _ hfl => ?_⟩⟩
                 cases fl with
                 | nx ρ3 => exact fun m3 H3 σ3 g3 r3 en3 => ⟨n, Nat.lt_succ_self n, m3, st3, ρ3, r3, en3, g'.trans (g2.trans g3), ao hfl (fun _ _ z => z) fun a s _ => kF.sh (g2.trans g3) a s⟩
                 | ct ρ3 => exact fun m3 H3 σ3 g3 r3 en3 => ⟨n, Nat.lt_succ_self n, m3, st3, ρ3, r3, en3, g'.trans (g2.trans g3), ao hfl (fun _ _ z => z) fun a s _ => kF.sh (g2.trans g3) a s⟩
                 | bk ρ3 => exact fun m3 H3 σ3 g3 r3 en3 => hfl m3 H3 σ3 (g2.trans g3) r3 en3
                 | rt d => exact fun m3 H3 v3 g3 r3 d3 => hfl m3 H3 v3 (g2.trans g3) r3 d3
               · exact hc.elim
         · cases h4
     | While c body orelse pos =>
       cases orelse with
       | cons a r => exact bL (show (none : Option Sv.S) = some _ from h)
       | nil =>
         simp only [trS, stS.eq_def, Option.bind_eq_some_iff, Option.some.injEq] at h
         obtain ⟨c', h1, b', h3, rfl⟩ := h
         have BN := B.nox
         have ZN := jl n BN
         have SN := sJ m n BN
         refine PS.wk (PS.nox (Ca PassesOwn.never (ZN.e _ _ h1).2 (SN.ss _ _ h3))) ?_
         rintro D σ H ⟨m0, st, ρ, r, en, q⟩
         simp only [xS] at q
         have q : PoF (zt X cl) (fun _ _ => False) m0 H D _ := ao (pX q) (fun _ _ z => z.elim) fun _ _ _ z => z
         refine ⟨fun j σ H => ∃ m' st' ρ', R (zt X cl) m' st' H ∧ bX (zt X cl) m' H σ ρ' ∧ PoF (zt X cl) (fun _ _ => False) m' H D (oG (fun ρ' st' => xE Φ c' ρ' st') (fun ρ' st' => xSs Φ m b' ρ' st') j ρ' st'), ⟨m, m0, st, ρ, r, en, q⟩, ?_⟩
         rintro j σ' H' ⟨m', st', ρ', r', en', hc⟩
         cases j with
         | zero => exact hc.elim
         | succ j =>
           rw [oG] at hc
           refine yW r' en' hc (fun x st hx => by cases x <;> first | rfl | exact absurd rfl (hx _)) fun b st1 m1 H1 g1 r1 en1 q1 => ?_
           cases b with
           | false => exact q0 (q1 m1 H1 σ' (Go.refl _ _) r1 en1)
           | true =>
             refine qN ⟨fun σ' H' => ∃ n', n' < j + 1 ∧ ∃ m' st' ρ', R (zt X cl) m' st' H' ∧ bX (zt X cl) m' H' σ' ρ' ∧ PoF (zt X cl) (fun _ _ => False) m' H' D (oG (fun ρ' st' => xE Φ c' ρ' st') (fun ρ' st' => xSs Φ m b' ρ' st') n' ρ' st'), fun _ _ z => z, m1, st1, ρ', r1, en1, ?_⟩
             refine ao (ay q1) (fun _ _ z => z) fun fl st3 _ hfl => ?_
             cases fl with
             | nx ρ3 => exact fun m3 H3 σ3 g3 r3 en3 => ⟨j, Nat.lt_succ_self j, m3, st3, ρ3, r3, en3, PoF.sh hfl g3⟩
             | ct ρ3 => exact fun m3 H3 σ3 g3 r3 en3 => ⟨j, Nat.lt_succ_self j, m3, st3, ρ3, r3, en3, PoF.sh hfl g3⟩
             | bk ρ3 => exact hfl
             | rt d => exact hfl
     | Expr v pos =>
       cases v with
       | Call f es ks cpos =>
         cases f with
         | Name x p =>
           simp only [trS, stS.eq_def, Option.bind_eq_some_iff, Option.some.injEq] at h
           obtain ⟨e', h1, rfl⟩ := h
           refine PS.wk (jN (Z.e _ _ h1).1 rfl) ?_
           rintro D σ H ⟨m, st, ρ, r, en, q⟩
           simp only [xS] at q
           exact gW r en q fun x st1 m1 H1 v g1 r1 en1 dv q1 => q1 m1 H1 σ (Go.refl _ _) r1 en1
         | Attribute o mm apos =>
           cases ks with
           | cons a r => exact bL (show (none : Option Sv.S) = some _ from h)
           | nil =>
             simp only [trS, stS.eq_def] at h
             split at h
             · rename_i hline
               simp only [Option.bind_eq_some_iff, Option.some.injEq] at h
               obtain ⟨lm, h0, o', h1, es', h2, rfl⟩ := h
               have hbase : attributeBase o mm X.env (eval o X.env) = eval o X.env := pj h1 _ _
               have rd0 : es' = [] → ∀ D σ H, lS (zt X cl) Φ Ex m (.mth lm o' es') D σ H → Cu (Kp X.K "list" (rM (zt X cl) lm) (lE (zt X cl) Φ Ex o')) D σ H := by
                 rintro he D σ H ⟨m, st, ρ, r, en, q⟩
                 subst he
                 simp only [xS] at q
                 refine gW r en q fun x st1 m1 H1 v g1 r1 en1 dv q1 => ?_
                 match x, q1 with
                 | .loc l, q1 =>
                   dsimp only at q1
                   split at q1
                   · simp only [xEs, Rs.aa] at q1
                     obtain ⟨st', e1, q4⟩ := nW q1
                     obtain ⟨a, rfl, hl⟩ := lV dv
                     obtain ⟨fz, ds, vs, _, ly, _⟩ := r1.loc hl
                     exact ⟨.inl ⟨rfl, _, ly.sq⟩, m1, st1, .loc l, [], st', r1, dv, .nil, e1, fun v' H' g' r' => q4 m1 H' σ g' r' (en1.mono g')⟩
                   · exact q1.elim
               have rd1 : ∀ D σ H, lS (zt X cl) Φ Ex m (.mth lm o' es') D σ H → Cu (tBM X.K "list" (rM (zt X cl) lm) (lE (zt X cl) Φ Ex o') (lEs (zt X cl) Φ Ex es')) D σ H := by
                 rintro D σ H ⟨m, st, ρ, r, en, q⟩
                 simp only [xS] at q
                 refine gW r en q fun x st1 m1 H1 v g1 r1 en1 dv q1 => ?_
                 match x, q1 with
                 | .loc l, q1 =>
                   dsimp only at q1
                   split at q1
                   · obtain ⟨a, rfl, hl⟩ := lV dv
                     obtain ⟨fz, ds, vs, _, ly, _⟩ := r1.loc hl
                     refine ⟨.inl ⟨rfl, _, ly.sq⟩, Bn r1 en1 q1 fun xs st2 m2 H2 vs g2 r2 en2 dvs q2 => ?_⟩
                     obtain ⟨st', e1, q4⟩ := nW q2
                     exact ⟨m2, st2, .loc l, xs, st', r2, dv.mono g2, dvs, e1, fun v' H' g' r' => q4 m2 H' σ g' r' (en2.mono g')⟩
                   · exact q1.elim
               have few1 : ∀ {e : Expr} {es0 : List Expr}, es = e :: es0 → es0.length ≤ 1 → ((backTo cpos (starEach es X.env)).all (fun x => !x.1) && (backToKw cpos (keywordEach [] X.env)).all (fun x => x.1.isSome) && decide (es.length + ([] : List Keyword).length + (if ([] : List Keyword).isEmpty then 0 else 1) < 30)) = true := by
                 intro e es0 he hl
                 subst he
                 have t1 := fo h2 X.env
                 have t2 := gd h2 X.env cpos
                 rw [t1]
                 have : (backTo cpos ((false, eval e X.env) :: starEach es0 X.env)).all (fun x => !x.1) = true := by
                   unfold backTo at t2 ⊢
                   rw [List.map_cons, List.all_cons]
                   rw [Bool.and_eq_true]
                   refine ⟨rfl, ?_⟩
                   rw [List.all_eq_true]
                   rw [List.any_eq_false] at t2
                   intro x hx
                   have := t2 x hx
                   simpa using this
                 rw [this]
                 have : decide ((e :: es0).length + ([] : List Keyword).length + (if ([] : List Keyword).isEmpty then 0 else 1) < 30) = true := decide_eq_true (by simp only [List.length_cons, List.length_nil, List.isEmpty_nil, if_true]; omega)
                 rw [this]; rfl
               unfold trM at h0
               split at h0
               · rename_i hc
                 obtain ⟨rfl, hn⟩ := hc
                 cases h0
                 match es, hn with
                 | [e], _ => exact PS.wk (jN (ym PySem.F.plainAttrs_list PySem.F.slot_list_append PySem.F.type_list_append (Co (cl := cl)) (Z.e _ _ h1).1 (Z.a _ _ h2) hbase (few1 rfl (Nat.zero_le _)) hline (fo h2 _) (gd h2 _ _)) rfl) rd1
               split at h0
               · rename_i hc
                 obtain ⟨rfl, hn⟩ := hc
                 cases h0
                 match es, hn with
                 | [e], _ => exact PS.wk (jN (ym PySem.F.plainAttrs_list PySem.F.slot_list_extend PySem.F.type_list_extend (BV (cl := cl)) (Z.e _ _ h1).1 (Z.a _ _ h2) hbase (few1 rfl (Nat.zero_le _)) hline (fo h2 _) (gd h2 _ _)) rfl) rd1
               split at h0
               · rename_i hc
                 obtain ⟨rfl, hn⟩ := hc
                 cases h0
                 match es, hn with
                 | [e, f], _ => exact PS.wk (jN (ym PySem.F.plainAttrs_list PySem.F.slot_list_insert PySem.F.type_list_insert (BQ (cl := cl)) (Z.e _ _ h1).1 (Z.a _ _ h2) hbase (few1 rfl (Nat.le_refl _)) hline (fo h2 _) (gd h2 _ _)) rfl) rd1
               split at h0
               · rename_i hc
                 obtain ⟨rfl, hn⟩ := hc
                 cases h0
                 match es, hn with
                 | [], _ =>
                   have he : es' = [] := by cases n <;> simp only [jy, Option.some.injEq, reduceCtorEq] at h2; exact h2.symm
                   exact PS.wk (jN (CV PySem.F.plainAttrs_list PySem.F.slot_list_pop PySem.F.type_list_pop (KL (cl := cl)) (Z.e _ _ h1).1 hbase hline) rfl) (rd0 he)
               split at h0
               · rename_i hc
                 obtain ⟨rfl, hn⟩ := hc
                 cases h0
                 match es, hn with
                 | [e], _ => exact PS.wk (jN (ym PySem.F.plainAttrs_list PySem.F.slot_list_pop PySem.F.type_list_pop (Dx (cl := cl)) (Z.e _ _ h1).1 (Z.a _ _ h2) hbase (few1 rfl (Nat.zero_le _)) hline (fo h2 _) (gd h2 _ _)) rfl) rd1
               split at h0
               · rename_i hc
                 obtain ⟨rfl, hn⟩ := hc
                 cases h0
                 match es, hn with
                 | [], _ =>
                   have he : es' = [] := by cases n <;> simp only [jy, Option.some.injEq, reduceCtorEq] at h2; exact h2.symm
                   exact PS.wk (jN (CV PySem.F.plainAttrs_list PySem.F.slot_list_clear PySem.F.type_list_clear (DF (cl := cl)) (Z.e _ _ h1).1 hbase hline) rfl) (rd0 he)
               cases h0
             · cases h
         | _ => exact bL (show (none : Option Sv.S) = some _ from h)
       | _ => exact bL (show (none : Option Sv.S) = some _ from h)
     | Break pos =>
       simp only [trS, stS.eq_def, Option.some.injEq] at h
       subst h
       refine PS.wk Cn ?_
       rintro D σ H ⟨m, st, ρ, r, en, q⟩
       simp only [xS] at q
       exact q m H σ (Go.refl m H) r en
     | Continue pos =>
       simp only [trS, stS.eq_def, Option.some.injEq] at h
       subst h
       refine PS.wk uX ?_
       rintro D σ H ⟨m, st, ρ, r, en, q⟩
       simp only [xS] at q
       exact q m H σ (Go.refl m H) r en
     | Pass pos =>
       simp only [trS, stS.eq_def, Option.some.injEq] at h
       subst h
       refine PS.wk DX ?_
       rintro D σ H ⟨m, st, ρ, r, en, q⟩
       simp only [xS] at q
       exact q m H σ (Go.refl m H) r en
     | Raise a b pos =>
       simp only [trS, stS.eq_def, Option.some.injEq] at h
       subst h
       refine PS.wk AV ?_
       rintro D σ H ⟨m, st, ρ, r, en, q⟩
       simp only [xS] at q
       exact q.elim
     | _ => exact bL (show (none : Option Sv.S) = some _ from h)
end
end Sv
namespace Sv
open PySem PySem.Spec PyProof.Rows L2
open Ev (D ai)
theorem zQ {Z : Zt} {m : List Addr} {H : Hp} {N : List Str} {vs : List V} {ds : List U} (dn : ak Z m H vs ds) (hl : ds.length ≤ N.length) :
   bX Z m H (L2.start N vs) (ds.map some ++ List.replicate (N.length - ds.length) none) := by
 have lv := dn.length
 refine ⟨by unfold L2.start; simp only [List.length_append, List.length_map, List.length_replicate]; omega, fun i d e => ?_⟩
 by_cases q : i < ds.length
 · rw [List.getElem?_append_left (by rw [List.length_map]; exact q), List.getElem?_map] at e
   cases z : ds[i]? with
   | none => rw [z] at e; cases e
   | some y =>
     rw [z] at e; cases e
     obtain ⟨v, h1, h2⟩ := dn.get z
     refine ⟨v, ?_, h2⟩
     unfold L2.start
     rw [List.getElem?_append_left (by rw [List.length_map]; omega), List.getElem?_map, h1]
     rfl
 · rw [List.getElem?_append_right (by rw [List.length_map]; omega)] at e
   have := List.mem_of_getElem? e
   rw [List.mem_replicate] at this
   cases this.2
theorem Kt {us : List Value} {q : Prop} (h : us.length = 0) (k : us = [] → q) : q := k (List.length_eq_zero_iff.mp h)
theorem Ck {us : List Value} {n : Nat} {q : Prop} (h : us.length = n + 1) (k : ∀ a r, us = a :: r → r.length = n → q) : q := by
 cases us with
 | nil => cases h
 | cons a r => exact k a r rfl (Nat.succ.inj h)
theorem gK {p : List Value → Prop} (h : ∀ a, p [a]) (us : List Value) (e : us.length = 1) : p us :=
 Ck e fun a r e1 e2 => Kt e2 fun e3 => by rw [e1, e3]; exact h a
theorem gL {p : List Value → Prop} (h : ∀ a b, p [a, b]) (us : List Value) (e : us.length = 2) : p us :=
 Ck e fun a r e1 e2 => by rw [e1]; exact gK (p := fun r => p (a :: r)) (fun b => h a b) r e2
theorem B4 {p : List Value → Prop} (h : ∀ a b c, p [a, b, c]) (us : List Value) (e : us.length = 3) : p us :=
 Ck e fun a r e1 e2 => by rw [e1]; exact gL (p := fun r => p (a :: r)) (fun b c => h a b c) r e2
theorem Ko : ∀ outer H s E e s', (∀ C a H', ¬ E C a H') → ¬ CX0 outer H s E e s' := fun _ _ _ _ _ _ _ h => h
theorem fnU {P : Program} {w : World} {K : PySem.W.Frag} {mg : Str → Option Value} {base : Heap} {x qual : Str} {st : Stmt} {f : Addr} {fd : FuncData} {N ps : List Str} {k n : Nat} {Fs : List Str} {cst : List (Str × Int)} {Φ : Fn} {cl : Nat → Addr} {ir : List S}
   (F : Fun K x qual st f fd) (S : aF N ps (ab st)) (tr : cK ⟨ab st, N, Fs, [], cst⟩ n (ah st) = some ir) (hb : ∀ x ∈ aO, mg x = none) (hcst : ∀ x i, cst.lookup x = some i → ∃ t, mg x = some (.int i t))
   (hc : ∀ i x, Fs[i]? = some x → Cal P w K mg base CX0 cl k x (Φ i)) : bR P w K mg base CX0 (k + 1) f fd ps (spU ⟨K, cl⟩ (mk Φ ir ps.length N.length)) := by
 have hpl : ps.length ≤ N.length := by
   have := congrArg List.length S.pre
   rw [List.length_take] at this
   omega
 refine F.ok S (fun vs H Q E h => ?_) (fun cdv A outer s H vs Q E hr h => ?_)
 · obtain ⟨m, st, ds, r, dn, e⟩ := h
   rw [dn.length]
   unfold mk at e
   split at e
   · assumption
   · exact e.elim
 · obtain ⟨m, st, ds, r, dn, e⟩ := h
   unfold mk at e
   split at e
   · rename_i hl
     have B : Bg (xu CX0 P w K mg base N qual (ab _) f cdv A outer s H E).nox ⟨ab _, N, Fs, [], cst⟩ Φ cl CX0 (fun _ _ => False) k :=
       ⟨rfl, rfl, S.nd, rfl, hr, hb, hc, fun _ _ _ _ _ => rfl, hcst, Ko, HW Ko⟩
     refine ⟨_, (sJ (fuel ds) n B).ss _ _ tr, ?_⟩
     refine ⟨m, st, _, r, zQ dn (by omega), ?_⟩
     rw [← hl] at e
     generalize hr' : xSs Φ (fuel ds) ir (ds.map some ++ List.replicate (N.length - ds.length) none) st = rs at e
     match rs, e with
     | .ok (.rt d') st', e => exact fun m' H' v g r dv => e m' H' v g r dv
     | .ok (.nx ρ) st', e => exact fun m' H' σ' g r en => e m' H' .non g r .non
   · exact e.elim
theorem Cal.mono {P : Program} {w : World} {K : PySem.W.Frag} {mg : Str → Option Value} {base : Heap} {CX : CXT} {cl : Nat → Addr} {j k : Nat} {x : Str} {F : List U → Sto → Rs U} (c : Cal P w K mg base CX cl j x F) (h : j ≤ k) : Cal P w K mg base CX cl k x F := by
 obtain ⟨f, fd, ps, G, F, r⟩ := c.ex
 exact ⟨⟨f, fd, ps, G, F.mono h, r⟩⟩
noncomputable def cY (P : Program) (w : World) (K : PySem.W.Frag) (mg : Str → Option Value) (base : Heap) (CX : CXT) (cl : Nat → Addr) (k : Nat) (Fs : List Str) (fs : List (List U → Sto → Rs U)) : Prop := ∀ i x, Fs[i]? = some x → Cal P w K mg base CX cl k x (tab fs i)
theorem cY.nil {P : Program} {w : World} {K : PySem.W.Frag} {mg : Str → Option Value} {base : Heap} {CX : CXT} {cl : Nat → Addr} {k : Nat} : cY P w K mg base CX cl k [] [] := fun i x h => by simp at h
theorem cY.snoc {P : Program} {w : World} {K : PySem.W.Frag} {mg : Str → Option Value} {base : Heap} {CX : CXT} {cl : Nat → Addr} {k : Nat} {Fs : List Str} {fs : List (List U → Sto → Rs U)} {x : Str} {F : List U → Sto → Rs U} (c : cY P w K mg base CX cl k Fs fs) (hl : Fs.length = fs.length) (n : Cal P w K mg base CX cl (k + 1) x F) :
   cY P w K mg base CX cl (k + 1) (Fs ++ [x]) (fs ++ [F]) := fun i y h => by
 by_cases q : i < Fs.length
 · rw [List.getElem?_append_left q] at h
   have := (c i y h).mono (Nat.le_succ k)
   have e : tab (fs ++ [F]) i = tab fs i := by
     unfold tab
     rw [List.getD_eq_getElem?_getD, List.getD_eq_getElem?_getD, List.getElem?_append_left (by omega)]
   rw [e]; exact this
 · rw [List.getElem?_append_right (by omega)] at h
   have e0 : i - Fs.length = 0 := by
     have := (List.getElem?_eq_some_iff.mp h).1
     simp at this
     omega
   rw [e0] at h
   cases h
   have e : tab (fs ++ [F]) i = F := by
     unfold tab
     rw [List.getD_eq_getElem?_getD, List.getElem?_append_right (by omega), show i - fs.length = 0 by omega]
     rfl
   rw [e]; exact n
theorem bp {P : Program} {w : World} {K : PySem.W.Frag} {mg : Str → Option Value} {base : Heap} {CX : CXT} {cl : Nat → Addr} {k : Nat} {x : Str} {f : Addr} {fd : FuncData} {ps : List Str} {F : List U → Sto → Rs U} (h : bR P w K mg base CX k f fd ps (spU ⟨K, cl⟩ F)) (hm : mg x = some (.ref f)) (hk : PySem.W.keepIn K (.ref f) = true) (hb : Binds K fd ps []) :
   Cal P w K mg base CX cl k x F
 := ⟨⟨f, fd, ps, F, h, hm, hk, fun _ => ⟨[], [], [], hb, .nil, fun _ _ => .nil, fun ds st _ => by rw [List.append_nil]⟩⟩⟩
noncomputable def dfU (n : Nat) (i : Int) (F : List U → Sto → Rs U) : List U → Sto → Rs U := fun ds st => if ds.length = n then F (ds ++ [.int i]) st else F ds st
theorem Iq {P : Program} {w : World} {K : PySem.W.Frag} {mg : Str → Option Value} {base : Heap} {CX : CXT} {cl : Nat → Addr} {k n : Nat} {x : Str} {f : Addr} {fd : FuncData} {ps : List Str} {i : Int} {t : Tok} {F : List U → Sto → Rs U} (h : bR P w K mg base CX k f fd ps (spU ⟨K, cl⟩ F)) (hm : mg x = some (.ref f)) (hk : PySem.W.keepIn K (.ref f) = true) (hb : Binds K fd ps []) (hb1 : Binds K fd ps [.int i t]) :
   Cal P w K mg base CX cl k x (dfU n i F) := ⟨⟨f, fd, ps, F, h, hm, hk, fun j => by
     by_cases e : j = n
     · subst e
       exact ⟨[.int i], [.int i t], [.int i], hb1, .cons ⟨t, rfl⟩ .nil, fun _ _ => .cons .int .nil, fun ds st hl => if_pos hl⟩
     · exact ⟨[], [], [], hb, .nil, fun _ _ => .nil, fun ds st hl => by rw [List.append_nil]; exact if_neg (by rw [hl]; exact e)⟩⟩⟩
end Sv
namespace Sv
open PySem PySem.Spec L2
open Ev (D aR aY ai)
inductive T where
 | non | bl (b : Bool) | int (i : Int) | str (x : Str) | tup (xs : List T) | lst (xs : List T) | exo (c : Nat)
 deriving Inhabited
inductive Ou (α : Type) where
 | ok (a : α) | exc (c : Nat) | bad
noncomputable def Ou.bind {α β : Type} : Ou α → (α → Ou β) → Ou β
 | .ok a, f => f a
 | .exc c, _ => .exc c
 | .bad, _ => .bad
noncomputable def Ou.noX {α : Type} : Ou α → Ou α
 | .exc _ => .bad
 | x => x
theorem Ou.aa {α β : Type} (a : α) (f : α → Ou β) : (Ou.ok a).bind f = f a := rfl
theorem Ou.gI {α : Type} (a : α) : (Ou.ok a).noX = .ok a := rfl
theorem Ou.bA {α β : Type} {x : Ou α} {f : α → Ou β} {b : β} : x.bind f = .ok b ↔ ∃ a, x = .ok a ∧ f a = .ok b := by
 cases x <;> simp [Ou.bind]
noncomputable abbrev aD := List (Option T)
mutual
noncomputable def eqT : T → T → Bool
 | .non, .non => true
 | .bl a, .bl b => a == b
 | .bl a, .int j => (if a then 1 else 0) == j
 | .int i, .bl b => i == (if b then 1 else 0)
 | .int a, .int b => a == b
 | .str a, .str b => a == b
 | .tup xs, .tup ys => vG xs ys
 | .lst xs, .lst ys => vG xs ys
 | _, _ => false
noncomputable def vG : List T → List T → Bool
 | [], [] => true
 | x :: xs, y :: ys => eqT x y && vG xs ys
 | _, _ => false
end
mutual
noncomputable def clT : T → Bool
 | .str x => Ev.cln (.str x)
 | .tup xs => rf xs
 | .lst xs => rf xs
 | .exo _ => false
 | .non | .bl _ | .int _ => true
noncomputable def rf : List T → Bool
 | [] => true
 | x :: xs => clT x && rf xs
end
mutual
noncomputable def dpT : T → Nat
 | .tup xs => wX xs + 1
 | .lst xs => wX xs + 1
 | _ => 0
noncomputable def wX : List T → Nat
 | [] => 0
 | x :: xs => max (dpT x) (wX xs)
end
noncomputable def eqK (x : T) : Prop := clT x = true ∧ dpT x ≤ 64
noncomputable instance (x : T) : Decidable (eqK x) := inferInstanceAs (Decidable (_ ∧ _))
noncomputable def z2 : Op2 → T → T → Ou T
 | .add, .int i, .int j => .ok (.int (i + j))
 | .add, .tup xs, .tup ys => if xs ≠ [] ∧ xs.length + ys.length < ai then .ok (.tup (xs ++ ys)) else .bad
 | .add, .str x, .str y => if x.length + y.length < ai then .ok (.str (x ++ y)) else .bad
 | .add, .lst xs, .lst ys => if xs.length + ys.length < ai then .ok (.lst (xs ++ ys)) else .bad
 | .sub, .int i, .int j => .ok (.int (i - j))
 | .mul, .int i, .int j => if aR i j then .ok (.int (i * j)) else .bad
 | .fdiv, .int i, .int j => if aY j then .ok (.int (i.fdiv j)) else .bad
 | .mod, .int i, .int j => if j ≠ 0 then .ok (.int (i.fmod j)) else .bad
 | .pow, .int i, .int j => if 0 ≤ j ∧ j ≤ 1000000 ∧ i.natAbs < 2 ^ 64 then .ok (.int (i ^ j.toNat)) else .bad
 | .shr, .int i, .int j => if 0 ≤ j then .ok (.int (i / 2 ^ j.toNat)) else .bad
 | .shl, .int i, .int j => if 0 ≤ j ∧ j ≤ 1000000 ∧ i.natAbs < 2 ^ 64 then .ok (.int (i * 2 ^ j.toNat)) else .bad
 | .band, .int i, .int j => .ok (.int (Builtin.bitAnd i j))
 | .bor, .int i, .int j => .ok (.int (Builtin.bitOr i j))
 | _, _, _ => .bad
noncomputable def zh : List T → Option (List Str)
 | [] => some []
 | .str x :: r => (zh r).map (x :: ·)
 | _ => none
noncomputable def zC : Cm → T → T → Option Bool
 | .eq, x, y => if eqK x ∧ eqK y then some (eqT x y) else none
 | .ne, x, y => if eqK x ∧ eqK y then some (!eqT x y) else none
 | .lt, .int i, .int j => some (decide (i < j))
 | .le, .int i, .int j => some (decide (i ≤ j))
 | .gt, .int i, .int j => some (decide (j < i))
 | .ge, .int i, .int j => some (decide (j ≤ i))
 | .isin, .str x, .tup ys => (zh ys).map fun l => l.any (· == x)
 | _, _, _ => none
noncomputable def ofB : Option Bool → Ou T
 | some b => .ok (.bl b)
 | none => .bad
noncomputable def iX : Ty → T → Bool
 | .int, .int _ => true
 | .int, .bl _ => true
 | .bool, .bl _ => true
 | .tuple, .tup _ => true
 | .list, .lst _ => true
 | .str, .str _ => true
 | _, _ => false
noncomputable def tL : List T → Option Bool
 | [] => some true
 | .bl b :: r => (tL r).map (b && ·)
 | _ => none
noncomputable def oS (xs : List T) (lo hi : Option Int) : List T := (xs.drop (HT.sIx xs.length 0 lo)).take (HT.sIx xs.length xs.length hi - HT.sIx xs.length 0 lo)
noncomputable def mi : E → T → Option (Option Int)
 | .cN, _ => some none
 | _, .int i => some (some i)
 | _, _ => none
noncomputable def zSl : T → Option Int → Option Int → Ou T
 | .lst xs, lo, hi => .ok (.lst (oS xs lo hi))
 | _, _, _ => .bad
noncomputable def JW (b : Bool) : T → Bool
 | .bl c => c == b
 | _ => false
noncomputable def JR : T → Bool
 | .non => true
 | _ => false
noncomputable def rz : List T → Option (List Int)
 | [] => some []
 | .int i :: r => (rz r).map (i :: ·)
 | _ => none
noncomputable def Lf : Option (List Int) → Ou T
 | some (a :: as) => .ok (.int (xK a as))
 | _ => .bad
noncomputable def zB : Bi → List T → Ou T
 | .len, [.lst xs] => .ok (.int xs.length)
 | .len, [.tup xs] => .ok (.int xs.length)
 | .abs, [.int i] => .ok (.int (if i < 0 then -i else i))
 | .max, [.int i, .int j] => .ok (.int (if j > i then j else i))
 | .max, [.lst xs] => Lf (rz xs)
 | .min, [.int i, .int j] => .ok (.int (if j < i then j else i))
 | .int, [.int i] => .ok (.int i)
 | .int, [.bl b] => .ok (.int (if b then 1 else 0))
 | .list, [.lst xs] => .ok (.lst xs)
 | .list, [.tup xs] => .ok (.lst xs)
 | .tuple, [.lst xs] => .ok (.tup xs)
 | .tuple, [.tup xs] => .ok (.tup xs)
 | .all, [.lst xs] => ofB (tL xs)
 | .rev, [.lst xs] => .ok (.lst xs.reverse)
 | _, _ => .bad
noncomputable def zI : T → T → Ou T
 | .lst xs, .int i => match atI xs i with | some d => .ok d | none => .bad
 | .tup xs, .int i => match atI xs i with | some d => .ok d | none => .bad
 | _, _ => .bad
noncomputable def ax (τ : aD) (i : Nat) : Ou T := match τ[i]? with | some (some d) => .ok d | _ => .bad
noncomputable def kX : List Nat → List T → aD → Option aD
 | [], [], ρ => some ρ
 | i :: is, x :: xs, ρ => kX is xs (ρ.set i (some x))
 | _, _, _ => none
noncomputable def aA : Tg → T → aD → Option aD
 | .nm i, d, ρ => some (ρ.set i (some d))
 | .tp is, .tup xs, ρ => kX is xs ρ
 | _, _, _ => none
noncomputable def rangeT (lo : Int) (n : Nat) : List T := (List.range n).map fun k => T.int (lo + (k : Nat))
noncomputable def jH (k : Nat) : List T → List T
 | [] => []
 | x :: xs => .tup [.int (k : Nat), x] :: jH (k + 1) xs
noncomputable def kD : List T → List T → List T
 | x :: xs, y :: ys => .tup [x, y] :: kD xs ys
 | _, _ => []
noncomputable def zpT : T → T → Ou (List T)
 | .lst xs, .lst ys => .ok (kD xs ys)
 | _, _ => .bad
noncomputable def gH (τ : aD) (caps : List (Option Nat)) : aD := caps.map fun o => o.bind fun i => (τ[i]?).join
noncomputable def gN (f : T → Ou (Option T)) : List T → Ou (List T)
 | [] => .ok []
 | x :: xs => (f x).bind fun o => (gN f xs).bind fun ys => .ok (match o with | some y => y :: ys | none => ys)
noncomputable abbrev FnT := Nat → List T → Ou T
mutual
noncomputable def yE (Ψ : FnT) : E → aD → Ou T
 | .var i, τ => ax τ i
 | .cN, _ => .ok .non
 | .cB b, _ => .ok (.bl b)
 | .cI i, _ => .ok (.int i)
 | .cS x, _ => .ok (.str x)
 | .op o a b, τ => (yE Ψ a τ).bind fun x => (yE Ψ b τ).bind fun y => z2 o x y
 | .neg a, τ => (yE Ψ a τ).bind fun x => match x with | .int i => .ok (.int (-i)) | _ => .bad
 | .not a, τ => (yE Ψ a τ).bind fun x => match x with | .bl b => .ok (.bl (!b)) | _ => .bad
 | .cmp o a b, τ => (yE Ψ a τ).bind fun x => (yE Ψ b τ).bind fun y => ofB (zC o x y)
 | .chain o o' a b c, τ => (yE Ψ a τ).bind fun x => (yE Ψ b τ).bind fun y => match zC o x y with
   | some true => (yE Ψ c τ).bind fun u => ofB (zC o' y u)
   | some false => .ok (.bl false)
   | none => .bad
 | .and a b, τ => (yE Ψ a τ).bind fun x => match x with | .bl true => yE Ψ b τ | .bl false => .ok (.bl false) | _ => .bad
 | .or a b, τ => (yE Ψ a τ).bind fun x => match x with | .bl true => .ok (.bl true) | .bl false => yE Ψ b τ | _ => .bad
 | .ite c a b, τ => (yE Ψ c τ).bind fun x => match x with | .bl true => yE Ψ a τ | .bl false => yE Ψ b τ | _ => .bad
 | .tup es, τ => (yEs Ψ es τ).bind fun xs => if xs.length < ai then .ok (.tup xs) else .bad
 | .lst es, τ => (yEs Ψ es τ).bind fun xs => if xs.length < ai then .ok (.lst xs) else .bad
 | .ix a i, τ => (yE Ψ a τ).bind fun x => (yE Ψ i τ).bind fun y => zI x y
 | .sl a l h, τ => (yE Ψ a τ).bind fun x => (yE Ψ l τ).bind fun y => match mi l y with
   | none => .bad
   | some lo => (yE Ψ h τ).bind fun z => match mi h z with | none => .bad | some hi => zSl x lo hi
 | .call f es, τ => (yEs Ψ es τ).bind fun xs => Ψ f xs
 | .bi b es, τ => (yEs Ψ es τ).bind fun xs => zB b xs
 | .isi a t, τ => (yE Ψ a τ).bind fun x => match x with | .exo _ => .bad | x => .ok (.bl (iX t x))
 | .isB n a b, τ => (yE Ψ a τ).bind fun x => .ok (.bl (n ^^ JW b x))
 | .isN n a, τ => (yE Ψ a τ).bind fun x => .ok (.bl (n ^^ JR x))
 | .comp caps t it ifs elt, τ => (yIt Ψ it τ).bind fun xs => if xs.length < ai then
     ((gN (fun x => match aA t x (gH τ caps ++ [none]) with
         | none => .bad
         | some τ1 => (yIf Ψ ifs τ1).bind fun b => if b then (yE Ψ elt τ1).bind fun y => .ok (some y) else .ok none) xs).bind fun ys => .ok (.lst ys)).noX
   else .bad
noncomputable def yEs (Ψ : FnT) : List E → aD → Ou (List T)
 | [], _ => .ok []
 | e :: es, τ => (yE Ψ e τ).bind fun x => (yEs Ψ es τ).bind fun xs => .ok (x :: xs)
noncomputable def yIf (Ψ : FnT) : List E → aD → Ou Bool
 | [], _ => .ok true
 | c :: cs, τ => (yE Ψ c τ).bind fun x => match x with | .bl true => yIf Ψ cs τ | .bl false => .ok false | _ => .bad
noncomputable def yIt (Ψ : FnT) : It → aD → Ou (List T)
 | .seq e, τ => (yE Ψ e τ).bind fun x => match x with | .lst xs => .ok xs | .tup xs => .ok xs | _ => .bad
 | .rng e, τ => (yE Ψ e τ).bind fun x => match x with | .int j => if -(2 ^ 62) ≤ j ∧ j < 2 ^ 62 then .ok (rangeT 0 j.toNat) else .bad | _ => .bad
 | .rng2 a b, τ => (yE Ψ a τ).bind fun x => (yE Ψ b τ).bind fun y => match x, y with
   | .int i, .int j => if (-(2 ^ 62) ≤ i ∧ i < 2 ^ 62) ∧ -(2 ^ 62) ≤ j ∧ j < 2 ^ 62 then .ok (rangeT i (j - i).toNat) else .bad
   | _, _ => .bad
 | .enu e, τ => (yE Ψ e τ).bind fun x => match x with | .lst xs => .ok (jH 0 xs) | _ => .bad
 | .zip a b, τ => (yE Ψ a τ).bind fun x => (yE Ψ b τ).bind fun y => zpT x y
end
end Sv
namespace Sv
open PySem PySem.Spec L2
open Ev (D aR aY ai)
mutual
inductive Rep (st : Sto) : U → T → Prop where
 | non : Rep st .non .non
 | bl {b : Bool} : Rep st (.bl b) (.bl b)
 | int {i : Int} : Rep st (.int i) (.int i)
 | str {x : Str} : Rep st (.str x) (.str x)
 | tup {us : List U} {ds : List T} (r : aM st us ds) : Rep st (.tup us) (.tup ds)
 | loc {l : Nat} {fz : Bool} {us : List U} {ds : List T} (e : st[l]? = some (fz, us)) (r : aM st us ds) : Rep st (.loc l) (.lst ds)
 | exo {c : Nat} : Rep st (.exo c) (.exo c)
 | kl {us : List U} {ds : List T} (r : aM st us ds) : Rep st (.kl us) (.lst ds)
inductive aM (st : Sto) : List U → List T → Prop where
 | nil : aM st [] []
 | cons {u : U} {d : T} {us : List U} {ds : List T} (h : Rep st u d) (r : aM st us ds) : aM st (u :: us) (d :: ds)
end
mutual
noncomputable def locs : U → List Nat
 | .loc l => [l]
 | .tup us => j4 us
 | .kl us => j4 us
 | _ => []
noncomputable def j4 : List U → List Nat
 | [] => []
 | u :: us => locs u ++ j4 us
end
structure Hd where
 h : Nat → Prop
 g : Nat → Prop
 sub : ∀ l, g l → h l
noncomputable def Av (h : Hd) (n : Nat) (u : U) : Prop := ∀ l ∈ locs u, l < n ∧ ¬ h.h l
structure Wf (h : Hd) (st : Sto) : Prop where
 av : ∀ (k : Nat) fz us, ¬ h.g k → st[k]? = some (fz, us) → ∀ u ∈ us, Av h st.length u
 lt : ∀ l, h.h l → l < st.length
theorem Av.mono {h : Hd} {n n' : Nat} {u : U} (a : Av h n u) (e : n ≤ n') : Av h n' u := fun l hl => ⟨Nat.lt_of_lt_of_le (a l hl).1 e, (a l hl).2⟩
theorem Av.imp {h h' : Hd} {n : Nat} {u : U} (a : Av h n u) (e : ∀ l, l < n → h'.h l → h.h l) : Av h' n u := fun l hl => ⟨(a l hl).1, fun z => (a l hl).2 (e l (a l hl).1 z)⟩
theorem Av.int {h : Hd} {n : Nat} {i : Int} : Av h n (.int i) := fun l hl => by simp [locs] at hl
theorem Av.bl {h : Hd} {n : Nat} {b : Bool} : Av h n (.bl b) := fun l hl => by simp [locs] at hl
theorem Av.non {h : Hd} {n : Nat} : Av h n .non := fun l hl => by simp [locs] at hl
theorem Av.str {h : Hd} {n : Nat} {x : Str} : Av h n (.str x) := fun l hl => by simp [locs] at hl
theorem Av.exo {h : Hd} {n : Nat} {c : Nat} : Av h n (.exo c) := fun l hl => by simp [locs] at hl
theorem Av.loc {h : Hd} {n l : Nat} (h1 : l < n) (h2 : ¬ h.h l) : Av h n (.loc l) := fun k hk => by simp [locs] at hk; subst hk; exact ⟨h1, h2⟩
theorem gi {us : List U} {l : Nat} : l ∈ j4 us ↔ ∃ u ∈ us, l ∈ locs u := by
 induction us with
 | nil => simp [j4]
 | cons u us ih => simp [j4, ih]
theorem Av.kl {h : Hd} {n : Nat} {us : List U} : Av h n (.kl us) ↔ ∀ u ∈ us, Av h n u := by
 constructor
 · intro a u hu l hl
   exact a l (by simp only [locs]; exact gi.mpr ⟨u, hu, hl⟩)
 · intro a l hl
   simp only [locs] at hl
   obtain ⟨u, hu, hl⟩ := gi.mp hl
   exact a u hu l hl
theorem Av.tup {h : Hd} {n : Nat} {us : List U} : Av h n (.tup us) ↔ ∀ u ∈ us, Av h n u := by
 constructor
 · intro a u hu l hl
   exact a l (by simp only [locs]; exact gi.mpr ⟨u, hu, hl⟩)
 · intro a l hl
   simp only [locs] at hl
   obtain ⟨u, hu, hl⟩ := gi.mp hl
   exact a u hu l hl
section
variable {st st' : Sto}
mutual
theorem Rep.pre (e : ∀ (k : Nat) c, st[k]? = some c → st'[k]? = some c) : ∀ {u : U} {d : T}, Rep st u d → Rep st' u d
 | _, _, .non => .non
 | _, _, .bl => .bl
 | _, _, .int => .int
 | _, _, .str => .str
 | _, _, .exo => .exo
 | _, _, .tup r => .tup (aM.pre e r)
 | _, _, .loc h r => .loc (e _ _ h) (aM.pre e r)
 | _, _, .kl r => .kl (aM.pre e r)
theorem aM.pre (e : ∀ (k : Nat) c, st[k]? = some c → st'[k]? = some c) : ∀ {us : List U} {ds : List T}, aM st us ds → aM st' us ds
 | _, _, .nil => .nil
 | _, _, .cons h r => .cons (Rep.pre e h) (aM.pre e r)
end
mutual
theorem Rep.keep {h : Hd} (w : Wf h st) (e : ∀ (k : Nat) c, ¬ h.h k → st[k]? = some c → st'[k]? = some c) : ∀ {u : U} {d : T}, Rep st u d → (∀ l ∈ locs u, ¬ h.h l) → Rep st' u d
 | _, _, .non, _ => .non
 | _, _, .bl, _ => .bl
 | _, _, .int, _ => .int
 | _, _, .str, _ => .str
 | _, _, .exo, _ => .exo
 | _, _, .tup r, a => .tup (aM.keep w e r fun u hu l hl => a l (by simp only [locs]; exact gi.mpr ⟨u, hu, hl⟩))
 | _, _, .kl r, a => .kl (aM.keep w e r fun u hu l hl => a l (by simp only [locs]; exact gi.mpr ⟨u, hu, hl⟩))
 | _, _, .loc (l := l) q r, a => .loc (e _ _ (a l (by simp [locs])) q) (aM.keep w e r fun u hu k hk => (w.av _ _ _ (fun z => a l (by simp [locs]) (h.sub l z)) q u hu k hk).2)
theorem aM.keep {h : Hd} (w : Wf h st) (e : ∀ (k : Nat) c, ¬ h.h k → st[k]? = some c → st'[k]? = some c) : ∀ {us : List U} {ds : List T}, aM st us ds → (∀ u ∈ us, ∀ l ∈ locs u, ¬ h.h l) → aM st' us ds
 | _, _, .nil, _ => .nil
 | _, _, .cons h r, a => .cons (Rep.keep w e h (a _ (List.mem_cons_self ..))) (aM.keep w e r fun u hu => a u (List.mem_cons_of_mem _ hu))
end
end
theorem gF {st st' : Sto} (e : st <+: st') : ∀ (k : Nat) c, st[k]? = some c → st'[k]? = some c := fun k c h => by
 obtain ⟨r, rfl⟩ := e
 rw [List.getElem?_append_left (List.getElem?_eq_some_iff.mp h).1]; exact h
theorem Rep.ext {st st' : Sto} {u : U} {d : T} (r : Rep st u d) (e : st <+: st') : Rep st' u d := r.pre (gF e)
theorem aM.ext {st st' : Sto} {u : List U} {d : List T} (r : aM st u d) (e : st <+: st') : aM st' u d := r.pre (gF e)
theorem aM.length {st : Sto} : ∀ {us : List U} {ds : List T}, aM st us ds → us.length = ds.length
 | _, _, .nil => rfl
 | _, _, .cons _ r => congrArg (· + 1) r.length
theorem aM.get {st : Sto} : ∀ {us : List U} {ds : List T} {i : Nat} {d : T}, aM st us ds → ds[i]? = some d → ∃ u, us[i]? = some u ∧ Rep st u d
 | _, _, _, _, .nil, e => by simp at e
 | _, _, 0, _, .cons h _, e => by simp at e; subst e; exact ⟨_, rfl, h⟩
 | _, _, i + 1, d, .cons _ r, e => by
   obtain ⟨v, h1, h2⟩ := aM.get (i := i) (d := d) r (by simpa using e)
   exact ⟨v, by simpa using h1, h2⟩
theorem aM.append {st : Sto} : ∀ {xs ys : List U} {ds es : List T}, aM st xs ds → aM st ys es → aM st (xs ++ ys) (ds ++ es)
 | _, _, _, _, .nil, s => s
 | _, _, _, _, .cons h r, s => .cons h (aM.append r s)
theorem aM.take {st : Sto} : ∀ {xs : List U} {ds : List T} (n : Nat), aM st xs ds → aM st (xs.take n) (ds.take n)
 | _, _, 0, _ => .nil
 | _, _, _ + 1, .nil => .nil
 | _, _, n + 1, .cons h r => .cons h (aM.take n r)
theorem aM.drop {st : Sto} : ∀ {xs : List U} {ds : List T} (n : Nat), aM st xs ds → aM st (xs.drop n) (ds.drop n)
 | _, _, 0, r => r
 | _, _, _ + 1, .nil => .nil
 | _, _, n + 1, .cons _ r => aM.drop n r
theorem aM.set {st : Sto} : ∀ {xs : List U} {ds : List T} (n : Nat) {v : U} {d : T}, aM st xs ds → Rep st v d → aM st (xs.set n v) (ds.set n d)
 | _, _, _, _, _, .nil, _ => .nil
 | _, _, 0, _, _, .cons _ r, h => .cons h r
 | _, _, n + 1, _, _, .cons h r, h' => .cons h (aM.set n r h')
theorem aM.erase {st : Sto} : ∀ {xs : List U} {ds : List T} (n : Nat), aM st xs ds → aM st (xs.eraseIdx n) (ds.eraseIdx n)
 | _, _, _, .nil => .nil
 | _, _, 0, .cons _ r => r
 | _, _, n + 1, .cons h r => .cons h (aM.erase n r)
theorem aM.dropLast {st : Sto} : ∀ {xs : List U} {ds : List T}, aM st xs ds → aM st xs.dropLast ds.dropLast
 | _, _, .nil => .nil
 | _, _, .cons _ .nil => .nil
 | _, _, .cons h (.cons h' r) => .cons h (aM.dropLast (.cons h' r))
theorem aM.insert {st : Sto} : ∀ {xs : List U} {ds : List T} (n : Nat) {v : U} {d : T}, aM st xs ds → Rep st v d → aM st (xs.insertIdx n v) (ds.insertIdx n d)
 | _, _, 0, _, _, r, h => .cons h r
 | _, _, _ + 1, _, _, .nil, _ => .nil
 | _, _, n + 1, _, _, .cons h r, h' => .cons h (aM.insert n r h')
theorem Rep.int_inv {st : Sto} {u : U} {i : Int} (r : Rep st u (.int i)) : u = .int i := by cases r; rfl
theorem Rep.jI {st : Sto} {u : U} {b : Bool} (r : Rep st u (.bl b)) : u = .bl b := by cases r; rfl
theorem Rep.DB {st : Sto} {u : U} {ds : List T} (r : Rep st u (.tup ds)) : ∃ us, u = .tup us ∧ aM st us ds := by cases r; exact ⟨_, rfl, by assumption⟩
theorem Rep.lst_inv {st : Sto} {u : U} {ds : List T} (r : Rep st u (.lst ds)) : (∃ l fz us, u = .loc l ∧ st[l]? = some (fz, us) ∧ aM st us ds) ∨ ∃ us, u = .kl us ∧ aM st us ds := by
 cases r with
 | loc e r => exact .inl ⟨_, _, _, rfl, e, r⟩
 | kl r => exact .inr ⟨_, rfl, r⟩
mutual
noncomputable def toD : T → D
 | .non => .non
 | .bl b => .bl b
 | .int i => .int i
 | .str x => .str x
 | .tup xs => .tup (mM xs)
 | .lst xs => .lst (mM xs)
 | .exo _ => .non
noncomputable def mM : List T → List D
 | [] => []
 | x :: xs => toD x :: mM xs
end
mutual
theorem lY {st : Sto} : ∀ {u : U} {d : T} (n : Nat), Rep st u d → clT d = true → dpT d ≤ n → rsv st n u = some (toD d)
 | _, _, n, .non, _, _ => by cases n <;> rfl
 | _, _, n, .bl, _, _ => by cases n <;> rfl
 | _, _, n, .int, _, _ => by cases n <;> rfl
 | _, _, n, .str, _, _ => by cases n <;> rfl
 | _, _, n, .exo, h, _ => by simp [clT] at h
 | _, _, 0, .tup _, _, h => by simp [dpT] at h
 | _, _, n + 1, .tup r, h1, h2 => by
   rw [rsv, mI n r (by simpa [clT] using h1) (by simpa [dpT] using h2)]; rfl
 | _, _, 0, .kl _, _, h => by simp [dpT] at h
 | _, _, n + 1, .kl r, h1, h2 => by
   rw [rsv, mI n r (by simpa [clT] using h1) (by simpa [dpT] using h2)]; rfl
 | _, _, 0, .loc _ _, _, h => by simp [dpT] at h
 | _, _, n + 1, .loc e r, h1, h2 => by
   rw [rsv, e]
   dsimp only
   rw [mI n r (by simpa [clT] using h1) (by simpa [dpT] using h2)]; rfl
theorem mI {st : Sto} : ∀ {us : List U} {ds : List T} (n : Nat), aM st us ds → rf ds = true → wX ds ≤ n → uI (rsv st n) us = some (mM ds)
 | _, _, _, .nil, _, _ => rfl
 | _, _, n, .cons h r, h1, h2 => by
   rw [rf, Bool.and_eq_true] at h1
   rw [wX] at h2
   rw [uI, lY n h h1.1 (by omega), mI n r h1.2 (by omega)]; rfl
end
mutual
theorem yy : ∀ d : T, clT d = true → Ev.cln (toD d) = true
 | .non, _ => rfl
 | .bl _, _ => rfl
 | .int _, _ => rfl
 | .str x, h => by simpa [clT, toD] using h
 | .tup xs, h => by simp only [toD, Ev.cln]; exact qz xs (by simpa [clT] using h)
 | .lst xs, h => by simp only [toD, Ev.cln]; exact qz xs (by simpa [clT] using h)
 | .exo _, h => by simp [clT] at h
theorem qz : ∀ d : List T, rf d = true → Ev.va (mM d) = true
 | [], _ => rfl
 | x :: xs, h => by
   rw [rf, Bool.and_eq_true] at h
   simp only [mM, Ev.va, yy x h.1, qz xs h.2, Bool.and_self]
end
mutual
theorem za : ∀ d : T, Ev.dep (toD d) = dpT d
 | .non => rfl
 | .bl _ => rfl
 | .int _ => rfl
 | .str x => rfl
 | .tup xs => by simp only [toD, Ev.dep, dpT, pM xs]
 | .lst xs => by simp only [toD, Ev.dep, dpT, pM xs]
 | .exo _ => rfl
theorem pM : ∀ d : List T, Ev.vp (mM d) = wX d
 | [] => rfl
 | x :: xs => by simp only [mM, Ev.vp, wX, za x, pM xs]
end
mutual
theorem sY : ∀ a b : T, clT a = true → clT b = true → Ev.eqD (toD a) (toD b) = eqT a b
 | .tup xs, b, h1, h2 => by
   cases b with
   | tup ys => simp only [toD, Ev.eqD, eqT]; exact pw xs ys (by simpa [clT] using h1) (by simpa [clT] using h2)
   | exo c => simp [clT] at h2
   | _ => simp [toD, Ev.eqD, eqT]
 | .lst xs, b, h1, h2 => by
   cases b with
   | lst ys => simp only [toD, Ev.eqD, eqT]; exact pw xs ys (by simpa [clT] using h1) (by simpa [clT] using h2)
   | exo c => simp [clT] at h2
   | _ => simp [toD, Ev.eqD, eqT]
 | .exo _, b, h1, _ => by simp [clT] at h1
 | .non, b, _, h2 => by cases b <;> first | (simp [clT] at h2; done) | simp [toD, Ev.eqD, eqT]
 | .bl _, b, _, h2 => by cases b <;> first | (simp [clT] at h2; done) | simp [toD, Ev.eqD, eqT]
 | .int _, b, _, h2 => by cases b <;> first | (simp [clT] at h2; done) | simp [toD, Ev.eqD, eqT]
 | .str _, b, _, h2 => by cases b <;> first | (simp [clT] at h2; done) | simp [toD, Ev.eqD, eqT]
theorem pw : ∀ a b : List T, rf a = true → rf b = true → Ev.nc (mM a) (mM b) = vG a b
 | [], [], _, _ => by simp [mM, Ev.nc, vG]
 | [], _ :: _, _, _ => by simp [mM, Ev.nc, vG]
 | _ :: _, [], _, _ => by simp [mM, Ev.nc, vG]
 | x :: xs, y :: ys, h1, h2 => by
   rw [rf, Bool.and_eq_true] at h1 h2
   simp only [mM, Ev.nc, vG, sY x y h1.1 h2.1, pw xs ys h1.2 h2.2]
end
theorem o8 {d : T} (h : eqK d) : Ev.xf (toD d) := ⟨yy d h.1, by rw [za]; exact h.2⟩
theorem u7 {st : Sto} : ∀ {us : List U} {ds : List T}, aM st us ds → oO us = zh ds
 | _, _, .nil => rfl
 | _, _, .cons h r => by
   have ih := u7 r
   cases h <;> first | rfl | (simp only [oO, zh, ih])
theorem sy {st : Sto} {x y : U} {a b : T} (h1 : Rep st x a) (h2 : Rep st y b) {o : Cm} {r : Bool} (e : zC o a b = some r) : evC o x y st = some r := by
 cases o
 case eq =>
   simp only [zC.eq_def] at e
   split at e
   · rename_i c
     cases e
     simp only [evC.eq_def, lY 64 h1 c.1.1 c.1.2, lY 64 h2 c.2.1 c.2.2]
     rw [if_pos ⟨o8 c.1, o8 c.2⟩, sY a b c.1.1 c.2.1]
   · cases e
 case ne =>
   simp only [zC.eq_def] at e
   split at e
   · rename_i c
     cases e
     simp only [evC.eq_def, lY 64 h1 c.1.1 c.1.2, lY 64 h2 c.2.1 c.2.2]
     rw [if_pos ⟨o8 c.1, o8 c.2⟩, sY a b c.1.1 c.2.1]
   · cases e
 case isin =>
   cases h1 with
   | str =>
     cases h2 with
     | tup r2 =>
       simp only [zC] at e
       simp only [evC, u7 r2]
       exact e
     | _ => simp [zC] at e
   | _ => simp [zC] at e
 all_goals
   cases a with
   | int i =>
     cases b with
     | int j =>
       have := h1.int_inv; subst this
       have := h2.int_inv; subst this
       exact e
     | _ => cases e
   | _ => cases e
end Sv
namespace Sv
open PySem PySem.Spec L2
open Ev (D aR aY ai)
structure Md where
 sc : Bool := false
 lv : Nat := 0
 mv : Nat := 0
mutual
noncomputable def flat : T → Bool
 | .lst _ => false
 | .tup xs => sr xs
 | _ => true
noncomputable def sr : List T → Bool
 | [] => true
 | x :: xs => flat x && sr xs
end
noncomputable def FL : T → Bool
 | .lst ys => sr ys
 | d => flat d
noncomputable def u5 (lv : Nat) : T → Bool
 | .lst xs => if lv = 1 then sr xs else if lv = 2 then xs.all FL else false
 | d => flat d
mutual
noncomputable def gts (μ : Nat → Md) (i lv : Nat) : Nat → E → Bool
 | k, .var j => decide (k < lv) && i == j
 | _, .cN | _, .cB _ | _, .cI _ | _, .cS _ => false
 | _, .op _ a b => gts μ i lv 1 a || gts μ i lv 1 b
 | _, .neg a => gts μ i lv 2 a
 | _, .not a => gts μ i lv 2 a
 | _, .cmp _ a b => gts μ i lv 2 a || gts μ i lv 2 b
 | _, .chain _ _ a b c => gts μ i lv 2 a || gts μ i lv 2 b || gts μ i lv 2 c
 | k, .and a b => gts μ i lv 2 a || gts μ i lv k b
 | k, .or a b => gts μ i lv 2 a || gts μ i lv k b
 | k, .ite c a b => gts μ i lv 2 c || gts μ i lv k a || gts μ i lv k b
 | _, .tup es => bY μ i lv 0 es
 | _, .lst es => bY μ i lv 0 es
 | k, .ix a b => gts μ i lv (k + 1) a || gts μ i lv 2 b
 | _, .sl a b c => gts μ i lv 1 a || gts μ i lv 2 b || gts μ i lv 2 c
 | _, .call f es => bY μ i lv (if (μ f).sc then 2 else 0) es
 | _, .bi o es => bY μ i lv (match o with | .len => 2 | _ => 1) es
 | _, .isi a _ => gts μ i lv 2 a
 | _, .isB _ a _ => gts μ i lv 2 a
 | _, .isN _ a => gts μ i lv 2 a
 | _, .comp caps _ it _ _ => caps.contains (some i) || gM μ i lv 1 it
noncomputable def bY (μ : Nat → Md) (i lv : Nat) : Nat → List E → Bool
 | _, [] => false
 | k, e :: es => gts μ i lv k e || bY μ i lv k es
noncomputable def gM (μ : Nat → Md) (i lv : Nat) : Nat → It → Bool
 | k, .seq e => gts μ i lv k e
 | _, .rng e => gts μ i lv 2 e
 | _, .rng2 a b => gts μ i lv 2 a || gts μ i lv 2 b
 | k, .enu e => gts μ i lv k e
 | k, .zip a b => gts μ i lv k a || gts μ i lv k b
end
noncomputable abbrev Own := List (Nat × Nat)
noncomputable def dn (g : Nat → Nat → Bool) : Own → Own
 | [] => []
 | (i, lv) :: r => if g i lv then (if lv = 2 ∧ g i 1 = false then (i, 1) :: dn g r else dn g r) else (i, lv) :: dn g r
noncomputable def cj (own : Own) (i : Nat) : Nat := (own.lookup i).getD 0
noncomputable def cG (μ : Nat → Md) : E → Nat
 | .lst _ => 1
 | .comp _ _ _ _ e => if cG μ e = 0 then 1 else 2
 | .sl _ _ _ => 1
 | .op .add _ _ => 1
 | .bi .list _ => 1
 | .call f _ => (μ f).lv
 | _ => 0
noncomputable def isL : T → Bool
 | .lst _ => true
 | _ => false
noncomputable def lvT : T → Nat
 | .lst xs => if xs.all isL then 2 else 1
 | _ => 0
noncomputable def tgN : Tg → List Nat
 | .nm i => [i]
 | .tp is => is
noncomputable def frg (t : Tg) : Nat → Nat → Bool := fun k _ => (tgN t).contains k
inductive FlT where
 | nx (τ : aD) (own : Own) | rt (d : T) | bk (τ : aD) (own : Own) | ct (τ : aD) (own : Own)
noncomputable def zM : Lm → List T → List T → Option (List T)
 | .append, xs, [x] => if xs.length < ai then some (xs ++ [x]) else none
 | .insert, xs, [.int i, x] => if xs.length < ai ∧ 0 ≤ i ∧ i.toNat ≤ xs.length then some (xs.insertIdx i.toNat x) else none
 | .pop, xs, [] => if xs.length = 0 then none else some xs.dropLast
 | .popAt, xs, [.int i] => if xs.length < ai then (L2.ixN xs.length i).map fun j => xs.eraseIdx j else none
 | .clear, _, [] => some []
 | _, _, _ => none
noncomputable def eJ (f : T → aD → Own → Ou FlT) : List T → aD → Own → Ou FlT
 | [], τ, own => .ok (.nx τ own)
 | x :: xs, τ, own => (f x τ own).bind fun r => match r with
   | .nx τ' own' => eJ f xs τ' own'
   | .ct τ' own' => eJ f xs τ' own'
   | .bk τ' own' => .ok (.nx τ' own')
   | .rt d => .ok (.rt d)
noncomputable def iy (c : aD → Ou T) (g : Nat → Nat → Bool) (f : aD → Own → Ou FlT) : Nat → aD → Own → Ou FlT
 | 0, _, _ => .bad
 | n + 1, τ, own => (c τ).bind fun x => match x with
   | .bl true => (f τ (dn g own)).bind fun r => match r with
     | .nx τ' own' => iy c g f n τ' own'
     | .ct τ' own' => iy c g f n τ' own'
     | .bk τ' own' => .ok (.nx τ' own')
     | .rt d => .ok (.rt d)
   | .bl false => .ok (.nx τ (dn g own))
   | _ => .bad
noncomputable def bw {α β : Type} : Option α → (α → Ou β) → Ou β
 | some a, f => f a
 | none, _ => .bad
noncomputable def iL : Ou T → Option (List T)
 | .ok (.lst xs) => some xs
 | _ => none
noncomputable def lA : T → Option (List T)
 | .lst xs => some xs
 | _ => none
noncomputable def intOf : T → Option Int
 | .int i => some i
 | _ => none
noncomputable def nB (o : Option aD) (own : Own) : Ou FlT := match o with
 | some τ' => .ok (.nx τ' own)
 | none => .bad
structure Fx where
 μ : Nat → Md
 need : List Nat
 lv : Nat
noncomputable def cg (X : Fx) (own : Own) (t : Tg) (e : E) (x : T) (τ : aD) : Own := match t with
 | .nm i => if X.need.contains i && (τ[i]?).isSome then (if min (cG X.μ e) (lvT x) = 0 then dn (frg t) own else (i, min (cG X.μ e) (lvT x)) :: dn (frg t) own) else dn (frg t) own
 | .tp _ => dn (frg t) own
noncomputable def zV (τ : aD) (own : Own) (v : Nat) (xs : List T) (y z : T) : Ou FlT := bw (intOf y) fun k => bw (L2.ixN xs.length k) fun j =>
 if 0 < cj own v then .ok (.nx (τ.set v (some (.lst (xs.set j z)))) (dn (fun i lv => i == v && lv == 2) own)) else .bad
noncomputable def vP (τ : aD) (own : Own) (v : Nat) (xs ys : List T) (q : Nat) (y z : T) : Ou FlT := bw (intOf y) fun k => bw (L2.ixN ys.length k) fun j => .ok (.nx (τ.set v (some (.lst (xs.set q (.lst (ys.set j z)))))) own)
noncomputable def AG (m : Lm) (τ : aD) (own : Own) (v : Nat) (xs ds : List T) : Ou FlT := bw (zM m xs ds) fun ys => .ok (.nx (τ.set v (some (.lst ys))) (dn (fun i lv => i == v && lv == 2) own))
noncomputable def CP (m : Lm) (τ : aD) (own : Own) (v : Nat) (xs ys ds : List T) (q : Nat) : Ou FlT := bw (zM m ys ds) fun zs => .ok (.nx (τ.set v (some (.lst (xs.set q (.lst zs))))) own)
mutual
noncomputable def yS (Ψ ΨM : FnT) (X : Fx) (n : Nat) : S → aD → Own → Ou FlT
 | .set t e, τ, own => match e with
   | .call f (.var v :: es) => if 0 < (X.μ f).mv then
       (if (X.μ f).mv ≤ cj (dn (fun i lv => bY X.μ i lv 0 es) own) v then
         (ax τ v).bind fun x => (yEs Ψ es τ).bind fun xs => (ΨM f (x :: xs)).bind fun d => nB (aA t d (τ.set v none)) (cg X (dn (fun i _ => i == v) (dn (fun i lv => bY X.μ i lv 0 es) own)) t (.call f (.var v :: es)) d (τ.set v none))
       else .bad)
     else (yE Ψ (.call f (.var v :: es)) τ).bind fun x => nB (aA t x τ) (cg X (dn (fun i lv => gts X.μ i lv 0 (.call f (.var v :: es))) own) t (.call f (.var v :: es)) x τ)
   | e => (yE Ψ e τ).bind fun x => nB (aA t x τ) (cg X (dn (fun i lv => gts X.μ i lv 0 e) own) t e x τ)
 | .put (.var v) i e, τ, own => (yE Ψ e τ).bind fun z => bw (iL (ax τ v)) fun xs => (yE Ψ i τ).bind fun y => zV τ (dn (fun k lv => gts X.μ k lv 0 e || gts X.μ k lv 2 i) own) v xs y z
 | .put (.ix (.var v) a) i e, τ, own => if cj (dn (fun k lv => gts X.μ k lv 0 e || gts X.μ k lv 2 a || gts X.μ k lv 2 i) own) v = 2 then
     (yE Ψ e τ).bind fun z => bw (iL (ax τ v)) fun xs => (yE Ψ a τ).bind fun p => bw (intOf p) fun p => bw (L2.ixN xs.length p) fun q => bw (xs[q]?.bind lA) fun ys => (yE Ψ i τ).bind fun y =>
       vP τ (dn (fun k lv => gts X.μ k lv 0 e || gts X.μ k lv 2 a || gts X.μ k lv 2 i) own) v xs ys q y z
   else .bad
 | .put _ _ _, _, _ => .bad
 | .mth m (.var v) es, τ, own => bw (iL (ax τ v)) fun xs => if 0 < cj (dn (fun k lv => bY X.μ k lv 0 es) own) v then (yEs Ψ es τ).bind fun ds => AG m τ (dn (fun k lv => bY X.μ k lv 0 es) own) v xs ds else .bad
 | .mth m (.ix (.var v) a) es, τ, own => bw (iL (ax τ v)) fun xs => if cj (dn (fun k lv => gts X.μ k lv 2 a || bY X.μ k lv 0 es) own) v = 2 then
     (yE Ψ a τ).bind fun p => bw (intOf p) fun p => bw (L2.ixN xs.length p) fun q => bw (xs[q]?.bind lA) fun ys => (yEs Ψ es τ).bind fun ds => CP m τ (dn (fun k lv => gts X.μ k lv 2 a || bY X.μ k lv 0 es) own) v xs ys ds q
   else .bad
 | .mth _ _ _, _, _ => .bad
 | .ret e, τ, own => (yE Ψ e τ).bind fun x => if X.lv = 0 ∨ isL x = false then .ok (.rt x) else match e with
   | .var i => if X.lv ≤ cj own i then .ok (.rt x) else .bad
   | e => if X.lv ≤ min (cG X.μ e) (lvT x) then .ok (.rt x) else .bad
 | .retN, _, _ => .ok (.rt .non)
 | .ite c a b, τ, own => (yE Ψ c τ).bind fun x => match x with
   | .bl true => ySs Ψ ΨM X n a τ (dn (fun k lv => gts X.μ k lv 2 c) own)
   | .bl false => ySs Ψ ΨM X n b τ (dn (fun k lv => gts X.μ k lv 2 c) own)
   | _ => .bad
 | .for t it body, τ, own => ((yIt Ψ it τ).bind fun xs => eJ (fun x τ' own' => match aA t x τ' with
     | some τ2 => ySs Ψ ΨM X n body τ2 (dn (frg t) own')
     | none => .bad) xs τ (dn (fun k lv => gM X.μ k lv 0 it) own)).noX
 | .while c body, τ, own => (iy (fun τ' => yE Ψ c τ') (fun k lv => gts X.μ k lv 2 c) (fun τ' own' => ySs Ψ ΨM X n body τ' own') n τ own).noX
 | .expr e, τ, own => match e with
   | .call f (.var v :: es) => if 0 < (X.μ f).mv then
       (if (X.μ f).mv ≤ cj (dn (fun i lv => bY X.μ i lv 0 es) own) v then
         (ax τ v).bind fun x => (yEs Ψ es τ).bind fun xs => (ΨM f (x :: xs)).bind fun _ => .ok (.nx (τ.set v none) (dn (fun i _ => i == v) (dn (fun i lv => bY X.μ i lv 0 es) own)))
       else .bad)
     else (yE Ψ (.call f (.var v :: es)) τ).bind fun _ => .ok (.nx τ (dn (fun i lv => gts X.μ i lv 0 (.call f (.var v :: es))) own))
   | e => (yE Ψ e τ).bind fun _ => .ok (.nx τ (dn (fun k lv => gts X.μ k lv 0 e) own))
 | .raise c, _, _ => .exc c
 | .brk, τ, own => .ok (.bk τ own)
 | .cont, τ, own => .ok (.ct τ own)
 | .pas, τ, own => .ok (.nx τ own)
 | .nev, _, _ => .bad
noncomputable def ySs (Ψ ΨM : FnT) (X : Fx) (n : Nat) : List S → aD → Own → Ou FlT
 | [], τ, own => .ok (.nx τ own)
 | s :: ss, τ, own => (yS Ψ ΨM X n s τ own).bind fun r => match r with
   | .nx τ' own' => ySs Ψ ΨM X n ss τ' own'
   | r => .ok r
end
end Sv
namespace Sv
open PySem PySem.Spec L2
open Ev (D aR aY ai)
structure Gr (h : Hd) (st : Sto) (h' : Hd) (st' : Sto) : Prop where
 pre : st <+: st'
 hm : ∀ l, h.h l → h'.h l
 gm : ∀ l, h.g l → h'.g l
 hn : ∀ l, l < st.length → h'.h l → h.h l
 gn : ∀ l, l < st.length → h'.g l → h.g l
 wf : Wf h' st'
theorem Gr.refl {h : Hd} {st : Sto} (w : Wf h st) : Gr h st h st := ⟨List.prefix_refl _, fun _ z => z, fun _ z => z, fun _ _ z => z, fun _ _ z => z, w⟩
theorem Gr.same {h : Hd} {st st' : Sto} (p : st <+: st') (w : Wf h st') : Gr h st h st' := ⟨p, fun _ z => z, fun _ z => z, fun _ _ z => z, fun _ _ z => z, w⟩
theorem Gr.trans {h h1 h2 : Hd} {st st1 st2 : Sto} (a : Gr h st h1 st1) (b : Gr h1 st1 h2 st2) : Gr h st h2 st2 :=
 ⟨a.pre.trans b.pre, fun l z => b.hm l (a.hm l z), fun l z => b.gm l (a.gm l z), fun l hl z => a.hn l hl (b.hn l (Nat.lt_of_lt_of_le hl a.pre.length_le) z), fun l hl z => a.gn l hl (b.gn l (Nat.lt_of_lt_of_le hl a.pre.length_le) z), b.wf⟩
theorem Gr.av {h h' : Hd} {st st' : Sto} {u : U} (g : Gr h st h' st') (a : Av h st.length u) : Av h' st'.length u := fun l hl => ⟨Nat.lt_of_lt_of_le (a l hl).1 g.pre.length_le, fun z => (a l hl).2 (g.hn l (a l hl).1 z)⟩
noncomputable def Gd {α β : Type} (h : Hd) (st : Sto) (P : Hd → Sto → α → β → Prop) (x : Rs α) : Ou β → Prop
 | .bad => True
 | .ok d => ∃ u st' h', x = .ok u st' ∧ Gr h st h' st' ∧ P h' st' u d
 | .exc c => ∃ st' h', x = .exc c st' ∧ Gr h st h' st'
theorem Gd.imp {α β : Type} {h : Hd} {st : Sto} {P Q : Hd → Sto → α → β → Prop} {x : Rs α} {r : Ou β} (g : Gd h st P x r) (f : ∀ h' st' u d, P h' st' u d → Q h' st' u d) : Gd h st Q x r := by
 cases r with
 | bad => trivial
 | ok d => obtain ⟨u, st', h', e, p, q⟩ := g; exact ⟨u, st', h', e, p, f _ _ _ _ q⟩
 | exc c => exact g
theorem Gd.bind {α β γ δ : Type} {h : Hd} {st : Sto} {P : Hd → Sto → α → β → Prop} {Q : Hd → Sto → γ → δ → Prop} {x : Rs α} {r : Ou β} {f : α → Sto → Rs γ} {k : β → Ou δ} (g : Gd h st P x r)
   (n : ∀ u d st' h', Gr h st h' st' → P h' st' u d → Gd h' st' Q (f u st') (k d)) : Gd h st Q (x.bind f) (r.bind k) := by
 cases r with
 | bad => trivial
 | exc c => obtain ⟨st', h', e, p⟩ := g; subst e; exact ⟨st', h', rfl, p⟩
 | ok d =>
   obtain ⟨u, st', h', e, p, q⟩ := g
   subst e
   have := n u d st' h' p q
   show Gd h st Q (f u st') (k d)
   generalize k d = y at this
   cases y with
   | bad => trivial
   | exc c => obtain ⟨st2, h2, e, p2⟩ := this; exact ⟨st2, h2, e, p.trans p2⟩
   | ok d' => obtain ⟨u', st2, h2, e, p2, q2⟩ := this; exact ⟨u', st2, h2, e, p.trans p2, q2⟩
theorem Gd.ok {α β : Type} {h : Hd} {st : Sto} {P : Hd → Sto → α → β → Prop} {u : α} {d : β} (w : Wf h st) (p : P h st u d) : Gd h st P (.ok u st) (.ok d) := ⟨u, st, h, rfl, .refl w, p⟩
theorem Gd.noX {α β : Type} {h : Hd} {st : Sto} {P : Hd → Sto → α → β → Prop} {x : Rs α} {r : Ou β} (g : Gd h st P x r) : Gd h st P x.noX r.noX := by
 cases r with
 | bad => trivial
 | exc c => trivial
 | ok d => obtain ⟨u, st', h', e, p, q⟩ := g; subst e; exact ⟨u, st', h', rfl, p, q⟩
theorem Gd.inv {α β : Type} {h : Hd} {st : Sto} {P : Hd → Sto → α → β → Prop} {x : Rs α} {r : Ou β} {d : β} (g : Gd h st P x r) (e : r = .ok d) : ∃ u st' h', x = .ok u st' ∧ Gr h st h' st' ∧ P h' st' u d := by
 subst e; exact g
noncomputable def Dp (h : Hd) (st : Sto) (l : Nat) : Prop := ∃ fz us, st[l]? = some (fz, us) ∧ ∀ u ∈ us, ∃ c, u = .loc c ∧ c < st.length ∧ ¬ h.g c
noncomputable def Kd (h : Hd) (k : Nat) (st : Sto) (u : U) : Prop := Av h st.length u ∨ (1 ≤ k ∧ ∃ l, u = .loc l ∧ l < st.length ∧ ¬ h.g l) ∨ (2 ≤ k ∧ ∃ l, u = .loc l ∧ Dp h st l)
theorem Dp.lt {h : Hd} {st : Sto} {l : Nat} (d : Dp h st l) : l < st.length := by obtain ⟨_, _, e, _⟩ := d; exact (List.getElem?_eq_some_iff.mp e).1
theorem Kd.mono {h : Hd} {k k' : Nat} {st : Sto} {u : U} (a : Kd h k st u) (e : k ≤ k') : Kd h k' st u := a.imp id (Or.imp (fun ⟨x, y⟩ => ⟨Nat.le_trans x e, y⟩) fun ⟨x, y⟩ => ⟨Nat.le_trans x e, y⟩)
theorem Dp.gr {h h' : Hd} {st st' : Sto} {l : Nat} (d : Dp h st l) (g : Gr h st h' st') : Dp h' st' l := by
 obtain ⟨fz, us, e, q⟩ := d
 exact ⟨fz, us, gF g.pre _ _ e, fun u hu => let ⟨c, e1, e2, e3⟩ := q u hu; ⟨c, e1, Nat.lt_of_lt_of_le e2 g.pre.length_le, fun z => e3 (g.gn c e2 z)⟩⟩
theorem Kd.gr {h h' : Hd} {k : Nat} {st st' : Sto} {u : U} (a : Kd h k st u) (g : Gr h st h' st') : Kd h' k st' u := by
 rcases a with a | ⟨x, l, e, hl, ng⟩ | ⟨x, l, e, d⟩
 · exact .inl (g.av a)
 · exact .inr (.inl ⟨x, l, e, Nat.lt_of_lt_of_le hl g.pre.length_le, fun z => ng (g.gn l hl z)⟩)
 · exact .inr (.inr ⟨x, l, e, d.gr g⟩)
theorem Kd.zero {h : Hd} {st : Sto} {u : U} (a : Kd h 0 st u) : Av h st.length u := by
 rcases a with a | ⟨x, _⟩ | ⟨x, _⟩
 · exact a
 · omega
 · omega
noncomputable def PX (k : Nat) (h : Hd) (st : Sto) (u : U) (d : T) : Prop := Rep st u d ∧ Kd h k st u
noncomputable def PXs (k : Nat) (h : Hd) (st : Sto) (us : List U) (ds : List T) : Prop := aM st us ds ∧ ∀ u ∈ us, Kd h k st u
theorem PX.of {k : Nat} {h : Hd} {st : Sto} {u : U} {d : T} (r : Rep st u d) (a : Av h st.length u) : PX k h st u d := ⟨r, .inl a⟩
theorem PX.gr {k : Nat} {h h' : Hd} {st st' : Sto} {u : U} {d : T} (p : PX k h st u d) (g : Gr h st h' st') : PX k h' st' u d := ⟨p.1.ext g.pre, p.2.gr g⟩
theorem PXs.gr {k : Nat} {h h' : Hd} {st st' : Sto} {u : List U} {d : List T} (p : PXs k h st u d) (g : Gr h st h' st') : PXs k h' st' u d := ⟨p.1.ext g.pre, fun u hu => (p.2 u hu).gr g⟩
theorem PX.mono {k k' : Nat} {h : Hd} {st : Sto} {u : U} {d : T} (p : PX k h st u d) (e : k ≤ k') : PX k' h st u d := ⟨p.1, p.2.mono e⟩
theorem PX.weak {k : Nat} {h : Hd} {st : Sto} {u : U} {d : T} (p : PX 0 h st u d) : PX k h st u d := p.mono (Nat.zero_le _)
theorem PX.av {h : Hd} {st : Sto} {u : U} {d : T} (p : PX 0 h st u d) : Av h st.length u := p.2.zero
structure WE (h : Hd) (st : Sto) (ρ : Env) (τ : aD) (own : Own) : Prop where
 len : ρ.length = τ.length
 val : ∀ (i : Nat) d, τ[i]? = some (some d) → ∃ u, ρ[i]? = some (some u) ∧ Rep st u d ∧ (Av h st.length u ∨ ∃ lv, (i, lv) ∈ own ∧ Kd h lv st u)
theorem WE.gr {h h' : Hd} {st st' : Sto} {ρ : Env} {τ : aD} {own : Own} (w : WE h st ρ τ own) (g : Gr h st h' st') : WE h' st' ρ τ own :=
 ⟨w.len, fun i d q => let ⟨u, h1, h2, h3⟩ := w.val i d q; ⟨u, h1, h2.ext g.pre, h3.imp g.av fun ⟨lv, a, b⟩ => ⟨lv, a, b.gr g⟩⟩⟩
theorem iw {st : Sto} {c : Bool × List U} : st <+: st ++ [c] := List.prefix_append _ _
theorem Wf.new {h : Hd} {st : Sto} {us : List U} (w : Wf h st) (a : ∀ u ∈ us, Av h st.length u) : Wf h (st ++ [(false, us)]) := by
 refine ⟨fun k fz vs hk e u hu => ?_, fun l hl => by rw [List.length_append]; exact Nat.lt_add_right _ (w.lt l hl)⟩
 rw [List.length_append]
 rcases Nat.lt_or_ge k st.length with q | q
 · rw [List.getElem?_append_left q] at e
   exact (w.av k fz vs hk e u hu).mono (Nat.le_add_right _ _)
 · rw [List.getElem?_append_right q] at e
   have := List.mem_of_getElem? e
   rw [List.mem_singleton] at this
   cases this
   exact (a u hu).mono (Nat.le_add_right _ _)
theorem sC {h : Hd} {st : Sto} {us : List U} {ds : List T} (w : Wf h st) (r : aM st us ds) : Rep (st ++ [(false, us)]) (.loc st.length) (.lst ds) ∧ Av h (st ++ [(false, us)]).length (.loc st.length) := by
 refine ⟨.loc (fz := false) (us := us) ?_ (r.ext iw), .loc (by rw [List.length_append]; exact Nat.lt_succ_self _) fun z => Nat.lt_irrefl _ (w.lt _ z)⟩
 rw [List.getElem?_append_right (Nat.le_refl _), Nat.sub_self]; rfl
theorem lq {k : Nat} {h : Hd} {st : Sto} {us : List U} {ds : List T} (w : Wf h st) (p : PXs 0 h st us ds) : Gd h st (PX k) (new st us) (.ok (.lst ds)) := by
 obtain ⟨r1, r2⟩ := sC w p.1
 exact ⟨_, _, h, rfl, .same iw (w.new fun u hu => (p.2 u hu).zero), .of r1 r2⟩
theorem iV {k : Nat} {h : Hd} {st : Sto} {u : U} {ds : List T} (w : Wf h st) (p : PX k h st u (.lst ds)) : ∃ us, ((∃ l fz, u = .loc l ∧ st[l]? = some (fz, us)) ∨ u = .kl us) ∧ PXs (k - 1) h st us ds := by
 rcases p.1.lst_inv with ⟨l, fz, us, rfl, e, r⟩ | ⟨us, rfl, r⟩
 · refine ⟨us, .inl ⟨l, fz, rfl, e⟩, r, fun u hu => ?_⟩
   rcases p.2 with a | ⟨x, l', z, hl, ng⟩ | ⟨x, l', z, fz', us', e', q⟩
   · exact .inl (w.av _ _ _ (fun q => (a l (by simp [locs])).2 (h.sub l q)) e u hu)
   · cases z; exact .inl (w.av _ _ _ ng e u hu)
   · cases z
     rw [e] at e'; cases e'
     obtain ⟨c, e1, e2, e3⟩ := q u hu
     exact .inr (.inl ⟨by omega, c, e1, e2, e3⟩)
 · refine ⟨us, .inr rfl, r, fun u hu => .inl ?_⟩
   rcases p.2 with a | ⟨_, l, z, _⟩ | ⟨_, l, z, _⟩
   · exact Av.kl.mp a u hu
   · cases z
   · cases z
theorem mS {k : Nat} {h : Hd} {st : Sto} {u : U} {ds : List T} (w : Wf h st) (p : PX k h st u (.lst ds)) : ∃ us, uv st u = some us ∧ seq? st u = some us ∧ PXs (k - 1) h st us ds := by
 obtain ⟨us, ⟨l, fz, rfl, e⟩ | rfl, q⟩ := iV w p
 · exact ⟨us, by simp [uv, e], by simp [seq?, e], q⟩
 · exact ⟨us, rfl, rfl, q⟩
theorem PXs.mono {k k' : Nat} {h : Hd} {st : Sto} {u : List U} {d : List T} (p : PXs k h st u d) (e : k ≤ k') : PXs k' h st u d := ⟨p.1, fun u hu => (p.2 u hu).mono e⟩
theorem iS {k k' : Nat} {h : Hd} {st : Sto} {u : U} {ds : List T} (p : PX k h st u (.tup ds)) : ∃ us, u = .tup us ∧ PXs k' h st us ds := by
 obtain ⟨us, rfl, r⟩ := p.1.DB
 refine ⟨us, rfl, r, fun u hu => .inl ?_⟩
 rcases p.2 with a | ⟨_, l, z, _⟩ | ⟨_, l, z, _⟩
 · exact Av.tup.mp a u hu
 · cases z
 · cases z
theorem AZ {k : Nat} {h : Hd} {st : Sto} {us : List U} {ds : List T} (p : PXs k h st us ds) {i : Int} {d : T} (e : atI ds i = some d) : ∃ u, atI us i = some u ∧ PX k h st u d := by
 unfold atI at e ⊢
 rw [p.1.length]
 obtain ⟨j, h1, h2⟩ := Option.bind_eq_some_iff.mp e
 obtain ⟨u, h3, h4⟩ := p.1.get h2
 exact ⟨u, by rw [h1]; exact h3, h4, (p.2 u (List.mem_of_getElem? h3))⟩
theorem PXs.append {k : Nat} {h : Hd} {st : Sto} {us vs : List U} {ds es : List T} (p : PXs k h st us ds) (q : PXs k h st vs es) : PXs k h st (us ++ vs) (ds ++ es) :=
 ⟨p.1.append q.1, fun u hu => (List.mem_append.mp hu).elim (p.2 u) (q.2 u)⟩
theorem PXs.sub {k : Nat} {h : Hd} {st : Sto} {us vs : List U} {ds es : List T} (p : PXs k h st us ds) (r : aM st vs es) (s : ∀ u ∈ vs, u ∈ us) : PXs k h st vs es := ⟨r, fun u hu => p.2 u (s u hu)⟩
theorem PXs.cut {k : Nat} {h : Hd} {st : Sto} {us : List U} {ds : List T} (p : PXs k h st us ds) (lo hi : Option Int) : PXs k h st (BD us lo hi) (oS ds lo hi) := by
 unfold BD oS
 rw [p.1.length]
 exact p.sub (.take _ (.drop _ p.1)) fun u hu => List.mem_of_mem_drop (List.mem_of_mem_take hu)
theorem PXs.nil {k : Nat} {h : Hd} {st : Sto} : PXs k h st [] [] := ⟨.nil, fun _ z => nomatch z⟩
theorem PXs.cons {k : Nat} {h : Hd} {st : Sto} {u : U} {d : T} {us : List U} {ds : List T} (p : PX k h st u d) (q : PXs k h st us ds) : PXs k h st (u :: us) (d :: ds) :=
 ⟨.cons p.1 q.1, fun v hv => by
   rcases List.mem_cons.mp hv with rfl | hv
   · exact p.2
   · exact q.2 v hv⟩
theorem E2 {k : Nat} {h : Hd} {st : Sto} {us : List U} {ds : List T} (w : Wf h st) (p : PXs 0 h st us ds) : Gd h st (PX k) (.ok (.tup us) st) (.ok (.tup ds)) :=
 .ok w (.of (.tup p.1) (Av.tup.mpr fun u hu => (p.2 u hu).zero))
theorem zw {st : Sto} {x y : U} {us vs : List U} (c1 : (∃ l fz, x = .loc l ∧ st[l]? = some (fz, us)) ∨ x = .kl us) (c2 : (∃ l fz, y = .loc l ∧ st[l]? = some (fz, vs)) ∨ y = .kl vs) :
   ev2 .add x y st = if us.length + vs.length < ai then new st (us ++ vs) else .bad := by
 rcases c1 with ⟨l, fz, rfl, f1⟩ | rfl <;> rcases c2 with ⟨k, fz2, rfl, f2⟩ | rfl <;> simp only [ev2.eq_def, *]
theorem EV {h : Hd} {st : Sto} {x y : U} {a d : T} (w : Wf h st) (p : PX 1 h st x a) (q : PX 1 h st y d) (o : Op2) : Gd h st (PX 0) (ev2 o x y st) (z2 o a d) := by
 cases a with
 | int i =>
   have := p.1.int_inv; subst this
   cases d with
   | int j =>
     have := q.1.int_inv; subst this
     cases o <;> simp only [ev2.eq_def, z2.eq_def] <;> (try split) <;> first | exact .ok w (.of .int .int) | trivial
   | _ => cases o <;> trivial
 | str x1 =>
   cases p.1
   cases d with
   | str y1 =>
     cases q.1
     cases o <;> simp only [ev2.eq_def, z2.eq_def] <;> (try split) <;> first | exact .ok w (.of .str .str) | trivial
   | _ => cases o <;> trivial
 | tup xs =>
   obtain ⟨us, rfl, p'⟩ := iS (k' := 0) p
   cases d with
   | tup ys =>
     obtain ⟨vs, rfl, q'⟩ := iS (k' := 0) q
     cases o <;> try trivial
     simp only [ev2.eq_def, z2.eq_def]
     have e1 := p'.1.length
     have e2 := q'.1.length
     have e3 : us ≠ [] ↔ xs ≠ [] := by
       rw [← List.length_pos_iff, ← List.length_pos_iff, e1]
     by_cases hc : xs ≠ [] ∧ xs.length + ys.length < ai
     · rw [if_pos hc, if_pos ⟨e3.mpr hc.1, by omega⟩]
       exact E2 w (p'.append q')
     · rw [if_neg hc]; trivial
   | _ => cases o <;> trivial
 | lst xs =>
   cases d with
   | lst ys =>
     obtain ⟨us, c1, r1⟩ := iV w p
     obtain ⟨vs, c2, r2⟩ := iV w q
     cases o <;> try trivial
     have e1 := r1.1.length
     have e2 := r2.1.length
     rw [zw c1 c2]
     simp only [z2.eq_def]
     rw [← e1, ← e2]
     split
     · exact lq w (r1.append r2)
     · trivial
   | _ => cases o <;> trivial
 | _ => cases o <;> trivial
theorem DT {k : Nat} {h : Hd} {st : Sto} {x y : U} {a d : T} (w : Wf h st) (p : PX (k + 1) h st x a) (q : PX 2 h st y d) : Gd h st (PX k) (evI x y st) (zI a d) := by
 cases d with
 | int i =>
   have := q.1.int_inv; subst this
   cases a with
   | lst xs =>
     obtain ⟨us, _, e2, p'⟩ := mS w p
     simp only [zI.eq_def, evI.eq_def, e2]
     cases e : atI xs i with
     | some d' =>
       obtain ⟨u, e3, r⟩ := AZ p' e
       rw [e3]; exact .ok w (r.mono (Nat.le_of_eq (Nat.add_sub_cancel k 1)))
     | none => trivial
   | tup xs =>
     obtain ⟨us, rfl, p'⟩ := iS (k' := 0) p
     simp only [zI.eq_def, evI.eq_def, seq?]
     cases e : atI xs i with
     | some d' =>
       obtain ⟨u, e3, r⟩ := AZ p' e
       rw [e3]; exact .ok w r.weak
     | none => trivial
   | _ => trivial
 | _ => cases a <;> trivial
theorem zk {st : Sto} : ∀ {us : List U} {ds : List T} {b : Bool}, aM st us ds → tL ds = some b → allB us = some b
 | _, _, _, .nil, e => e
 | _, _, b, .cons h r, e => by
   cases h <;> first | (simp [tL] at e; done) | skip
   simp only [tL, Option.map_eq_some_iff] at e
   obtain ⟨c, e1, e2⟩ := e
   simp only [allB, zk r e1, Option.map_some, e2]
theorem ints_rep {st : Sto} : ∀ {us : List U} {ds : List T} {b : List Int}, aM st us ds → rz ds = some b → pY us = some b
 | _, _, _, .nil, e => e
 | _, _, b, .cons h r, e => by
   cases h <;> first | (simp [rz] at e; done) | skip
   simp only [rz, Option.map_eq_some_iff] at e
   obtain ⟨c, e1, e2⟩ := e
   simp only [pY, ints_rep r e1, Option.map_some, e2]
theorem JZ {st : Sto} : ∀ {us : List U} {ds : List T}, aM st us ds → aM st us.reverse ds.reverse
 | _, _, .nil => .nil
 | _, _, .cons h r => by rw [List.reverse_cons, List.reverse_cons]; exact (JZ r).append (.cons h .nil)
noncomputable def biK : Bi → Nat
 | .len => 2
 | _ => 1
theorem D1 {h : Hd} {st : Sto} {us : List U} {ds : List T} (w : Wf h st) (o : Bi) (p : PXs (biK o) h st us ds) : Gd h st (PX 0) (evB o us st) (zB o ds) := by
 match ds, p with
 | [], _ => cases o <;> trivial
 | [a], ⟨.cons r .nil, hp⟩ =>
   rename_i x
   have px : PX (biK o) h st x a := ⟨r, hp x (List.mem_singleton_self x)⟩
   cases a with
   | int i =>
     have := r.int_inv; subst this
     cases o <;> first | trivial | exact .ok w (.of .int .int)
   | bl c =>
     have := r.jI; subst this
     cases o <;> first | trivial | exact .ok w (.of .int .int)
   | lst xs =>
     obtain ⟨vs, e1, e2, p'⟩ := mS w px
     cases o <;> try trivial
     · simp only [evB.eq_def, zB.eq_def, e2, p'.1.length]; exact .ok w (.of .int .int)
     · simp only [evB.eq_def, zB.eq_def, e1]
       cases z : rz xs with
       | none => trivial
       | some ns =>
         rw [ints_rep p'.1 z]
         cases ns with
         | nil => trivial
         | cons a as => exact .ok w (.of .int .int)
     · simp only [evB.eq_def, zB.eq_def, e2]; exact lq w p'
     · simp only [evB.eq_def, zB.eq_def, e2]; exact E2 w p'
     · simp only [evB.eq_def, zB.eq_def, e1]
       cases z : tL xs with
       | none => trivial
       | some c => rw [zk p'.1 z]; exact .ok w (.of .bl .bl)
     · simp only [evB.eq_def, zB.eq_def, e1]; exact lq w ⟨JZ p'.1, fun x hx => p'.2 x (List.mem_reverse.mp hx)⟩
   | tup xs =>
     obtain ⟨vs, rfl, p'⟩ := iS (k' := 0) px
     cases o <;> try trivial
     · simp only [evB.eq_def, zB.eq_def, seq?, p'.1.length]; exact .ok w (.of .int .int)
     · simp only [evB.eq_def, zB.eq_def, seq?]; exact lq w p'
     · simp only [evB.eq_def, zB.eq_def, seq?]; exact E2 w p'
   | _ => cases o <;> trivial
 | [a, d], ⟨.cons r (.cons r2 .nil), hp⟩ =>
   cases a with
   | int i =>
     have := r.int_inv; subst this
     cases d with
     | int j =>
       have := r2.int_inv; subst this
       cases o <;> first | trivial | exact .ok w (.of .int .int)
     | _ => cases o <;> trivial
   | _ => cases o <;> trivial
 | a :: b :: c :: r, _ =>
   have : zB o (a :: b :: c :: r) = .bad := by cases o <;> cases a <;> first | rfl | (cases b <;> rfl)
   rw [this]; trivial
theorem B7 {st : Sto} {u : U} {d : T} (r : Rep st u d) (t : Ty) : AA t u = iX t d := by cases r <;> cases t <;> rfl
theorem Fz {st : Sto} {u : U} {d : T} (r : Rep st u d) (t : Bool) : Al t u = JW t d := by cases r <;> rfl
theorem EJ {st : Sto} {u : U} {d : T} (r : Rep st u d) : Aa u = JR d := by cases r <;> rfl
theorem ph {st : Sto} {u : U} {d : T} (r : Rep st u d) (e : E) {o : Option Int} (h : mi e d = some o) : xY e u = some o := by
 cases r <;> cases e <;> first | exact h | (cases h; done)
noncomputable def SqR (h : Hd) (st : Sto) : Sq → List T → Prop
 | .vals us, xs => PXs 0 h st us xs
 | .lst l, xs => ¬ h.g l ∧ ∃ fz us, st[l]? = some (fz, us) ∧ aM st us xs
 | .enu l, ys => ¬ h.g l ∧ ∃ fz us xs, st[l]? = some (fz, us) ∧ aM st us xs ∧ ys = jH 0 xs
 | .zip p q, zs => ∃ xs ys, SqR h st p xs ∧ SqR h st q ys ∧ zs = kD xs ys
noncomputable def SqN (h : Hd) : Sq → Prop
 | .lst l => ¬ h.h l
 | .enu l => ¬ h.h l
 | .vals _ => True
 | .zip p q => SqN h p ∧ SqN h q
noncomputable def BZ : Option T → Option T → Option T
 | some x, some y => some (.tup [x, y])
 | _, _ => none
theorem vV : ∀ (xs ys : List T) (i : Nat), (kD xs ys)[i]? = BZ xs[i]? ys[i]?
 | [], ys, i => by simp [kD, BZ]
 | x :: xs, [], i => by
   simp only [kD, List.getElem?_nil]
   cases (x :: xs)[i]? <;> rfl
 | x :: xs, y :: ys, 0 => by simp [kD, BZ]
 | x :: xs, y :: ys, i + 1 => by simp only [kD, List.getElem?_cons_succ, vV xs ys i]
theorem om : ∀ (xs ys : List T), (kD xs ys).length = min xs.length ys.length
 | [], ys => by simp [kD]
 | x :: xs, [] => by simp [kD]
 | x :: xs, y :: ys => by simp only [kD, List.length_cons, om xs ys]; omega
theorem ux : ∀ (xs : List T) (k i : Nat), (jH k xs)[i]? = (xs[i]?).map fun x => .tup [.int ((k + i : Nat) : Int), x]
 | [], _, _ => by simp [jH]
 | x :: xs, k, 0 => by simp [jH]
 | x :: xs, k, i + 1 => by
   simp only [jH, List.getElem?_cons_succ]
   rw [ux xs (k + 1) i, show k + 1 + i = k + (i + 1) by omega]
theorem oI : ∀ (xs : List T) (k : Nat), (jH k xs).length = xs.length
 | [], _ => rfl
 | x :: xs, k => by simp [jH, oI xs]
theorem aM.get' {st : Sto} {us : List U} {ds : List T} (r : aM st us ds) (i : Nat) : (∃ u d, us[i]? = some u ∧ ds[i]? = some d ∧ Rep st u d) ∨ (us[i]? = none ∧ ds[i]? = none) := by
 cases e : ds[i]? with
 | some d => obtain ⟨u, h1, h2⟩ := r.get e; exact .inl ⟨u, d, h1, rfl, h2⟩
 | none => exact .inr ⟨by rw [List.getElem?_eq_none_iff, r.length]; exact List.getElem?_eq_none_iff.mp e, rfl⟩
theorem SqR.at {h : Hd} {st : Sto} {q : Sq} {xs : List T} (s : SqR h st q xs) (w : Wf h st) (i : Nat) : (xs[i]? = none ∧ q.at st i = some none) ∨ ∃ x u, xs[i]? = some x ∧ q.at st i = some (some u) ∧ PX 0 h st u x := by
 induction q generalizing xs with
 | vals us =>
   rcases s.1.get' i with ⟨u, d, h1, h2, h3⟩ | ⟨h1, h2⟩
   · exact .inr ⟨d, u, h2, by simp only [Sq.at, h1], h3, s.2 u (List.mem_of_getElem? h1)⟩
   · exact .inl ⟨h2, by simp only [Sq.at, h1]⟩
 | lst l =>
   obtain ⟨ng, fz, us, e, r⟩ := s
   rcases r.get' i with ⟨u, d, h1, h2, h3⟩ | ⟨h1, h2⟩
   · exact .inr ⟨d, u, h2, by simp only [Sq.at, e, Option.map_some, h1], .of h3 (w.av _ _ _ ng e u (List.mem_of_getElem? h1))⟩
   · exact .inl ⟨h2, by simp only [Sq.at, e, Option.map_some, h1]⟩
 | enu l =>
   obtain ⟨ng, fz, us, ys, e, r, rfl⟩ := s
   rw [ux, Nat.zero_add]
   rcases r.get' i with ⟨u, d, h1, h2, h3⟩ | ⟨h1, h2⟩
   · refine .inr ⟨_, .tup [.int (i : Nat), u], by rw [h2]; rfl, by simp only [Sq.at, e, Option.map_some, h1], .of (.tup (.cons .int (.cons h3 .nil))) ?_⟩
     refine Av.tup.mpr fun v hv => ?_
     simp only [List.mem_cons, List.not_mem_nil, or_false] at hv
     rcases hv with rfl | rfl
     · exact .int
     · exact w.av _ _ _ ng e _ (List.mem_of_getElem? h1)
   · exact .inl ⟨by rw [h2]; rfl, by simp only [Sq.at, e, Option.map_some, h1, Option.map_none]⟩
 | zip p q ihp ihq =>
   obtain ⟨as, bs, s1, s2, rfl⟩ := s
   rw [vV]
   rcases ihp s1 with ⟨a1, a2⟩ | ⟨x, u, a1, a2, a3⟩
   · rcases ihq s2 with ⟨b1, b2⟩ | ⟨y, v, b1, b2, b3⟩
     · exact .inl ⟨by rw [a1]; rfl, by simp only [Sq.at, a2, b2, Option.bind_some, Option.map_some]; rfl⟩
     · exact .inl ⟨by rw [a1]; rfl, by simp only [Sq.at, a2, b2, Option.bind_some, Option.map_some]; rfl⟩
   · rcases ihq s2 with ⟨b1, b2⟩ | ⟨y, v, b1, b2, b3⟩
     · exact .inl ⟨by rw [a1, b1]; rfl, by simp only [Sq.at, a2, b2, Option.bind_some, Option.map_some]; rfl⟩
     · refine .inr ⟨.tup [x, y], .tup [u, v], by rw [a1, b1]; rfl, by simp only [Sq.at, a2, b2, Option.bind_some, Option.map_some]; rfl, .of (.tup (.cons a3.1 (.cons b3.1 .nil))) ?_⟩
       refine Av.tup.mpr fun w hw => ?_
       simp only [List.mem_cons, List.not_mem_nil, or_false] at hw
       rcases hw with rfl | rfl
       · exact a3.2.zero
       · exact b3.2.zero
theorem SqR.len {h : Hd} {st : Sto} {q : Sq} {xs : List T} (s : SqR h st q xs) : q.len st = xs.length := by
 induction q generalizing xs with
 | vals us => exact s.1.length
 | lst l =>
   obtain ⟨ng, fz, us, e, r⟩ := s
   simp only [Sq.len, e, Option.map_some, Option.getD_some, r.length]
 | enu l =>
   obtain ⟨ng, fz, us, ys, e, r, rfl⟩ := s
   simp only [Sq.len, e, Option.map_some, Option.getD_some, r.length, oI]
 | zip p q ihp ihq =>
   obtain ⟨as, bs, s1, s2, rfl⟩ := s
   simp only [Sq.len, ihp s1, ihq s2, om]
theorem SqR.gr {h h' : Hd} {st st' : Sto} {q : Sq} {xs : List T} (s : SqR h st q xs) (g : Gr h st h' st') : SqR h' st' q xs := by
 induction q generalizing xs with
 | vals us => exact PXs.gr s g
 | lst l =>
   obtain ⟨ng, fz, us, e1, r⟩ := s
   exact ⟨fun z => ng (g.gn l (List.getElem?_eq_some_iff.mp e1).1 z), fz, us, gF g.pre _ _ e1, r.ext g.pre⟩
 | enu l =>
   obtain ⟨ng, fz, us, ys, e1, r, rfl⟩ := s
   exact ⟨fun z => ng (g.gn l (List.getElem?_eq_some_iff.mp e1).1 z), fz, us, ys, gF g.pre _ _ e1, r.ext g.pre, rfl⟩
 | zip p q ihp ihq =>
   obtain ⟨as, bs, s1, s2, rfl⟩ := s
   exact ⟨as, bs, ihp s1, ihq s2, rfl⟩
noncomputable def PO (h : Hd) (st : Sto) : Option U → Option T → Prop
 | some u, some d => PX 0 h st u d
 | none, none => True
 | _, _ => False
theorem PO.gr {h h' : Hd} {st st' : Sto} {o : Option U} {p : Option T} (s : PO h st o p) (g : Gr h st h' st') : PO h' st' o p := by
 cases o <;> cases p <;> first | exact s | exact PX.gr s g
theorem sj {R : Hd → Sto → Option U → Option T → Prop} {Q : Hd → Sto → List U → List T → Prop} {f : U → Sto → Rs (Option U)} {g : T → Ou (Option T)} {q : Sq} {xs : List T} {st0 : Sto} {h0 : Hd}
   (hf : ∀ u x st' h', Gr h0 st0 h' st' → PX 0 h' st' u x → Gd h' st' R (f u st') (g x))
   (hn : ∀ h st, Q h st [] []) (hc : ∀ h st h' st' h2 st2 o o' ys ys', Gr h st h' st' → Gr h' st' h2 st2 → R h' st' o o' → Q h2 st2 ys ys' → (st' = st' → True) → Q h2 st2 (match o with | some y => y :: ys | none => ys) (match o' with | some y => y :: ys' | none => ys')) :
   ∀ (n i : Nat) (st : Sto) (h : Hd), Gr h0 st0 h st → SqR h st q xs → i ≤ xs.length → i + n = xs.length + 1 → Gd h st Q (lL f q n i st) (gN g (xs.drop i))
 | 0, i, st, h, _, _, hi, e => by omega
 | n + 1, i, st, h, p, s, hi, e => by
   rw [lL]
   rcases s.at p.wf i with ⟨e1, e2⟩ | ⟨x, u, e1, e2, px⟩
   · rw [e2]
     dsimp only
     rw [List.drop_eq_nil_of_le (List.getElem?_eq_none_iff.mp e1), gN]
     exact .ok p.wf (hn _ _)
   · rw [e2]
     dsimp only
     have hl := (List.getElem?_eq_some_iff.mp e1).1
     have e3 : xs.drop i = x :: xs.drop (i + 1) := by
       rw [List.drop_eq_getElem_cons hl]
       rw [(List.getElem?_eq_some_iff.mp e1).2]
     rw [e3, gN]
     refine (hf u x st h p px).bind fun o o' st1 h1 g1 ho => ?_
     refine (sj hf hn hc n (i + 1) st1 h1 (p.trans g1) (s.gr g1) hl (by omega)).bind fun ys ys' st2 h2 g2 hy => ?_
     exact .ok g2.wf (hc _ _ _ _ _ _ _ _ _ _ g1 g2 ho hy fun _ => trivial)
theorem rK {f : U → Sto → Rs (Option U)} {g : T → Ou (Option T)} {q : Sq} {xs : List T} {st0 : Sto} {h0 : Hd}
   (hf : ∀ u x st' h', Gr h0 st0 h' st' → PX 0 h' st' u x → Gd h' st' PO (f u st') (g x)) (w : Wf h0 st0) (s : SqR h0 st0 q xs) : Gd h0 st0 (PXs 0) (lL f q (xs.length + 1) 0 st0) (gN g xs) := by
 have := sj (R := PO) (Q := PXs 0) hf (fun _ _ => .nil) (fun h st h' st' h2 st2 o o' ys ys' g1 g2 ho hy _ => by
   have ho2 := ho.gr g2
   cases o <;> cases o' <;> first | exact ho2.elim | exact hy | exact .cons ho2 hy) (xs.length + 1) 0 st0 h0 (.refl w) s (Nat.zero_le _) (Nat.zero_add _)
 rwa [List.drop_zero] at this
end Sv
namespace Sv
open PySem PySem.Spec L2
open Ev (D aR aY ai)
structure Ent (h : Hd) (st : Sto) (l : Nat) (cs : List Nat) (lv : Nat) : Prop where
 hl : h.h l
 one : lv = 1 → ¬ h.g l ∧ cs = [] ∧ ∃ us, st[l]? = some (false, us)
 two : lv ≠ 1 → lv = 2 ∧ h.g l ∧ st[l]? = some (false, cs.map .loc) ∧ ∀ c ∈ cs, h.h c ∧ ¬ h.g c ∧ ∃ ws, st[c]? = some (false, ws)
 nd : (l :: cs).Nodup
noncomputable def FrR (lv : Nat) (st : Sto) (h' : Hd) (st' : Sto) (u : U) (d : T) : Prop :=
 if lv = 0 ∨ isL d = false then PX 0 h' st' u d else Rep st' u d ∧ ∃ l cs, u = .loc l ∧ Ent h' st' l cs lv ∧ ∀ k ∈ l :: cs, st.length ≤ k
noncomputable def Pure (md : Md) (F : List U → Sto → Rs U) (G : List T → Ou T) : Prop :=
 (md.sc = true → ∀ ds d, G ds = .ok d → u5 md.lv d = true) ∧ ∀ h st us ds, Wf h st → PXs 0 h st us ds → Gd h st (FrR md.lv st) (F us st) (G ds)
noncomputable def Hd.less (h : Hd) (X : Nat → Prop) : Hd := ⟨fun k => h.h k ∧ ¬ X k, fun k => h.g k ∧ ¬ X k, fun k z => ⟨h.sub k z.1, z.2⟩⟩
theorem Av.less {h : Hd} {X : Nat → Prop} {n : Nat} {u : U} (a : Av h n u) : Av (h.less X) n u := a.imp fun _ _ z => z.1
theorem Ent.lt {h : Hd} {st : Sto} {l : Nat} {cs : List Nat} {lv : Nat} (e : Ent h st l cs lv) : ∀ k ∈ l :: cs, k < st.length := by
 intro k hk
 by_cases z : lv = 1
 · obtain ⟨_, rfl, us, e1⟩ := e.one z
   rw [List.mem_singleton] at hk
   subst hk
   exact (List.getElem?_eq_some_iff.mp e1).1
 · obtain ⟨_, _, e1, e2⟩ := e.two z
   rcases List.mem_cons.mp hk with rfl | hk
   · exact (List.getElem?_eq_some_iff.mp e1).1
   · obtain ⟨_, _, ws, e3⟩ := e2 k hk
     exact (List.getElem?_eq_some_iff.mp e3).1
theorem Ent.hid {h : Hd} {st : Sto} {l : Nat} {cs : List Nat} {lv : Nat} (e : Ent h st l cs lv) : ∀ k ∈ l :: cs, h.h k := by
 intro k hk
 rcases List.mem_cons.mp hk with rfl | hk
 · exact e.hl
 · by_cases z : lv = 1
   · obtain ⟨_, rfl, _⟩ := e.one z; cases hk
   · obtain ⟨_, _, e1, e2⟩ := e.two z
     exact (e2 k hk).1
theorem Wf.less {h : Hd} {st : Sto} {l : Nat} {cs : List Nat} {lv : Nat} (w : Wf h st) (e : Ent h st l cs lv) : Wf (h.less fun k => k ∈ l :: cs) st ∧ Av (h.less fun k => k ∈ l :: cs) st.length (.loc l) := by
 refine ⟨⟨fun k fz us hk q u hu => ?_, fun k z => w.lt k z.1⟩, .loc (e.lt l (List.mem_cons_self ..)) fun z => z.2 (List.mem_cons_self ..)⟩
 by_cases hg : h.g k
 · have hx : k ∈ l :: cs := Classical.byContradiction fun z => hk ⟨hg, z⟩
   by_cases z : lv = 1
   · obtain ⟨ng, rfl, _⟩ := e.one z
     rw [List.mem_singleton] at hx
     subst hx
     exact absurd hg ng
   · obtain ⟨_, gl, e1, e2⟩ := e.two z
     rcases List.mem_cons.mp hx with rfl | hx
     · rw [e1] at q; cases q
       obtain ⟨c, hc, rfl⟩ := List.mem_map.mp hu
       exact .loc (e.lt c (List.mem_cons_of_mem _ hc)) fun z => z.2 (List.mem_cons_of_mem _ hc)
     · exact absurd hg (e2 k hx).2.1
 · exact (w.av k fz us hg q u hu).less
theorem FrR.out {lv : Nat} {h h' : Hd} {st st' : Sto} {u : U} {d : T} (w : Wf h st) (g : Gr h st h' st') (f : FrR lv st h' st' u d) : ∃ h'', Gr h st h'' st' ∧ PX 0 h'' st' u d := by
 unfold FrR at f
 split at f
 · exact ⟨h', g, f⟩
 · obtain ⟨r, l, cs, rfl, e, n⟩ := f
   obtain ⟨w1, a1⟩ := g.wf.less e
   exact ⟨h'.less fun k => k ∈ l :: cs, ⟨g.pre, fun k z => ⟨g.hm k z, fun q => absurd (w.lt k z) (Nat.not_lt.mpr (n k q))⟩, fun k z => ⟨g.gm k z, fun q => absurd (w.lt k (h.sub k z)) (Nat.not_lt.mpr (n k q))⟩, fun k hk z => g.hn k hk z.1, fun k hk z => g.gn k hk z.1, w1⟩, r, .inl a1⟩
theorem Pure.plain {md : Md} {F : List U → Sto → Rs U} {G : List T → Ou T} (p : Pure md F G) {h : Hd} {st : Sto} {us : List U} {ds : List T} (w : Wf h st) (q : PXs 0 h st us ds) : Gd h st (PX 0) (F us st) (G ds) := by
 have := p.2 h st us ds w q
 cases e : G ds with
 | bad => trivial
 | exc c => rw [e] at this; exact this
 | ok d =>
   rw [e] at this
   obtain ⟨u, st', h', e1, g, f⟩ := this
   obtain ⟨h2, g2, px⟩ := f.out w g
   exact ⟨u, st', h2, e1, g2, px⟩
mutual
theorem si {st : Sto} : ∀ {u : U} {d : T}, Rep st u d → flat d = true → locs u = []
 | _, _, .non, _ => rfl
 | _, _, .bl, _ => rfl
 | _, _, .int, _ => rfl
 | _, _, .str, _ => rfl
 | _, _, .exo, _ => rfl
 | _, _, .tup r, h => by simp only [locs]; exact jM r (by simpa [flat] using h)
 | _, _, .loc _ _, h => by simp [flat] at h
 | _, _, .kl _, h => by simp [flat] at h
theorem jM {st : Sto} : ∀ {us : List U} {ds : List T}, aM st us ds → sr ds = true → j4 us = []
 | _, _, .nil, _ => rfl
 | _, _, .cons h r, e => by
   rw [sr, Bool.and_eq_true] at e
   simp only [j4, si h e.1, jM r e.2, List.append_nil]
end
theorem Pure.B6 {md : Md} {F : List U → Sto → Rs U} {G : List T → Ou T} (p : Pure md F G) (hs : md.sc = true) {h : Hd} {st : Sto} {us : List U} {ds : List T} (w : Wf h st) (q : PXs 2 h st us ds) : Gd h st (FrR md.lv st) (F us st) (G ds) := by
 let X : Nat → Prop := fun k => ∃ u ∈ us, k ∈ locs u ∨ ∃ l fz vs, u = .loc l ∧ st[l]? = some (fz, vs) ∧ U.loc k ∈ vs
 have avl : ∀ u ∈ us, Av (h.less X) st.length u := fun u hu => by
   rcases q.2 u hu with a | ⟨_, l, rfl, hl, _⟩ | ⟨_, l, rfl, d⟩
   · exact a.less
   · exact .loc hl fun z => z.2 ⟨_, hu, .inl (by simp [locs])⟩
   · exact .loc d.lt fun z => z.2 ⟨_, hu, .inl (by simp [locs])⟩
 have w1 : Wf (h.less X) st := by
   refine ⟨fun k fz vs hk e v hv => ?_, fun k z => w.lt k z.1⟩
   by_cases hg : h.g k
   · have hx : X k := Classical.byContradiction fun z => hk ⟨hg, z⟩
     obtain ⟨u, hu, hx⟩ := hx
     rcases q.2 u hu with a | ⟨_, l, rfl, hl, ng⟩ | ⟨_, l, rfl, d⟩
     · rcases hx with hx | ⟨l, fz', vs', rfl, e', hm⟩
       · exact absurd (h.sub k hg) (a k hx).2
       · exact absurd (h.sub k hg) (w.av l fz' vs' (fun z => (a l (by simp [locs])).2 (h.sub l z)) e' _ hm k (by simp [locs])).2
     · rcases hx with hx | ⟨l', fz', vs', z, e', hm⟩
       · have : k = l := by simpa [locs] using hx
         subst this; exact absurd hg ng
       · cases z
         exact absurd (h.sub k hg) (w.av l fz' vs' ng e' _ hm k (by simp [locs])).2
     · obtain ⟨fz2, us2, e2, c2⟩ := d
       rcases hx with hx | ⟨l', fz', vs', z, e', hm⟩
       · have : k = l := by simpa [locs] using hx
         subst this
         rw [e] at e2; cases e2
         obtain ⟨c, rfl, hc, _⟩ := c2 v hv
         exact .loc hc fun z => z.2 ⟨_, hu, .inr ⟨k, fz, vs, rfl, e, hv⟩⟩
       · cases z
         rw [e'] at e2; cases e2
         obtain ⟨c, z, _, ng⟩ := c2 _ hm
         cases z
         exact absurd hg ng
   · exact (w.av k fz vs hg e v hv).less
 have g := p.2 (h.less X) st us ds w1 ⟨q.1, fun u hu => .inl (avl u hu)⟩
 have grow : ∀ {h1 : Hd} {st' : Sto} (S : Nat → Prop), Gr (h.less X) st h1 st' → (∀ k fz vs, S k → st'[k]? = some (fz, vs) → j4 vs = []) → ∃ h2, Gr h st h2 st' ∧ (∀ k, st.length ≤ k → k < st'.length → h2.h k) ∧ ∀ k, st.length ≤ k → k < st'.length → (h2.g k ↔ ¬ S k) := fun {h1 st'} S g hS => by
   refine ⟨⟨fun k => h.h k ∨ (st.length ≤ k ∧ k < st'.length), fun k => h.g k ∨ (st.length ≤ k ∧ k < st'.length ∧ ¬ S k), fun k z => z.imp (h.sub k) fun q => ⟨q.1, q.2.1⟩⟩, ⟨g.pre, fun k z => .inl z, fun k z => .inl z, fun k hk z => z.elim id fun q => absurd hk (Nat.not_lt.mpr q.1), fun k hk z => z.elim id fun q => absurd hk (Nat.not_lt.mpr q.1), ⟨fun k fz vs hk e v hv => ?_, fun k z => z.elim (fun z => Nat.lt_of_lt_of_le (w.lt k z) g.pre.length_le) fun q => q.2⟩⟩, fun k h1 h2 => .inr ⟨h1, h2⟩, fun k h1 h2 => ⟨fun z => z.elim (fun z => absurd (w.lt k (h.sub k z)) (Nat.not_lt.mpr h1)) fun z => z.2.2, fun z => .inr ⟨h1, h2, z⟩⟩⟩
   by_cases kl : k < st.length
   · have ng : ¬ h.g k := fun z => hk (.inl z)
     obtain ⟨r, rfl⟩ := g.pre
     rw [List.getElem?_append_left kl] at e
     exact fun l hl => ⟨Nat.lt_of_lt_of_le (w.av k fz vs ng e v hv l hl).1 (by rw [List.length_append]; exact Nat.le_add_right _ _), fun z => z.elim (w.av k fz vs ng e v hv l hl).2 fun q => absurd (w.av k fz vs ng e v hv l hl).1 (Nat.not_lt.mpr q.1)⟩
   · have hk2 : S k := Classical.byContradiction fun z => hk (.inr ⟨Nat.not_lt.mp kl, (List.getElem?_eq_some_iff.mp e).1, z⟩)
     have hv0 := hS k fz vs hk2 e
     exact fun l hl => by
       have : l ∈ j4 vs := gi.mpr ⟨v, hv, hl⟩
       rw [hv0] at this; cases this
 cases e : G ds with
 | bad => trivial
 | exc c =>
   rw [e] at g
   obtain ⟨st', h1, e1, g1⟩ := g
   obtain ⟨h2, g2, _⟩ := grow (fun _ => False) g1 (fun _ _ _ z => z.elim)
   exact ⟨st', h2, e1, g2⟩
 | ok d =>
   rw [e] at g
   have fl := p.1 hs ds d e
   obtain ⟨u, st', h1, e1, g1, f⟩ := g
   unfold FrR at f
   split at f
   · rename_i hc
     obtain ⟨h2, g2, _⟩ := grow (fun _ => False) g1 (fun _ _ _ z => z.elim)
     have fd : flat d = true := by
       cases d with
       | lst xs =>
         rcases hc with hc | hc
         · rw [hc] at fl; simp [u5] at fl
         · simp [isL] at hc
       | _ => exact fl
     refine ⟨u, st', h2, e1, g2, ?_⟩
     unfold FrR
     rw [if_pos hc]
     refine ⟨f.1, .inl fun l hl => ?_⟩
     rw [si f.1 fd] at hl
     cases hl
   · rename_i hc
     obtain ⟨r, l, cs, rfl, en, nl⟩ := f
     cases r with
     | loc e2 r2 =>
       rename_i fz' us' ds'
       simp only [u5] at fl
       by_cases z1 : md.lv = 1
       · rw [if_pos z1] at fl
         obtain ⟨h2, g2, a2, b2⟩ := grow (fun k => k = l) g1 (fun k fz vs z q => by
           subst z; rw [e2] at q; cases q; exact jM r2 fl)
         have lt := en.lt l (List.mem_cons_self ..)
         have ge := nl l (List.mem_cons_self ..)
         obtain ⟨_, c0, us0, e0⟩ := en.one z1
         refine ⟨.loc l, st', h2, e1, g2, ?_⟩
         unfold FrR
         rw [if_neg hc]
         exact ⟨.loc e2 r2, l, cs, rfl, ⟨a2 l ge lt, fun _ => ⟨fun z => (b2 l ge lt).mp z rfl, c0, us0, e0⟩, fun z => absurd z1 z, en.nd⟩, nl⟩
       · obtain ⟨z2, _, e3, e4⟩ := en.two z1
         rw [if_neg z1, if_pos z2] at fl
         rw [e2] at e3; cases e3
         have key : ∀ c ∈ cs, ∀ fz vs, st'[c]? = some (fz, vs) → j4 vs = [] := fun c hc' fz vs q => by
           obtain ⟨i, hi, hi'⟩ := List.getElem_of_mem hc'
           have hl : i < ds'.length := by rw [← r2.length, List.length_map]; exact hi
           obtain ⟨u, hu, ru⟩ := r2.get (List.getElem?_eq_getElem hl)
           rw [List.getElem?_map, List.getElem?_eq_getElem hi, Option.map_some] at hu
           cases hu
           have fx := List.all_eq_true.mp fl _ (List.getElem_mem hl)
           rw [hi'] at ru
           generalize ds'[i] = x at ru fx
           cases ru with
           | loc e5 r5 =>
             rw [e5] at q; cases q
             exact jM r5 (by simpa only [FL] using fx)
         obtain ⟨h2, g2, a2, b2⟩ := grow (fun k => k ∈ cs) g1 (fun k fz vs z q => key k z fz vs q)
         have lt := en.lt
         refine ⟨.loc l, st', h2, e1, g2, ?_⟩
         unfold FrR
         rw [if_neg hc]
         refine ⟨.loc e2 r2, l, cs, rfl, ⟨a2 l (nl l (List.mem_cons_self ..)) (lt l (List.mem_cons_self ..)), fun z => absurd z z1, fun _ => ⟨z2, (b2 l (nl l (List.mem_cons_self ..)) (lt l (List.mem_cons_self ..))).mpr (List.nodup_cons.mp en.nd).1, e2, fun c hc' => ?_⟩, en.nd⟩, nl⟩
         have h1c := nl c (List.mem_cons_of_mem _ hc')
         have h2c := lt c (List.mem_cons_of_mem _ hc')
         exact ⟨a2 c h1c h2c, fun z => (b2 c h1c h2c).mp z hc', (e4 c hc').2.2⟩
theorem Pure.LJ {md : Md} {F : List U → Sto → Rs U} {G : List T → Ou T} (p : Pure md F G) (hs : md.sc = true) {h : Hd} {st : Sto} {us : List U} {ds : List T} (w : Wf h st) (q : PXs 2 h st us ds) : Gd h st (PX 0) (F us st) (G ds) := by
 have := p.B6 hs w q
 cases e : G ds with
 | bad => trivial
 | exc c => rw [e] at this; exact this
 | ok d =>
   rw [e] at this
   obtain ⟨u, st', h', e1, g, f⟩ := this
   obtain ⟨h2, g2, px⟩ := f.out w g
   exact ⟨u, st', h2, e1, g2, px⟩
theorem WE.set {h : Hd} {st : Sto} {ρ : Env} {τ : aD} {own : Own} (w : WE h st ρ τ own) {u : U} {d : T} (p : PX 0 h st u d) (i : Nat) : WE h st (ρ.set i (some u)) (τ.set i (some d)) own := by
 refine ⟨by rw [List.length_set, List.length_set]; exact w.len, fun j e q => ?_⟩
 by_cases z : i = j
 · subst z
   by_cases hl : i < τ.length
   · rw [List.getElem?_set_self hl] at q
     cases q
     exact ⟨u, List.getElem?_set_self (by rw [w.len]; exact hl), p.1, .inl p.av⟩
   · rw [List.getElem?_eq_none (by rw [List.length_set]; omega)] at q; cases q
 · rw [List.getElem?_set_ne z] at q
   rw [List.getElem?_set_ne z]
   exact w.val j e q
theorem uV {h : Hd} {st : Sto} {own : Own} : ∀ {is : List Nat} {us : List U} {ds : List T} {ρ : Env} {τ τ' : aD}, WE h st ρ τ own → PXs 0 h st us ds → kX is ds τ = some τ' → ∃ ρ', lr is us ρ = some ρ' ∧ WE h st ρ' τ' own
 | [], _, _, ρ, τ, τ', w, ⟨.nil, _⟩, e => by cases e; exact ⟨ρ, rfl, w⟩
 | [], _, _, ρ, τ, τ', w, ⟨.cons _ _, _⟩, e => by cases e
 | i :: is, _, _, ρ, τ, τ', w, ⟨.nil, _⟩, e => by cases e
 | i :: is, _, _, ρ, τ, τ', w, ⟨.cons (u := u) (d := d) r rs, a⟩, e => by
   rw [kX] at e
   rw [lr]
   exact uV (w.set ⟨r, a u (List.mem_cons_self ..)⟩ i) ⟨rs, fun v hv => a v (List.mem_cons_of_mem _ hv)⟩ e
theorem ve {h : Hd} {st : Sto} {own : Own} {t : Tg} {u : U} {d : T} {ρ : Env} {τ τ' : aD} (w : WE h st ρ τ own) (p : PX 0 h st u d) (e : aA t d τ = some τ') : ∃ ρ', iD t u ρ = some ρ' ∧ WE h st ρ' τ' own := by
 cases t with
 | nm i => cases e; exact ⟨_, rfl, w.set p i⟩
 | tp is =>
   cases d with
   | tup ds =>
     obtain ⟨us, rfl, p'⟩ := iS (k' := 0) p
     exact uV w p' e
   | _ => cases e
theorem WE.cap {h : Hd} {st : Sto} {ρ : Env} {τ : aD} {own : Own} (w : WE h st ρ τ own) {caps : List (Option Nat)} (hc : ∀ i lv, (i, lv) ∈ own → some i ∉ caps) : WE h st (kL ρ caps ++ [none]) (gH τ caps ++ [none]) [] := by
 refine ⟨by simp [kL, gH], fun i d e => ?_⟩
 by_cases hi : i < caps.length
 · rw [List.getElem?_append_left (by simp [gH]; exact hi)] at e
   unfold gH at e
   rw [List.getElem?_map] at e
   have hg : caps[i]? = some caps[i] := List.getElem?_eq_getElem hi
   rw [hg] at e
   simp only [Option.map_some, Option.some.injEq] at e
   obtain ⟨j, e1, e2⟩ := Option.bind_eq_some_iff.mp e
   have e3 : τ[j]? = some (some d) := by
     cases z : τ[j]? with
     | none => rw [z] at e2; cases e2
     | some o => rw [z] at e2; exact congrArg some e2
   obtain ⟨u, h1, h2, h3⟩ := w.val j d e3
   refine ⟨u, ?_, h2, ?_⟩
   · rw [List.getElem?_append_left (by simp [kL]; exact hi)]
     unfold kL
     rw [List.getElem?_map, hg, e1]
     simp [h1]
   · rcases h3 with h3 | ⟨lv, h3, _⟩
     · exact .inl h3
     · exact absurd (by rw [← e1]; exact List.getElem_mem hi) (hc j lv h3)
 · rw [List.getElem?_append_right (by simp [gH]; omega)] at e
   have := List.mem_of_getElem? e
   simp at this
theorem IU {k : Nat} {h : Hd} {st : Sto} {l : Nat} {d : T} (hk : k ≤ 1) (p : PX k h st (.loc l) d) : ¬ h.g l := by
 rcases p.2 with a | ⟨_, k, z, _, ng⟩ | ⟨z, _⟩
 · exact fun q => (a l (by simp [locs])).2 (h.sub l q)
 · cases z; exact ng
 · omega
theorem bz {a b : Bool} (h : (a || b) = false) : a = false ∧ b = false := by cases a <;> cases b <;> simp_all
theorem sf {k : Nat} {h : Hd} {st : Sto} (lo : Int) (n : Nat) : PXs k h st (la lo n) (rangeT lo n) := by
 unfold la rangeT
 induction List.range n with
 | nil => exact .nil
 | cons k ks ih => exact .cons (.of .int .int) ih
theorem yL {k : Nat} {h : Hd} {st : Sto} {u : U} {xs : List T} (hk : k ≤ 1) (w : Wf h st) (hx : PX k h st u (.lst xs)) : ∃ p, src st u = some p ∧ (k = 0 → SqN h p) ∧ SqR h st p xs := by
 obtain ⟨us, ⟨l, fz, rfl, e1⟩ | rfl, r⟩ := iV w hx
 · refine ⟨.lst l, ?_, fun hb => ?_, IU hk hx, fz, us, e1, r.1⟩
   · simp only [src]
     rw [if_pos (List.getElem?_eq_some_iff.mp e1).1]
   · subst hb
     exact (hx.av l (by simp [locs])).2
 · exact ⟨.vals us, rfl, fun _ => trivial, r.mono (by omega)⟩
theorem yA {h : Hd} {st : Sto} : ∀ (k : Nat) {us : List U} {ds : List T}, PXs 0 h st us ds → PXs 0 h st (uY k us) (jH k ds)
 | _, _, _, ⟨.nil, _⟩ => .nil
 | k, _, _, ⟨.cons (u := u) (us := us) r rs, a⟩ => by
   have ih := yA (k + 1) (us := us) ⟨rs, fun v hv => a v (List.mem_cons_of_mem _ hv)⟩
   refine .cons (.of (.tup (.cons .int (.cons r .nil))) (Av.tup.mpr fun w hw => ?_)) ih
   simp only [List.mem_cons, List.not_mem_nil, or_false] at hw
   rcases hw with rfl | rfl
   · exact .int
   · exact (a _ (List.mem_cons_self ..)).zero
theorem Dh {k : Nat} {h : Hd} {st : Sto} {o : Option Bool} {p : Option Bool} (w : Wf h st) (e : ∀ r, p = some r → o = some r) : Gd h st (PX k) (ofO o st) (ofB p) := by
 cases p with
 | none => trivial
 | some r => rw [e r rfl]; exact .ok w (.of .bl .bl)
section
variable {Φ : Fn} {Ψ : FnT} {μ : Nat → Md} (HP : ∀ f, Pure (μ f) (Φ f) (Ψ f))
theorem uB {h : Hd} {st : Sto} {ρ : Env} {τ : aD} {t : Tg} {ifs : List E} {elt : E} (w : WE h st ρ τ [])
   (hi : ∀ {h st ρ τ}, WE h st ρ τ [] → Wf h st → Gd h st (fun _ _ a b => a = b) (xIf Φ ifs ρ st) (yIf Ψ ifs τ)) (he : ∀ {h st ρ τ}, WE h st ρ τ [] → Wf h st → Gd h st (PX 0) (xE Φ elt ρ st) (yE Ψ elt τ)) :
   ∀ u x st' h', Gr h st h' st' → PX 0 h' st' u x → Gd h' st' PO
     (match iD t u ρ with
         | none => .bad
         | some ρ1 => (xIf Φ ifs ρ1 st').bind fun b st2 => if b then (xE Φ elt ρ1 st2).bind fun y st3 => .ok (some y) st3 else .ok none st2)
     (match aA t x τ with
         | none => .bad
         | some τ1 => (yIf Ψ ifs τ1).bind fun b => if b then (yE Ψ elt τ1).bind fun y => .ok (some y) else .ok none) := by
 intro u x st' h' g px
 cases z : aA t x τ with
 | none => trivial
 | some τ1 =>
   obtain ⟨ρ1, e1, w1⟩ := ve (w.gr g) px z
   rw [e1]
   dsimp only
   refine (hi w1 g.wf).bind fun b b' st2 h2 g2 hb => ?_
   have hb : b = b' := hb
   subst hb
   cases b with
   | true =>
     simp only [if_true]
     exact (he (w1.gr g2) g2.wf).bind fun y y' st3 h3 g3 hy => .ok g3.wf hy
   | false => exact .ok g2.wf trivial
include HP
mutual
theorem gE : ∀ (e : E) (k : Nat) {h : Hd} {ρ : Env} {τ : aD} {own : Own} {st : Sto}, WE h st ρ τ own → Wf h st → (∀ i lv, (i, lv) ∈ own → gts μ i lv k e = false) → Gd h st (PX k) (xE Φ e ρ st) (yE Ψ e τ)
 | .var i, k, h, ρ, τ, own, st, w, wf, hg => by
   simp only [xE, yE, ax, t8]
   cases z : τ[i]? with
   | none => trivial
   | some o =>
     cases o with
     | none => trivial
     | some d =>
       obtain ⟨u, e1, e2, e3⟩ := w.val i d z
       rw [e1]
       refine .ok wf ⟨e2, ?_⟩
       rcases e3 with e3 | ⟨lv, h1, h2⟩
       · exact .inl e3
       · have := hg i lv h1
         simp only [gts, BEq.rfl, Bool.and_true, decide_eq_false_iff_not] at this
         exact h2.mono (by omega)
 | .cN, _, _, _, _, _, _, _, wf, _ => .ok wf (.of .non .non)
 | .cB _, _, _, _, _, _, _, _, wf, _ => .ok wf (.of .bl .bl)
 | .cI _, _, _, _, _, _, _, _, wf, _ => .ok wf (.of .int .int)
 | .cS _, _, _, _, _, _, _, _, wf, _ => .ok wf (.of .str .str)
 | .op o a c, k, h, ρ, τ, own, st, w, wf, hg => by
   simp only [xE, yE]
   refine (gE a 1 w wf fun i lv hi => (bz (by simpa only [gts] using hg i lv hi)).1).bind fun x x' st1 h1 g1 hx => ?_
   refine (gE c 1 (w.gr g1) g1.wf fun i lv hi => (bz (by simpa only [gts] using hg i lv hi)).2).bind fun y y' st2 h2 g2 hy => ?_
   exact (EV g2.wf (hx.gr g2) hy o).imp fun _ _ _ _ z => z.weak
 | .neg a, k, h, ρ, τ, own, st, w, wf, hg => by
   simp only [xE, yE]
   refine (gE a 2 w wf fun i lv hi => (by simpa only [gts] using hg i lv hi)).bind fun x x' st1 h1 g1 hx => ?_
   cases x' with
   | int i => have := hx.1.int_inv; subst this; exact .ok g1.wf (.of .int .int)
   | _ => trivial
 | .not a, k, h, ρ, τ, own, st, w, wf, hg => by
   simp only [xE, yE]
   refine (gE a 2 w wf fun i lv hi => (by simpa only [gts] using hg i lv hi)).bind fun x x' st1 h1 g1 hx => ?_
   cases x' with
   | bl i => have := hx.1.jI; subst this; exact .ok g1.wf (.of .bl .bl)
   | _ => trivial
 | .cmp o a c, k, h, ρ, τ, own, st, w, wf, hg => by
   simp only [xE, yE]
   refine (gE a 2 w wf fun i lv hi => (bz (by simpa only [gts] using hg i lv hi)).1).bind fun x x' st1 h1 g1 hx => ?_
   refine (gE c 2 (w.gr g1) g1.wf fun i lv hi => (bz (by simpa only [gts] using hg i lv hi)).2).bind fun y y' st2 h2 g2 hy => ?_
   exact Dh g2.wf fun r e => sy (hx.1.ext g2.pre) hy.1 e
 | .chain o o' a c d, k, h, ρ, τ, own, st, w, wf, hg => by
   simp only [xE, yE]
   refine (gE a 2 w wf fun i lv hi => (bz (bz (by simpa only [gts] using hg i lv hi)).1).1).bind fun x x' st1 h1 g1 hx => ?_
   refine (gE c 2 (w.gr g1) g1.wf fun i lv hi => (bz (bz (by simpa only [gts] using hg i lv hi)).1).2).bind fun y y' st2 h2 g2 hy => ?_
   cases z : zC o x' y' with
   | none => trivial
   | some r =>
     rw [sy (hx.1.ext g2.pre) hy.1 z]
     cases r with
     | false => exact .ok g2.wf (.of .bl .bl)
     | true =>
       dsimp only
       refine (gE d 2 ((w.gr g1).gr g2) g2.wf fun i lv hi => (bz (by simpa only [gts] using hg i lv hi)).2).bind fun v v' st3 h3 g3 hv => ?_
       exact Dh g3.wf fun r e => sy (hy.1.ext g3.pre) hv.1 e
 | .and a c, k, h, ρ, τ, own, st, w, wf, hg => by
   simp only [xE, yE]
   refine (gE a 2 w wf fun i lv hi => (bz (by simpa only [gts] using hg i lv hi)).1).bind fun x x' st1 h1 g1 hx => ?_
   cases x' with
   | bl r =>
     have := hx.1.jI; subst this
     cases r with
     | false => exact .ok g1.wf (.of .bl .bl)
     | true => exact gE c k (w.gr g1) g1.wf fun i lv hi => (bz (by simpa only [gts] using hg i lv hi)).2
   | _ => trivial
 | .or a c, k, h, ρ, τ, own, st, w, wf, hg => by
   simp only [xE, yE]
   refine (gE a 2 w wf fun i lv hi => (bz (by simpa only [gts] using hg i lv hi)).1).bind fun x x' st1 h1 g1 hx => ?_
   cases x' with
   | bl r =>
     have := hx.1.jI; subst this
     cases r with
     | true => exact .ok g1.wf (.of .bl .bl)
     | false => exact gE c k (w.gr g1) g1.wf fun i lv hi => (bz (by simpa only [gts] using hg i lv hi)).2
   | _ => trivial
 | .ite c a d, k, h, ρ, τ, own, st, w, wf, hg => by
   simp only [xE, yE]
   refine (gE c 2 w wf fun i lv hi => (bz (bz (by simpa only [gts] using hg i lv hi)).1).1).bind fun x x' st1 h1 g1 hx => ?_
   cases x' with
   | bl r =>
     have := hx.1.jI; subst this
     cases r with
     | true => exact gE a k (w.gr g1) g1.wf fun i lv hi => (bz (bz (by simpa only [gts] using hg i lv hi)).1).2
     | false => exact gE d k (w.gr g1) g1.wf fun i lv hi => (bz (by simpa only [gts] using hg i lv hi)).2
   | _ => trivial
 | .tup es, k, h, ρ, τ, own, st, w, wf, hg => by
   simp only [xE, yE]
   refine (gEs es 0 w wf fun i lv hi => (by simpa only [gts] using hg i lv hi)).bind fun x x' st1 h1 g1 hx => ?_
   rw [hx.1.length]
   split
   · exact E2 g1.wf hx
   · trivial
 | .lst es, k, h, ρ, τ, own, st, w, wf, hg => by
   simp only [xE, yE]
   refine (gEs es 0 w wf fun i lv hi => (by simpa only [gts] using hg i lv hi)).bind fun x x' st1 h1 g1 hx => ?_
   rw [hx.1.length]
   split
   · exact lq g1.wf hx
   · trivial
 | .ix a c, k, h, ρ, τ, own, st, w, wf, hg => by
   simp only [xE, yE]
   refine (gE a (k + 1) w wf fun i lv hi => (bz (by simpa only [gts] using hg i lv hi)).1).bind fun x x' st1 h1 g1 hx => ?_
   refine (gE c 2 (w.gr g1) g1.wf fun i lv hi => (bz (by simpa only [gts] using hg i lv hi)).2).bind fun y y' st2 h2 g2 hy => ?_
   exact DT g2.wf (hx.gr g2) hy
 | .sl a c d, k, h, ρ, τ, own, st, w, wf, hg => by
   simp only [xE, yE]
   refine (gE a 1 w wf fun i lv hi => (bz (bz (by simpa only [gts] using hg i lv hi)).1).1).bind fun x x' st1 h1 g1 hx => ?_
   refine (gE c 2 (w.gr g1) g1.wf fun i lv hi => (bz (bz (by simpa only [gts] using hg i lv hi)).1).2).bind fun y y' st2 h2 g2 hy => ?_
   cases z : mi c y' with
   | none => trivial
   | some lo =>
     rw [ph hy.1 c z]
     dsimp only
     refine (gE d 2 ((w.gr g1).gr g2) g2.wf fun i lv hi => (bz (by simpa only [gts] using hg i lv hi)).2).bind fun v v' st3 h3 g3 hv => ?_
     cases z2 : mi d v' with
     | none => trivial
     | some hi =>
       rw [ph hv.1 d z2]
       dsimp only
       cases x' with
       | lst xs =>
         obtain ⟨us, e1, _, p'⟩ := mS g3.wf ((hx.gr g2).gr g3)
         simp only [Fp.eq_def, e1, zSl.eq_def]
         exact lq g3.wf (p'.cut lo hi)
       | _ => trivial
 | .call f es, k, h, ρ, τ, own, st, w, wf, hg => by
   simp only [xE, yE]
   cases hs : (μ f).sc with
   | true =>
     refine (gEs es 2 w wf fun i lv hi => (by simpa only [gts, hs, if_true] using hg i lv hi)).bind fun x x' st1 h1 g1 hx => ?_
     exact ((HP f).LJ hs g1.wf hx).imp fun _ _ _ _ z => z.weak
   | false =>
     refine (gEs es 0 w wf fun i lv hi => (by simpa only [gts, hs, Bool.false_eq_true, if_false] using hg i lv hi)).bind fun x x' st1 h1 g1 hx => ?_
     exact ((HP f).plain g1.wf hx).imp fun _ _ _ _ z => z.weak
 | .bi o es, k, h, ρ, τ, own, st, w, wf, hg => by
   simp only [xE, yE]
   refine (gEs es (biK o) w wf fun i lv hi => ?_).bind fun x x' st1 h1 g1 hx => ?_
   · have := hg i lv hi
     cases o <;> simpa only [gts, biK] using this
   · exact (D1 g1.wf o hx).imp fun _ _ _ _ z => z.weak
 | .isi a t, k, h, ρ, τ, own, st, w, wf, hg => by
   simp only [xE, yE]
   refine (gE a 2 w wf fun i lv hi => (by simpa only [gts] using hg i lv hi)).bind fun x x' st1 h1 g1 hx => ?_
   have e := B7 hx.1 t
   obtain ⟨r, _⟩ := hx
   cases r <;> first | trivial | (dsimp only; rw [e]; exact .ok g1.wf (.of .bl .bl))
 | .isB n a t, k, h, ρ, τ, own, st, w, wf, hg => by
   simp only [xE, yE]
   refine (gE a 2 w wf fun i lv hi => (by simpa only [gts] using hg i lv hi)).bind fun x x' st1 h1 g1 hx => ?_
   rw [Fz hx.1]
   exact .ok g1.wf (.of .bl .bl)
 | .isN n a, k, h, ρ, τ, own, st, w, wf, hg => by
   simp only [xE, yE]
   refine (gE a 2 w wf fun i lv hi => (by simpa only [gts] using hg i lv hi)).bind fun x x' st1 h1 g1 hx => ?_
   rw [EJ hx.1]
   exact .ok g1.wf (.of .bl .bl)
 | .comp caps t it ifs elt, k, h, ρ, τ, own, st, w, wf, hg => by
   simp only [xE, yE]
   have hc : ∀ i lv, (i, lv) ∈ own → some i ∉ caps := fun i lv hi z => by
     have := (bz (by simpa only [gts] using hg i lv hi)).1
     rw [List.contains_iff_mem.mpr z] at this
     cases this
   refine (gIt it 1 (Nat.le_refl 1) w wf fun i lv hi => (bz (by simpa only [gts] using hg i lv hi)).2).bind fun q xs st1 h1 g1 hq => ?_
   rw [hq.2.len]
   split
   · refine Gd.noX ?_
     refine Gd.bind (P := PXs 0) ?_ fun us ds st2 h2 g2 hu => lq g2.wf hu
     exact rK (uB ((w.gr g1).cap hc) (fun w' wf' => gIf ifs w' wf' fun _ _ z => nomatch z) fun w' wf' => gE elt 0 w' wf' fun _ _ z => nomatch z) g1.wf hq.2
   · trivial
theorem gEs : ∀ (es : List E) (k : Nat) {h : Hd} {ρ : Env} {τ : aD} {own : Own} {st : Sto}, WE h st ρ τ own → Wf h st → (∀ i lv, (i, lv) ∈ own → bY μ i lv k es = false) → Gd h st (PXs k) (xEs Φ es ρ st) (yEs Ψ es τ)
 | [], k, _, _, _, _, _, _, wf, _ => .ok wf .nil
 | e :: es, k, h, ρ, τ, own, st, w, wf, hg => by
   simp only [xEs, yEs]
   refine (gE e k w wf fun i lv hi => (bz (by simpa only [bY] using hg i lv hi)).1).bind fun x x' st1 h1 g1 hx => ?_
   refine (gEs es k (w.gr g1) g1.wf fun i lv hi => (bz (by simpa only [bY] using hg i lv hi)).2).bind fun y y' st2 h2 g2 hy => ?_
   exact .ok g2.wf (.cons (hx.gr g2) hy)
theorem gIf : ∀ (es : List E) {h : Hd} {ρ : Env} {τ : aD} {own : Own} {st : Sto}, WE h st ρ τ own → Wf h st → (∀ i lv, (i, lv) ∈ own → bY μ i lv 2 es = false) → Gd h st (fun _ _ a b => a = b) (xIf Φ es ρ st) (yIf Ψ es τ)
 | [], _, _, _, _, _, _, wf, _ => .ok wf rfl
 | e :: es, h, ρ, τ, own, st, w, wf, hg => by
   simp only [xIf, yIf]
   refine (gE e 2 w wf fun i lv hi => (bz (by simpa only [bY] using hg i lv hi)).1).bind fun x x' st1 h1 g1 hx => ?_
   cases x' with
   | bl r =>
     have := hx.1.jI; subst this
     cases r with
     | false => exact .ok g1.wf rfl
     | true => exact gIf es (w.gr g1) g1.wf fun i lv hi => (bz (by simpa only [bY] using hg i lv hi)).2
   | _ => trivial
theorem gIt : ∀ (it : It) (k : Nat) {h : Hd} {ρ : Env} {τ : aD} {own : Own} {st : Sto}, k ≤ 1 → WE h st ρ τ own → Wf h st → (∀ i lv, (i, lv) ∈ own → gM μ i lv k it = false) →
   Gd h st (fun h' st' q xs => (k = 0 → SqN h' q) ∧ SqR h' st' q xs) (xIt Φ it ρ st) (yIt Ψ it τ)
 | .seq e, k, h, ρ, τ, own, st, hk, w, wf, hg => by
   simp only [xIt, yIt]
   refine (gE e k w wf fun i lv hi => (by simpa only [gM] using hg i lv hi)).bind fun x x' st1 h1 g1 hx => ?_
   cases x' with
   | lst xs =>
     obtain ⟨us, ⟨l, fz, rfl, e1⟩ | rfl, r⟩ := iV g1.wf hx
     · dsimp only
       rw [if_pos (List.getElem?_eq_some_iff.mp e1).1]
       refine .ok g1.wf ⟨fun hb => ?_, IU hk hx, fz, us, e1, r.1⟩
       subst hb
       exact (hx.av l (by simp [locs])).2
     · exact .ok g1.wf ⟨fun _ => trivial, r.mono (by omega)⟩
   | tup xs =>
     obtain ⟨us, rfl, p'⟩ := iS (k' := 0) hx
     exact .ok g1.wf ⟨fun _ => trivial, p'⟩
   | _ => trivial
 | .rng e, k, h, ρ, τ, own, st, hk, w, wf, hg => by
   simp only [xIt, yIt]
   refine (gE e 2 w wf fun i lv hi => (by simpa only [gM] using hg i lv hi)).bind fun x x' st1 h1 g1 hx => ?_
   cases x' with
   | int j =>
     have := hx.1.int_inv; subst this
     dsimp only
     split
     · exact .ok g1.wf ⟨fun _ => trivial, sf _ _⟩
     · trivial
   | _ => trivial
 | .rng2 a c, k, h, ρ, τ, own, st, hk, w, wf, hg => by
   simp only [xIt, yIt]
   refine (gE a 2 w wf fun i lv hi => (bz (by simpa only [gM] using hg i lv hi)).1).bind fun x x' st1 h1 g1 hx => ?_
   refine (gE c 2 (w.gr g1) g1.wf fun i lv hi => (bz (by simpa only [gM] using hg i lv hi)).2).bind fun y y' st2 h2 g2 hy => ?_
   cases x' with
   | int i =>
     have := hx.1.int_inv; subst this
     cases y' with
     | int j =>
       have := hy.1.int_inv; subst this
       dsimp only
       split
       · exact .ok g2.wf ⟨fun _ => trivial, sf _ _⟩
       · trivial
     | _ => trivial
   | _ => trivial
 | .enu e, k, h, ρ, τ, own, st, hk, w, wf, hg => by
   simp only [xIt, yIt]
   refine (gE e k w wf fun i lv hi => (by simpa only [gM] using hg i lv hi)).bind fun x x' st1 h1 g1 hx => ?_
   cases x' with
   | lst xs =>
     obtain ⟨us, ⟨l, fz, rfl, e1⟩ | rfl, r⟩ := iV g1.wf hx
     · dsimp only
       rw [if_pos (List.getElem?_eq_some_iff.mp e1).1]
       refine .ok g1.wf ⟨fun hb => ?_, IU hk hx, fz, us, xs, e1, r.1, rfl⟩
       subst hb
       exact (hx.av l (by simp [locs])).2
     · exact .ok g1.wf ⟨fun _ => trivial, yA 0 (r.mono (by omega))⟩
   | _ => trivial
 | .zip a c, k, h, ρ, τ, own, st, hk, w, wf, hg => by
   simp only [xIt, yIt]
   refine (gE a k w wf fun i lv hi => (bz (by simpa only [gM] using hg i lv hi)).1).bind fun x x' st1 h1 g1 hx => ?_
   refine (gE c k (w.gr g1) g1.wf fun i lv hi => (bz (by simpa only [gM] using hg i lv hi)).2).bind fun y y' st2 h2 g2 hy => ?_
   have hx2 := PX.gr hx g2
   cases x' with
   | lst xs =>
     cases y' with
     | lst ys =>
       obtain ⟨p, e1, n1, q1⟩ := yL hk g2.wf hx2
       obtain ⟨q, e2, n2, q2⟩ := yL hk g2.wf hy
       rw [e1, e2]
       exact .ok g2.wf ⟨fun hb => ⟨n1 hb, n2 hb⟩, xs, ys, q1, q2, rfl⟩
     | _ => trivial
   | _ => cases y' <;> trivial
end
end
end Sv
namespace Sv
open PySem PySem.Spec L2
open Ev (D aR aY ai)
noncomputable def FrN (lv : Nat) (st : Sto) (h' : Hd) (st' : Sto) (u : U) (d : T) : Prop := Rep st' u d ∧ ∃ l cs, u = .loc l ∧ Ent h' st' l cs lv ∧ ∀ k ∈ l :: cs, st.length ≤ k
noncomputable def Hd.more (h : Hd) (X Y : Nat → Prop) (s : ∀ k, Y k → X k) : Hd := ⟨fun k => h.h k ∨ X k, fun k => h.g k ∨ Y k, fun k z => z.imp (h.sub k) (s k)⟩
theorem yV {st : Sto} {c : Bool × List U} : (st ++ [c])[st.length]? = some c := by rw [List.getElem?_append_right (Nat.le_refl _), Nat.sub_self]; rfl
theorem BK {h : Hd} {st : Sto} {us : List U} {ds : List T} (w : Wf h st) (p : PXs 0 h st us ds) : ∃ h', Gr h st h' (st ++ [(false, us)]) ∧ FrN 1 st h' (st ++ [(false, us)]) (.loc st.length) (.lst ds) := by
 refine ⟨h.more (fun k => k = st.length) (fun _ => False) (fun _ z => z.elim), ⟨iw, fun _ z => .inl z, fun _ z => .inl z, fun k hk z => z.elim id fun q => by omega, fun k hk z => z.elim id fun q => q.elim, ⟨fun k fz vs hk e u hu => ?_, fun k z => ?_⟩⟩, (sC w p.1).1, st.length, [], rfl, ⟨.inr rfl, fun _ => ⟨fun z => z.elim (fun z => Nat.lt_irrefl _ (w.lt _ (h.sub _ z))) fun z => z, rfl, us, yV⟩, fun z => absurd rfl z, by simp⟩, fun k hk => by rw [List.mem_singleton] at hk; omega⟩
 · have lift : ∀ {v : U}, Av h st.length v → Av (h.more (fun k => k = st.length) (fun _ => False) (fun _ z => z.elim)) (st ++ [(false, us)]).length v := fun {v} a l hl => by
     obtain ⟨a1, a2⟩ := a l hl
     refine ⟨by rw [List.length_append]; exact Nat.lt_add_right _ a1, fun z => ?_⟩
     rcases z with z | z
     · exact a2 z
     · omega
   rcases Nat.lt_or_ge k st.length with q | q
   · rw [List.getElem?_append_left q] at e
     exact lift (w.av k fz vs (fun z => hk (.inl z)) e u hu)
   · rw [List.getElem?_append_right q] at e
     have := List.mem_of_getElem? e
     rw [List.mem_singleton] at this
     cases this
     exact lift ((p.2 u hu).zero)
 · rw [List.length_append]
   rcases z with z | z
   · exact Nat.lt_add_right _ (w.lt k z)
   · subst z; exact Nat.lt_succ_self _
theorem zN {h : Hd} {st0 st : Sto} {cs : List Nat} {ds : List T} (w : Wf h st) (r : aM st (cs.map .loc) ds) (nd : cs.Nodup) (hl : st0.length ≤ st.length) (hc : ∀ c ∈ cs, st0.length ≤ c ∧ h.h c ∧ ¬ h.g c ∧ ∃ ws, st[c]? = some (false, ws)) :
   ∃ h', Gr h st h' (st ++ [(false, cs.map .loc)]) ∧ FrN 2 st0 h' (st ++ [(false, cs.map .loc)]) (.loc st.length) (.lst ds) := by
 have cl : ∀ c ∈ cs, c < st.length := fun c h => let ⟨_, _, _, ws, e⟩ := hc c h; (List.getElem?_eq_some_iff.mp e).1
 refine ⟨h.more (fun k => k = st.length) (fun k => k = st.length) (fun _ z => z), ⟨iw, fun _ z => .inl z, fun _ z => .inl z, fun k hk z => z.elim id fun q => by omega, fun k hk z => z.elim id fun q => by omega, ⟨fun k fz vs hk e u hu => ?_, fun k z => ?_⟩⟩, (sC w r).1, st.length, cs, rfl, ⟨.inr rfl, fun z => by omega, fun _ => ⟨rfl, .inr rfl, yV, fun c hcm => ?_⟩, List.nodup_cons.mpr ⟨fun z => Nat.lt_irrefl _ (cl _ z), nd⟩⟩, fun k hk => ?_⟩
 · have kl : k < st.length := by
     have := (List.getElem?_eq_some_iff.mp e).1
     rw [List.length_append] at this
     have ne : k ≠ st.length := fun z => hk (.inr z)
     simp at this
     omega
   rw [List.getElem?_append_left kl] at e
   intro l hl
   obtain ⟨a1, a2⟩ := w.av k fz vs (fun z => hk (.inl z)) e u hu l hl
   refine ⟨by rw [List.length_append]; exact Nat.lt_add_right _ a1, fun z => ?_⟩
   rcases z with z | z
   · exact a2 z
   · omega
 · rw [List.length_append]
   rcases z with z | z
   · exact Nat.lt_add_right _ (w.lt k z)
   · subst z; exact Nat.lt_succ_self _
 · obtain ⟨_, h1, h2, ws, e⟩ := hc c hcm
   exact ⟨.inl h1, fun z => z.elim h2 fun z => absurd (cl c hcm) (by omega), ws, gF iw _ _ e⟩
 · rcases List.mem_cons.mp hk with rfl | hk
   · exact hl
   · exact (hc k hk).1
theorem Gr.K5 {h h' : Hd} {st st' : Sto} (g : Gr h st h' st') {c : Nat} (a : h.h c ∧ ¬ h.g c ∧ ∃ ws, st[c]? = some (false, ws)) : h'.h c ∧ ¬ h'.g c ∧ ∃ ws, st'[c]? = some (false, ws) := by
 obtain ⟨a1, a2, ws, a3⟩ := a
 exact ⟨g.hm c a1, fun z => a2 (g.gn c (List.getElem?_eq_some_iff.mp a3).1 z), ws, gF g.pre _ _ a3⟩
noncomputable def RN (st : Sto) (h2 : Hd) (st2 : Sto) : Option U → Option T → Prop
 | some u, some d => Rep st2 u d ∧ ∃ c, u = .loc c ∧ st.length ≤ c ∧ h2.h c ∧ ¬ h2.g c ∧ ∃ ws, st2[c]? = some (false, ws)
 | none, none => True
 | _, _ => False
theorem qa {f : U → Sto → Rs (Option U)} {g : T → Ou (Option T)} {q : Sq} {xs : List T} {st0 : Sto} {h0 : Hd}
   (hf : ∀ u x st' h' o', Gr h0 st0 h' st' → PX 0 h' st' u x → g x = .ok o' → (∀ d, o' = some d → isL d = true) → ∃ o st2 h2, f u st' = .ok o st2 ∧ Gr h' st' h2 st2 ∧ RN st' h2 st2 o o') :
   ∀ (n i : Nat) (st : Sto) (h : Hd) (ds : List T), Gr h0 st0 h st → SqR h st q xs → i ≤ xs.length → i + n = xs.length + 1 → gN g (xs.drop i) = .ok ds → ds.all isL = true →
     ∃ (cs : List Nat) (st' : Sto) (h' : Hd), lL f q n i st = .ok (cs.map .loc) st' ∧ Gr h st h' st' ∧ aM st' (cs.map .loc) ds ∧ cs.Nodup ∧ ∀ c ∈ cs, st.length ≤ c ∧ h'.h c ∧ ¬ h'.g c ∧ ∃ ws, st'[c]? = some (false, ws)
 | 0, i, st, h, ds, _, _, hi, e, _, _ => by omega
 | n + 1, i, st, h, ds, p, s, hi, e, hy, ha => by
   rw [lL]
   rcases s.at p.wf i with ⟨e1, e2⟩ | ⟨x, u, e1, e2, px⟩
   · rw [List.drop_eq_nil_of_le (List.getElem?_eq_none_iff.mp e1), gN] at hy
     cases hy
     exact ⟨[], st, h, by rw [e2]; rfl, .refl p.wf, .nil, List.nodup_nil, (by intro c hc; cases hc)⟩
   · have hl := (List.getElem?_eq_some_iff.mp e1).1
     have e3 : xs.drop i = x :: xs.drop (i + 1) := by
       rw [List.drop_eq_getElem_cons hl]
       rw [(List.getElem?_eq_some_iff.mp e1).2]
     rw [e3, gN, Ou.bA] at hy
     obtain ⟨o', hg, hy⟩ := hy
     rw [Ou.bA] at hy
     obtain ⟨ys, hy, hz⟩ := hy
     have hal : (∀ d, o' = some d → isL d = true) ∧ ys.all isL = true := by
       cases o' with
       | none => cases hz; exact ⟨(fun _ z => by cases z), ha⟩
       | some d =>
         cases hz
         rw [List.all_cons, Bool.and_eq_true] at ha
         exact ⟨(fun d' z => by cases z; exact ha.1), ha.2⟩
     obtain ⟨o, st1, h1, f1, g1, rn⟩ := hf u x st h o' p px hg hal.1
     obtain ⟨cs, st2, h2, f2, g2, r2, n2, c2⟩ := qa hf n (i + 1) st1 h1 ys (p.trans g1) (s.gr g1) hl (by omega) hy hal.2
     rw [e2]
     dsimp only
     rw [f1, Rs.aa, f2, Rs.aa]
     cases o with
     | none =>
       cases o' with
       | none => cases hz; exact ⟨cs, st2, h2, rfl, g1.trans g2, r2, n2, fun c hc => ⟨Nat.le_trans g1.pre.length_le (c2 c hc).1, (c2 c hc).2⟩⟩
       | some d => exact rn.elim
     | some v =>
       cases o' with
       | none => exact rn.elim
       | some d =>
         cases hz
         obtain ⟨rv, c, rfl, hc, hh⟩ := rn
         have hcl : c < st1.length := by obtain ⟨_, _, ws, e⟩ := hh; exact (List.getElem?_eq_some_iff.mp e).1
         refine ⟨c :: cs, st2, h2, rfl, g1.trans g2, .cons (rv.ext g2.pre) r2, List.nodup_cons.mpr ⟨fun z => absurd (c2 c z).1 (by omega), n2⟩, fun k hk => ?_⟩
         rcases List.mem_cons.mp hk with rfl | hk
         · exact ⟨hc, g2.K5 hh⟩
         · exact ⟨Nat.le_trans g1.pre.length_le (c2 k hk).1, (c2 k hk).2⟩
theorem Ent.down {h : Hd} {st : Sto} {l : Nat} {cs : List Nat} (w : Wf h st) (e : Ent h st l cs 2) : ∃ h', (∀ k, h'.h k → h.h k) ∧ (∀ k, h'.g k → h.g k) ∧ (∀ k, k ∉ l :: cs → (h.h k → h'.h k) ∧ (h.g k → h'.g k)) ∧ (∀ c ∈ cs, ¬ h'.h c) ∧ Wf h' st ∧ Ent h' st l [] 1 := by
 obtain ⟨_, gl, e1, e2⟩ := e.two (by decide)
 have nl : l ∉ cs := (List.nodup_cons.mp e.nd).1
 refine ⟨⟨fun k => h.h k ∧ k ∉ cs, fun k => h.g k ∧ k ∉ l :: cs, fun k z => ⟨h.sub k z.1, fun q => z.2 (List.mem_cons_of_mem _ q)⟩⟩, fun k z => z.1, fun k z => z.1, fun k hk => ⟨fun z => ⟨z, fun q => hk (List.mem_cons_of_mem _ q)⟩, fun z => ⟨z, hk⟩⟩, fun c hc z => z.2 hc, ⟨fun k fz us hk q u hu => ?_, fun k z => w.lt k z.1⟩, ⟨⟨e.hl, nl⟩, fun _ => ⟨fun z => z.2 (List.mem_cons_self ..), rfl, _, e1⟩, fun z => absurd rfl z, by simp⟩⟩
 by_cases hg : h.g k
 · have hx : k ∈ l :: cs := Classical.byContradiction fun z => hk ⟨hg, z⟩
   rcases List.mem_cons.mp hx with rfl | hx
   · rw [e1] at q; cases q
     obtain ⟨c, hc, rfl⟩ := List.mem_map.mp hu
     exact .loc (e.lt c (List.mem_cons_of_mem _ hc)) fun z => z.2 hc
   · exact absurd hg (e2 k hx).2.1
 · exact (w.av k fz us hg q u hu).imp fun _ _ z => z.1
theorem FrN.down {h : Hd} {st st' : Sto} {h' : Hd} {u : U} {d : T} (w : Wf h st) (g : Gr h st h' st') (f : FrN 2 st h' st' u d) : ∃ h'', Gr h st h'' st' ∧ FrN 1 st h'' st' u d := by
 obtain ⟨r, l, cs, rfl, e, n⟩ := f
 obtain ⟨h2, a1, a2, a3, _, w2, e2⟩ := Ent.down g.wf e
 have out : ∀ k, h.h k → k ∉ l :: cs := fun k z q => absurd (w.lt k z) (Nat.not_lt.mpr (n k q))
 exact ⟨h2, ⟨g.pre, fun k z => (a3 k (out k z)).1 (g.hm k z), fun k z => (a3 k (out k (h.sub k z))).2 (g.gm k z), fun k hk z => g.hn k hk (a1 k z), fun k hk z => g.gn k hk (a2 k z), w2⟩, r, l, [], rfl, e2, fun k hk => n k (by rw [List.mem_singleton] at hk; subst hk; exact List.mem_cons_self ..)⟩
theorem FrR.n {lv : Nat} {st : Sto} {h' : Hd} {st' : Sto} {u : U} {d : T} (f : FrR lv st h' st' u d) (h1 : lv ≠ 0) (h2 : isL d = true) : FrN lv st h' st' u d := by
 unfold FrR at f
 rw [if_neg (by rw [h2]; simp [h1])] at f
 exact f
theorem FrN.r {lv : Nat} {st : Sto} {h' : Hd} {st' : Sto} {u : U} {d : T} (f : FrN lv st h' st' u d) (h1 : lv ≠ 0) (h2 : isL d = true) : FrR lv st h' st' u d := by
 unfold FrR
 rw [if_neg (by rw [h2]; simp [h1])]
 exact f
theorem Gr.frn {lv : Nat} {h h1 h2 : Hd} {st st1 st2 : Sto} {u : U} {d : T} (g : Gr h st h1 st1) (f : FrN lv st1 h2 st2 u d) : FrN lv st h2 st2 u d := by
 obtain ⟨r, l, cs, e1, e, n⟩ := f
 exact ⟨r, l, cs, e1, e, fun k hk => Nat.le_trans g.pre.length_le (n k hk)⟩
section
variable {Φ : Fn} {Ψ : FnT} {μ : Nat → Md} (HP : ∀ f, Pure (μ f) (Φ f) (Ψ f))
include HP
theorem gN1 : ∀ (e : E) {h : Hd} {ρ : Env} {τ : aD} {own : Own} {st : Sto}, WE h st ρ τ own → Wf h st → (∀ i lv, (i, lv) ∈ own → gts μ i lv 0 e = false) → 1 ≤ cG μ e → ∀ ds, yE Ψ e τ = .ok (.lst ds) →
   ∃ u st' h', xE Φ e ρ st = .ok u st' ∧ Gr h st h' st' ∧ FrN 1 st h' st' u (.lst ds) := by
 intro e h ρ τ own st w wf hg hf ds hy
 have fin : ∀ {st1 : Sto} {h1 : Hd} {us : List U}, Gr h st h1 st1 → PXs 0 h1 st1 us ds → xE Φ e ρ st = new st1 us → ∃ u st' h', xE Φ e ρ st = .ok u st' ∧ Gr h st h' st' ∧ FrN 1 st h' st' u (.lst ds) := fun {st1 h1 us} g p e => by
   obtain ⟨h2, g2, f2⟩ := BK g.wf p
   exact ⟨_, _, h2, e, g.trans g2, g.frn f2⟩
 cases e with
 | lst es =>
   simp only [yE, Ou.bA] at hy
   obtain ⟨xs, h1, h2⟩ := hy
   split at h2
   · rename_i hl
     cases h2
     obtain ⟨us, st1, hh, e1, g1, r1⟩ := (gEs HP es 0 w wf fun i lv hi => (by simpa only [gts] using hg i lv hi)).inv h1
     refine fin g1 r1 ?_
     simp only [xE, e1, Rs.aa]
     rw [r1.1.length, if_pos hl]
   · cases h2
 | comp caps t it ifs elt =>
   simp only [yE, Ou.bA] at hy
   obtain ⟨xs, h1, h2⟩ := hy
   split at h2
   · rename_i hl
     have hc : ∀ i lv, (i, lv) ∈ own → some i ∉ caps := fun i lv hi z => by
       have := (bz (by simpa only [gts] using hg i lv hi)).1
       rw [List.contains_iff_mem.mpr z] at this
       cases this
     obtain ⟨q, st1, hh1, e1, g1, hq⟩ := (gIt HP it 1 (Nat.le_refl 1) w wf fun i lv hi => (bz (by simpa only [gts] using hg i lv hi)).2).inv h1
     have g := rK (uB (t := t) ((w.gr g1).cap hc) (fun w' wf' => gIf HP ifs w' wf' fun _ _ z => nomatch z) fun w' wf' => gE HP elt 0 w' wf' fun _ _ z => nomatch z) g1.wf hq.2
     generalize hz : gN _ xs = z at h2 g
     cases z with
     | bad => cases h2
     | exc c => cases h2
     | ok ys =>
       simp only [Ou.aa, Ou.gI, Ou.ok.injEq, T.lst.injEq] at h2
       subst h2
       obtain ⟨us, st2, hh2, e2, g2, r2⟩ := g
       refine fin (g1.trans g2) r2 ?_
       simp only [xE, e1, Rs.aa]
       rw [hq.2.len, if_pos hl]
       exact congrArg (fun z : Rs (List U) => (z.bind fun ys st2 => new st2 ys).noX) e2
   · cases h2
 | sl a c d =>
   simp only [yE, Ou.bA] at hy
   obtain ⟨x', h1, y', h2, h3⟩ := hy
   obtain ⟨x, st1, hh1, e1, g1, hx⟩ := (gE HP a 1 w wf fun i lv hi => (bz (bz (by simpa only [gts] using hg i lv hi)).1).1).inv h1
   obtain ⟨y, st2, hh2, e2, g2, hy⟩ := (gE HP c 2 (w.gr g1) g1.wf fun i lv hi => (bz (bz (by simpa only [gts] using hg i lv hi)).1).2).inv h2
   split at h3
   · cases h3
   · rename_i lo hlo
     simp only [Ou.bA] at h3
     obtain ⟨v', h3, h4⟩ := h3
     obtain ⟨v, st3, hh3, e3, g3, hv⟩ := (gE HP d 2 ((w.gr g1).gr g2) g2.wf fun i lv hi => (bz (by simpa only [gts] using hg i lv hi)).2).inv h3
     split at h4
     · cases h4
     · rename_i hi hhi
       cases x' with
       | lst xs =>
         obtain ⟨us, e4, _, p'⟩ := mS g3.wf ((hx.gr g2).gr g3)
         simp only [zSl.eq_def, Ou.ok.injEq, T.lst.injEq] at h4
         subst h4
         refine fin ((g1.trans g2).trans g3) (p'.cut lo hi) ?_
         simp only [xE, e1, e2, e3, Rs.aa, ph hy.1 c hlo, ph hv.1 d hhi, Fp.eq_def, e4]
       | _ => cases h4
 | op o a c =>
   cases o <;> first | (simp [cG] at hf; done) | skip
   simp only [yE, Ou.bA] at hy
   obtain ⟨x', h1, y', h2, h3⟩ := hy
   obtain ⟨x, st1, hh1, e1, g1, hx⟩ := (gE HP a 1 w wf fun i lv hi => (bz (by simpa only [gts] using hg i lv hi)).1).inv h1
   obtain ⟨y, st2, hh2, e2, g2, hy⟩ := (gE HP c 1 (w.gr g1) g1.wf fun i lv hi => (bz (by simpa only [gts] using hg i lv hi)).2).inv h2
   cases x' with
   | lst xs =>
     cases y' with
     | lst ys =>
       obtain ⟨us, c1, r1⟩ := iV g2.wf (hx.gr g2)
       obtain ⟨vs, c2, r2⟩ := iV g2.wf hy
       simp only [z2.eq_def] at h3
       split at h3
       · rename_i hl
         cases h3
         refine fin (g1.trans g2) (r1.append r2) ?_
         simp only [xE, e1, e2, Rs.aa, zw c1 c2]
         rw [r1.1.length, r2.1.length, if_pos hl]
       · cases h3
     | _ => simp [z2.eq_def] at h3
   | int i =>
     cases y' <;> simp [z2.eq_def] at h3
   | str i =>
     cases y' <;> simp [z2.eq_def] at h3
     split at h3 <;> cases h3
   | tup i =>
     cases y' <;> simp only [z2.eq_def] at h3 <;> first | (cases h3; done) | (split at h3 <;> cases h3)
   | _ => simp [z2.eq_def] at h3
 | bi o es =>
   cases o <;> first | (simp [cG] at hf; done) | skip
   simp only [yE, Ou.bA] at hy
   obtain ⟨xs', h1, h2⟩ := hy
   obtain ⟨xs, st1, hh1, e1, g1, hx⟩ := (gEs HP es 1 w wf fun i lv hi => (by simpa only [gts] using hg i lv hi)).inv h1
   match xs', hx, h2 with
   | [a], ⟨.cons (u := x) r .nil, hp⟩, h2 =>
     have px : PX 1 hh1 st1 x a := ⟨r, hp x (List.mem_singleton_self x)⟩
     cases a with
     | lst ys =>
       obtain ⟨vs, e3, e4, p'⟩ := mS g1.wf px
       simp only [zB.eq_def, Ou.ok.injEq, T.lst.injEq] at h2
       subst h2
       refine fin g1 p' ?_
       simp only [xE, e1, Rs.aa]
       simp only [evB.eq_def, e4]
     | tup ys =>
       obtain ⟨vs, rfl, p'⟩ := iS (k' := 0) px
       simp only [zB.eq_def, Ou.ok.injEq, T.lst.injEq] at h2
       subst h2
       refine fin g1 p' ?_
       simp only [xE, e1, Rs.aa]
       simp only [evB.eq_def, seq?]
     | _ => cases h2
   | [], _, h2 => cases h2
   | a :: b :: r, _, h2 => cases a <;> cases h2
 | call f es =>
   simp only [yE, Ou.bA] at hy
   obtain ⟨xs', h1, h2⟩ := hy
   obtain ⟨xs, st1, hh1, e1, g1, u, st2, hh2, e2, g2, f2⟩ : ∃ xs st1 hh1, xEs Φ es ρ st = .ok xs st1 ∧ Gr h st hh1 st1 ∧ ∃ u st2 hh2, Φ f xs st1 = .ok u st2 ∧ Gr hh1 st1 hh2 st2 ∧ FrR (μ f).lv st1 hh2 st2 u (.lst ds) := by
     cases hs : (μ f).sc with
     | false =>
       obtain ⟨xs, st1, hh1, e1, g1, hx⟩ := (gEs HP es 0 w wf fun i lv hi => (by simpa only [gts, hs, Bool.false_eq_true, if_false] using hg i lv hi)).inv h1
       obtain ⟨u, st2, hh2, e2, g2, f2⟩ := ((HP f).2 hh1 st1 xs xs' g1.wf hx).inv h2
       exact ⟨xs, st1, hh1, e1, g1, u, st2, hh2, e2, g2, f2⟩
     | true =>
       obtain ⟨xs, st1, hh1, e1, g1, hx⟩ := (gEs HP es 2 w wf fun i lv hi => (by simpa only [gts, hs, if_true] using hg i lv hi)).inv h1
       obtain ⟨u, st2, hh2, e2, g2, f2⟩ := ((HP f).B6 hs g1.wf hx).inv h2
       exact ⟨xs, st1, hh1, e1, g1, u, st2, hh2, e2, g2, f2⟩
   have hf : 1 ≤ (μ f).lv := hf
   have fn := f2.n (by omega) rfl
   have hE : xE Φ (.call f es) ρ st = .ok u st2 := by simp only [xE, e1, Rs.aa, e2]
   have t6 : (μ f).lv = 1 ∨ (μ f).lv = 2 := by
     obtain ⟨_, l, cs, _, e, _⟩ := fn
     by_cases z : (μ f).lv = 1
     · exact .inl z
     · exact .inr (e.two z).1
   rcases t6 with z | z
   · rw [z] at fn
     exact ⟨u, st2, hh2, hE, g1.trans g2, g1.frn fn⟩
   · rw [z] at fn
     obtain ⟨h3, g3, f3⟩ := fn.down g1.wf g2
     exact ⟨u, st2, h3, hE, g1.trans g3, g1.frn f3⟩
 | _ => simp [cG] at hf
theorem gN2 (e : E) {h : Hd} {ρ : Env} {τ : aD} {own : Own} {st : Sto} (w : WE h st ρ τ own) (wf : Wf h st) (hg : ∀ i lv, (i, lv) ∈ own → gts μ i lv 0 e = false) (hf : 2 ≤ cG μ e) (ds : List T) (hy : yE Ψ e τ = .ok (.lst ds)) (ha : ds.all isL = true) :
   ∃ u st' h', xE Φ e ρ st = .ok u st' ∧ Gr h st h' st' ∧ FrN 2 st h' st' u (.lst ds) := by
 cases e with
 | comp caps t it ifs elt =>
   have hfe : 1 ≤ cG μ elt := by
     simp only [cG] at hf
     split at hf
     · omega
     · omega
   simp only [yE, Ou.bA] at hy
   obtain ⟨xs, h1, h2⟩ := hy
   split at h2
   · rename_i hl
     have hc : ∀ i lv, (i, lv) ∈ own → some i ∉ caps := fun i lv hi z => by
       have := (bz (by simpa only [gts] using hg i lv hi)).1
       rw [List.contains_iff_mem.mpr z] at this
       cases this
     obtain ⟨q, st1, hh1, e1, g1, hq⟩ := (gIt HP it 1 (Nat.le_refl 1) w wf fun i lv hi => (bz (by simpa only [gts] using hg i lv hi)).2).inv h1
     generalize hgf : (fun x => match aA t x (gH τ caps ++ [none]) with
         | none => (Ou.bad : Ou (Option T))
         | some τ1 => (yIf Ψ ifs τ1).bind fun b => if b then (yE Ψ elt τ1).bind fun y => .ok (some y) else .ok none) = gf at h2
     cases hz : gN gf xs with
     | bad => rw [hz] at h2; cases h2
     | exc c => rw [hz] at h2; cases h2
     | ok ys =>
       rw [hz] at h2
       simp only [Ou.aa, Ou.gI, Ou.ok.injEq, T.lst.injEq] at h2
       subst h2
       have wc := (w.gr g1).cap hc
       obtain ⟨cs, st2, h2, e2, g2, r2, n2, c2⟩ := qa (f := fun x st => match iD t x (kL ρ caps ++ [none]) with
         | none => .bad
         | some ρ1 => (xIf Φ ifs ρ1 st).bind fun b st2 => if b then (xE Φ elt ρ1 st2).bind fun y st3 => .ok (some y) st3 else .ok none st2) (g := gf) (fun u x st' h' o' g px hgx hil => by
           subst hgf
           dsimp only at hgx
           cases z : aA t x (gH τ caps ++ [none]) with
           | none => rw [z] at hgx; cases hgx
           | some τ1 =>
             rw [z] at hgx
             simp only [Ou.bA] at hgx
             obtain ⟨b, hb, hgx⟩ := hgx
             obtain ⟨ρ1, f1, w1⟩ := ve (wc.gr g) px z
             obtain ⟨b', st3, h3, f3, g3, hbb⟩ := (gIf HP ifs w1 g.wf fun _ _ z => nomatch z).inv hb
             have hbb : b' = b := hbb
             subst hbb
             cases b' with
             | false =>
               simp only [Bool.false_eq_true, if_false] at hgx
               cases hgx
               exact ⟨none, st3, h3, by simp only [f1, f3, Rs.aa]; rfl, g3, trivial⟩
             | true =>
               simp only [if_true, Ou.bA] at hgx
               obtain ⟨y, hy', hgx⟩ := hgx
               cases hgx
               have hyl := hil y rfl
               cases y with
               | lst zs =>
                 obtain ⟨v, st4, h4, f4, g4, fn⟩ := gN1 HP elt (w1.gr g3) g3.wf (fun _ _ z => nomatch z) hfe zs hy'
                 refine ⟨some v, st4, h4, by simp only [f1, f3, f4, Rs.aa, if_true], g3.trans g4, fn.1, ?_⟩
                 obtain ⟨_, l, cs, rfl, en, nl⟩ := fn
                 obtain ⟨a1, _, a3⟩ := en.one rfl
                 exact ⟨l, rfl, Nat.le_trans g3.pre.length_le (nl l (List.mem_cons_self ..)), en.hl, a1, a3⟩
               | _ => cases hyl) (xs.length + 1) 0 st1 hh1 ys (.refl g1.wf) hq.2 (Nat.zero_le _) (Nat.zero_add _) (by rw [List.drop_zero]; exact hz) ha
       obtain ⟨h3, g3, f3⟩ := zN (st0 := st1) g2.wf r2 n2 g2.pre.length_le c2
       refine ⟨_, _, h3, ?_, (g1.trans g2).trans g3, g1.frn f3⟩
       simp only [xE, e1, Rs.aa]
       rw [hq.2.len, if_pos hl]
       exact congrArg (fun z : Rs (List U) => (z.bind fun ys st2 => new st2 ys).noX) e2
   · cases h2
 | call f es =>
   simp only [yE, Ou.bA] at hy
   obtain ⟨xs', h1, h2⟩ := hy
   obtain ⟨xs, st1, hh1, e1, g1, u, st2, hh2, e2, g2, f2⟩ : ∃ xs st1 hh1, xEs Φ es ρ st = .ok xs st1 ∧ Gr h st hh1 st1 ∧ ∃ u st2 hh2, Φ f xs st1 = .ok u st2 ∧ Gr hh1 st1 hh2 st2 ∧ FrR (μ f).lv st1 hh2 st2 u (.lst ds) := by
     cases hs : (μ f).sc with
     | false =>
       obtain ⟨xs, st1, hh1, e1, g1, hx⟩ := (gEs HP es 0 w wf fun i lv hi => (by simpa only [gts, hs, Bool.false_eq_true, if_false] using hg i lv hi)).inv h1
       obtain ⟨u, st2, hh2, e2, g2, f2⟩ := ((HP f).2 hh1 st1 xs xs' g1.wf hx).inv h2
       exact ⟨xs, st1, hh1, e1, g1, u, st2, hh2, e2, g2, f2⟩
     | true =>
       obtain ⟨xs, st1, hh1, e1, g1, hx⟩ := (gEs HP es 2 w wf fun i lv hi => (by simpa only [gts, hs, if_true] using hg i lv hi)).inv h1
       obtain ⟨u, st2, hh2, e2, g2, f2⟩ := ((HP f).B6 hs g1.wf hx).inv h2
       exact ⟨xs, st1, hh1, e1, g1, u, st2, hh2, e2, g2, f2⟩
   have hf : 2 ≤ (μ f).lv := hf
   have fn := f2.n (by omega) rfl
   have hE : xE Φ (.call f es) ρ st = .ok u st2 := by simp only [xE, e1, Rs.aa, e2]
   have lv2 : (μ f).lv = 2 := by
     obtain ⟨_, l, cs, _, e, _⟩ := fn
     exact (e.two (by omega)).1
   rw [lv2] at fn
   exact ⟨u, st2, hh2, hE, g1.trans g2, g1.frn fn⟩
 | op o a c => cases o <;> simp [cG] at hf
 | bi o es => cases o <;> simp [cG] at hf
 | _ => simp [cG] at hf
end
end Sv
namespace Sv
open PySem PySem.Spec L2
open Ev (D aR aY ai)
structure En where
 i : Nat
 l : Nat
 lv : Nat
 cs : List Nat
noncomputable def En.ft (e : En) : List Nat := e.l :: e.cs
noncomputable def foot (F : List En) : List Nat := F.flatMap En.ft
noncomputable def aZ (F : List En) : Own := F.map fun e => (e.i, e.lv)
structure WS (P : Nat → Prop) (h0 : Hd) (n0 : Nat) (H : Hd) (st : Sto) (ρ : Env) (τ : aD) (F : List En) : Prop where
 len : ρ.length = τ.length
 val : ∀ (i : Nat) d, τ[i]? = some (some d) → ∃ u, ρ[i]? = some (some u) ∧ Rep st u d ∧ ((∀ e ∈ F, e.i ≠ i) → Av H st.length u)
 wf : Wf H st
 ent : ∀ e ∈ F, ρ[e.i]? = some (some (.loc e.l)) ∧ Ent H st e.l e.cs e.lv ∧ ∀ k ∈ e.ft, ¬ P k
 nd : (foot F).Nodup
 nv : (F.map (·.i)).Nodup
 bh : ∀ k, h0.h k → H.h k ∧ P k
 bg : ∀ k, h0.g k → H.g k
 oh : ∀ k, H.h k → h0.h k ∨ k ∈ foot F ∨ n0 ≤ k
 og : ∀ k, H.g k → h0.g k ∨ k ∈ foot F ∨ n0 ≤ k
 pl : ∀ k, P k → k < n0
 nl : n0 ≤ st.length
structure Stp (P : Nat → Prop) (H : Hd) (st : Sto) (H' : Hd) (st' : Sto) : Prop where
 len : st.length ≤ st'.length
 lo : ∀ k, P k → st'[k]? = st[k]?
 keep : ∀ (k : Nat) c, ¬ H.h k → st[k]? = some c → st'[k]? = some c
 hid : ∀ k, k < st.length → H'.h k → H.h k
 gid : ∀ k, k < st.length → H'.g k → H.g k
theorem Stp.refl {P : Nat → Prop} {H : Hd} {st : Sto} : Stp P H st H st := ⟨Nat.le_refl _, fun _ _ => rfl, fun _ _ _ h => h, fun _ _ h => h, fun _ _ h => h⟩
theorem Stp.trans {P : Nat → Prop} {H H1 H2 : Hd} {st st1 st2 : Sto} (x : Stp P H st H1 st1) (y : Stp P H1 st1 H2 st2) : Stp P H st H2 st2 :=
 ⟨Nat.le_trans x.len y.len, fun k hk => (y.lo k hk).trans (x.lo k hk), fun k c hn e => y.keep k c (fun z => hn (x.hid k (List.getElem?_eq_some_iff.mp e).1 z)) (x.keep k c hn e),
   fun k hk z => x.hid k hk (y.hid k (Nat.lt_of_lt_of_le hk x.len) z), fun k hk z => x.gid k hk (y.gid k (Nat.lt_of_lt_of_le hk x.len) z)⟩
structure Fin (P : Nat → Prop) (h0 : Hd) (n0 : Nat) (st : Sto) (H' : Hd) (st' : Sto) : Prop where
 len : st.length ≤ st'.length
 lo : ∀ k, P k → st'[k]? = st[k]?
 wf : Wf H' st'
 hm : ∀ k, h0.h k → H'.h k
 gm : ∀ k, h0.g k → H'.g k
 hn : ∀ k, k < n0 → H'.h k → h0.h k
 gn : ∀ k, k < n0 → H'.g k → h0.g k
theorem bI {F : List En} {k : Nat} : k ∈ foot F ↔ ∃ e ∈ F, k ∈ e.ft := by unfold foot; exact List.mem_flatMap
theorem ia (e : En) (F : List En) : foot (e :: F) = e.ft ++ foot F := rfl
theorem iR (F G : List En) : foot (F ++ G) = foot F ++ foot G := by unfold foot; exact List.flatMap_append
theorem mem_mid {α : Type} {F1 F2 : List α} {e x : α} (h : x ∈ F1 ++ F2) : x ∈ F1 ++ e :: F2 := by
 rcases List.mem_append.mp h with h | h
 · exact List.mem_append_left _ h
 · exact List.mem_append_right _ (List.mem_cons_of_mem _ h)
theorem cy {α : Type} {F1 F2 : List α} {e x : α} (h : x ∈ F1 ++ e :: F2) : x = e ∨ x ∈ F1 ++ F2 := by
 rcases List.mem_append.mp h with h | h
 · exact .inr (List.mem_append_left _ h)
 · rcases List.mem_cons.mp h with h | h
   · exact .inl h
   · exact .inr (List.mem_append_right _ h)
theorem i6 {F1 F2 : List En} {e e' : En} (nd : (foot (F1 ++ e :: F2)).Nodup) (h : e' ∈ F1 ++ F2) {k : Nat} (h1 : k ∈ e.ft) (h2 : k ∈ e'.ft) : False := by
 rw [iR, ia] at nd
 obtain ⟨_, n2, n3⟩ := List.nodup_append.mp nd
 obtain ⟨_, _, n6⟩ := List.nodup_append.mp n2
 rcases List.mem_append.mp h with h | h
 · exact n3 k (bI.mpr ⟨e', h, h2⟩) k (List.mem_append_left _ h1) rfl
 · exact n6 k h1 k (bI.mpr ⟨e', h, h2⟩) rfl
theorem BE {F1 F2 : List En} {e : En} (nd : (foot (F1 ++ e :: F2)).Nodup) : (foot (F1 ++ F2)).Nodup := by
 rw [iR, ia] at nd
 rw [iR]
 obtain ⟨n1, n2, n3⟩ := List.nodup_append.mp nd
 obtain ⟨_, n5, _⟩ := List.nodup_append.mp n2
 exact List.nodup_append.mpr ⟨n1, n5, fun a ha b hb => n3 a ha b (List.mem_append_right _ hb)⟩
theorem sQ {F1 F2 : List En} {e : En} (nv : ((F1 ++ e :: F2).map (·.i)).Nodup) : ((F1 ++ F2).map (·.i)).Nodup ∧ ∀ e' ∈ F1 ++ F2, e'.i ≠ e.i := by
 rw [List.map_append, List.map_cons] at nv
 obtain ⟨n1, n2, n3⟩ := List.nodup_append.mp nv
 obtain ⟨n4, n5⟩ := List.nodup_cons.mp n2
 refine ⟨?_, fun e' he z => ?_⟩
 · rw [List.map_append]
   exact List.nodup_append.mpr ⟨n1, n5, fun a ha b hb => n3 a ha b (List.mem_cons_of_mem _ hb)⟩
 · rcases List.mem_append.mp he with h | h
   · exact n3 _ (List.mem_map_of_mem h) _ (List.mem_cons_self ..) z
   · exact n4 (z ▸ List.mem_map_of_mem (f := (·.i)) h)
theorem Ent.gr {h h' : Hd} {st st' : Sto} {l : Nat} {cs : List Nat} {lv : Nat} (e : Ent h st l cs lv) (g : Gr h st h' st') : Ent h' st' l cs lv := by
 refine ⟨g.hm l e.hl, fun z => ?_, fun z => ?_, e.nd⟩
 · obtain ⟨a, b, us, c⟩ := e.one z
   exact ⟨fun q => a (g.gn l (List.getElem?_eq_some_iff.mp c).1 q), b, us, gF g.pre _ _ c⟩
 · obtain ⟨a, b, c, d⟩ := e.two z
   exact ⟨a, g.gm l b, gF g.pre _ _ c, fun k hk => g.K5 (d k hk)⟩
theorem Ent.hd {h h' : Hd} {st st' : Sto} {l : Nat} {cs : List Nat} {lv : Nat} (e : Ent h st l cs lv) (eh : ∀ k ∈ l :: cs, (h.h k → h'.h k) ∧ (h.g k → h'.g k) ∧ (h'.g k → h.g k) ∧ st'[k]? = st[k]?) : Ent h' st' l cs lv := by
 have e0 := eh l (List.mem_cons_self ..)
 refine ⟨e0.1 e.hl, fun z => ?_, fun z => ?_, e.nd⟩
 · obtain ⟨a, b, us, c⟩ := e.one z
   exact ⟨fun q => a (e0.2.2.1 q), b, us, e0.2.2.2.trans c⟩
 · obtain ⟨a, b, c, d⟩ := e.two z
   refine ⟨a, e0.2.1 b, e0.2.2.2.trans c, fun k hk => ?_⟩
   obtain ⟨d1, d2, ws, d3⟩ := d k hk
   have ek := eh k (List.mem_cons_of_mem _ hk)
   exact ⟨ek.1 d1, fun q => d2 (ek.2.2.1 q), ws, ek.2.2.2.trans d3⟩
section
variable {P : Nat → Prop} {h0 H : Hd} {n0 : Nat} {st : Sto} {ρ : Env} {τ : aD} {F F1 F2 : List En}
theorem WS.we (w : WS P h0 n0 H st ρ τ F) : WE H st ρ τ (aZ F) := by
 refine ⟨w.len, fun i d e => ?_⟩
 obtain ⟨u, e1, r, a⟩ := w.val i d e
 refine ⟨u, e1, r, ?_⟩
 by_cases hx : ∃ en ∈ F, en.i = i
 · obtain ⟨en, hen, rfl⟩ := hx
   obtain ⟨e2, e3, _⟩ := w.ent en hen
   rw [e1] at e2
   have : u = .loc en.l := by simpa using e2
   subst this
   refine .inr ⟨en.lv, List.mem_map.mpr ⟨en, hen, rfl⟩, ?_⟩
   by_cases z : en.lv = 1
   · obtain ⟨a1, _, us, a3⟩ := e3.one z
     exact .inr (.inl ⟨by omega, en.l, rfl, (List.getElem?_eq_some_iff.mp a3).1, a1⟩)
   · obtain ⟨a1, _, a3, a4⟩ := e3.two z
     refine .inr (.inr ⟨by omega, en.l, rfl, false, _, a3, fun v hv => ?_⟩)
     obtain ⟨c, hc, rfl⟩ := List.mem_map.mp hv
     exact ⟨c, rfl, e3.lt c (List.mem_cons_of_mem _ hc), (a4 c hc).2.1⟩
 · exact .inl (a fun e he z => hx ⟨e, he, z⟩)
theorem WS.gr (w : WS P h0 n0 H st ρ τ F) {H' : Hd} {st' : Sto} (g : Gr H st H' st') : WS P h0 n0 H' st' ρ τ F ∧ Stp P H st H' st' := by
 have out : ∀ k, H'.h k → H.h k ∨ n0 ≤ k := fun k z => by
   rcases Nat.lt_or_ge k st.length with q | q
   · exact .inl (g.hn k q z)
   · exact .inr (Nat.le_trans w.nl q)
 have outg : ∀ k, H'.g k → H.g k ∨ n0 ≤ k := fun k z => by
   rcases Nat.lt_or_ge k st.length with q | q
   · exact .inl (g.gn k q z)
   · exact .inr (Nat.le_trans w.nl q)
 refine ⟨⟨w.len, fun i d e => let ⟨u, e1, r, a⟩ := w.val i d e; ⟨u, e1, r.ext g.pre, fun z => g.av (a z)⟩, g.wf, fun e he => let ⟨a, b, c⟩ := w.ent e he; ⟨a, b.gr g, c⟩, w.nd, w.nv, fun k z => ⟨g.hm k (w.bh k z).1, (w.bh k z).2⟩, fun k z => g.gm k (w.bg k z),
   fun k z => (out k z).elim (w.oh k) fun q => .inr (.inr q), fun k z => (outg k z).elim (w.og k) fun q => .inr (.inr q), w.pl, Nat.le_trans w.nl g.pre.length_le⟩,
   ⟨g.pre.length_le, fun k hk => ?_, fun k c _ e => gF g.pre k c e, g.hn, g.gn⟩⟩
 obtain ⟨r, rfl⟩ := g.pre
 exact List.getElem?_append_left (Nat.lt_of_lt_of_le (w.pl k hk) w.nl)
theorem WS.drop {e : En} (w : WS P h0 n0 H st ρ τ (F1 ++ e :: F2)) : ∃ H', WS P h0 n0 H' st ρ τ (F1 ++ F2) ∧ Stp P H st H' st := by
 have he : e ∈ F1 ++ e :: F2 := List.mem_append_right _ (List.mem_cons_self ..)
 obtain ⟨a1, a2, a3⟩ := w.ent e he
 obtain ⟨w1, av1⟩ := w.wf.less a2
 obtain ⟨nv1, nv2⟩ := sQ w.nv
 have oM : ∀ k, P k → k ∉ e.l :: e.cs := fun k hk z => a3 k z hk
 refine ⟨H.less fun k => k ∈ e.l :: e.cs, ⟨w.len, fun i d q => ?_, w1, fun e' he' => ?_, BE w.nd, nv1, fun k z => ⟨⟨(w.bh k z).1, oM k (w.bh k z).2⟩, (w.bh k z).2⟩, fun k z => ⟨w.bg k z, oM k (w.bh k (h0.sub k z)).2⟩, fun k z => ?_, fun k z => ?_, w.pl, w.nl⟩, ⟨Nat.le_refl _, fun _ _ => rfl, fun _ _ _ h => h, fun k _ z => z.1, fun k _ z => z.1⟩⟩
 · obtain ⟨u, e1, r, a⟩ := w.val i d q
   refine ⟨u, e1, r, fun hn => ?_⟩
   by_cases z : e.i = i
   · subst z
     rw [a1] at e1
     have : u = .loc e.l := by simpa using e1.symm
     subst this
     exact av1
   · refine (a fun e' he' => ?_).less
     rcases cy he' with rfl | he'
     · exact z
     · exact hn e' he'
 · obtain ⟨b1, b2, b3⟩ := w.ent e' (mem_mid he')
   have ap : ∀ k ∈ e'.l :: e'.cs, k ∉ e.l :: e.cs := fun k hk z => i6 w.nd he' z hk
   exact ⟨b1, b2.hd fun k hk => ⟨fun z => ⟨z, ap k hk⟩, fun z => ⟨z, ap k hk⟩, fun z => z.1, rfl⟩, b3⟩
 · rcases w.oh k z.1 with q | q | q
   · exact .inl q
   · obtain ⟨e', he', hk⟩ := bI.mp q
     rcases cy he' with rfl | he'
     · exact absurd hk z.2
     · exact .inr (.inl (bI.mpr ⟨e', he', hk⟩))
   · exact .inr (.inr q)
 · rcases w.og k z.1 with q | q | q
   · exact .inl q
   · obtain ⟨e', he', hk⟩ := bI.mp q
     rcases cy he' with rfl | he'
     · exact absurd hk z.2
     · exact .inr (.inl (bI.mpr ⟨e', he', hk⟩))
   · exact .inr (.inr q)
theorem WS.down {i l : Nat} {cs : List Nat} (w : WS P h0 n0 H st ρ τ (F1 ++ ⟨i, l, 2, cs⟩ :: F2)) : ∃ H', WS P h0 n0 H' st ρ τ (F1 ++ ⟨i, l, 1, []⟩ :: F2) ∧ Stp P H st H' st := by
 have he : (⟨i, l, 2, cs⟩ : En) ∈ F1 ++ ⟨i, l, 2, cs⟩ :: F2 := List.mem_append_right _ (List.mem_cons_self ..)
 obtain ⟨a1, a2, a3⟩ := w.ent _ he
 obtain ⟨H', b1, b2, b3, b4, b5, b6⟩ := Ent.down w.wf a2
 obtain ⟨nv1, nv2⟩ := sQ w.nv
 have oM : ∀ k, P k → k ∉ l :: cs := fun k hk z => a3 k z hk
 have cases' : ∀ {e'}, e' ∈ F1 ++ (⟨i, l, 1, []⟩ : En) :: F2 → e' = ⟨i, l, 1, []⟩ ∨ e' ∈ F1 ++ F2 := fun h => cy h
 have nd' : (foot (F1 ++ ⟨i, l, 1, []⟩ :: F2)).Nodup := by
   have nd := w.nd
   rw [iR, ia] at nd ⊢
   obtain ⟨n1, n2, n3⟩ := List.nodup_append.mp nd
   obtain ⟨n4, n5, n6⟩ := List.nodup_append.mp n2
   refine List.nodup_append.mpr ⟨n1, List.nodup_append.mpr ⟨by simp [En.ft], n5, fun a ha b hb => n6 a ?_ b hb⟩, fun a ha b hb => n3 a ha b ?_⟩
   · have : a = l := by simpa [En.ft] using ha
     subst this; exact List.mem_cons_self ..
   · rcases List.mem_append.mp hb with hb | hb
     · have : b = l := by simpa [En.ft] using hb
       subst this; exact List.mem_append_left _ (List.mem_cons_self ..)
     · exact List.mem_append_right _ hb
 have nvv : ((F1 ++ (⟨i, l, 1, []⟩ : En) :: F2).map (·.i)).Nodup := by
   have := w.nv
   rw [List.map_append, List.map_cons] at this ⊢
   exact this
 refine ⟨H', ⟨w.len, fun j d q => ?_, b5, fun e' he' => ?_, nd', nvv, fun k z => ⟨(b3 k (oM k (w.bh k z).2)).1 (w.bh k z).1, (w.bh k z).2⟩, fun k z => (b3 k (oM k (w.bh k (h0.sub k z)).2)).2 (w.bg k z), fun k z => ?_, fun k z => ?_, w.pl, w.nl⟩, ⟨Nat.le_refl _, fun _ _ => rfl, fun _ _ _ h => h, fun k _ z => b1 k z, fun k _ z => b2 k z⟩⟩
 · obtain ⟨u, e1, r, a⟩ := w.val j d q
   refine ⟨u, e1, r, fun hn => (a fun e' he' => ?_).imp fun k _ z => b1 k z⟩
   rcases cy he' with rfl | he'
   · exact hn ⟨i, l, 1, []⟩ (List.mem_append_right _ (List.mem_cons_self ..))
   · exact hn e' (mem_mid he')
 · rcases cases' he' with rfl | he'
   · exact ⟨a1, b6, fun k hk => a3 k (by rw [En.ft, List.mem_singleton] at hk; subst hk; exact List.mem_cons_self ..)⟩
   · obtain ⟨c1, c2, c3⟩ := w.ent e' (mem_mid he')
     have ap : ∀ k ∈ e'.l :: e'.cs, k ∉ l :: cs := fun k hk z => i6 w.nd he' z hk
     exact ⟨c1, c2.hd fun k hk => ⟨(b3 k (ap k hk)).1, (b3 k (ap k hk)).2, b2 k, rfl⟩, c3⟩
 · rcases w.oh k (b1 k z) with q | q | q
   · exact .inl q
   · obtain ⟨e', he', hk⟩ := bI.mp q
     rcases cy he' with rfl | he'
     · rcases List.mem_cons.mp hk with rfl | hk
       · exact .inr (.inl (bI.mpr ⟨⟨i, k, 1, []⟩, List.mem_append_right _ (List.mem_cons_self ..), List.mem_cons_self ..⟩))
       · exact absurd z (b4 k hk)
     · exact .inr (.inl (bI.mpr ⟨e', mem_mid he', hk⟩))
   · exact .inr (.inr q)
 · rcases w.og k (b2 k z) with q | q | q
   · exact .inl q
   · obtain ⟨e', he', hk⟩ := bI.mp q
     rcases cy he' with rfl | he'
     · rcases List.mem_cons.mp hk with rfl | hk
       · exact .inr (.inl (bI.mpr ⟨⟨i, k, 1, []⟩, List.mem_append_right _ (List.mem_cons_self ..), List.mem_cons_self ..⟩))
       · exact absurd (H'.sub k z) (b4 k hk)
     · exact .inr (.inl (bI.mpr ⟨e', mem_mid he', hk⟩))
   · exact .inr (.inr q)
theorem WS.dns (g : Nat → Nat → Bool) : ∀ (F2 F1 : List En) {H : Hd}, WS P h0 n0 H st ρ τ (F1 ++ F2) → ∃ H' F', aZ F' = dn g (aZ F2) ∧ WS P h0 n0 H' st ρ τ (F1 ++ F') ∧ Stp P H st H' st
 | [], F1, H, w => ⟨H, [], rfl, w, .refl⟩
 | e :: F2, F1, H, w => by
   have step : ∀ {e'}, WS P h0 n0 H st ρ τ (F1 ++ e' :: F2) → ∀ {H0}, Stp P H0 st H st → ∃ H' F', aZ F' = (e'.i, e'.lv) :: dn g (aZ F2) ∧ WS P h0 n0 H' st ρ τ (F1 ++ F') ∧ Stp P H0 st H' st := fun {e'} w {H0} s0 => by
     rw [show F1 ++ e' :: F2 = (F1 ++ [e']) ++ F2 by simp] at w
     obtain ⟨H', F', e1, w1, s1⟩ := WS.dns g F2 (F1 ++ [e']) w
     exact ⟨H', e' :: F', by rw [← e1]; rfl, by rw [show F1 ++ e' :: F' = (F1 ++ [e']) ++ F' by simp]; exact w1, s0.trans s1⟩
   show ∃ H' F', aZ F' = Sv.dn g ((e.i, e.lv) :: aZ F2) ∧ _
   rw [Sv.dn]
   split
   · split
     · rename_i hz
       obtain ⟨i, l, lv, cs⟩ := e
       obtain ⟨hz, _⟩ := hz
       dsimp only at hz
       subst hz
       obtain ⟨H1, w1, s1⟩ := WS.down w
       have : ∀ {e'}, WS P h0 n0 H1 st ρ τ (F1 ++ e' :: F2) → ∃ H' F', aZ F' = (e'.i, e'.lv) :: Sv.dn g (aZ F2) ∧ WS P h0 n0 H' st ρ τ (F1 ++ F') ∧ Stp P H st H' st := fun {e'} w => by
         rw [show F1 ++ e' :: F2 = (F1 ++ [e']) ++ F2 by simp] at w
         obtain ⟨H', F', e1, w1, s2⟩ := WS.dns g F2 (F1 ++ [e']) w
         exact ⟨H', e' :: F', by rw [← e1]; rfl, by rw [show F1 ++ e' :: F' = (F1 ++ [e']) ++ F' by simp]; exact w1, s1.trans s2⟩
       exact this w1
     · obtain ⟨H1, w1, s1⟩ := WS.drop w
       obtain ⟨H', F', e1, w2, s2⟩ := WS.dns g F2 F1 w1
       exact ⟨H', F', e1, w2, s1.trans s2⟩
   · exact step w .refl
theorem WS.dn0 (w : WS P h0 n0 H st ρ τ F) (g : Nat → Nat → Bool) : ∃ H' F', aZ F' = Sv.dn g (aZ F) ∧ WS P h0 n0 H' st ρ τ F' ∧ Stp P H st H' st := WS.dns g F [] w
theorem A6 : ∀ (own : Own), Sv.dn (fun _ _ => true) own = []
 | [] => rfl
 | (i, lv) :: r => by rw [Sv.dn]; simp only [if_true, Bool.true_eq_false, and_false, if_false]; exact A6 r
theorem CN {F : List En} (h : aZ F = []) : F = [] := by cases F; rfl; cases h
theorem WS.fin (w : WS P h0 n0 H st ρ τ F) : ∃ H', WS P h0 n0 H' st ρ τ [] ∧ Stp P H st H' st := by
 obtain ⟨H', F', e, w1, s1⟩ := w.dn0 fun _ _ => true
 rw [A6] at e
 have := CN e
 subst this
 exact ⟨H', w1, s1⟩
theorem WS.out (w : WS P h0 n0 H st ρ τ []) : Fin P h0 n0 st H st :=
 ⟨Nat.le_refl _, fun _ _ => rfl, w.wf, fun k z => (w.bh k z).1, w.bg, fun k hk z => (w.oh k z).elim id fun q => q.elim (fun q => nomatch q) fun q => absurd hk (Nat.not_lt.mpr q), fun k hk z => (w.og k z).elim id fun q => q.elim (fun q => nomatch q) fun q => absurd hk (Nat.not_lt.mpr q)⟩
theorem AK {g : Nat → Nat → Bool} : ∀ {own : Own} {i lv : Nat}, (i, lv) ∈ Sv.dn g own → g i lv = false
 | [], _, _, h => by cases h
 | (j, k) :: r, i, lv, h => by
   rw [Sv.dn] at h
   split at h
   · split at h
     · rename_i hz
       rcases List.mem_cons.mp h with h | h
       · cases h; exact hz.2
       · exact AK h
     · exact AK h
   · rename_i hz
     rcases List.mem_cons.mp h with h | h
     · cases h; exact Bool.eq_false_iff.mpr hz
     · exact AK h
end
end Sv
namespace Sv
open PySem PySem.Spec L2
open Ev (D aR aY ai)
theorem get_set {α : Type} {xs : List (Option α)} {i j : Nat} {x y : α} (h : (xs.set i (some x))[j]? = some (some y)) : (i = j ∧ y = x) ∨ (i ≠ j ∧ xs[j]? = some (some y)) := by
 by_cases z : i = j
 · subst z
   by_cases hl : i < xs.length
   · rw [List.getElem?_set_self hl] at h
     cases h
     exact .inl ⟨rfl, rfl⟩
   · rw [List.getElem?_eq_none (by rw [List.length_set]; omega)] at h; cases h
 · rw [List.getElem?_set_ne z] at h
   exact .inr ⟨z, h⟩
theorem get_none {α : Type} {xs : List (Option α)} {i j : Nat} {y : α} (h : (xs.set i none)[j]? = some (some y)) : i ≠ j ∧ xs[j]? = some (some y) := by
 by_cases z : i = j
 · subst z
   by_cases hl : i < xs.length
   · rw [List.getElem?_set_self hl] at h; cases h
   · rw [List.getElem?_eq_none (by rw [List.length_set]; omega)] at h; cases h
 · rw [List.getElem?_set_ne z] at h
   exact ⟨z, h⟩
theorem nin {X : List Nat} {m k : Nat} (hm : m ∈ X) (hk : k ∉ X) : m ≠ k := fun z => by subst z; exact hk hm
theorem nip {P : Nat → Prop} {m k : Nat} (hm : ¬ P m) (hk : P k) : m ≠ k := fun z => by subst z; exact hm hk
theorem aM.mk {st : Sto} : ∀ {us : List U} {ds : List T}, us.length = ds.length → (∀ (j : Nat) u d, us[j]? = some u → ds[j]? = some d → Rep st u d) → aM st us ds
 | [], [], _, _ => .nil
 | u :: us, d :: ds, hl, h => .cons (h 0 u d rfl rfl) (aM.mk (by simpa using hl) fun j u' d' e1 e2 => h (j + 1) u' d' (by simpa using e1) (by simpa using e2))
 | [], _ :: _, hl, _ => by simp at hl
 | _ :: _, [], hl, _ => by simp at hl
section
variable {P : Nat → Prop} {h0 H : Hd} {n0 : Nat} {st : Sto} {ρ : Env} {τ : aD} {F F1 F2 : List En}
theorem WS.set (w : WS P h0 n0 H st ρ τ F) {i : Nat} {u : U} {d : T} (hi : ∀ e ∈ F, e.i ≠ i) (p : PX 0 H st u d) : WS P h0 n0 H st (ρ.set i (some u)) (τ.set i (some d)) F := by
 refine ⟨by rw [List.length_set, List.length_set]; exact w.len, fun j e q => ?_, w.wf, fun e he => ?_, w.nd, w.nv, w.bh, w.bg, w.oh, w.og, w.pl, w.nl⟩
 · rcases get_set q with ⟨rfl, rfl⟩ | ⟨z, q⟩
   · refine ⟨u, List.getElem?_set_self ?_, p.1, fun _ => p.av⟩
     rw [w.len]
     have := (List.getElem?_eq_some_iff.mp q).1
     rwa [List.length_set] at this
   · obtain ⟨v, e1, r⟩ := w.val j e q
     exact ⟨v, by rw [List.getElem?_set_ne z]; exact e1, r⟩
 · obtain ⟨a, b⟩ := w.ent e he
   exact ⟨by rw [List.getElem?_set_ne (Ne.symm (hi e he))]; exact a, b⟩
theorem WS.lr : ∀ {is : List Nat} {us : List U} {ds : List T} {ρ : Env} {τ τ' : aD}, WS P h0 n0 H st ρ τ F → (∀ i ∈ is, ∀ e ∈ F, e.i ≠ i) → PXs 0 H st us ds → kX is ds τ = some τ' → ∃ ρ', lr is us ρ = some ρ' ∧ WS P h0 n0 H st ρ' τ' F
 | [], _, _, ρ, τ, τ', w, _, ⟨.nil, _⟩, e => by cases e; exact ⟨ρ, rfl, w⟩
 | [], _, _, ρ, τ, τ', w, _, ⟨.cons _ _, _⟩, e => by cases e
 | i :: is, _, _, ρ, τ, τ', w, _, ⟨.nil, _⟩, e => by cases e
 | i :: is, _, _, ρ, τ, τ', w, hi, ⟨.cons (u := u) (d := d) (us := us) r rs, a⟩, e => by
   rw [kX] at e
   rw [Sv.lr]
   exact WS.lr (w.set (hi i (List.mem_cons_self ..)) ⟨r, a u (List.mem_cons_self ..)⟩) (fun j hj => hi j (List.mem_cons_of_mem _ hj)) ⟨rs, fun v hv => a v (List.mem_cons_of_mem _ hv)⟩ e
theorem WS.iD {t : Tg} {u : U} {d : T} {τ' : aD} (w : WS P h0 n0 H st ρ τ F) (hi : ∀ i ∈ tgN t, ∀ e ∈ F, e.i ≠ i) (p : PX 0 H st u d) (e : aA t d τ = some τ') : ∃ ρ', iD t u ρ = some ρ' ∧ WS P h0 n0 H st ρ' τ' F := by
 cases t with
 | nm i =>
   cases e
   exact ⟨_, rfl, w.set (hi i (List.mem_singleton_self i)) p⟩
 | tp is =>
   cases d with
   | tup ds =>
     obtain ⟨us, rfl, p'⟩ := iS (k' := 0) p
     exact w.lr hi p' e
   | _ => cases e
theorem uf {t : Tg} {own : Own} (h : aZ F = Sv.dn (frg t) own) : ∀ i ∈ tgN t, ∀ e ∈ F, e.i ≠ i := fun i hi e he z => by
 have : (e.i, e.lv) ∈ aZ F := List.mem_map.mpr ⟨e, he, rfl⟩
 rw [h] at this
 have := AK this
 unfold frg at this
 rw [z, List.contains_iff_mem.mpr hi] at this
 cases this
theorem WS.take (w : WS P h0 n0 H st ρ τ F) {i lv : Nat} {u : U} {d : T} {H' : Hd} {st' : Sto} (hi : ∀ e ∈ F, e.i ≠ i) (hl : i < τ.length) (g : Gr H st H' st') (f : FrN lv st H' st' u d) :
   ∃ l cs, u = .loc l ∧ WS P h0 n0 H' st' (ρ.set i (some u)) (τ.set i (some d)) (⟨i, l, lv, cs⟩ :: F) ∧ Stp P H st H' st' := by
 obtain ⟨w1, s1⟩ := w.gr g
 obtain ⟨r, l, cs, rfl, en, nl⟩ := f
 have hρ : i < ρ.length := by rw [w.len]; exact hl
 refine ⟨l, cs, rfl, ⟨by rw [List.length_set, List.length_set]; exact w.len, fun j e q => ?_, w1.wf, fun e he => ?_, ?_, ?_, w1.bh, w1.bg, fun k z => (w1.oh k z).imp id (Or.imp (fun q => ?_) id), fun k z => (w1.og k z).imp id (Or.imp (fun q => ?_) id), w1.pl, w1.nl⟩, s1⟩
 · rcases get_set q with ⟨rfl, rfl⟩ | ⟨z, q⟩
   · exact ⟨_, List.getElem?_set_self hρ, r, fun h => absurd rfl (h ⟨i, l, lv, cs⟩ (List.mem_cons_self ..))⟩
   · obtain ⟨v, e1, r1, a1⟩ := w1.val j e q
     exact ⟨v, by rw [List.getElem?_set_ne z]; exact e1, r1, fun h => a1 fun e he => h e (List.mem_cons_of_mem _ he)⟩
 · rcases List.mem_cons.mp he with rfl | he
   · exact ⟨List.getElem?_set_self hρ, en, fun k hk z => absurd (Nat.lt_of_lt_of_le (w.pl k z) w.nl) (Nat.not_lt.mpr (nl k hk))⟩
   · obtain ⟨a, b⟩ := w1.ent e he
     exact ⟨by rw [List.getElem?_set_ne (Ne.symm (hi e he))]; exact a, b⟩
 · rw [ia]
   refine List.nodup_append.mpr ⟨en.nd, w.nd, fun a ha b hb z => ?_⟩
   subst z
   obtain ⟨e, he, hk⟩ := bI.mp hb
   exact absurd ((w.ent e he).2.1.lt a hk) (Nat.not_lt.mpr (nl a ha))
 · rw [List.map_cons]
   refine List.nodup_cons.mpr ⟨fun z => ?_, w.nv⟩
   obtain ⟨e, he, z⟩ := List.mem_map.mp z
   exact hi e he z
 · rw [ia]; exact List.mem_append_right _ q
 · rw [ia]; exact List.mem_append_right _ q
noncomputable def yJ (H : Hd) (F : List En) (e : En) : Hd := ⟨fun k => k ∈ e.ft ∨ (H.g k ∧ ∀ e' ∈ F, e'.l ≠ k), fun k => (k ∈ e.ft ∧ H.g k) ∨ (H.g k ∧ ∀ e' ∈ F, e'.l ≠ k), fun k z => z.imp (·.1) id⟩
theorem WS.yJ {e : En} (w : WS P h0 n0 H st ρ τ (F1 ++ e :: F2)) : Wf (yJ H (F1 ++ F2) e) st := by
 have he : e ∈ F1 ++ e :: F2 := List.mem_append_right _ (List.mem_cons_self ..)
 obtain ⟨a1, a2, a3⟩ := w.ent e he
 refine ⟨fun k fz us hk q u hu => ?_, fun k z => z.elim (fun z => a2.lt k z) fun z => w.wf.lt k (H.sub k z.1)⟩
 by_cases hg : H.g k
 · have : ∃ e' ∈ F1 ++ F2, e'.l = k := Classical.byContradiction fun z => hk (.inr ⟨hg, fun e' he' z' => z ⟨e', he', z'⟩⟩)
   obtain ⟨e', he', rfl⟩ := this
   obtain ⟨b1, b2, b3⟩ := w.ent e' (mem_mid he')
   have hz : e'.lv ≠ 1 := fun z => (b2.one z).1 hg
   obtain ⟨_, _, c3, c4⟩ := b2.two hz
   rw [q] at c3
   cases c3
   obtain ⟨c, hc, rfl⟩ := List.mem_map.mp hu
   refine .loc (b2.lt c (List.mem_cons_of_mem _ hc)) fun z => ?_
   rcases z with z | z
   · exact i6 w.nd he' z (List.mem_cons_of_mem _ hc)
   · exact (c4 c hc).2.1 z.1
 · refine (w.wf.av k fz us hg q u hu).imp fun l _ z => ?_
   rcases z with z | z
   · exact a2.hid l z
   · exact H.sub l z.1
theorem WS.lJ {e : En} (w : WS P h0 n0 H st ρ τ (F1 ++ e :: F2)) {st' : Sto} (kp : ∀ (k : Nat) c, k ∉ e.ft → st[k]? = some c → st'[k]? = some c) {i : Nat} {d : T} (hi : i ≠ e.i) (hd : τ[i]? = some (some d)) :
   ∃ u, ρ[i]? = some (some u) ∧ Rep st' u d ∧ ((∀ e' ∈ F1 ++ e :: F2, e'.i ≠ i) → Av H st.length u) := by
 obtain ⟨a1, a2, a3⟩ := w.ent e (List.mem_append_right _ (List.mem_cons_self ..))
 obtain ⟨u, e1, r, a⟩ := w.val i d hd
 refine ⟨u, e1, r.keep w.yJ (fun k c hk q => kp k c (fun z => hk (.inl z)) q) fun k hk z => ?_, a⟩
 by_cases hx : ∃ e' ∈ F1 ++ F2, e'.i = i
 · obtain ⟨e', he', rfl⟩ := hx
   obtain ⟨b1, b2, b3⟩ := w.ent e' (mem_mid he')
   rw [e1] at b1
   have : u = .loc e'.l := by simpa using b1
   subst this
   have : k = e'.l := by simpa [locs] using hk
   subst this
   rcases z with z | z
   · exact i6 w.nd he' z (List.mem_cons_self ..)
   · exact z.2 e' he' rfl
 · have av := a fun e' he' q => by
     rcases cy he' with rfl | he'
     · exact hi q.symm
     · exact hx ⟨e', he', q⟩
   rcases z with z | z
   · exact (av k hk).2 (a2.hid k z)
   · exact (av k hk).2 (H.sub k z.1)
theorem WS.Cw {e : En} (w : WS P h0 n0 H st ρ τ (F1 ++ e :: F2)) {st' : Sto} (kp : ∀ (k : Nat) c, k ∉ e.ft → st[k]? = some c → st'[k]? = some c) {us : List U} {ds : List T} (p : PXs 0 H st us ds) : aM st' us ds := by
 obtain ⟨a1, a2, a3⟩ := w.ent e (List.mem_append_right _ (List.mem_cons_self ..))
 refine p.1.keep w.yJ (fun k c hk q => kp k c (fun z => hk (.inl z)) q) fun u hu k hk z => ?_
 have av := (p.2 u hu).zero
 rcases z with z | z
 · exact (av k hk).2 (a2.hid k z)
 · exact (av k hk).2 (H.sub k z.1)
theorem WS.write {e : En} (w : WS P h0 n0 H st ρ τ (F1 ++ e :: F2)) {m : Nat} {vs : List U} {d : T} (hm : m ∈ e.ft) (hv : ∀ v ∈ vs, Av H st.length v) (hr : Rep (st.set m (false, vs)) (.loc e.l) d) (hE : Ent H (st.set m (false, vs)) e.l e.cs e.lv) :
   WS P h0 n0 H (st.set m (false, vs)) ρ (τ.set e.i (some d)) (F1 ++ e :: F2) ∧ Stp P H st H (st.set m (false, vs)) := by
 have he : e ∈ F1 ++ e :: F2 := List.mem_append_right _ (List.mem_cons_self ..)
 obtain ⟨a1, a2, a3⟩ := w.ent e he
 have hml := a2.lt m hm
 have kp : ∀ (k : Nat) c, k ∉ e.ft → st[k]? = some c → (st.set m (false, vs))[k]? = some c := fun k c hk q => by
   rw [List.getElem?_set_ne (nin hm hk)]; exact q
 refine ⟨⟨by rw [List.length_set]; exact w.len, fun i d' q => ?_, ⟨fun k fz us hk q u hu => ?_, fun k z => by rw [List.length_set]; exact w.wf.lt k z⟩, fun e' he' => ?_, w.nd, w.nv, w.bh, w.bg, w.oh, w.og, w.pl, by rw [List.length_set]; exact w.nl⟩, ⟨by rw [List.length_set]; exact Nat.le_refl _, fun k hk => List.getElem?_set_ne (nip (a3 m hm) hk), fun k c hn q => ?_, fun _ _ z => z, fun _ _ z => z⟩⟩
 · rcases get_set q with ⟨rfl, rfl⟩ | ⟨z, q⟩
   · exact ⟨_, a1, hr, fun h => absurd rfl (h e he)⟩
   · obtain ⟨u, e1, r, a⟩ := w.lJ kp (Ne.symm z) q
     exact ⟨u, e1, r, fun h => by rw [List.length_set]; exact a h⟩
 · rw [List.length_set]
   by_cases z : k = m
   · subst z
     rw [List.getElem?_set_self hml] at q
     cases q
     exact hv u hu
   · rw [List.getElem?_set_ne (Ne.symm z)] at q
     exact w.wf.av k fz us hk q u hu
 · rcases cy he' with rfl | he'
   · exact ⟨a1, hE, a3⟩
   · obtain ⟨b1, b2, b3⟩ := w.ent e' (mem_mid he')
     exact ⟨b1, b2.hd fun k hk => ⟨fun z => z, fun z => z, fun z => z, List.getElem?_set_ne (fun z => i6 w.nd he' hm (by rw [z]; exact hk))⟩, b3⟩
 · exact kp k c (fun z => hn (a2.hid k z)) q
theorem WS.Kb {i l : Nat} (w : WS P h0 n0 H st ρ τ (F1 ++ ⟨i, l, 1, []⟩ :: F2)) {vs : List U} {ds : List T} (p : PXs 0 H st vs ds) :
   WS P h0 n0 H (st.set l (false, vs)) ρ (τ.set i (some (.lst ds))) (F1 ++ ⟨i, l, 1, []⟩ :: F2) ∧ Stp P H st H (st.set l (false, vs)) := by
 obtain ⟨a1, a2, a3⟩ := w.ent _ (List.mem_append_right _ (List.mem_cons_self ..))
 have hl : l < st.length := a2.lt l (List.mem_cons_self ..)
 have kp : ∀ (k : Nat) c, k ∉ (⟨i, l, 1, []⟩ : En).ft → st[k]? = some c → (st.set l (false, vs))[k]? = some c := fun k c hk q => by
   rw [List.getElem?_set_ne (nin (List.mem_cons_self ..) hk)]; exact q
 refine WS.write (e := ⟨i, l, 1, []⟩) w (List.mem_cons_self ..) (fun v hv => (p.2 v hv).zero) (.loc (List.getElem?_set_self hl) (w.Cw kp p)) ⟨a2.hl, fun z => ⟨(a2.one z).1, rfl, vs, List.getElem?_set_self hl⟩, fun z => absurd rfl z, a2.nd⟩
theorem WS.Ke {i l q c : Nat} {cs : List Nat} (w : WS P h0 n0 H st ρ τ (F1 ++ ⟨i, l, 2, cs⟩ :: F2)) {vs : List U} {xs ds : List T} (hx : τ[i]? = some (some (.lst xs))) (hc : cs[q]? = some c) (p : PXs 0 H st vs ds) :
   WS P h0 n0 H (st.set c (false, vs)) ρ (τ.set i (some (.lst (xs.set q (.lst ds))))) (F1 ++ ⟨i, l, 2, cs⟩ :: F2) ∧ Stp P H st H (st.set c (false, vs)) := by
 obtain ⟨a1, a2, a3⟩ := w.ent _ (List.mem_append_right _ (List.mem_cons_self ..))
 obtain ⟨_, gl, e1, e2⟩ := a2.two (show (2 : Nat) ≠ 1 by decide)
 have hcm : c ∈ cs := List.mem_of_getElem? hc
 have hl : c < st.length := a2.lt c (List.mem_cons_of_mem _ hcm)
 have ncl : c ≠ l := fun z => (List.nodup_cons.mp a2.nd).1 (z ▸ hcm)
 have ndc := (List.nodup_cons.mp a2.nd).2
 have kp : ∀ (k : Nat) c', k ∉ (⟨i, l, 2, cs⟩ : En).ft → st[k]? = some c' → (st.set c (false, vs))[k]? = some c' := fun k c' hk q => by
   rw [List.getElem?_set_ne (nin (List.mem_cons_of_mem _ hcm) hk)]; exact q
 have cl : (st.set c (false, vs))[l]? = some (false, cs.map .loc) := by rw [List.getElem?_set_ne ncl]; exact e1
 obtain ⟨u, f1, f2, _⟩ := w.val i _ hx
 rw [a1] at f1
 have : u = .loc l := by simpa using f1.symm
 subst this
 have r0 : aM st (cs.map .loc) xs := by
   cases f2 with
   | loc e r => rw [e1] at e; cases e; exact r
 have key : aM (st.set c (false, vs)) (cs.map .loc) (xs.set q (.lst ds)) := by
   refine aM.mk (by rw [List.length_set]; exact r0.length) fun j u d g1 g2 => ?_
   rw [List.getElem?_map] at g1
   obtain ⟨c', g3, rfl⟩ := Option.map_eq_some_iff.mp g1
   by_cases hj : j = q
   · subst hj
     rw [hc] at g3; cases g3
     have hjl : j < xs.length := by
       have := (List.getElem?_eq_some_iff.mp g2).1
       rwa [List.length_set] at this
     rw [List.getElem?_set_self hjl] at g2
     cases g2
     exact .loc (List.getElem?_set_self hl) (w.Cw kp p)
   · rw [List.getElem?_set_ne (Ne.symm hj)] at g2
     obtain ⟨u, g4, g5⟩ := r0.get g2
     rw [List.getElem?_map, g3] at g4
     cases g4
     have ncc : c ≠ c' := fun z => hj (by
       subst z
       obtain ⟨h1, h2⟩ := List.getElem?_eq_some_iff.mp g3
       obtain ⟨h3, h4⟩ := List.getElem?_eq_some_iff.mp hc
       exact (List.getElem_inj ndc).mp (h2.trans h4.symm))
     obtain ⟨b1, b2, ws, b3⟩ := e2 c' (List.mem_of_getElem? g3)
     cases g5 with
     | loc e r =>
       rw [b3] at e; cases e
       exact .loc (by rw [List.getElem?_set_ne ncc]; exact b3) (w.Cw kp ⟨r, fun u hu => .inl (w.wf.av _ _ _ b2 b3 u hu)⟩)
 refine WS.write (e := ⟨i, l, 2, cs⟩) w (List.mem_cons_of_mem _ hcm) (fun v hv => (p.2 v hv).zero) (.loc cl key) ⟨a2.hl, (fun z => by cases z), fun _ => ⟨rfl, gl, cl, fun k hk => ?_⟩, a2.nd⟩
 obtain ⟨b1, b2, ws, b3⟩ := e2 k hk
 refine ⟨b1, b2, ?_⟩
 by_cases z : k = c
 · subst z; exact ⟨vs, List.getElem?_set_self hl⟩
 · exact ⟨ws, by rw [List.getElem?_set_ne (Ne.symm z)]; exact b3⟩
theorem jB : ∀ {F : List En} {i : Nat}, 0 < cj (aZ F) i → ∃ F1 e F2, F = F1 ++ e :: F2 ∧ e.i = i ∧ e.lv = cj (aZ F) i
 | [], i, h => by simp [cj, aZ] at h
 | e :: F, i, h => by
   by_cases z : i = e.i
   · subst z
     exact ⟨[], e, F, rfl, rfl, by simp [cj, aZ, List.lookup_cons]⟩
   · have e1 : cj (aZ (e :: F)) i = cj (aZ F) i := by
       have : (i == e.i) = false := beq_eq_false_iff_ne.mpr z
       simp [cj, aZ, List.lookup_cons, this]
     rw [e1] at h ⊢
     obtain ⟨F1, e', F2, rfl, h2, h3⟩ := jB h
     exact ⟨e :: F1, e', F2, rfl, h2, h3⟩
end
end Sv
namespace Sv
open PySem PySem.Spec L2
open Ev (D aR aY ai)
structure GrM (X : Nat → Prop) (h : Hd) (st : Sto) (h' : Hd) (st' : Sto) : Prop where
 len : st.length ≤ st'.length
 keep : ∀ k, k < st.length → ¬ X k → st'[k]? = st[k]?
 hm : ∀ k, h.h k → ¬ X k → h'.h k
 gm : ∀ k, h.g k → ¬ X k → h'.g k
 hn : ∀ k, k < st.length → h'.h k → h.h k ∧ ¬ X k
 gn : ∀ k, k < st.length → h'.g k → h.g k ∧ ¬ X k
 wf : Wf h' st'
noncomputable def GdM {α β : Type} (X : Nat → Prop) (h : Hd) (st : Sto) (P : Hd → Sto → α → β → Prop) (x : Rs α) : Ou β → Prop
 | .bad => True
 | .ok d => ∃ u st' h', x = .ok u st' ∧ GrM X h st h' st' ∧ P h' st' u d
 | .exc c => ∃ st' h', x = .exc c st' ∧ GrM X h st h' st'
noncomputable def oo (md : Md) (F : List U → Sto → Rs U) (G : List T → Ou T) : Prop :=
 0 < md.mv → md.lv = 0 ∧ ∀ h st l cs us x ds, Wf h st → Ent h st l cs md.mv → Rep st (.loc l) x → PXs 0 h st us ds → GdM (fun k => k ∈ l :: cs) h st (PX 0) (F (.loc l :: us) st) (G (x :: ds))
section
variable {P : Nat → Prop} {h0 H : Hd} {n0 : Nat} {st : Sto} {ρ : Env} {τ : aD} {F F1 F2 : List En}
theorem WS.moved {e : En} (w : WS P h0 n0 H st ρ τ (F1 ++ e :: F2)) {H' : Hd} {st' : Sto} (g : GrM (fun k => k ∈ e.ft) H st H' st') : WS P h0 n0 H' st' ρ (τ.set e.i none) (F1 ++ F2) ∧ Stp P H st H' st' := by
 have he : e ∈ F1 ++ e :: F2 := List.mem_append_right _ (List.mem_cons_self ..)
 obtain ⟨a1, a2, a3⟩ := w.ent e he
 obtain ⟨nv1, nv2⟩ := sQ w.nv
 have kp : ∀ (k : Nat) c, k ∉ e.ft → st[k]? = some c → st'[k]? = some c := fun k c hk q => (g.keep k (List.getElem?_eq_some_iff.mp q).1 hk).trans q
 have pk : ∀ k, P k → k ∉ e.ft := fun k hk z => a3 k z hk
 have ft : ∀ k, k ∈ foot (F1 ++ e :: F2) → k ∉ e.ft → k ∈ foot (F1 ++ F2) := fun k hk hn => by
   obtain ⟨e', he', hk'⟩ := bI.mp hk
   rcases cy he' with rfl | he''
   · exact absurd hk' hn
   · exact bI.mpr ⟨e', he'', hk'⟩
 refine ⟨⟨by rw [List.length_set]; exact w.len, fun i d q => ?_, g.wf, fun e' he' => ?_, BE w.nd, nv1, fun k z => ⟨g.hm k (w.bh k z).1 (pk k (w.bh k z).2), (w.bh k z).2⟩, fun k z => g.gm k (w.bg k z) (pk k (w.bh k (h0.sub k z)).2), fun k z => ?_, fun k z => ?_, w.pl, Nat.le_trans w.nl g.len⟩,
   ⟨g.len, fun k hk => g.keep k (Nat.lt_of_lt_of_le (w.pl k hk) w.nl) (pk k hk), fun k c hn q => kp k c (fun z => hn (a2.hid k z)) q, fun k hk z => (g.hn k hk z).1, fun k hk z => (g.gn k hk z).1⟩⟩
 · obtain ⟨ne, q⟩ := get_none q
   obtain ⟨u, e1, r, a⟩ := w.lJ kp (Ne.symm ne) q
   refine ⟨u, e1, r, fun hn l hl => ?_⟩
   have av := a fun e' he' => by
     rcases cy he' with rfl | he'
     · exact ne
     · exact hn e' he'
   exact ⟨Nat.lt_of_lt_of_le (av l hl).1 g.len, fun z => (av l hl).2 (g.hn l (av l hl).1 z).1⟩
 · obtain ⟨b1, b2, b3⟩ := w.ent e' (mem_mid he')
   have ap : ∀ k ∈ e'.l :: e'.cs, k ∉ e.ft := fun k hk z => i6 w.nd he' z hk
   exact ⟨b1, b2.hd fun k hk => ⟨fun z => g.hm k z (ap k hk), fun z => g.gm k z (ap k hk), fun z => (g.gn k (b2.lt k hk) z).1, g.keep k (b2.lt k hk) (ap k hk)⟩, b3⟩
 · rcases Nat.lt_or_ge k st.length with q | q
   · obtain ⟨z1, z2⟩ := g.hn k q z
     exact (w.oh k z1).imp id (Or.imp (fun z => ft k z z2) id)
   · exact .inr (.inr (Nat.le_trans w.nl q))
 · rcases Nat.lt_or_ge k st.length with q | q
   · obtain ⟨z1, z2⟩ := g.gn k q z
     exact (w.og k z1).imp id (Or.imp (fun z => ft k z z2) id)
   · exact .inr (.inr (Nat.le_trans w.nl q))
end
theorem xM (g : Nat → Nat → Bool) : ∀ (a b : Own), dn g (a ++ b) = dn g a ++ dn g b
 | [], b => rfl
 | (i, lv) :: r, b => by
   rw [List.cons_append, dn, dn, xM g r b]
   split
   · split <;> rfl
   · rfl
theorem uO {g : Nat → Nat → Bool} : ∀ {own : Own}, (∀ i lv, (i, lv) ∈ own → g i lv = false) → dn g own = own
 | [], _ => rfl
 | (i, lv) :: r, h => by
   rw [dn, h i lv (List.mem_cons_self ..), uO fun j k hj => h j k (List.mem_cons_of_mem _ hj)]; rfl
theorem mD (F G : List En) : aZ (F ++ G) = aZ F ++ aZ G := List.map_append
theorem wB {F1 F2 : List En} {e : En} (nv : ((F1 ++ e :: F2).map (·.i)).Nodup) : (∀ i lv, (i, lv) ∈ aZ F1 → i ≠ e.i) ∧ ∀ i lv, (i, lv) ∈ aZ F2 → i ≠ e.i := by
 have h := (sQ nv).2
 refine ⟨fun i lv hi => ?_, fun i lv hi => ?_⟩ <;> (obtain ⟨e', he', z⟩ := List.mem_map.mp hi; cases z)
 · exact h e' (List.mem_append_left _ he')
 · exact h e' (List.mem_append_right _ he')
theorem Cq {F1 F2 : List En} {e : En} (nv : ((F1 ++ e :: F2).map (·.i)).Nodup) : dn (fun i _ => i == e.i) (aZ (F1 ++ e :: F2)) = aZ (F1 ++ F2) := by
 obtain ⟨h1, h2⟩ := wB nv
 rw [mD, mD, xM, uO fun i lv hi => beq_eq_false_iff_ne.mpr (h1 i lv hi)]
 show _ ++ dn _ ((e.i, e.lv) :: aZ F2) = _
 rw [dn, if_pos (by simp), if_neg (by simp), uO fun i lv hi => beq_eq_false_iff_ne.mpr (h2 i lv hi)]
theorem wG {F1 F2 : List En} {e : En} (nv : ((F1 ++ e :: F2).map (·.i)).Nodup) (hl : e.lv = 1 ∨ e.lv = 2) : dn (fun i lv => i == e.i && lv == 2) (aZ (F1 ++ e :: F2)) = aZ (F1 ++ ⟨e.i, e.l, 1, []⟩ :: F2) := by
 obtain ⟨h1, h2⟩ := wB nv
 rw [mD, mD, xM, uO fun i lv hi => by rw [beq_eq_false_iff_ne.mpr (h1 i lv hi)]; rfl]
 show _ ++ dn _ ((e.i, e.lv) :: aZ F2) = _ ++ ((e.i, 1) :: aZ F2)
 have h3 : dn (fun i lv => i == e.i && lv == 2) (aZ F2) = aZ F2 := uO fun i lv hi => by rw [beq_eq_false_iff_ne.mpr (h2 i lv hi)]; rfl
 rcases hl with z | z
 · rw [dn, z, if_neg (by simp), h3]
 · rw [dn, z, if_pos (by simp), if_pos ⟨rfl, by simp⟩, h3]
theorem tx {t : Tg} : ∀ {own : Own} {p : Nat × Nat}, p ∈ dn (frg t) own → p ∈ own
 | [], _, h => by cases h
 | (i, lv) :: r, p, h => by
   rw [dn] at h
   split at h
   · rename_i hz
     rw [if_neg (fun z => by have := z.2; unfold frg at this hz; rw [hz] at this; cases this)] at h
     exact List.mem_cons_of_mem _ (tx h)
   · rcases List.mem_cons.mp h with h | h
     · exact h ▸ List.mem_cons_self ..
     · exact List.mem_cons_of_mem _ (tx h)
section
variable {P : Nat → Prop} {h0 H : Hd} {n0 : Nat} {st : Sto} {ρ : Env} {τ : aD} {F F1 F2 : List En}
theorem WS.t6 (w : WS P h0 n0 H st ρ τ F) {e : En} (he : e ∈ F) : e.lv = 1 ∨ e.lv = 2 := by
 by_cases z : e.lv = 1
 · exact .inl z
 · exact .inr ((w.ent e he).2.1.two z).1
theorem WS.to1 {e : En} (w : WS P h0 n0 H st ρ τ (F1 ++ e :: F2)) : ∃ H', WS P h0 n0 H' st ρ τ (F1 ++ ⟨e.i, e.l, 1, []⟩ :: F2) ∧ Stp P H st H' st := by
 have he : e ∈ F1 ++ e :: F2 := List.mem_append_right _ (List.mem_cons_self ..)
 rcases w.t6 he with z | z
 · obtain ⟨i, l, lv, cs⟩ := e
   dsimp only at z
   subst z
   obtain ⟨_, rfl, _⟩ := (w.ent _ he).2.1.one rfl
   exact ⟨H, w, .refl⟩
 · obtain ⟨i, l, lv, cs⟩ := e
   dsimp only at z
   subst z
   exact WS.down w
theorem WS.own (w : WS P h0 n0 H st ρ τ (F1 ++ ⟨v, l, lv, cs⟩ :: F2)) {xs : List T} (hx : τ[v]? = some (some (.lst xs))) : ρ[v]? = some (some (.loc l)) ∧ Rep st (.loc l) (.lst xs) ∧ Ent H st l cs lv := by
 obtain ⟨a1, a2, _⟩ := w.ent _ (List.mem_append_right _ (List.mem_cons_self ..))
 obtain ⟨u, e1, r, _⟩ := w.val v _ hx
 rw [a1] at e1
 have : u = .loc l := by simpa using e1.symm
 subst this
 exact ⟨a1, r, a2⟩
end
theorem lR {st : Sto} {l : Nat} {us : List U} {ds : List T} (r : Rep st (.loc l) (.lst ds)) (e : st[l]? = some (false, us)) : aM st us ds := by
 cases r with
 | loc e' r => rw [e] at e'; cases e'; exact r
theorem yY {α : Type} : ∀ {xs : List α} {n : Nat} {a x : α}, x ∈ xs.insertIdx n a → x = a ∨ x ∈ xs
 | xs, 0, a, x, h => by rw [List.insertIdx_zero] at h; exact List.mem_cons.mp h
 | [], n + 1, a, x, h => by simp at h
 | y :: ys, n + 1, a, x, h => by
   rw [List.insertIdx_succ_cons] at h
   rcases List.mem_cons.mp h with h | h
   · exact .inr (h ▸ List.mem_cons_self ..)
   · exact (yY h).imp id (List.mem_cons_of_mem _)
theorem Ba {h : Hd} {st : Sto} {l : Nat} {us vs : List U} {xs ds : List T} {m : Lm} {ys : List T} (e : st[l]? = some (false, us)) (p : PXs 0 h st us xs) (q : PXs 0 h st vs ds) (hz : zM m xs ds = some ys) :
   ∃ ws, evM m (.loc l) vs st = some (st.set l (false, ws)) ∧ PXs 0 h st ws ys := by
 have hlen := p.1.length
 have hd := q.1.length
 cases m with
 | append =>
   match ds, vs, q, hz with
   | [x], [v], q, hz =>
     simp only [zM.eq_def] at hz
     split at hz
     · rename_i hl
       cases hz
       exact ⟨us ++ [v], by simp only [evM.eq_def, e, hlen, if_pos hl], p.append q⟩
     · cases hz
   | [], _, _, hz => simp [zM.eq_def] at hz
   | _ :: _ :: _, _, _, hz => simp [zM.eq_def] at hz
 | extend => match ds, hz with
   | [], hz => simp [zM.eq_def] at hz
   | _ :: _, hz => simp [zM.eq_def] at hz
 | insert =>
   match ds, q, hz with
   | [.int i, x], ⟨.cons (u := w1) r1 (.cons (u := w2) r2 .nil), hq⟩, hz =>
     have := r1.int_inv; subst this
     simp only [zM.eq_def] at hz
     split at hz
     · rename_i hl
       cases hz
       refine ⟨us.insertIdx i.toNat w2, by simp only [evM.eq_def, e, hlen, if_pos hl], p.1.insert _ r2, fun u hu => ?_⟩
       rcases yY hu with rfl | hu
       · exact hq _ (by simp)
       · exact p.2 u hu
     · cases hz
   | [], _, hz => simp [zM.eq_def] at hz
   | [a], _, hz => cases a <;> simp [zM.eq_def] at hz
   | [.non, _], _, hz | [.bl _, _], _, hz | [.str _, _], _, hz | [.tup _, _], _, hz | [.lst _, _], _, hz | [.exo _, _], _, hz => simp [zM.eq_def] at hz
   | a :: _ :: _ :: _, _, hz => cases a <;> simp [zM.eq_def] at hz
 | pop =>
   match ds, vs, q, hz with
   | [], [], q, hz =>
     simp only [zM.eq_def] at hz
     split at hz
     · cases hz
     · rename_i hl
       cases hz
       have hne : us ≠ [] := fun z => hl (by rw [← hlen, z]; rfl)
       refine ⟨us.dropLast, by simp only [evM.eq_def, e, if_neg hne], p.1.dropLast, fun u hu => p.2 u (List.dropLast_subset us hu)⟩
   | _ :: _, _, _, hz => simp [zM.eq_def] at hz
 | popAt =>
   match ds, q, hz with
   | [.int i], ⟨.cons (u := w1) r1 .nil, hq⟩, hz =>
     have := r1.int_inv; subst this
     simp only [zM.eq_def] at hz
     split at hz
     · rename_i hl
       obtain ⟨j, e1, rfl⟩ := Option.map_eq_some_iff.mp hz
       refine ⟨us.eraseIdx j, by simp only [evM.eq_def, e, hlen, if_pos hl, e1, Option.map_some], p.1.erase _, fun u hu => p.2 u (List.mem_of_mem_eraseIdx hu)⟩
     · cases hz
   | [], _, hz => simp [zM.eq_def] at hz
   | [.non], _, hz | [.bl _], _, hz | [.str _], _, hz | [.tup _], _, hz | [.lst _], _, hz | [.exo _], _, hz => simp [zM.eq_def] at hz
   | a :: _ :: _, _, hz => cases a <;> simp [zM.eq_def] at hz
 | clear =>
   match ds, vs, q, hz with
   | [], [], q, hz =>
     simp only [zM.eq_def, Option.some.injEq] at hz
     subst hz
     exact ⟨[], by simp only [evM.eq_def, e], .nil⟩
   | _ :: _, _, _, hz => simp [zM.eq_def] at hz
noncomputable def RF (P : Nat → Prop) (h0 : Hd) (S0 : Sto) (lv : Nat) (H : Hd) (st : Sto) : FlT → Fl → Sto → Prop
 | .nx τ' own', .nx ρ', st' => ∃ H' F', aZ F' = own' ∧ WS P h0 S0.length H' st' ρ' τ' F' ∧ Stp P H st H' st'
 | .bk τ' own', .bk ρ', st' => ∃ H' F', aZ F' = own' ∧ WS P h0 S0.length H' st' ρ' τ' F' ∧ Stp P H st H' st'
 | .ct τ' own', .ct ρ', st' => ∃ H' F', aZ F' = own' ∧ WS P h0 S0.length H' st' ρ' τ' F' ∧ Stp P H st H' st'
 | .rt d, .rt u, st' => ∃ H', Fin P h0 S0.length st H' st' ∧ FrR lv S0 H' st' u d
 | _, _, _ => False
noncomputable def GS (P : Nat → Prop) (h0 : Hd) (S0 : Sto) (lv : Nat) (H : Hd) (st : Sto) (x : Rs Fl) : Ou FlT → Prop
 | .bad => True
 | .exc c => ∃ st' H', x = .exc c st' ∧ Fin P h0 S0.length st H' st'
 | .ok f => ∃ f' st', x = .ok f' st' ∧ RF P h0 S0 lv H st f f' st'
section
variable {P : Nat → Prop} {h0 H H1 : Hd} {S0 : Sto} {lv : Nat} {st st1 : Sto}
theorem Fin.back {n0 : Nat} {H2 : Hd} {st2 : Sto} (s : Stp P H st H1 st1) (o : Fin P h0 n0 st1 H2 st2) : Fin P h0 n0 st H2 st2 := ⟨Nat.le_trans s.len o.len, fun k hk => (o.lo k hk).trans (s.lo k hk), o.wf, o.hm, o.gm, o.hn, o.gn⟩
theorem RF.back {f : FlT} {f' : Fl} {st2 : Sto} (s : Stp P H st H1 st1) (o : RF P h0 S0 lv H1 st1 f f' st2) : RF P h0 S0 lv H st f f' st2 := by
 cases f <;> cases f' <;> first
   | (obtain ⟨H', F', a, b, c⟩ := o; exact ⟨H', F', a, b, s.trans c⟩)
   | (obtain ⟨H', a, b⟩ := o; exact ⟨H', a.back s, b⟩)
   | exact o.elim
theorem GS.back {x : Rs Fl} {r : Ou FlT} (s : Stp P H st H1 st1) (g : GS P h0 S0 lv H1 st1 x r) : GS P h0 S0 lv H st x r := by
 cases r with
 | bad => trivial
 | exc c => obtain ⟨st', H', e, o⟩ := g; exact ⟨st', H', e, o.back s⟩
 | ok f => obtain ⟨f', st', e, o⟩ := g; exact ⟨f', st', e, o.back s⟩
theorem ej {α β : Type} {Q : Hd → Sto → α → β → Prop} {x : Rs α} {r : Ou β} {f : α → Sto → Rs Fl} {k : β → Ou FlT} {ρ : Env} {τ : aD} {F : List En} (w : WS P h0 S0.length H st ρ τ F) (g : Gd H st Q x r)
   (n : ∀ u d st' H', Gr H st H' st' → WS P h0 S0.length H' st' ρ τ F → Q H' st' u d → GS P h0 S0 lv H' st' (f u st') (k d)) : GS P h0 S0 lv H st (x.bind f) (r.bind k) := by
 cases r with
 | bad => trivial
 | exc c =>
   obtain ⟨st', H', e, p⟩ := g
   subst e
   obtain ⟨w1, s1⟩ := w.gr p
   obtain ⟨H2, w2, s2⟩ := w1.fin
   exact ⟨st', H2, rfl, (w2.out.back s2).back s1⟩
 | ok d =>
   obtain ⟨u, st', H', e, p, q⟩ := g
   subst e
   obtain ⟨w1, s1⟩ := w.gr p
   exact (n u d st' H' p w1 q).back s1
theorem xR {x : Rs Fl} {r : Ou FlT} {f : Fl → Sto → Rs Fl} {k : FlT → Ou FlT} (g : GS P h0 S0 lv H st x r) (n : ∀ fl fl' st', RF P h0 S0 lv H st fl fl' st' → GS P h0 S0 lv H st (f fl' st') (k fl)) : GS P h0 S0 lv H st (x.bind f) (r.bind k) := by
 cases r with
 | bad => trivial
 | exc c => obtain ⟨st', H', e, o⟩ := g; subst e; exact ⟨st', H', rfl, o⟩
 | ok fl =>
   obtain ⟨fl', st', e, o⟩ := g
   subst e
   exact n fl fl' st' o
theorem GS.noX {x : Rs Fl} {r : Ou FlT} (g : GS P h0 S0 lv H st x r) : GS P h0 S0 lv H st x.noX r.noX := by
 cases r with
 | bad => trivial
 | exc c => trivial
 | ok d => obtain ⟨u, st', e, q⟩ := g; subst e; exact ⟨u, st', rfl, q⟩
theorem bN {α : Type} {x : Rs Fl} {o : Option α} {k : α → Ou FlT} (n : ∀ a, o = some a → GS P h0 S0 lv H st x (k a)) : GS P h0 S0 lv H st x (bw o k) := by
 cases o with
 | none => trivial
 | some a => exact n a rfl
theorem ze {q : Sq} {xs : List T} (wf : Wf H st) (s : Stp P H st H1 st1) (hn : SqN H q) (hq : SqR H st q xs) : SqN H1 q ∧ SqR H1 st1 q xs := by
 induction q generalizing xs with
 | vals us =>
   refine ⟨trivial, hq.1.keep wf s.keep fun u hu l hl => ((hq.2 u hu).zero l hl).2, fun u hu => .inl fun l hl => ?_⟩
   have := (hq.2 u hu).zero l hl
   exact ⟨Nat.lt_of_lt_of_le this.1 s.len, fun z => this.2 (s.hid l this.1 z)⟩
 | lst l =>
   obtain ⟨ng, fz, us, e, r⟩ := hq
   have hl := (List.getElem?_eq_some_iff.mp e).1
   exact ⟨fun z => hn (s.hid l hl z), fun z => ng (s.gid l hl z), fz, us, s.keep l _ hn e, r.keep wf s.keep fun u hu l hl => (wf.av _ _ _ ng e u hu l hl).2⟩
 | enu l =>
   obtain ⟨ng, fz, us, ys, e, r, rfl⟩ := hq
   have hl := (List.getElem?_eq_some_iff.mp e).1
   exact ⟨fun z => hn (s.hid l hl z), fun z => ng (s.gid l hl z), fz, us, ys, s.keep l _ hn e, r.keep wf s.keep fun u hu l hl => (wf.av _ _ _ ng e u hu l hl).2, rfl⟩
 | zip p q ihp ihq =>
   obtain ⟨as, bs, s1, s2, rfl⟩ := hq
   obtain ⟨a1, a2⟩ := ihp hn.1 s1
   obtain ⟨b1, b2⟩ := ihq hn.2 s2
   exact ⟨⟨a1, b1⟩, as, bs, a2, b2, rfl⟩
end
theorem pZ {P : Nat → Prop} {h0 : Hd} {S0 : Sto} {lv : Nat} {f : U → Env → Sto → Rs Fl} {g : T → aD → Own → Ou FlT} {q : Sq} {xs : List T}
   (hf : ∀ x u st H ρ τ F, WS P h0 S0.length H st ρ τ F → PX 0 H st u x → GS P h0 S0 lv H st (f u ρ st) (g x τ (aZ F))) :
   ∀ (n i : Nat) (st : Sto) (H : Hd) (ρ : Env) (τ : aD) (F : List En), WS P h0 S0.length H st ρ τ F → SqN H q → SqR H st q xs → i ≤ xs.length → i + n = xs.length + 1 → GS P h0 S0 lv H st (loop f q n i ρ st) (eJ g (xs.drop i) τ (aZ F))
 | 0, i, st, H, ρ, τ, F, _, _, _, hi, e => by omega
 | n + 1, i, st, H, ρ, τ, F, w, hn, hq, hi, e => by
   rw [loop]
   rcases hq.at w.wf i with ⟨e1, e2⟩ | ⟨x, u, e1, e2, px⟩
   · rw [e2]
     dsimp only
     rw [List.drop_eq_nil_of_le (List.getElem?_eq_none_iff.mp e1), eJ]
     exact ⟨_, _, rfl, H, F, rfl, w, .refl⟩
   · rw [e2]
     dsimp only
     have hl := (List.getElem?_eq_some_iff.mp e1).1
     have e3 : xs.drop i = x :: xs.drop (i + 1) := by
       rw [List.drop_eq_getElem_cons hl]
       rw [(List.getElem?_eq_some_iff.mp e1).2]
     rw [e3, eJ]
     refine xR (hf x u st H ρ τ F w px) fun fl fl' st' o => ?_
     cases fl <;> cases fl' <;> first | exact o.elim | skip
     · obtain ⟨H1, F1, rfl, w1, s1⟩ := o
       obtain ⟨hn1, hq1⟩ := ze w.wf s1 hn hq
       exact (pZ hf n (i + 1) st' _ _ _ _ w1 hn1 hq1 hl (by omega)).back s1
     · exact ⟨_, _, rfl, o⟩
     · exact ⟨_, _, rfl, o⟩
     · obtain ⟨H1, F1, rfl, w1, s1⟩ := o
       obtain ⟨hn1, hq1⟩ := ze w.wf s1 hn hq
       exact (pZ hf n (i + 1) st' _ _ _ _ w1 hn1 hq1 hl (by omega)).back s1
theorem nG {P : Nat → Prop} {h0 : Hd} {S0 : Sto} {lv : Nat} {c : Env → Sto → Rs U} {c' : aD → Ou T} {f : Env → Sto → Rs Fl} {g : aD → Own → Ou FlT} {k : Nat → Nat → Bool}
   (hc : ∀ st H ρ τ F, WS P h0 S0.length H st ρ τ F → (∀ i lv, (i, lv) ∈ aZ F → k i lv = false) → Gd H st (PX 2) (c ρ st) (c' τ))
   (hf : ∀ st H ρ τ F, WS P h0 S0.length H st ρ τ F → GS P h0 S0 lv H st (f ρ st) (g τ (aZ F))) :
   ∀ (n : Nat) (st : Sto) (H : Hd) (ρ : Env) (τ : aD) (F : List En), WS P h0 S0.length H st ρ τ F → GS P h0 S0 lv H st (oG c f n ρ st) (iy c' k g n τ (aZ F))
 | 0, _, _, _, _, _, _ => trivial
 | n + 1, st, H, ρ, τ, F, w => by
   rw [oG, iy]
   obtain ⟨H0, F0, e0, w0, s0⟩ := w.dn0 k
   rw [← e0]
   refine (ej w0 (hc st H0 ρ τ F0 w0 fun i lv hi => AK (by rw [← e0]; exact hi)) fun u d st1 H1 g1 w1 hu => ?_).back s0
   cases d with
   | bl r =>
     have := hu.1.jI; subst this
     cases r with
     | false => exact ⟨_, _, rfl, H1, F0, rfl, w1, .refl⟩
     | true =>
       dsimp only
       refine xR (hf st1 H1 ρ τ _ w1) fun fl fl' st' o => ?_
       cases fl <;> cases fl' <;> first | exact o.elim | skip
       · obtain ⟨H2, F2, rfl, w2, s2⟩ := o
         exact (nG hc hf n st' _ _ _ _ w2).back s2
       · exact ⟨_, _, rfl, o⟩
       · exact ⟨_, _, rfl, o⟩
       · obtain ⟨H2, F2, rfl, w2, s2⟩ := o
         exact (nG hc hf n st' _ _ _ _ w2).back s2
   | _ => trivial
end Sv
namespace Sv
open PySem PySem.Spec L2
open Ev (D aR aY ai)
theorem D6 {x : T} (h : 1 ≤ lvT x) : ∃ ds, x = .lst ds := by
 cases x with
 | lst ds => exact ⟨ds, rfl⟩
 | _ => simp [lvT] at h
theorem zr {ds : List T} (h : 2 ≤ lvT (.lst ds)) : ds.all isL = true := by
 simp only [lvT] at h
 split at h
 · assumption
 · omega
theorem Bj (x : T) : lvT x ≤ 2 := by
 cases x with
 | lst ds => simp only [lvT]; split <;> decide
 | _ => simp [lvT]
theorem kr {τ : aD} {v : Nat} {x : T} (h : ax τ v = .ok x) : τ[v]? = some (some x) := by
 unfold ax at h
 split at h
 · rename_i d e; cases h; exact e
 · cases h
theorem jK {r : Ou T} {xs : List T} (h : iL r = some xs) : r = .ok (.lst xs) := by
 cases r with
 | ok x => cases x <;> first | (cases h; rfl) | (cases h; done)
 | _ => cases h
theorem ox {r : T} {xs : List T} (h : lA r = some xs) : r = .lst xs := by cases r <;> first | (cases h; rfl) | (cases h; done)
theorem ji {r : T} {i : Int} (h : intOf r = some i) : r = .int i := by cases r <;> first | (cases h; rfl) | (cases h; done)
section
variable {Ψ ΨM : FnT} {X : Fx} {n : Nat} {τ : aD} {own : Own}
theorem bH : yS Ψ ΨM X n (.set t (.call f (.var v :: es))) τ own = if 0 < (X.μ f).mv then
       (if (X.μ f).mv ≤ cj (dn (fun i lv => bY X.μ i lv 0 es) own) v then
         (ax τ v).bind fun x => (yEs Ψ es τ).bind fun xs => (ΨM f (x :: xs)).bind fun d => nB (aA t d (τ.set v none)) (cg X (dn (fun i _ => i == v) (dn (fun i lv => bY X.μ i lv 0 es) own)) t (.call f (.var v :: es)) d (τ.set v none))
       else .bad)
     else (yE Ψ (.call f (.var v :: es)) τ).bind fun x => nB (aA t x τ) (cg X (dn (fun i lv => gts X.μ i lv 0 (.call f (.var v :: es))) own) t (.call f (.var v :: es)) x τ) := rfl
theorem gv : yS Ψ ΨM X n (.put (.var v) i e) τ own = (yE Ψ e τ).bind fun z => bw (iL (ax τ v)) fun xs => (yE Ψ i τ).bind fun y => zV τ (dn (fun k lv => gts X.μ k lv 0 e || gts X.μ k lv 2 i) own) v xs y z := rfl
theorem eH : yS Ψ ΨM X n (.put (.ix (.var v) a) i e) τ own = if cj (dn (fun k lv => gts X.μ k lv 0 e || gts X.μ k lv 2 a || gts X.μ k lv 2 i) own) v = 2 then
     (yE Ψ e τ).bind fun z => bw (iL (ax τ v)) fun xs => (yE Ψ a τ).bind fun p => bw (intOf p) fun p => bw (L2.ixN xs.length p) fun q => bw (xs[q]?.bind lA) fun ys => (yE Ψ i τ).bind fun y =>
       vP τ (dn (fun k lv => gts X.μ k lv 0 e || gts X.μ k lv 2 a || gts X.μ k lv 2 i) own) v xs ys q y z
   else .bad := rfl
theorem gj : yS Ψ ΨM X n (.mth m (.var v) es) τ own = bw (iL (ax τ v)) fun xs => if 0 < cj (dn (fun k lv => bY X.μ k lv 0 es) own) v then (yEs Ψ es τ).bind fun ds => AG m τ (dn (fun k lv => bY X.μ k lv 0 es) own) v xs ds else .bad := rfl
theorem eI : yS Ψ ΨM X n (.mth m (.ix (.var v) a) es) τ own = bw (iL (ax τ v)) fun xs => if cj (dn (fun k lv => gts X.μ k lv 2 a || bY X.μ k lv 0 es) own) v = 2 then
     (yE Ψ a τ).bind fun p => bw (intOf p) fun p => bw (L2.ixN xs.length p) fun q => bw (xs[q]?.bind lA) fun ys => (yEs Ψ es τ).bind fun ds => CP m τ (dn (fun k lv => gts X.μ k lv 2 a || bY X.μ k lv 0 es) own) v xs ys ds q
   else .bad := rfl
theorem fK : yS Ψ ΨM X n (.ret e) τ own = (yE Ψ e τ).bind fun x => if X.lv = 0 ∨ isL x = false then .ok (.rt x) else match e with
   | .var i => if X.lv ≤ cj own i then .ok (.rt x) else .bad
   | e => if X.lv ≤ min (cG X.μ e) (lvT x) then .ok (.rt x) else .bad := rfl
theorem eB : yS Ψ ΨM X n (.retN) τ own = .ok (.rt .non) := rfl
theorem fJ : yS Ψ ΨM X n (.ite c a b) τ own = (yE Ψ c τ).bind fun x => match x with
   | .bl true => ySs Ψ ΨM X n a τ (dn (fun k lv => gts X.μ k lv 2 c) own)
   | .bl false => ySs Ψ ΨM X n b τ (dn (fun k lv => gts X.μ k lv 2 c) own)
   | _ => .bad := rfl
theorem gp : yS Ψ ΨM X n (.for t it body) τ own = ((yIt Ψ it τ).bind fun xs => eJ (fun x τ' own' => match aA t x τ' with
     | some τ2 => ySs Ψ ΨM X n body τ2 (dn (frg t) own')
     | none => .bad) xs τ (dn (fun k lv => gM X.μ k lv 0 it) own)).noX := rfl
theorem dh : yS Ψ ΨM X n (.while c body) τ own = (iy (fun τ' => yE Ψ c τ') (fun k lv => gts X.μ k lv 2 c) (fun τ' own' => ySs Ψ ΨM X n body τ' own') n τ own).noX := rfl
theorem bt : yS Ψ ΨM X n (.expr (.call f (.var v :: es))) τ own = if 0 < (X.μ f).mv then
       (if (X.μ f).mv ≤ cj (dn (fun i lv => bY X.μ i lv 0 es) own) v then
         (ax τ v).bind fun x => (yEs Ψ es τ).bind fun xs => (ΨM f (x :: xs)).bind fun _ => .ok (.nx (τ.set v none) (dn (fun i _ => i == v) (dn (fun i lv => bY X.μ i lv 0 es) own)))
       else .bad)
     else (yE Ψ (.call f (.var v :: es)) τ).bind fun _ => .ok (.nx τ (dn (fun i lv => gts X.μ i lv 0 (.call f (.var v :: es))) own)) := rfl
theorem dj : yS Ψ ΨM X n (.raise c) τ own = .exc c := rfl
theorem gw : yS Ψ ΨM X n (.brk) τ own = .ok (.bk τ own) := rfl
theorem eK : yS Ψ ΨM X n (.cont) τ own = .ok (.ct τ own) := rfl
theorem gk : yS Ψ ΨM X n (.pas) τ own = .ok (.nx τ own) := rfl
theorem gu : yS Ψ ΨM X n (.nev) τ own = .bad := rfl
end
section
variable {Φ : Fn} {Ψ ΨM : FnT} {X : Fx} (HP : ∀ f, Pure (X.μ f) (Φ f) (Ψ f)) (HM : ∀ f, oo (X.μ f) (Φ f) (ΨM f)) {P : Nat → Prop} {h0 : Hd} {S0 : Sto}
theorem gh {F : List En} {own : Own} {g : Nat → Nat → Bool} (h : aZ F = dn g own) : ∀ i lv, (i, lv) ∈ aZ F → g i lv = false := fun i lv hi => AK (by rw [← h]; exact hi)
include HP
theorem Jb {H : Hd} {st : Sto} {ρ : Env} {τ : aD} {F : List En} (t : Tg) (e : E) (w : WS P h0 S0.length H st ρ τ F) (ng : ∀ i lv, (i, lv) ∈ aZ F → gts X.μ i lv 0 e = false) :
   GS P h0 S0 X.lv H st ((xE Φ e ρ st).bind fun x st1 => match iD t x ρ with | some ρ' => .ok (.nx ρ') st1 | none => .bad) ((yE Ψ e τ).bind fun x => nB (aA t x τ) (cg X (aZ F) t e x τ)) := by
 obtain ⟨H1, F1, e1, w1, s1⟩ := w.dn0 (frg t)
 have ng1 : ∀ i lv, (i, lv) ∈ aZ F1 → gts X.μ i lv 0 e = false := fun i lv hi => ng i lv (tx (by rw [← e1]; exact hi))
 have ord : GS P h0 S0 X.lv H st ((xE Φ e ρ st).bind fun x st1 => match iD t x ρ with | some ρ' => .ok (.nx ρ') st1 | none => .bad) ((yE Ψ e τ).bind fun x => nB (aA t x τ) (aZ F1)) := by
   refine (ej w1 (gE HP e 0 w1.we w1.wf ng1) fun u d st2 H2 g2 w2 hu => ?_).back s1
   cases z : aA t d τ with
   | none => trivial
   | some τ' =>
     obtain ⟨ρ', f1, w3⟩ := w2.iD (uf e1) hu z
     rw [f1]
     exact ⟨_, _, rfl, H2, F1, rfl, w3, .refl⟩
 cases hy : yE Ψ e τ with
 | bad => trivial
 | exc c => rw [hy] at ord; exact ord
 | ok x =>
   rw [hy, Ou.aa] at ord
   rw [Ou.aa]
   cases t with
   | tp is => simp only [cg]; rw [← e1]; exact ord
   | nm i =>
     simp only [cg]
     split
     · rename_i hc
       rw [Bool.and_eq_true] at hc
       split
       · rw [← e1]; exact ord
       · rename_i hz
         have l1 : 1 ≤ lvT x := by omega
         obtain ⟨ds, rfl⟩ := D6 l1
         have hl : i < τ.length := by
           have := hc.2
           rcases Nat.lt_or_ge i τ.length with q | q
           · exact q
           · rw [List.getElem?_eq_none q] at this; cases this
         have key : ∃ u st' H', xE Φ e ρ st = .ok u st' ∧ Gr H1 st H' st' ∧ FrN (min (cG X.μ e) (lvT (.lst ds))) st H' st' u (.lst ds) := by
           have := Bj (.lst ds)
           rcases (by omega : min (cG X.μ e) (lvT (.lst ds)) = 1 ∨ min (cG X.μ e) (lvT (.lst ds)) = 2) with z | z
           · rw [z]; exact gN1 HP e w1.we w1.wf ng1 (by omega) ds hy
           · rw [z]; exact gN2 HP e w1.we w1.wf ng1 (by omega) ds hy (zr (by omega))
         obtain ⟨u, st', H', f1, g1, fn⟩ := key
         obtain ⟨l, cs, rfl, w2, s2⟩ := w1.take (uf e1 i (List.mem_singleton_self i)) hl g1 fn
         rw [f1, Rs.aa]
         refine ⟨_, _, rfl, H', _, ?_, w2, s1.trans s2⟩
         rw [← e1]; rfl
     · rw [← e1]; exact ord
theorem GA {H : Hd} {st : Sto} {ρ : Env} {τ : aD} {F : List En} (hP : X.lv ≠ 0 → ∀ k, k < S0.length → P k) (e : E) (w : WS P h0 S0.length H st ρ τ F) (n : Nat) : GS P h0 S0 X.lv H st (xS Φ n (.ret e) ρ st) (yS Ψ ΨM X n (.ret e) τ (aZ F)) := by
 simp only [xS, bH, gv, eH, gj, eI, fK, eB, fJ, gp, dh, bt, dj, gw, eK, gk, gu]
 obtain ⟨H1, w1, s1⟩ := w.fin
 cases hy : yE Ψ e τ with
 | bad => trivial
 | exc c =>
   have := (gE HP e 0 w1.we w1.wf fun _ _ z => nomatch z)
   rw [hy] at this
   obtain ⟨st', H', e1, g⟩ := this
   obtain ⟨w2, s2⟩ := w1.gr g
   exact ⟨st', H', by rw [e1]; rfl, (w2.out.back s2).back s1⟩
 | ok x =>
   rw [Ou.aa]
   have new : ∀ {lv : Nat}, lv = X.lv → (∃ u st' H', xE Φ e ρ st = .ok u st' ∧ Gr H1 st H' st' ∧ FrN lv st H' st' u x) → lv ≠ 0 → isL x = true → GS P h0 S0 X.lv H st ((xE Φ e ρ st).bind fun x st1 => .ok (.rt x) st1) (.ok (.rt x)) := fun {lv} hlv ⟨u, st', H', e1, g, fn⟩ h1 h2 => by
     subst hlv
     obtain ⟨w2, s2⟩ := w1.gr g
     refine ⟨.rt u, st', by rw [e1]; rfl, H', (w2.out.back s2).back s1, FrN.r ?_ h1 h2⟩
     obtain ⟨r, l, cs, z, en, nl⟩ := fn
     exact ⟨r, l, cs, z, en, fun k hk => Nat.le_trans w1.nl (nl k hk)⟩
   split
   · rename_i hc
     obtain ⟨u, st', H', e1, g, p⟩ := (gE HP e 0 w1.we w1.wf fun _ _ z => nomatch z).inv hy
     obtain ⟨w2, s2⟩ := w1.gr g
     refine ⟨.rt u, st', by rw [e1]; rfl, H', (w2.out.back s2).back s1, ?_⟩
     unfold FrR
     rw [if_pos hc]
     exact p
   · rename_i hc
     rw [not_or] at hc
     have hl : isL x = true := by
       cases h : isL x with
       | true => rfl
       | false => exact absurd h hc.2
     split
     · rename_i i
       split
       · rename_i hlv
         obtain ⟨xs, rfl⟩ : ∃ xs, x = .lst xs := by cases x <;> first | exact ⟨_, rfl⟩ | cases hl
         have hx : τ[i]? = some (some (.lst xs)) := kr (by simpa only [yE] using hy)
         obtain ⟨Fa, en, Fb, rfl, rfl, hen⟩ := jB (F := F) (i := i) (by omega)
         rw [← hen] at hlv
         have drop1 : ∀ (Fa Fb : List En) {H : Hd}, WS P h0 S0.length H st ρ τ (Fa ++ en :: Fb) → ∃ H', WS P h0 S0.length H' st ρ τ [en] ∧ Stp P H st H' st := by
           intro Fa Fb
           induction Fa with
           | nil =>
             induction Fb with
             | nil => exact fun {H} w => ⟨H, w, .refl⟩
             | cons b Fb ih =>
               intro H w
               rw [show ([] : List En) ++ en :: b :: Fb = [en] ++ b :: Fb by simp] at w
               obtain ⟨H', w', s'⟩ := w.drop
               obtain ⟨H2, w2, s2⟩ := ih w'
               exact ⟨H2, w2, s'.trans s2⟩
           | cons a Fa ih =>
             intro H w
             rw [show (a :: Fa) ++ en :: Fb = [] ++ a :: (Fa ++ en :: Fb) by simp] at w
             obtain ⟨H', w', s'⟩ := w.drop
             obtain ⟨H2, w2, s2⟩ := ih w'
             exact ⟨H2, w2, s'.trans s2⟩
         obtain ⟨H2, w2, s2⟩ := drop1 Fa Fb w
         have t6 := w2.t6 (List.mem_singleton_self en)
         have key : ∃ H3 cs, WS P h0 S0.length H3 st ρ τ [⟨en.i, en.l, X.lv, cs⟩] ∧ Stp P H2 st H3 st := by
           rcases (by omega : X.lv = en.lv ∨ (X.lv = 1 ∧ en.lv = 2)) with z | z
           · exact ⟨H2, en.cs, by rw [z]; exact w2, .refl⟩
           · obtain ⟨H3, w3, s3⟩ := WS.to1 (F1 := []) (F2 := []) w2
             exact ⟨H3, [], by rw [z.1]; exact w3, s3⟩
         obtain ⟨H3, cs, w3, s3⟩ := key
         obtain ⟨a1, a2, a3⟩ := w3.own (F1 := []) (F2 := []) hx
         obtain ⟨_, _, b3⟩ := w3.ent _ (List.mem_singleton_self _)
         have big : ∀ k ∈ en.l :: cs, S0.length ≤ k := fun k hk => Nat.not_lt.mp fun z => b3 k hk (hP hc.1 k z)
         refine ⟨.rt (.loc en.l), st, by simp only [xE, t8, a1, Rs.aa], H3, ?_, FrN.r ⟨a2, en.l, cs, rfl, a3, big⟩ hc.1 rfl⟩
         refine Fin.back (s2.trans s3) ⟨Nat.le_refl _, fun _ _ => rfl, w3.wf, fun k z => (w3.bh k z).1, w3.bg, fun k hk z => (w3.oh k z).elim id fun q => q.elim (fun q => ?_) fun q => absurd hk (Nat.not_lt.mpr q), fun k hk z => (w3.og k z).elim id fun q => q.elim (fun q => ?_) fun q => absurd hk (Nat.not_lt.mpr q)⟩
         · obtain ⟨e', he', hk'⟩ := bI.mp q
           rw [List.mem_singleton] at he'
           subst he'
           exact absurd hk (Nat.not_lt.mpr (big k hk'))
         · obtain ⟨e', he', hk'⟩ := bI.mp q
           rw [List.mem_singleton] at he'
           subst he'
           exact absurd hk (Nat.not_lt.mpr (big k hk'))
       · trivial
     · split
       · rename_i hlv
         obtain ⟨xs, rfl⟩ : ∃ xs, x = .lst xs := by cases x <;> first | exact ⟨_, rfl⟩ | cases hl
         have := Bj (.lst xs)
         rcases (by omega : X.lv = 1 ∨ X.lv = 2) with z | z
         · exact new z.symm (gN1 HP e w1.we w1.wf (fun _ _ z => nomatch z) (by omega) xs hy) (by decide) rfl
         · exact new z.symm (gN2 HP e w1.we w1.wf (fun _ _ z => nomatch z) (by omega) xs hy (zr (by omega))) (by decide) rfl
       · trivial
theorem yX {H : Hd} {st : Sto} {ρ : Env} {τ : aD} {F : List En} (HM : ∀ f, oo (X.μ f) (Φ f) (ΨM f)) {f v : Nat} {es : List E} {k : U → Sto → Rs Fl} {kT : T → Ou FlT} (w : WS P h0 S0.length H st ρ τ F) (hm : 0 < (X.μ f).mv)
   (n : ∀ u d st' H' F', aZ F' = dn (fun i _ => i == v) (dn (fun i lv => bY X.μ i lv 0 es) (aZ F)) → WS P h0 S0.length H' st' ρ (τ.set v none) F' → PX 0 H' st' u d → GS P h0 S0 X.lv H' st' (k u st') (kT d)) :
   GS P h0 S0 X.lv H st ((xE Φ (.call f (.var v :: es)) ρ st).bind k) (if (X.μ f).mv ≤ cj (dn (fun i lv => bY X.μ i lv 0 es) (aZ F)) v then (ax τ v).bind fun x => (yEs Ψ es τ).bind fun xs => (ΨM f (x :: xs)).bind kT else .bad) := by
 split
 · rename_i hlv
   obtain ⟨H1, F1, e1, w1, s1⟩ := w.dn0 fun i lv => bY X.μ i lv 0 es
   rw [← e1] at hlv n
   obtain ⟨Fa, en, Fb, rfl, rfl, hen⟩ := jB (F := F1) (i := v) (by omega)
   rw [← hen] at hlv
   cases hg : ax τ en.i with
   | bad => trivial
   | exc c => unfold ax at hg; split at hg <;> cases hg
   | ok x =>
     rw [Ou.aa]
     have hx := kr hg
     obtain ⟨u0, f0, r0, _⟩ := w1.val _ _ hx
     obtain ⟨a1, a2, a3⟩ := w1.ent en (List.mem_append_right _ (List.mem_cons_self ..))
     rw [a1] at f0
     have : u0 = .loc en.l := by simpa using f0.symm
     subst this
     have t6 := w1.t6 (e := en) (List.mem_append_right _ (List.mem_cons_self ..))
     have hE : ∀ z, xE Φ (.call f (.var en.i :: es)) ρ st = z → z = ((xEs Φ es ρ st).bind fun us st1 => Φ f (.loc en.l :: us) st1) := fun z hz => by
       rw [← hz]
       simp only [xE, xEs, t8, a1, Rs.aa]
       cases xEs Φ es ρ st <;> rfl
     rw [hE _ rfl]
     have hA := gEs HP es 0 w1.we w1.wf (gh e1)
     generalize xEs Φ es ρ st = xa at hA
     generalize yEs Ψ es τ = ya at hA
     cases ya with
     | bad => trivial
     | exc c =>
       obtain ⟨st', H', e, g⟩ := hA
       subst e
       obtain ⟨w2, s2⟩ := w1.gr g
       obtain ⟨H3, w3, s3⟩ := w2.fin
       exact ⟨st', H3, rfl, ((w3.out.back s3).back s2).back s1⟩
     | ok xs =>
       obtain ⟨us, st2, H2, e, g2, p2⟩ := hA
       subst e
       rw [Ou.aa, Rs.aa]
       obtain ⟨w2, s2⟩ := w1.gr g2
       have p2' := p2
       have key : ∃ H3 cs, WS P h0 S0.length H3 st2 ρ τ (Fa ++ ⟨en.i, en.l, (X.μ f).mv, cs⟩ :: Fb) ∧ Stp P H2 st2 H3 st2 := by
         rcases (by omega : (X.μ f).mv = en.lv ∨ ((X.μ f).mv = 1 ∧ en.lv = 2)) with z | z
         · exact ⟨H2, en.cs, by rw [z]; exact w2, .refl⟩
         · obtain ⟨H3, w3, s3⟩ := WS.to1 w2
           exact ⟨H3, [], by rw [z.1]; exact w3, s3⟩
       obtain ⟨H3, cs, w3, s3⟩ := key
       have p3 : PXs 0 H3 st2 us xs := ⟨p2.1, fun u hu => .inl fun l hl => ⟨((p2.2 u hu).zero l hl).1, fun z => ((p2.2 u hu).zero l hl).2 (s3.hid l ((p2.2 u hu).zero l hl).1 z)⟩⟩
       obtain ⟨b1, b2, b3⟩ := w3.ent _ (List.mem_append_right _ (List.mem_cons_self ..))
       have gm := (HM f hm).2 H3 st2 en.l cs us x xs w3.wf b2 (r0.ext g2.pre) p3
       have own : aZ (Fa ++ Fb) = dn (fun i _ => i == en.i) (aZ (Fa ++ en :: Fb)) := (Cq w1.nv).symm
       generalize ΨM f (x :: xs) = y at gm
       cases y with
       | bad => trivial
       | exc c =>
         obtain ⟨st', H', e, g⟩ := gm
         rw [e]
         obtain ⟨w4, s4⟩ := w3.moved g
         obtain ⟨H5, w5, s5⟩ := w4.fin
         exact ⟨st', H5, rfl, ((((w5.out.back s5).back s4).back s3).back s2).back s1⟩
       | ok d =>
         obtain ⟨u, st', H', e, g, p⟩ := gm
         rw [e, Rs.aa, Ou.aa]
         obtain ⟨w4, s4⟩ := w3.moved g
         exact ((((n u d st' H' _ own w4 p).back s4).back s3).back s2).back s1
 · trivial
end
end Sv
namespace Sv
open PySem PySem.Spec L2
open Ev (D aR aY ai)
section
variable {Φ : Fn} {Ψ ΨM : FnT} {X : Fx} (HP : ∀ f, Pure (X.μ f) (Φ f) (Ψ f)) (HM : ∀ f, oo (X.μ f) (Φ f) (ΨM f)) {P : Nat → Prop} {h0 : Hd} {S0 : Sto} (hP : X.lv ≠ 0 → ∀ k, k < S0.length → P k) (n : Nat)
include HP
theorem IT {H : Hd} {st : Sto} {ρ : Env} {τ : aD} {F : List En} (v : Nat) (i e : E) (w : WS P h0 S0.length H st ρ τ F) : GS P h0 S0 X.lv H st (xS Φ n (.put (.var v) i e) ρ st) (yS Ψ ΨM X n (.put (.var v) i e) τ (aZ F)) := by
 simp only [xS, bH, gv, eH, gj, eI, fK, eB, fJ, gp, dh, bt, dj, gw, eK, gk, gu]
 obtain ⟨H0, F0, e0, w0, s0⟩ := w.dn0 fun k lv => gts X.μ k lv 0 e || gts X.μ k lv 2 i
 rw [← e0]
 refine (ej w0 (gE HP e 0 w0.we w0.wf fun k lv hk => (bz (gh e0 k lv hk)).1) fun z z' st1 H1 g1 w1 hz => ?_).back s0
 refine bN fun xs hxs => ?_
 have hx := kr (jK hxs)
 obtain ⟨u, f0, r0, _⟩ := w1.val _ _ hx
 simp only [xE, t8, f0, Rs.aa]
 refine ej w1 (gE HP i 2 w1.we w1.wf fun k lv hk => (bz (gh e0 k lv hk)).2) fun y y' st2 H2 g2 w2 hy => ?_
 unfold zV
 refine bN fun k hk => bN fun j hj => ?_
 have := ji hk; subst this
 have := hy.1.int_inv; subst this
 split
 · rename_i hlv
   obtain ⟨Fa, en, Fb, rfl, rfl, hen⟩ := jB (F := F0) (i := v) hlv
   obtain ⟨H3, w3, s3⟩ := WS.to1 w2
   obtain ⟨a1, a2, a3⟩ := w3.own hx
   rw [f0] at a1
   have : u = .loc en.l := by simpa using a1
   subst this
   obtain ⟨ng, _, us, cell⟩ := a3.one rfl
   have rs := lR a2 cell
   have hz2 := hz.gr g2
   have hz3 : PX 0 H3 st2 z z' := .of hz2.1 fun l hl => ⟨(hz2.av l hl).1, fun q => (hz2.av l hl).2 (s3.hid l (hz2.av l hl).1 q)⟩
   obtain ⟨w4, s4⟩ := w3.Kb (vs := us.set j z) (ds := xs.set j z') ⟨rs.set j hz3.1, fun u hu => by
     rcases List.mem_or_eq_of_mem_set hu with hu | rfl
     · exact .inl (w3.wf.av _ _ _ ng cell u hu)
     · exact hz3.2⟩
   refine ⟨.nx ρ, st2.set en.l (false, us.set j z), ?_, H3, _, (wG w2.nv (w2.t6 (List.mem_append_right _ (List.mem_cons_self ..)))).symm, w4, s3.trans s4⟩
   simp only [evP.eq_def, cell, rs.length, hj, Option.map_some, ofS]
 · trivial
omit HP in
theorem v5 {H : Hd} {st : Sto} {ρ : Env} {τ : aD} {Fa Fb : List En} {v l : Nat} {cs : List Nat} {xs ys : List T} {p : Int} {q : Nat} (w : WS P h0 S0.length H st ρ τ (Fa ++ ⟨v, l, 2, cs⟩ :: Fb)) (hx : τ[v]? = some (some (.lst xs))) (hq : L2.ixN xs.length p = some q) (hy : xs[q]? = some (.lst ys)) :
   ∃ c us, evI (.loc l) (.int p) st = .ok (.loc c) st ∧ cs[q]? = some c ∧ st[c]? = some (false, us) ∧ PXs 0 H st us ys := by
 obtain ⟨a1, a2, a3⟩ := w.own hx
 obtain ⟨_, gl, e1, e2⟩ := a3.two (by decide)
 have rs := lR a2 e1
 obtain ⟨u, g1, g2⟩ := rs.get hy
 rw [List.getElem?_map] at g1
 obtain ⟨c, g3, rfl⟩ := Option.map_eq_some_iff.mp g1
 obtain ⟨b1, b2, ws, b3⟩ := e2 c (List.mem_of_getElem? g3)
 refine ⟨c, ws, ?_, g3, b3, lR g2 b3, fun u hu => .inl (w.wf.av _ _ _ b2 b3 u hu)⟩
 have hl := rs.length
 simp only [evI.eq_def, seq?, e1, Option.map_some, L2.atI]
 rw [hl, hq, Option.bind_some, List.getElem?_map, g3]
 rfl
omit HP in
theorem uw {α β γ : Type} (x : Rs α) (f : α → Sto → Rs β) (g : β → Sto → Rs γ) : (x.bind f).bind g = x.bind fun a s => (f a s).bind g := by cases x <;> rfl
theorem Fu {H : Hd} {st : Sto} {ρ : Env} {τ : aD} {F : List En} (v : Nat) (a i e : E) (w : WS P h0 S0.length H st ρ τ F) : GS P h0 S0 X.lv H st (xS Φ n (.put (.ix (.var v) a) i e) ρ st) (yS Ψ ΨM X n (.put (.ix (.var v) a) i e) τ (aZ F)) := by
 simp only [xS, bH, gv, eH, gj, eI, fK, eB, fJ, gp, dh, bt, dj, gw, eK, gk, gu]
 obtain ⟨H0, F0, e0, w0, s0⟩ := w.dn0 fun k lv => gts X.μ k lv 0 e || gts X.μ k lv 2 a || gts X.μ k lv 2 i
 rw [← e0]
 split
 · rename_i hlv
   obtain ⟨Fa, ⟨v', l, lv, cs⟩, Fb, rfl, rfl, hen⟩ := jB (F := F0) (i := v) (by omega)
   rw [hlv] at hen
   dsimp only at hen
   subst hen
   refine (ej w0 (gE HP e 0 w0.we w0.wf fun k lv hk => (bz (bz (gh e0 k lv hk)).1).1) fun z z' st1 H1 g1 w1 hz => ?_).back s0
   refine bN fun xs hxs => ?_
   have hx := kr (jK hxs)
   obtain ⟨a1, a2, a3⟩ := w1.own hx
   have hE : ∀ y, xE Φ (.ix (.var v') a) ρ st1 = y → y = (xE Φ a ρ st1).bind fun p st2 => evI (.loc l) p st2 := fun y hy => by
     rw [← hy]; simp only [xE, t8, a1, Rs.aa]
   rw [hE _ rfl, uw]
   refine ej w1 (gE HP a 2 w1.we w1.wf fun k lv hk => (bz (bz (gh e0 k lv hk)).1).2) fun p p' st2 H2 g2 w2 hp => ?_
   refine bN fun pi hpi => bN fun q hq => bN fun ys hys => ?_
   have := ji hpi; subst this
   have := hp.1.int_inv; subst this
   obtain ⟨yt, hy1, hy2⟩ := Option.bind_eq_some_iff.mp hys
   have := ox hy2; subst this
   obtain ⟨c, us, c1, c2, c3, c4⟩ := v5 w2 hx hq hy1
   rw [c1, Rs.aa]
   refine ej w2 (gE HP i 2 w2.we w2.wf fun k lv hk => (bz (gh e0 k lv hk)).2) fun y y' st3 H3 g3 w3 hy => ?_
   unfold vP
   refine bN fun k hk => bN fun j hj => ?_
   have := ji hk; subst this
   have := hy.1.int_inv; subst this
   have hz3 := (hz.gr g2).gr g3
   have c3' := gF g3.pre _ _ c3
   have c4' := c4.gr g3
   obtain ⟨w4, s4⟩ := w3.Ke (vs := us.set j z) (ds := ys.set j z') hx c2 ⟨c4'.1.set j hz3.1, fun u hu => by
     rcases List.mem_or_eq_of_mem_set hu with hu | rfl
     · exact c4'.2 u hu
     · exact hz3.2⟩
   refine ⟨.nx ρ, st3.set c (false, us.set j z), ?_, H3, _, rfl, w4, s4⟩
   simp only [evP.eq_def, c3', c4'.1.length, hj, Option.map_some, ofS]
 · trivial
theorem JK {H : Hd} {st : Sto} {ρ : Env} {τ : aD} {F : List En} (m : Lm) (v : Nat) (es : List E) (w : WS P h0 S0.length H st ρ τ F) : GS P h0 S0 X.lv H st (xS Φ n (.mth m (.var v) es) ρ st) (yS Ψ ΨM X n (.mth m (.var v) es) τ (aZ F)) := by
 simp only [xS, bH, gv, eH, gj, eI, fK, eB, fJ, gp, dh, bt, dj, gw, eK, gk, gu]
 obtain ⟨H0, F0, e0, w0, s0⟩ := w.dn0 fun k lv => bY X.μ k lv 0 es
 rw [← e0]
 refine bN fun xs hxs => ?_
 have hx := kr (jK hxs)
 split
 · rename_i hlv
   obtain ⟨Fa, ⟨v', l, lv, cs⟩, Fb, rfl, rfl, hen⟩ := jB (F := F0) (i := v) hlv
   obtain ⟨a1, a2, a3⟩ := w0.own hx
   simp only [xE, t8, a1, Rs.aa]
   rw [if_pos (a3.lt l (List.mem_cons_self ..))]
   refine (ej w0 (gEs HP es 0 w0.we w0.wf (gh e0)) fun y ds st2 H2 g2 w2 hy => ?_).back s0
   unfold AG
   refine bN fun ys hz => ?_
   obtain ⟨H3, w3, s3⟩ := WS.to1 w2
   obtain ⟨b1, b2, b3⟩ := w3.own hx
   obtain ⟨ng, _, us, cell⟩ := b3.one rfl
   have rs := lR b2 cell
   have hy3 : PXs 0 H3 st2 y ds := ⟨hy.1, fun u hu => .inl fun l hl => ⟨((hy.2 u hu).zero l hl).1, fun q => ((hy.2 u hu).zero l hl).2 (s3.hid l ((hy.2 u hu).zero l hl).1 q)⟩⟩
   obtain ⟨ws, e5, p5⟩ := Ba cell ⟨rs, fun u hu => .inl (w3.wf.av _ _ _ ng cell u hu)⟩ hy3 hz
   obtain ⟨w4, s4⟩ := w3.Kb p5
   refine ⟨.nx ρ, st2.set l (false, ws), by rw [e5]; rfl, H3, _, (wG w2.nv (w2.t6 (List.mem_append_right _ (List.mem_cons_self ..)))).symm, w4, s3.trans s4⟩
 · trivial
theorem DU {H : Hd} {st : Sto} {ρ : Env} {τ : aD} {F : List En} (m : Lm) (v : Nat) (a : E) (es : List E) (w : WS P h0 S0.length H st ρ τ F) : GS P h0 S0 X.lv H st (xS Φ n (.mth m (.ix (.var v) a) es) ρ st) (yS Ψ ΨM X n (.mth m (.ix (.var v) a) es) τ (aZ F)) := by
 simp only [xS, bH, gv, eH, gj, eI, fK, eB, fJ, gp, dh, bt, dj, gw, eK, gk, gu]
 obtain ⟨H0, F0, e0, w0, s0⟩ := w.dn0 fun k lv => gts X.μ k lv 2 a || bY X.μ k lv 0 es
 rw [← e0]
 refine bN fun xs hxs => ?_
 have hx := kr (jK hxs)
 split
 · rename_i hlv
   obtain ⟨Fa, ⟨v', l, lv, cs⟩, Fb, rfl, rfl, hen⟩ := jB (F := F0) (i := v) (by omega)
   rw [hlv] at hen
   dsimp only at hen
   subst hen
   obtain ⟨a1, a2, a3⟩ := w0.own hx
   have hE : ∀ y, xE Φ (.ix (.var v') a) ρ st = y → y = (xE Φ a ρ st).bind fun p st2 => evI (.loc l) p st2 := fun y hy => by
     rw [← hy]; simp only [xE, t8, a1, Rs.aa]
   rw [hE _ rfl, uw]
   refine (ej w0 (gE HP a 2 w0.we w0.wf fun k lv hk => (bz (gh e0 k lv hk)).1) fun p p' st2 H2 g2 w2 hp => ?_).back s0
   refine bN fun pi hpi => bN fun q hq => bN fun ys hys => ?_
   have := ji hpi; subst this
   have := hp.1.int_inv; subst this
   obtain ⟨yt, hy1, hy2⟩ := Option.bind_eq_some_iff.mp hys
   have := ox hy2; subst this
   obtain ⟨c, us, c1, c2, c3, c4⟩ := v5 w2 hx hq hy1
   rw [c1, Rs.aa]
   dsimp only
   rw [if_pos (List.getElem?_eq_some_iff.mp c3).1]
   refine ej w2 (gEs HP es 0 w2.we w2.wf fun k lv hk => (bz (gh e0 k lv hk)).2) fun y ds st3 H3 g3 w3 hy => ?_
   unfold CP
   refine bN fun zs hz => ?_
   obtain ⟨ws, e5, p5⟩ := Ba (gF g3.pre _ _ c3) (c4.gr g3) hy hz
   obtain ⟨w4, s4⟩ := w3.Ke hx c2 p5
   exact ⟨.nx ρ, st3.set c (false, ws), by rw [e5]; rfl, H3, _, rfl, w4, s4⟩
 · trivial
include HM hP
mutual
theorem gS : ∀ (s : S) {H : Hd} {st : Sto} {ρ : Env} {τ : aD} {F : List En}, WS P h0 S0.length H st ρ τ F → GS P h0 S0 X.lv H st (xS Φ n s ρ st) (yS Ψ ΨM X n s τ (aZ F))
 | .set t e, H, st, ρ, τ, F, w => by
   have gen : ∀ (r : Ou FlT), r = ((yE Ψ e τ).bind fun x => nB (aA t x τ) (cg X (dn (fun i lv => gts X.μ i lv 0 e) (aZ F)) t e x τ)) → GS P h0 S0 X.lv H st (xS Φ n (.set t e) ρ st) r := fun r hr => by
     subst hr
     simp only [xS]
     obtain ⟨H0, F0, e0, w0, s0⟩ := w.dn0 fun i lv => gts X.μ i lv 0 e
     rw [← e0]
     exact (Jb HP t e w0 (gh e0)).back s0
   by_cases hc : ∃ f v es, e = .call f (.var v :: es)
   · obtain ⟨f, v, es, rfl⟩ := hc
     by_cases hm : 0 < (X.μ f).mv
     · simp only [xS, bH, gv, eH, gj, eI, fK, eB, fJ, gp, dh, bt, dj, gw, eK, gk, gu]
       rw [if_pos hm]
       refine yX HP HM w hm fun u d st' H' F' e' w' p => ?_
       have lv0 : cG X.μ (.call f (.var v :: es)) = 0 := (HM f hm).1
       have own0 : ∀ F x, cg X (aZ F) t (.call f (.var v :: es)) x (τ.set v none) = dn (frg t) (aZ F) := fun F x => by
         cases t with
         | tp is => rfl
         | nm i => simp only [cg, lv0, Nat.zero_min, if_true]; split <;> rfl
       rw [← e', own0]
       obtain ⟨H1, F1, e1, w1, s1⟩ := w'.dn0 (frg t)
       rw [← e1]
       have p1 : PX 0 H1 st' u d := .of p.1 fun l hl => ⟨(p.av l hl).1, fun q => (p.av l hl).2 (s1.hid l (p.av l hl).1 q)⟩
       refine GS.back s1 ?_
       cases z : aA t d (τ.set v none) with
       | none => trivial
       | some τ' =>
         obtain ⟨ρ', f1, w3⟩ := w1.iD (uf e1) p1 z
         rw [f1]
         exact ⟨_, _, rfl, H1, F1, rfl, w3, .refl⟩
     · refine gen _ ?_
       exact if_neg hm
   · refine gen _ ?_
     cases e with
     | call f es =>
       cases es with
       | nil => rfl
       | cons a r =>
         cases a with
         | var v => exact absurd ⟨f, v, r, rfl⟩ hc
         | _ => rfl
     | _ => rfl
 | .put a i e, H, st, ρ, τ, F, w => by
   cases a with
   | var v => exact IT HP n v i e w
   | ix b c =>
     cases b with
     | var v => exact Fu HP n v c i e w
     | _ => trivial
   | _ => trivial
 | .mth m a es, H, st, ρ, τ, F, w => by
   cases a with
   | var v => exact JK HP n m v es w
   | ix b c =>
     cases b with
     | var v => exact DU HP n m v c es w
     | _ => trivial
   | _ => trivial
 | .ret e, H, st, ρ, τ, F, w => GA HP hP e w n
 | .retN, H, st, ρ, τ, F, w => by
   obtain ⟨H1, w1, s1⟩ := w.fin
   refine ⟨.rt .non, st, rfl, H1, w1.out.back s1, ?_⟩
   unfold FrR
   rw [if_pos (.inr rfl)]
   exact .of .non .non
 | .ite c a d, H, st, ρ, τ, F, w => by
   simp only [xS, bH, gv, eH, gj, eI, fK, eB, fJ, gp, dh, bt, dj, gw, eK, gk, gu]
   obtain ⟨H0, F0, e0, w0, s0⟩ := w.dn0 fun k lv => gts X.μ k lv 2 c
   rw [← e0]
   refine (ej w0 (gE HP c 2 w0.we w0.wf (gh e0)) fun x x' st1 H1 g1 w1 hx => ?_).back s0
   cases x' with
   | bl r =>
     have := hx.1.jI; subst this
     cases r with
     | true => exact gSs a w1
     | false => exact gSs d w1
   | _ => trivial
 | .for t it body, H, st, ρ, τ, F, w => by
   simp only [xS, bH, gv, eH, gj, eI, fK, eB, fJ, gp, dh, bt, dj, gw, eK, gk, gu]
   obtain ⟨H0, F0, e0, w0, s0⟩ := w.dn0 fun k lv => gM X.μ k lv 0 it
   rw [← e0]
   refine (GS.noX (ej w0 (gIt HP it 0 (Nat.zero_le _) w0.we w0.wf (gh e0)) fun q xs st1 H1 g1 w1 hq => ?_)).back s0
   rw [hq.2.len]
   have := pZ (P := P) (h0 := h0) (S0 := S0) (lv := X.lv) (f := fun x ρ' st' => match iD t x ρ' with | some ρ2 => xSs Φ n body ρ2 st' | none => .bad) (g := fun x τ' own' => match aA t x τ' with | some τ2 => ySs Ψ ΨM X n body τ2 (dn (frg t) own') | none => .bad) (q := q) (xs := xs) (fun x u st H ρ τ F w px => by
     cases z : aA t x τ with
     | none => trivial
     | some τ' =>
       obtain ⟨H2, F2, e2, w2, s2⟩ := w.dn0 (frg t)
       have p2 : PX 0 H2 st u x := .of px.1 fun l hl => ⟨(px.av l hl).1, fun q => (px.av l hl).2 (s2.hid l (px.av l hl).1 q)⟩
       obtain ⟨ρ', e1, w3⟩ := w2.iD (uf e2) p2 z
       rw [e1]
       dsimp only
       rw [← e2]
       exact (gSs body w3).back s2) (xs.length + 1) 0 st1 H1 ρ τ F0 w1 (by cases q <;> first | exact hq.1 rfl | trivial) hq.2 (Nat.zero_le _) (Nat.zero_add _)
   exact this
 | .while c body, H, st, ρ, τ, F, w => by
   simp only [xS, bH, gv, eH, gj, eI, fK, eB, fJ, gp, dh, bt, dj, gw, eK, gk, gu]
   exact GS.noX (nG (fun st H ρ τ F w hk => gE HP c 2 w.we w.wf hk) (fun st H ρ τ F w => gSs body w) n st H ρ τ F w)
 | .expr e, H, st, ρ, τ, F, w => by
   have gen : ∀ (r : Ou FlT), r = ((yE Ψ e τ).bind fun _ => .ok (.nx τ (dn (fun i lv => gts X.μ i lv 0 e) (aZ F)))) → GS P h0 S0 X.lv H st (xS Φ n (.expr e) ρ st) r := fun r hr => by
     subst hr
     simp only [xS]
     obtain ⟨H0, F0, e0, w0, s0⟩ := w.dn0 fun i lv => gts X.μ i lv 0 e
     rw [← e0]
     refine (ej w0 (gE HP e 0 w0.we w0.wf (gh e0)) fun u d st1 H1 g1 w1 hu => ?_).back s0
     exact ⟨_, _, rfl, H1, F0, rfl, w1, .refl⟩
   by_cases hc : ∃ f v es, e = .call f (.var v :: es)
   · obtain ⟨f, v, es, rfl⟩ := hc
     by_cases hm : 0 < (X.μ f).mv
     · simp only [xS, bH, gv, eH, gj, eI, fK, eB, fJ, gp, dh, bt, dj, gw, eK, gk, gu]
       rw [if_pos hm]
       refine yX HP HM w hm fun u d st' H' F' e' w' p => ?_
       rw [← e']
       exact ⟨_, _, rfl, H', F', rfl, w', .refl⟩
     · refine gen _ ?_
       exact if_neg hm
   · refine gen _ ?_
     cases e with
     | call f es =>
       cases es with
       | nil => rfl
       | cons a r =>
         cases a with
         | var v => exact absurd ⟨f, v, r, rfl⟩ hc
         | _ => rfl
     | _ => rfl
 | .raise c, H, st, ρ, τ, F, w => by
   obtain ⟨H1, w1, s1⟩ := w.fin
   exact ⟨st, H1, rfl, w1.out.back s1⟩
 | .brk, H, st, ρ, τ, F, w => ⟨_, _, rfl, H, F, rfl, w, .refl⟩
 | .cont, H, st, ρ, τ, F, w => ⟨_, _, rfl, H, F, rfl, w, .refl⟩
 | .pas, H, st, ρ, τ, F, w => ⟨_, _, rfl, H, F, rfl, w, .refl⟩
 | .nev, H, st, ρ, τ, F, w => trivial
theorem gSs : ∀ (s : List S) {H : Hd} {st : Sto} {ρ : Env} {τ : aD} {F : List En}, WS P h0 S0.length H st ρ τ F → GS P h0 S0 X.lv H st (xSs Φ n s ρ st) (ySs Ψ ΨM X n s τ (aZ F))
 | [], H, st, ρ, τ, F, w => ⟨_, _, rfl, H, F, rfl, w, .refl⟩
 | s :: ss, H, st, ρ, τ, F, w => by
   simp only [xSs, ySs]
   refine xR (gS s w) fun fl fl' st' o => ?_
   cases fl <;> cases fl' <;> first | exact o.elim | skip
   · obtain ⟨H1, F1, rfl, w1, s1⟩ := o
     exact (gSs ss w1).back s1
   · exact ⟨_, _, rfl, o⟩
   · exact ⟨_, _, rfl, o⟩
   · exact ⟨_, _, rfl, o⟩
end
end
end Sv
namespace Sv
open PySem PySem.Spec L2
open Ev (D aR aY ai)
noncomputable def cA (md : Md) : Ou FlT → Ou T
 | .ok (.rt d) => if md.sc && !u5 md.lv d then .bad else .ok d
 | .ok (.nx _ _) => .ok .non
 | _ => .bad
noncomputable def DG : T → Nat
 | .int i => i.natAbs
 | _ => 0
noncomputable def aV : List T → Nat
 | [] => 1
 | d :: r => DG d + aV r
noncomputable def B8 (md : Md) : Own := if md.mv = 0 then [] else [(0, md.mv)]
noncomputable def mkT (Ψ ΨM : FnT) (μ : Nat → Md) (md : Md) (need : List Nat) (ir : List S) (np nl : Nat) (ds : List T) : Ou T :=
 if ds.length = np then cA md (ySs Ψ ΨM ⟨μ, need, md.lv⟩ (aV ds) ir (ds.map some ++ List.replicate (nl - np) none) (B8 md)) else .bad
noncomputable def aU (fs : List (List T → Ou T)) (i : Nat) : List T → Ou T := fs.getD i fun _ => .bad
noncomputable def cM (fs : List Md) (i : Nat) : Md := fs.getD i {}
theorem DW {st : Sto} {u : U} {d : T} (r : Rep st u d) : J3 u = DG d := by cases r <;> rfl
theorem vx {st : Sto} : ∀ {us : List U} {ds : List T}, aM st us ds → fuel us = aV ds
 | _, _, .nil => rfl
 | _, _, .cons h r => by rw [fuel, aV, DW h, vx r]
theorem pre_of {st st' : Sto} (hl : st.length ≤ st'.length) (e : ∀ k, k < st.length → st'[k]? = st[k]?) : st <+: st' := by
 refine ⟨st'.drop st.length, ?_⟩
 apply List.ext_getElem?
 intro k
 rcases Nat.lt_or_ge k st.length with h | h
 · rw [List.getElem?_append_left h, e k h]
 · rw [List.getElem?_append_right h, List.getElem?_drop]
   congr 1; omega
theorem EZ {us : List U} {ds : List T} {st : Sto} (r : aM st us ds) {n i : Nat} {d : T} (e : (ds.map some ++ List.replicate n none)[i]? = some (some d)) : ∃ u, (us.map some ++ List.replicate n none)[i]? = some (some u) ∧ us[i]? = some u ∧ ds[i]? = some d ∧ Rep st u d := by
 by_cases q : i < ds.length
 · rw [List.getElem?_append_left (by rw [List.length_map]; exact q), List.getElem?_map] at e
   cases z : ds[i]? with
   | none => rw [z] at e; cases e
   | some y =>
     rw [z] at e; cases e
     obtain ⟨v, h1, h2⟩ := r.get z
     refine ⟨v, ?_, h1, rfl, h2⟩
     rw [List.getElem?_append_left (by rw [List.length_map, r.length]; exact q), List.getElem?_map, h1]; rfl
 · rw [List.getElem?_append_right (by rw [List.length_map]; omega)] at e
   have := List.mem_of_getElem? e
   rw [List.mem_replicate] at this
   cases this.2
theorem Be {h : Hd} {st : Sto} {us : List U} {ds : List T} (wf : Wf h st) (p : PXs 0 h st us ds) (n : Nat) :
   WS (fun k => k < st.length) h st.length h st (us.map some ++ List.replicate n none) (ds.map some ++ List.replicate n none) [] :=
 ⟨by simp [p.1.length], fun i d e => let ⟨u, e1, e2, _, r⟩ := EZ p.1 e; ⟨u, e1, r, fun _ => (p.2 u (List.mem_of_getElem? e2)).zero⟩, wf, (fun _ z => nomatch z), List.nodup_nil, List.nodup_nil, fun k z => ⟨z, wf.lt k z⟩, fun _ z => z, fun _ z => .inl z, fun _ z => .inl z, fun _ z => z, Nat.le_refl _⟩
section
variable {Φ : Fn} {Ψ ΨM : FnT} {μ : Nat → Md} (HP : ∀ f, Pure (μ f) (Φ f) (Ψ f)) (HM : ∀ f, oo (μ f) (Φ f) (ΨM f))
theorem Az {md : Md} {r : Ou FlT} {d : T} (hs : md.sc = true) (h : cA md r = .ok d) : u5 md.lv d = true := by
 match r, h with
 | .ok (.rt x), h =>
   simp only [cA] at h
   split at h
   · cases h
   · rename_i hc
     cases h
     rw [hs, Bool.true_and, Bool.not_eq_true', Bool.not_eq_false] at hc
     exact hc
 | .ok (.nx _ _), h => cases h; rfl
 | .ok (.bk _ _), h => cases h
 | .ok (.ct _ _), h => cases h
 | .exc _, h => cases h
 | .bad, h => cases h
include HP HM
theorem zH (md : Md) (hm : md.mv = 0) (need : List Nat) (ir : List S) (np nl : Nat) : Pure md (mk Φ ir np nl) (mkT Ψ ΨM μ md need ir np nl) := by
 refine ⟨fun hs ds d h => ?_, fun h st us ds wf p => ?_⟩
 · unfold mkT at h
   split at h
   · exact Az hs h
   · cases h
 · unfold mk mkT
   rw [p.1.length, vx p.1]
   split
   · have g := gSs (X := ⟨μ, need, md.lv⟩) HP HM (S0 := st) (fun _ k hk => hk) (aV ds) ir (Be wf p (nl - np))
     have e0 : aZ ([] : List En) = B8 md := by unfold B8; rw [if_pos hm]; rfl
     rw [e0] at g
     generalize ySs Ψ ΨM ⟨μ, need, md.lv⟩ (aV ds) ir (ds.map some ++ List.replicate (nl - np) none) (B8 md) = y at g ⊢
     have fin : ∀ {H' : Hd} {st' : Sto}, Fin (fun k => k < st.length) h st.length st H' st' → Gr h st H' st' := fun {H' st'} f => ⟨pre_of f.len f.lo, f.hm, f.gm, f.hn, f.gn, f.wf⟩
     cases y with
     | bad => trivial
     | exc c => trivial
     | ok f =>
       obtain ⟨f', st', e, o⟩ := g
       rw [e]
       cases f <;> cases f' <;> first | exact o.elim | trivial | skip
       · obtain ⟨H1, F1, _, w, s⟩ := o
         obtain ⟨H2, w2, s2⟩ := w.fin
         refine ⟨_, _, H2, rfl, fin ((w2.out.back s2).back s), ?_⟩
         unfold FrR
         rw [if_pos (.inr rfl)]
         exact .of .non .non
       · obtain ⟨H1, f1, r1⟩ := o
         simp only [cA]
         split
         · trivial
         · exact ⟨_, _, H1, rfl, fin f1, r1⟩
   · trivial
end
theorem BF {md : Md} {F : List U → Sto → Rs U} : Pure md F fun _ => .bad := ⟨(fun _ _ _ h => by cases h), fun _ _ _ _ _ _ => trivial⟩
theorem qk {md : Md} {F : List U → Sto → Rs U} {G : List T → Ou T} (h : md.mv = 0) : oo md F G := fun z => absurd z (by omega)
inductive bS : List (List U → Sto → Rs U) → List Md → List (List T → Ou T) → List (List T → Ou T) → Prop where
 | nil : bS [] [] [] []
 | cons {f : List U → Sto → Rs U} {m : Md} {g g' : List T → Ou T} {fs : List (List U → Sto → Rs U)} {ms : List Md} {gs gs' : List (List T → Ou T)} (h : Pure m f g) (h' : oo m f g') (r : bS fs ms gs gs') : bS (f :: fs) (m :: ms) (g :: gs) (g' :: gs')
theorem bS.at : ∀ {fs : List (List U → Sto → Rs U)} {ms : List Md} {gs gs' : List (List T → Ou T)}, bS fs ms gs gs' → (∀ i, Pure (cM ms i) (tab fs i) (aU gs i)) ∧ ∀ i, oo (cM ms i) (tab fs i) (aU gs' i)
 | _, _, _, _, .nil => ⟨fun i => by unfold aU; simp only [List.getD_nil]; exact BF, fun i => qk (by simp [cM])⟩
 | _, _, _, _, .cons h h' r => by
   obtain ⟨r1, r2⟩ := r.at
   refine ⟨fun i => ?_, fun i => ?_⟩
   · cases i with
     | zero => exact h
     | succ i =>
       have := r1 i
       unfold tab aU cM at this ⊢
       simpa using this
   · cases i with
     | zero => exact h'
     | succ i =>
       have := r2 i
       unfold tab aU cM at this ⊢
       simpa using this
theorem bS.snoc : ∀ {fs : List (List U → Sto → Rs U)} {ms : List Md} {gs gs' : List (List T → Ou T)} {f : List U → Sto → Rs U} {m : Md} {g g' : List T → Ou T}, bS fs ms gs gs' → Pure m f g → oo m f g' → bS (fs ++ [f]) (ms ++ [m]) (gs ++ [g]) (gs' ++ [g'])
 | _, _, _, _, _, _, _, _, .nil, h, h' => .cons h h' .nil
 | _, _, _, _, _, _, _, _, .cons a b r, h, h' => .cons a b (r.snoc h h')
theorem bS.def {fs : List (List U → Sto → Rs U)} {ms : List Md} {gs gs' : List (List T → Ou T)} (p : bS fs ms gs gs') (md : Md) (hm : md.mv = 0) (need : List Nat) (ir : List S) (np nl : Nat) : bS (fs ++ [mk (tab fs) ir np nl]) (ms ++ [md]) (gs ++ [mkT (aU gs) (aU gs') (cM ms) md need ir np nl]) (gs' ++ [fun _ => .bad]) :=
 p.snoc (zH p.at.1 p.at.2 md hm need ir np nl) (qk hm)
theorem bo {Ψ ΨM : FnT} {μ : Nat → Md} {md : Md} {need : List Nat} {ir : List S} {np nl : Nat} {ds : List T} (h : ds.length = np) : mkT Ψ ΨM μ md need ir np nl ds = cA md (ySs Ψ ΨM ⟨μ, need, md.lv⟩ (aV ds) ir (ds.map some ++ List.replicate (nl - np) none) (B8 md)) := if_pos h
noncomputable def dfT (n : Nat) (i : Int) (G : List T → Ou T) : List T → Ou T := fun ds => if ds.length = n then G (ds ++ [.int i]) else G ds
theorem Pure.df {md : Md} {F : List U → Sto → Rs U} {G : List T → Ou T} (p : Pure md F G) (n : Nat) (i : Int) : Pure md (dfU n i F) (dfT n i G) := by
 refine ⟨fun hs ds d h => ?_, fun h st us ds wf hp => ?_⟩
 · unfold dfT at h
   split at h
   · exact p.1 hs _ _ h
   · exact p.1 hs _ _ h
 · unfold dfU dfT
   rw [hp.1.length]
   split
   · refine p.2 _ _ _ _ wf ⟨hp.1.append (.cons .int .nil), fun u hu => ?_⟩
     rcases List.mem_append.mp hu with hu | hu
     · exact hp.2 u hu
     · cases List.mem_singleton.mp hu
       exact .inl .int
   · exact p.2 _ _ _ _ wf hp
theorem bS.df {fs : List (List U → Sto → Rs U)} {ms : List Md} {gs gs' : List (List T → Ou T)} (p : bS fs ms gs gs') (n : Nat) (i : Int) (md : Md) (hm : md.mv = 0) (need : List Nat) (ir : List S) (np nl : Nat) : bS (fs ++ [dfU n i (mk (tab fs) ir np nl)]) (ms ++ [md]) (gs ++ [dfT n i (mkT (aU gs) (aU gs') (cM ms) md need ir np nl)]) (gs' ++ [fun _ => .bad]) :=
 p.snoc ((zH p.at.1 p.at.2 md hm need ir np nl).df n i) (qk hm)
end Sv
namespace Sv
open PySem PySem.Spec L2
open Ev (D aR aY ai)
section
variable (Ψ ΨM : FnT) (X : Fx) (n : Nat) (τ : aD) (own : Own)
noncomputable def Jk (c : E) : aD → Ou T := fun τ => yE Ψ c τ
noncomputable def FV (body : List S) : aD → Own → Ou FlT := fun τ own => ySs Ψ ΨM X n body τ own
noncomputable def eM (t : Tg) (body : List S) : T → aD → Own → Ou FlT := fun x τ own => match aA t x τ with
 | some τ2 => ySs Ψ ΨM X n body τ2 (dn (frg t) own)
 | none => .bad
noncomputable def xA (caps : List (Option Nat)) (t : Tg) (ifs : List E) (elt : E) : T → Ou (Option T) := fun x => match aA t x (gH τ caps ++ [none]) with
 | none => .bad
 | some τ1 => (yIf Ψ ifs τ1).bind fun b => if b then (yE Ψ elt τ1).bind fun y => .ok (some y) else .ok none
theorem E4 (c : E) : Jk Ψ c τ = yE Ψ c τ := rfl
theorem EG (body : List S) : FV Ψ ΨM X n body τ own = ySs Ψ ΨM X n body τ own := rfl
theorem fH (t : Tg) (body : List S) (x : T) : eM Ψ ΨM X n t body x τ own = match aA t x τ with | some τ2 => ySs Ψ ΨM X n body τ2 (dn (frg t) own) | none => .bad := rfl
theorem az (caps : List (Option Nat)) (t : Tg) (ifs : List E) (elt : E) (x : T) : xA Ψ τ caps t ifs elt x = match aA t x (gH τ caps ++ [none]) with
 | none => .bad
 | some τ1 => (yIf Ψ ifs τ1).bind fun b => if b then (yE Ψ elt τ1).bind fun y => .ok (some y) else .ok none := rfl
theorem FD (caps : List (Option Nat)) (t : Tg) (it : It) (ifs : List E) (elt : E) : yE Ψ (.comp caps t it ifs elt) τ = (yIt Ψ it τ).bind fun xs => if xs.length < ai then ((gN (xA Ψ τ caps t ifs elt) xs).bind fun ys => .ok (.lst ys)).noX else .bad := by
 rw [yE]
 all_goals rfl
theorem ae (i : Nat) : yE Ψ (.var i) τ = ax τ i := by rw [yE]
theorem Ct : yE Ψ .cN τ = .ok .non := by rw [yE]
theorem ic (b : Bool) : yE Ψ (.cB b) τ = .ok (.bl b) := by rw [yE]
theorem aK (i : Int) : yE Ψ (.cI i) τ = .ok (.int i) := by rw [yE]
theorem km (x : Str) : yE Ψ (.cS x) τ = .ok (.str x) := by rw [yE]
theorem bO (o : Op2) (a b : E) : yE Ψ (.op o a b) τ = (yE Ψ a τ).bind fun x => (yE Ψ b τ).bind fun y => z2 o x y := by rw [yE]
noncomputable def Kr : T → Ou T
 | .int i => .ok (.int (-i))
 | _ => .bad
noncomputable def JQ : T → Ou T
 | .bl i => .ok (.bl (!i))
 | _ => .bad
theorem Iw (a : E) : yE Ψ (.neg a) τ = (yE Ψ a τ).bind Kr := by
 rw [yE]
 all_goals first | rfl | (congr 1; funext x; cases x <;> rfl) | (congr 1; done)
theorem dz (a : E) : yE Ψ (.not a) τ = (yE Ψ a τ).bind JQ := by
 rw [yE]
 all_goals first | rfl | (congr 1; funext x; cases x <;> rfl) | (congr 1; done)
theorem aS (o : Cm) (a b : E) : yE Ψ (.cmp o a b) τ = (yE Ψ a τ).bind fun x => (yE Ψ b τ).bind fun y => ofB (zC o x y) := by rw [yE]
noncomputable def chT (o : Option Bool) (r : Ou T) : Ou T := match o with
 | some true => r
 | some false => .ok (.bl false)
 | none => .bad
theorem Cb (o o' : Cm) (a b c : E) : yE Ψ (.chain o o' a b c) τ = (yE Ψ a τ).bind fun x => (yE Ψ b τ).bind fun y => chT (zC o x y) ((yE Ψ c τ).bind fun u => ofB (zC o' y u)) := by
 rw [yE]
 all_goals first | rfl | (congr 1; funext x; congr 1; funext y; cases zC o x y <;> first | rfl | (rename_i z; cases z <;> rfl)) | (congr 1; done)
noncomputable def JO (x : T) (r : Ou T) : Ou T := match x with
 | .bl true => r
 | .bl false => .ok (.bl false)
 | _ => .bad
noncomputable def orT (x : T) (r : Ou T) : Ou T := match x with
 | .bl true => .ok (.bl true)
 | .bl false => r
 | _ => .bad
noncomputable def vQ {α : Type} (x : T) (r s : Ou α) : Ou α := match x with
 | .bl true => r
 | .bl false => s
 | _ => .bad
theorem jJ (a b : E) : yE Ψ (.and a b) τ = (yE Ψ a τ).bind fun x => JO x (yE Ψ b τ) := by
 rw [yE]
 all_goals first | rfl | (congr 1; funext x; cases x <;> first | rfl | (rename_i z; cases z <;> rfl)) | (congr 1; done)
theorem iE (a b : E) : yE Ψ (.or a b) τ = (yE Ψ a τ).bind fun x => orT x (yE Ψ b τ) := by
 rw [yE]
 all_goals first | rfl | (congr 1; funext x; cases x <;> first | rfl | (rename_i z; cases z <;> rfl)) | (congr 1; done)
theorem nh (c a b : E) : yE Ψ (.ite c a b) τ = (yE Ψ c τ).bind fun x => vQ x (yE Ψ a τ) (yE Ψ b τ) := by
 rw [yE]
 all_goals first | rfl | (congr 1; funext x; cases x <;> first | rfl | (rename_i z; cases z <;> rfl)) | (congr 1; done)
noncomputable def lj (f : List T → T) (xs : List T) : Ou T := if xs.length < ai then .ok (f xs) else .bad
theorem ip (es : List E) : yE Ψ (.tup es) τ = (yEs Ψ es τ).bind (lj .tup) := by rw [yE]; rfl
theorem ke (es : List E) : yE Ψ (.lst es) τ = (yEs Ψ es τ).bind (lj .lst) := by rw [yE]; rfl
theorem bq (a i : E) : yE Ψ (.ix a i) τ = (yE Ψ a τ).bind fun x => (yE Ψ i τ).bind fun y => zI x y := by rw [yE]
theorem aC (f : Nat) (es : List E) : yE Ψ (.call f es) τ = (yEs Ψ es τ).bind (Ψ f) := by rw [yE]
theorem dD (b : Bi) (es : List E) : yE Ψ (.bi b es) τ = (yEs Ψ es τ).bind (zB b) := by rw [yE]
noncomputable def tM (t : Ty) : T → Ou T
 | .exo _ => .bad
 | x => .ok (.bl (iX t x))
theorem fS (a : E) (t : Ty) : yE Ψ (.isi a t) τ = (yE Ψ a τ).bind (tM t) := by
 rw [yE]
 all_goals first | rfl | (congr 1; funext x; cases x <;> rfl) | (congr 1; done)
theorem zG (a l h : E) : yE Ψ (.sl a l h) τ = (yE Ψ a τ).bind fun x => (yE Ψ l τ).bind fun y => bw (mi l y) fun lo => (yE Ψ h τ).bind fun z => bw (mi h z) fun hi => zSl x lo hi := by
 rw [yE]
 all_goals first | rfl | (congr 1; funext x; congr 1; funext y; cases mi l y <;> first | rfl | (dsimp only [bw]; congr 1; funext z; cases mi h z <;> rfl)) | (congr 1; done)
theorem aj : yEs Ψ [] τ = .ok [] := by rw [yEs]
theorem af (e : E) (es : List E) : yEs Ψ (e :: es) τ = (yE Ψ e τ).bind fun x => (yEs Ψ es τ).bind fun xs => .ok (x :: xs) := by rw [yEs]
theorem cH : yIf Ψ [] τ = .ok true := by rw [yIf]
noncomputable def Km : T → Ou (List T)
 | .lst xs => .ok xs
 | .tup xs => .ok xs
 | _ => .bad
noncomputable def Hf : T → Ou (List T)
 | .int j => if -(2 ^ 62) ≤ j ∧ j < 2 ^ 62 then .ok (rangeT 0 j.toNat) else .bad
 | _ => .bad
noncomputable def enT : T → Ou (List T)
 | .lst xs => .ok (jH 0 xs)
 | _ => .bad
theorem gX (e : E) : yIt Ψ (.seq e) τ = (yE Ψ e τ).bind Km := by
 rw [yIt]
 all_goals first | rfl | (congr 1; funext x; cases x <;> rfl) | (congr 1; done)
theorem DI (e : E) : yIt Ψ (.rng e) τ = (yE Ψ e τ).bind Hf := by
 rw [yIt]
 all_goals first | rfl | (congr 1; funext x; cases x <;> rfl) | (congr 1; done)
theorem yR (e : E) : yIt Ψ (.enu e) τ = (yE Ψ e τ).bind enT := by
 rw [yIt]
 all_goals first | rfl | (congr 1; funext x; cases x <;> rfl) | (congr 1; done)
theorem yI (a b : E) : yIt Ψ (.zip a b) τ = (yE Ψ a τ).bind fun x => (yE Ψ b τ).bind fun y => zpT x y := by
 rw [yIt]
noncomputable def gU (μ : Nat → Md) (k : Nat) (e : E) : Nat → Nat → Bool := fun i lv => gts μ i lv k e
noncomputable def gUL (μ : Nat → Md) (k : Nat) (es : List E) : Nat → Nat → Bool := fun i lv => bY μ i lv k es
noncomputable def gUI (μ : Nat → Md) (k : Nat) (it : It) : Nat → Nat → Bool := fun i lv => gM μ i lv k it
noncomputable def gP (μ : Nat → Md) (e i : E) : Nat → Nat → Bool := fun k lv => gts μ k lv 0 e || gts μ k lv 2 i
noncomputable def gP2 (μ : Nat → Md) (e a i : E) : Nat → Nat → Bool := fun k lv => gts μ k lv 0 e || gts μ k lv 2 a || gts μ k lv 2 i
theorem iT (μ : Nat → Md) (k : Nat) (e : E) (i lv : Nat) : gU μ k e i lv = gts μ i lv k e := rfl
theorem Bt (μ : Nat → Md) (k : Nat) (e : List E) (i lv : Nat) : gUL μ k e i lv = bY μ i lv k e := rfl
theorem A9 (μ : Nat → Md) (k : Nat) (e : It) (i lv : Nat) : gUI μ k e i lv = gM μ i lv k e := rfl
theorem FN (μ : Nat → Md) (e i : E) (k lv : Nat) : gP μ e i k lv = (gts μ k lv 0 e || gts μ k lv 2 i) := rfl
theorem BI (μ : Nat → Md) (e a i : E) (k lv : Nat) : gP2 μ e a i k lv = (gts μ k lv 0 e || gts μ k lv 2 a || gts μ k lv 2 i) := rfl
theorem nr {α : Type} {a : α} : a = a := of_eq_true (eq_self a)
noncomputable def xc : E → Bool
 | .var _ => true
 | _ => false
noncomputable def B1 : List E → Bool
 | [] => false
 | e :: _ => xc e
noncomputable def nq (X : Fx) : E → Bool
 | .call f es => B1 es && decide (0 < (X.μ f).mv)
 | _ => false
theorem bZ (f : Nat) (es : List E) : nq X (.call f es) = (B1 es && decide (0 < (X.μ f).mv)) := nr
theorem cc (e : E) (es : List E) : B1 (e :: es) = xc e := nr
theorem qi (i : Nat) : nq X (.var i) = false := nr
theorem iu (i : Nat) : xc (.var i) = true := nr
theorem sZ (μ : Nat → Md) (i : Nat) : cG μ (.var i) = 0 := rfl
theorem Ei (i : Int) : nq X (.cI i) = false := nr
theorem IX (μ : Nat → Md) (i : Int) : cG μ (.cI i) = 0 := rfl
theorem g8 (o : Op2) (a b : E) : nq X (.op o a b) = false := nr
theorem D4 (o : Op2) (a b : E) : xc (.op o a b) = false := nr
theorem Bb (a : E) : nq X (.neg a) = false := nr
theorem D3 (μ : Nat → Md) (a : E) : cG μ (.neg a) = 0 := rfl
theorem Bu (es : List E) : nq X (.tup es) = false := nr
theorem Fj (μ : Nat → Md) (es : List E) : cG μ (.tup es) = 0 := rfl
theorem uD (es : List E) : nq X (.lst es) = false := nr
theorem lU (a i : E) : xc (.ix a i) = false := nr
theorem zi (o : Bi) (es : List E) : nq X (.bi o es) = false := nr
theorem rF (cs : List (Option Nat)) (t : Tg) (it : It) (fs : List E) (e : E) : nq X (.comp cs t it fs e) = false := nr
theorem yU (μ : Nat → Md) (es : List E) : cG μ (.lst es) = 1 := by simp only [cG]
theorem uQ (μ : Nat → Md) (cs : List (Option Nat)) (t : Tg) (it : It) (fs : List E) (e : E) : cG μ (.comp cs t it fs e) = if cG μ e = 0 then 1 else 2 := by simp only [cG]
theorem cX (μ : Nat → Md) (f : Nat) (es : List E) : cG μ (.call f es) = (μ f).lv := by simp only [cG]
theorem yk (μ : Nat → Md) (a b : E) : cG μ (.op .add a b) = 1 := by simp only [cG]
theorem DC (μ : Nat → Md) (a b : E) : cG μ (.op .mul a b) = 0 := rfl
theorem qs (μ : Nat → Md) (a b : E) : cG μ (.op .fdiv a b) = 0 := rfl
theorem pv (μ : Nat → Md) (a b : E) : cG μ (.op .mod a b) = 0 := rfl
theorem uu (μ : Nat → Md) (es : List E) : cG μ (.bi .abs es) = 0 := rfl
theorem Es (i : Int) : lvT (.int i) = 0 := rfl
theorem yr (xs : List T) : lvT (.lst xs) = if xs.all isL then 2 else 1 := rfl
theorem bJ (t : Tg) (e : E) (hm : nq X e = false) : yS Ψ ΨM X n (.set t e) τ own = (yE Ψ e τ).bind fun x => nB (aA t x τ) (cg X (dn (gU X.μ 0 e) own) t e x τ) := by
 cases e with
 | call f es =>
   cases es with
   | nil => rfl
   | cons a r =>
     cases a with
     | var v => exact if_neg (by simpa [nq, B1, xc] using hm)
     | _ => rfl
 | _ => rfl
theorem EL (e : E) (hm : nq X e = false) : yS Ψ ΨM X n (.expr e) τ own = (yE Ψ e τ).bind fun _ => .ok (.nx τ (dn (gU X.μ 0 e) own)) := by
 cases e with
 | call f es =>
   cases es with
   | nil => rfl
   | cons a r =>
     cases a with
     | var v => exact if_neg (by simpa [nq, B1, xc] using hm)
     | _ => rfl
 | _ => rfl
theorem CK (v : Nat) (i e : E) : yS Ψ ΨM X n (.put (.var v) i e) τ own = (yE Ψ e τ).bind fun z => bw (iL (ax τ v)) fun xs => (yE Ψ i τ).bind fun y => zV τ (dn (gP X.μ e i) own) v xs y z := by rfl
theorem FC (v : Nat) (a i e : E) : yS Ψ ΨM X n (.put (.ix (.var v) a) i e) τ own = if cj (dn (gP2 X.μ e a i) own) v = 2 then
     (yE Ψ e τ).bind fun z => bw (iL (ax τ v)) fun xs => (yE Ψ a τ).bind fun p => bw (intOf p) fun p => bw (L2.ixN xs.length p) fun q => bw (xs[q]?.bind lA) fun ys => (yE Ψ i τ).bind fun y =>
       vP τ (dn (gP2 X.μ e a i) own) v xs ys q y z
   else .bad := by rfl
theorem CQ (m : Lm) (v : Nat) (es : List E) : yS Ψ ΨM X n (.mth m (.var v) es) τ own = bw (iL (ax τ v)) fun xs => if 0 < cj (dn (gUL X.μ 0 es) own) v then (yEs Ψ es τ).bind fun ds => AG m τ (dn (gUL X.μ 0 es) own) v xs ds else .bad := by rfl
noncomputable def Cd (X : Fx) (own : Own) (e : E) (x : T) : Ou FlT := if X.lv = 0 ∨ isL x = false then .ok (.rt x) else if X.lv ≤ (match e with | .var i => cj own i | e => min (cG X.μ e) (lvT x)) then .ok (.rt x) else .bad
theorem aI (e : E) : yS Ψ ΨM X n (.ret e) τ own = (yE Ψ e τ).bind (Cd X own e) := by
 rw [fK]
 congr 1
 funext x
 unfold Cd
 split
 · rfl
 · cases e <;> rfl
theorem bD (c : E) (a b : List S) : yS Ψ ΨM X n (.ite c a b) τ own = (yE Ψ c τ).bind fun x => vQ x (ySs Ψ ΨM X n a τ (dn (gU X.μ 2 c) own)) (ySs Ψ ΨM X n b τ (dn (gU X.μ 2 c) own)) := by
 rw [fJ]
 all_goals first | rfl | (congr 1; funext x; cases x <;> first | rfl | (rename_i z; cases z <;> rfl)) | (congr 1; done)
theorem j3 (t : Tg) (it : It) (body : List S) : yS Ψ ΨM X n (.for t it body) τ own = ((yIt Ψ it τ).bind fun xs => eJ (eM Ψ ΨM X n t body) xs τ (dn (gUI X.μ 0 it) own)).noX := by
 rfl
theorem vH (c : E) (body : List S) : yS Ψ ΨM X n (.while c body) τ own = (iy (Jk Ψ c) (gU X.μ 2 c) (FV Ψ ΨM X n body) n τ own).noX := by
 rfl
theorem aJ : ySs Ψ ΨM X n [] τ own = .ok (.nx τ own) := by rw [ySs]
noncomputable def JF (r : FlT) (k : aD → Own → Ou FlT) : Ou FlT := match r with
 | .nx τ own => k τ own
 | r => .ok r
theorem ag (s : S) (ss : List S) : ySs Ψ ΨM X n (s :: ss) τ own = (yS Ψ ΨM X n s τ own).bind fun r => JF r (ySs Ψ ΨM X n ss) := by
 rw [ySs]
 all_goals first | rfl | (congr 1; funext r; cases r <;> rfl) | (congr 1; done)
end
theorem ar (τ : aD) (own : Own) (k : aD → Own → Ou FlT) : JF (.nx τ own) k = k τ own := rfl
theorem aw (d : T) (k : aD → Own → Ou FlT) : JF (.rt d) k = .ok (.rt d) := rfl
theorem aP (τ : aD) (own : Own) : nB (some τ) own = .ok (.nx τ own) := rfl
theorem bf {α β : Type} (a : α) (f : α → Ou β) : bw (some a) f = f a := rfl
theorem ma (xs : List T) : iL (.ok (.lst xs)) = some xs := rfl
theorem lb (r : Ou T) : JO (.bl true) r = r := rfl
theorem w9 (r : Ou T) : JO (.bl false) r = .ok (.bl false) := rfl
theorem FO (r : Ou T) : orT (.bl true) r = .ok (.bl true) := rfl
theorem jd (r : Ou T) : orT (.bl false) r = r := rfl
theorem fO {α : Type} (r s : Ou α) : vQ (.bl true) r s = r := rfl
theorem bU {α : Type} (r s : Ou α) : vQ (.bl false) r s = s := rfl
theorem KY (r : Ou T) : chT (some true) r = r := rfl
theorem dt (b : Bool) : JQ (.bl b) = .ok (.bl (!b)) := rfl
theorem Ji (b : Int) : Kr (.int b) = .ok (.int (-b)) := rfl
theorem au (b : Bool) : ofB (some b) = .ok (.bl b) := rfl
theorem yP (t : Ty) (i : Int) : tM t (.int i) = .ok (.bl (iX t (.int i))) := rfl
theorem CT (t : Ty) (i : Bool) : tM t (.bl i) = .ok (.bl (iX t (.bl i))) := rfl
theorem yH (t : Ty) : tM t .non = .ok (.bl (iX t .non)) := rfl
theorem yQ (t : Ty) (x : Str) : tM t (.str x) = .ok (.bl (iX t (.str x))) := rfl
theorem fF (t : Ty) (x : List T) : tM t (.tup x) = .ok (.bl (iX t (.tup x))) := rfl
theorem tZ (t : Ty) (x : List T) : tM t (.lst x) = .ok (.bl (iX t (.lst x))) := rfl
theorem pK (xs : List T) : Km (.lst xs) = .ok xs := rfl
theorem FQ (xs : List T) : enT (.lst xs) = .ok (jH 0 xs) := rfl
theorem cU (lv mv : Nat) (d : T) : cA ⟨false, lv, mv⟩ (.ok (.rt d)) = .ok d := rfl
theorem cJ (md : Md) (b : Bool) : cA md (.ok (.rt (.bl b))) = .ok (.bl b) := by cases md; rename_i s _ _; cases s <;> rfl
theorem eG (md : Md) (b : Int) : cA md (.ok (.rt (.int b))) = .ok (.int b) := by cases md; rename_i s _ _; cases s <;> rfl
theorem ED (md : Md) (τ : aD) (own : Own) : cA md (.ok (.nx τ own)) = .ok .non := rfl
theorem aN (μ : Nat → Md) (need : List Nat) (own : Own) (e : E) (x : T) : Cd ⟨μ, need, 0⟩ own e x = .ok (.rt x) := if_pos (.inl rfl)
theorem aq (g : Nat → Nat → Bool) : dn g [] = [] := rfl
theorem bW (g : Nat → Nat → Bool) (i lv : Nat) (r : Own) : dn g ((i, lv) :: r) = if g i lv then (if lv = 2 ∧ g i 1 = false then (i, 1) :: dn g r else dn g r) else (i, lv) :: dn g r := by rw [dn]
theorem uk (f : List T → T) : lj f [] = .ok (f []) := rfl
theorem y3 (f : List T → T) (a : T) : lj f [a] = .ok (f [a]) := rfl
theorem fU (f : List T → T) (a b : T) : lj f [a, b] = .ok (f [a, b]) := rfl
theorem Ds (f : List T → T) (a b c : T) : lj f [a, b, c] = .ok (f [a, b, c]) := rfl
theorem o3 (i : Int) : eqK (.int i) := ⟨rfl, Nat.zero_le _⟩
theorem dq (i j : Int) : zC .eq (.int i) (.int j) = some (decide (i = j)) := by
 show (if eqK (.int i) ∧ eqK (.int j) then some (eqT (.int i) (.int j)) else none) = _
 rw [if_pos ⟨o3 i, o3 j⟩, eqT, Bool.beq_eq_decide_eq]
theorem bM (i j : Int) : zC .ne (.int i) (.int j) = some (!decide (i = j)) := by
 show (if eqK (.int i) ∧ eqK (.int j) then some (!eqT (.int i) (.int j)) else none) = _
 rw [if_pos ⟨o3 i, o3 j⟩, eqT, Bool.beq_eq_decide_eq]
theorem ko (i j : Int) : zC .lt (.int i) (.int j) = some (decide (i < j)) := rfl
theorem Aj (i j : Int) : zC .le (.int i) (.int j) = some (decide (i ≤ j)) := rfl
theorem ib (i j : Int) : zC .gt (.int i) (.int j) = some (decide (j < i)) := rfl
theorem i7 (i j : Int) : zC .ge (.int i) (.int j) = some (decide (j ≤ i)) := rfl
theorem gJ (i j : Int) : z2 .add (.int i) (.int j) = .ok (.int (i + j)) := rfl
theorem nQ (i j : Int) : z2 .sub (.int i) (.int j) = .ok (.int (i - j)) := rfl
theorem gG {i j : Int} (h : 0 < j) : z2 .mod (.int i) (.int j) = .ok (.int (i % j)) := by
 show (if j ≠ 0 then Ou.ok (T.int (i.fmod j)) else .bad) = _
 rw [if_pos (by omega), Int.fmod_eq_emod_of_nonneg i (by omega)]
theorem yq {α : Type} {xs : List α} {k : Nat} {d : α} (h : xs[k]? = some d) : L2.atI xs (k : Int) = some d := by
 have hl := (List.getElem?_eq_some_iff.mp h).1
 unfold L2.atI L2.ixN
 rw [if_pos (by omega), if_pos (by omega)]
 simpa using h
theorem jk {xs : List T} {k : Nat} {d : T} (h : xs[k]? = some d) : zI (.lst xs) (.int (k : Nat)) = .ok d := by
 rw [zI, yq h]
theorem xx {xs : List T} {k : Nat} {d : T} (h : xs[k]? = some d) : zI (.tup xs) (.int (k : Nat)) = .ok d := by
 rw [zI, yq h]
theorem Bq (x0 : T) (xs : List T) : zI (.lst (x0 :: xs)) (.int 0) = .ok x0 := jk (k := 0) rfl
theorem fu (x0 : T) (xs : List T) : zI (.tup (x0 :: xs)) (.int 0) = .ok x0 := xx (k := 0) rfl
theorem Dn (x0 x1 : T) (xs : List T) : zI (.lst (x0 :: x1 :: xs)) (.int 1) = .ok x1 := jk (k := 1) rfl
theorem fb (x0 x1 : T) (xs : List T) : zI (.tup (x0 :: x1 :: xs)) (.int 1) = .ok x1 := xx (k := 1) rfl
theorem KS (x0 x1 x2 : T) (xs : List T) : zI (.lst (x0 :: x1 :: x2 :: xs)) (.int 2) = .ok x2 := jk (k := 2) rfl
theorem Ce (x0 x1 x2 : T) (xs : List T) : zI (.tup (x0 :: x1 :: x2 :: xs)) (.int 2) = .ok x2 := xx (k := 2) rfl
theorem vj (x0 x1 x2 x3 : T) (xs : List T) : zI (.lst (x0 :: x1 :: x2 :: x3 :: xs)) (.int 3) = .ok x3 := jk (k := 3) rfl
theorem KA (x0 x1 x2 x3 x4 : T) (xs : List T) : zI (.lst (x0 :: x1 :: x2 :: x3 :: x4 :: xs)) (.int 4) = .ok x4 := jk (k := 4) rfl
theorem Ky (x0 x1 x2 x3 x4 x5 : T) (xs : List T) : zI (.lst (x0 :: x1 :: x2 :: x3 :: x4 :: x5 :: xs)) (.int 5) = .ok x5 := jk (k := 5) rfl
theorem KZ (x0 x1 x2 x3 x4 x5 x6 : T) (xs : List T) : zI (.lst (x0 :: x1 :: x2 :: x3 :: x4 :: x5 :: x6 :: xs)) (.int 6) = .ok x6 := jk (k := 6) rfl
noncomputable def big : Nat := 10 ^ 1000
theorem pP {n : Nat} (h : n < big) : n.log2 < 9000 := by
 rcases Nat.eq_zero_or_pos n with h0 | hp
 · subst h0; decide
 · refine (Nat.log2_lt (by omega)).mpr (Nat.lt_of_lt_of_le h ?_)
   unfold big
   exact Nat.le_of_ble_eq_true (by decide +kernel)
theorem fI {n : Nat} (h : n < 10 ^ 200) : n < big := Nat.lt_of_lt_of_le h (Nat.pow_le_pow_right (by decide) (by decide))
theorem Cs {j : Int} (h0 : j ≠ 0) (h : j.natAbs < big) : aY j := ⟨h0, pP h⟩
theorem mulOk_of {i j : Int} (h : i.natAbs < big) (h' : j.natAbs < big) : aR i j := .inr (.inr ⟨Nat.lt_of_lt_of_le (pP h) (by decide), Nat.lt_of_lt_of_le (pP h') (by decide)⟩)
theorem fv {i j : Int} (h : j.natAbs < 2 ^ 64) : aR i j := .inr (.inl (by
 rcases Nat.eq_zero_or_pos j.natAbs with h0 | hp
 · rw [h0]; decide
 · exact (Nat.log2_lt (by omega)).mpr h))
theorem dF {i j : Int} (h : i.natAbs < 2 ^ 64) : aR i j := .inl (by
 rcases Nat.eq_zero_or_pos i.natAbs with h0 | hp
 · rw [h0]; decide
 · exact (Nat.log2_lt (by omega)).mpr h)
theorem iN {i j : Int} (h : 0 < j) (h' : j.natAbs < big) : z2 .fdiv (.int i) (.int j) = .ok (.int (i / j)) := by
 show (if aY j then Ou.ok (T.int (i.fdiv j)) else .bad) = _
 rw [if_pos (Cs (by omega) h'), Int.fdiv_eq_ediv_of_nonneg i (by omega)]
theorem fG {i j : Int} (h : aR i j) : z2 .mul (.int i) (.int j) = .ok (.int (i * j)) := by
 show (if aR i j then Ou.ok (T.int (i * j)) else .bad) = _
 rw [if_pos h]
theorem HN {i : Int} {n : Nat} (h : n ≤ 1000000) (h' : i.natAbs < 2 ^ 64) : z2 .pow (.int i) (.int (n : Int)) = .ok (.int (i ^ n)) := by
 show (if 0 ≤ (n : Int) ∧ (n : Int) ≤ 1000000 ∧ i.natAbs < 2 ^ 64 then Ou.ok (T.int (i ^ (n : Int).toNat)) else .bad) = _
 rw [if_pos ⟨by omega, by omega, h'⟩]
 rfl
theorem sW (i : Int) : zB .abs [.int i] = .ok (.int (i.natAbs : Int)) := by
 show Ou.ok (T.int (if i < 0 then -i else i)) = _
 congr 2
 split <;> omega
theorem ki (xs : List T) : zB .len [.lst xs] = .ok (.int (xs.length : Nat)) := rfl
theorem eF (xs : List T) : zB .len [.tup xs] = .ok (.int (xs.length : Nat)) := rfl
theorem iW (b : Bool) : zB .int [.bl b] = .ok (.int (if b then 1 else 0)) := rfl
theorem Dg {α : Type} (xs : List α) (f : α → Bool) : tL (xs.map fun x => .bl (f x)) = some (xs.all f) := by
 induction xs with
 | nil => rfl
 | cons x xs ih => simp only [List.map_cons, tL, ih, Option.map_some, List.all_cons]
theorem Iu {α : Type} (xs : List α) (f : α → Bool) : zB .all [.lst (xs.map fun x => .bl (f x))] = .ok (.bl (xs.all f)) := by
 show ofB (tL _) = _
 rw [Dg]; rfl
theorem cD {α : Type} (xs : List α) {g : α → T} {f : T → Ou (Option T)} {k : α → T} (h : ∀ x ∈ xs, f (g x) = .ok (some (k x))) : gN f (xs.map g) = .ok (xs.map k) := by
 induction xs with
 | nil => rfl
 | cons x xs ih =>
   rw [List.map_cons, gN, h x (List.mem_cons_self ..), ih fun y hy => h y (List.mem_cons_of_mem _ hy)]
   rfl
theorem DJ (xs : List T) {f : T → Ou (Option T)} {k : T → T} (h : ∀ x ∈ xs, f x = .ok (some (k x))) : gN f xs = .ok (xs.map k) := by
 have := cD (g := id) xs h
 rwa [List.map_id] at this
theorem BJ (a b : Nat) (h : b ≠ 0) : Nat.gcd b (a % b) = Nat.gcd a b := by
 rw [Nat.gcd_comm a b, Nat.gcd_rec b a, Nat.gcd_comm]
end Sv
namespace Sv
open PySem PySem.Spec L2
open Ev (D aR aY ai)
noncomputable def A1 (r : FlT) (k : aD → Own → Ou FlT) : Ou FlT := match r with
 | .nx τ own => k τ own
 | .ct τ own => k τ own
 | .bk τ own => .ok (.nx τ own)
 | .rt d => .ok (.rt d)
theorem fE (τ : aD) (own : Own) (k : aD → Own → Ou FlT) : A1 (.nx τ own) k = k τ own := rfl
theorem d8 (f : T → aD → Own → Ou FlT) (τ : aD) (own : Own) : eJ f [] τ own = .ok (.nx τ own) := by rw [eJ]
theorem dI (f : T → aD → Own → Ou FlT) (x : T) (xs : List T) (τ : aD) (own : Own) : eJ f (x :: xs) τ own = (f x τ own).bind fun r => A1 r (eJ f xs) := by
 rw [eJ]
 all_goals first | rfl | (congr 1; funext r; cases r <;> rfl) | (congr 1; done)
theorem wC (c : aD → Ou T) (g : Nat → Nat → Bool) (f : aD → Own → Ou FlT) (n : Nat) (τ : aD) (own : Own) :
   iy c g f (n + 1) τ own = (c τ).bind fun x => vQ x ((f τ (dn g own)).bind fun r => A1 r (iy c g f n)) (.ok (.nx τ (dn g own))) := by
 rw [iy]
 all_goals first | rfl | (congr 1; done) | (congr 1; funext x; cases x <;> first | rfl | (rename_i z; cases z <;> first | rfl | (show Ou.bind _ _ = Ou.bind _ _; congr 1; funext r; cases r <;> rfl)))
theorem vK (Ψ ΨM : FnT) (X : Fx) (n : Nat) (c : E) (body : List S) (g : Nat → Nat → Bool) (mkE : T → T → Option T → aD)
   (hc : ∀ (a b : Nat) r, yE Ψ c (mkE (.int a) (.int b) r) = .ok (.bl (decide (b ≠ 0))))
   (hb : ∀ (a b : Nat) r, b ≠ 0 → ySs Ψ ΨM X n body (mkE (.int a) (.int b) r) [] = .ok (.nx (mkE (.int b) (.int ((a % b : Nat) : Int)) (some (.int ((a % b : Nat) : Int)))) [])) :
   ∀ (m a b : Nat) (r : Option T), b < m → ∃ r', iy (Jk Ψ c) g (FV Ψ ΨM X n body) m (mkE (.int a) (.int b) r) [] = .ok (.nx (mkE (.int (Nat.gcd a b : Nat)) (.int 0) r') []) := by
 intro m
 induction m with
 | zero => intro a b r h; omega
 | succ m ih =>
   intro a b r h
   rw [wC, E4, hc, Ou.aa]
   by_cases hb0 : b = 0
   · subst hb0
     exact ⟨r, by rw [Nat.gcd_zero_right]; rfl⟩
   · obtain ⟨r', e⟩ := ih b (a % b) (some (.int ((a % b : Nat) : Int))) (by have := Nat.mod_lt a (show 0 < b by omega); omega)
     refine ⟨r', ?_⟩
     rw [decide_eq_true hb0, fO, aq, EG, hb a b r hb0, Ou.aa, fE, e, BJ a b hb0]
noncomputable def nF : List S := [.set (.nm 0) (.bi .abs [(.var 0)]), .set (.nm 1) (.bi .abs [(.var 1)]), .while (.cmp .gt (.var 1) (.cI 0)) [.set (.nm 2) (.op .mod (.var 0) (.var 1)), .set (.nm 0) (.var 1), .set (.nm 1) (.var 2)], .ret (.var 0)]
noncomputable def qx : List S := [.set (.nm 2) (.bi .abs [(.var 0)]), .set (.nm 3) (.bi .abs [(.var 1)]), .while (.cmp .ne (.var 3) (.cI 0)) [.set (.nm 4) (.op .mod (.var 2) (.var 3)), .set (.nm 2) (.var 3), .set (.nm 3) (.var 4)], .ret (.var 2)]
theorem yC (a b : Nat) (h : b ≠ 0) : z2 .mod (.int (a : Int)) (.int (b : Int)) = .ok (.int ((a % b : Nat) : Int)) := by
 rw [gG (by omega)]; rfl
theorem xj (Ψ ΨM : FnT) (μ : Nat → Md) (sc : Bool) (a b : Int) : mkT Ψ ΨM μ ⟨sc, 0, 0⟩ [] nF 2 3 [.int a, .int b] = .ok (.int (Int.gcd a b : Nat)) := by
 obtain ⟨r', e⟩ := vK Ψ ΨM ⟨μ, [], 0⟩ (aV [.int a, .int b]) (.cmp .gt (.var 1) (.cI 0)) [.set (.nm 2) (.op .mod (.var 0) (.var 1)), .set (.nm 0) (.var 1), .set (.nm 1) (.var 2)] (gU μ 2 (.cmp .gt (.var 1) (.cI 0))) (fun x y r => [some x, some y, r])
   (fun a b r => by
     simp only [ae, aK, aS, au, Ou.aa, ax, ib, List.getElem?_cons_zero, List.getElem?_cons_succ]
     congr 2
     exact decide_eq_decide.mpr (by omega))
   (fun a b r hb => by simp only [ae, bO, bJ, aJ, ag, qi, sZ, g8, pv, ar, aP, aq, Ou.aa, ax, aA.eq_def, cg, List.getElem?_cons_zero, List.getElem?_cons_succ, List.set_cons_zero, List.set_cons_succ, List.contains_nil, Option.isSome_some, Bool.and_true, Bool.false_eq_true, if_false, Nat.min_def, and_true, yC a b hb]) (aV [.int a, .int b]) a.natAbs b.natAbs none (by simp only [aV, DG]; omega)
 show cA ⟨sc, 0, 0⟩ (ySs Ψ ΨM ⟨μ, [], 0⟩ _ nF [some (.int a), some (.int b), none] []) = _
 simp only [nF, ae, dD, aj, af, bJ, vH, ag, zi, uu, ar, aP, aq, Ou.aa, ax, aA.eq_def, cg, sW, List.getElem?_cons_zero, List.getElem?_cons_succ, List.set_cons_zero, List.set_cons_succ, List.contains_nil, Option.isSome_some, Bool.and_true, Bool.false_eq_true, if_false, Nat.min_def, and_true]
 simp only [e, ae, aI, ag, ar, aw, eG, aN, Ou.aa, Ou.gI, ax, List.getElem?_cons_zero]
 rfl
theorem zU (Ψ ΨM : FnT) (μ : Nat → Md) (sc : Bool) (a b : Int) : mkT Ψ ΨM μ ⟨sc, 0, 0⟩ [] qx 2 5 [.int a, .int b] = .ok (.int (Int.gcd a b : Nat)) := by
 obtain ⟨r', e⟩ := vK Ψ ΨM ⟨μ, [], 0⟩ (aV [.int a, .int b]) (.cmp .ne (.var 3) (.cI 0)) [.set (.nm 4) (.op .mod (.var 2) (.var 3)), .set (.nm 2) (.var 3), .set (.nm 3) (.var 4)] (gU μ 2 (.cmp .ne (.var 3) (.cI 0))) (fun x y r => [some (.int a), some (.int b), some x, some y, r])
   (fun a b r => by
     simp only [ae, aK, aS, au, Ou.aa, ax, bM, List.getElem?_cons_zero, List.getElem?_cons_succ]
     congr 2
     rw [← decide_not]
     exact decide_eq_decide.mpr (by omega))
   (fun a b r hb => by simp only [ae, bO, bJ, aJ, ag, qi, sZ, g8, pv, ar, aP, aq, Ou.aa, ax, aA.eq_def, cg, List.getElem?_cons_zero, List.getElem?_cons_succ, List.set_cons_zero, List.set_cons_succ, List.contains_nil, Option.isSome_some, Bool.and_true, Bool.false_eq_true, if_false, Nat.min_def, and_true, yC a b hb]) (aV [.int a, .int b]) a.natAbs b.natAbs none (by simp only [aV, DG]; omega)
 show cA ⟨sc, 0, 0⟩ (ySs Ψ ΨM ⟨μ, [], 0⟩ _ qx [some (.int a), some (.int b), none, none, none] []) = _
 simp only [qx, ae, dD, aj, af, bJ, vH, ag, zi, uu, ar, aP, aq, Ou.aa, ax, aA.eq_def, cg, sW, List.getElem?_cons_zero, List.getElem?_cons_succ, List.set_cons_zero, List.set_cons_succ, List.contains_nil, Option.isSome_some, Bool.and_true, Bool.false_eq_true, if_false, Nat.min_def, and_true]
 simp only [e, ae, aI, ag, ar, aw, eG, aN, Ou.aa, Ou.gI, ax, List.getElem?_cons_zero, List.getElem?_cons_succ]
 rfl
noncomputable def tQ : List S := [.ite (.cmp .lt (.var 1) (.bi .len [(.var 0)])) [.ret (.ix (.var 0) (.var 1))] [], .ret (.cI 0)]
noncomputable def inT (ns : List Int) : T := .lst (ns.map .int)
theorem Dy (Ψ ΨM : FnT) (μ : Nat → Md) (sc : Bool) (ns : List Int) (k : Nat) : ∃ c : Int, mkT Ψ ΨM μ ⟨sc, 0, 0⟩ [] tQ 2 2 [inT ns, .int (k : Nat)] = .ok (.int c) := by
 show ∃ c : Int, cA ⟨sc, 0, 0⟩ (ySs Ψ ΨM ⟨μ, [], 0⟩ _ tQ [some (inT ns), some (.int (k : Nat))] []) = _
 unfold inT
 by_cases h : (k : Int) < ((ns.map T.int).length : Nat)
 · have hk' : k < ns.length := by rw [List.length_map] at h; omega
   have g : zI (.lst (ns.map .int)) (.int (k : Nat)) = .ok (.int ns[k]) := jk (by rw [List.getElem?_map, List.getElem?_eq_getElem hk']; rfl)
   exact ⟨ns[k], by simp only [tQ, ae, aS, bq, dD, aj, af, aI, bD, aJ, ag, aw, fO, au, eG, aN, aq, Ou.aa, ax, ko, ki, List.getElem?_cons_zero, List.getElem?_cons_succ, decide_true, h, decide_true, g]⟩
 · exact ⟨0, by simp only [tQ, ae, aK, aS, bq, dD, aj, af, aI, bD, aJ, ag, ar, aw, bU, au, eG, aN, aq, Ou.aa, ax, ko, ki, List.getElem?_cons_zero, List.getElem?_cons_succ, decide_false, h, decide_false]⟩
theorem Cr (i : Int) (n : Nat) (h' : i.natAbs < 2 ^ 64 := by decide) (h : n ≤ 1000000 := by decide) : z2 .pow (.int i) (.int (n : Int)) = .ok (.int (i ^ n)) := HN h h'
theorem p18 : z2 .pow (.int 10) (.int 18) = .ok (.int (10 ^ 18)) := Cr 10 18
noncomputable def Dig : List Int → List Int → Prop
 | [], [] => True
 | r :: rs, b :: bs => (0 ≤ r ∧ r < b) ∧ Dig rs bs
 | _, _ => False
theorem K4 (l : List T) (d : T) : (l ++ [d]).length = l.length + 1 := by rw [List.length_append, List.length_singleton]
theorem Dr {l : List T} {d : T} (h : l.length < ai) : zM .append l [d] = some (l ++ [d]) := by
 show (if l.length < ai then some (l ++ [d]) else none) = _
 rw [if_pos h]
noncomputable def zb : List S := [.mth .append (.var 2) [(.op .mod (.var 0) (.var 3))], .set (.nm 0) (.op .fdiv (.var 0) (.var 3))]
noncomputable def zd : List S := [.set (.nm 5) (.op .mod (.op .add (.op .add (.op .add (.op .mul (.var 0) (.cI 48271)) (.op .mul (.op .mul (.var 4) (.var 4)) (.cI 69621))) (.op .mul (.var 4) (.cI 16807))) (.cI 11)) (.cI 2147483647)), .mth .append (.var 2) [(.op .mod (.op .fdiv (.op .mod (.op .add (.op .add (.op .mul (.var 5) (.cI 40692)) (.var 0)) (.op .mul (.cI 31) (.var 4))) (.cI 2147483399)) (.cI 7)) (.var 3))]]
noncomputable def kx : List S := [.set (.nm 2) (.lst []), .ite (.cmp .ge (.bi .abs [(.var 0)]) (.op .pow (.cI 10) (.cI 18))) [.for (.nm 3) (.seq (.var 1)) zb, .ret (.var 2)] [], .for (.tp [4, 3]) (.enu (.var 1)) zd, .ret (.var 2)]
theorem so (Ψ ΨM : FnT) (μ : Nat → Md) (n : Nat) : ∀ (bs : List Int) (c : Int) (x r3 r4 r5 : Option T) (row : List T), (∀ b ∈ bs, 0 < b ∧ b.natAbs < big) → row.length + bs.length < ai →
   ∃ (rs : List Int) (c' : Int) (r3' : Option T), Dig rs bs ∧ eJ (eM Ψ ΨM ⟨μ, [2], 0⟩ n (.nm 3) zb) (bs.map T.int) [some (.int c), x, some (.lst row), r3, r4, r5] [(2, 1)]
     = .ok (.nx [some (.int c'), x, some (.lst (row ++ rs.map T.int)), r3', r4, r5] [(2, 1)])
 | [], c, x, r3, r4, r5, row, _, _ => ⟨[], c, r3, trivial, by simp only [List.map_nil, d8, List.append_nil]⟩
 | b :: bs, c, x, r3, r4, r5, row, hb, hl => by
   obtain ⟨h0, h1⟩ := hb b (by simp)
   simp only [List.length_cons] at hl
   obtain ⟨rs, c', r3', dg, e⟩ := so Ψ ΨM μ n bs (c / b) x (some (.int b)) r4 r5 (row ++ [.int (c % b)]) (fun y hy => hb y (by simp [hy])) (by rw [K4]; omega)
   refine ⟨(c % b) :: rs, c', r3', ⟨⟨Int.emod_nonneg _ (by omega), Int.emod_lt_of_pos _ h0⟩, dg⟩, ?_⟩
   have hlt : row.length < ai := by omega
   rw [List.map_cons, dI]
   have e1 : eM Ψ ΨM ⟨μ, [2], 0⟩ n (.nm 3) zb (.int b) [some (.int c), x, some (.lst row), r3, r4, r5] [(2, 1)] = .ok (.nx [some (.int (c / b)), x, some (.lst (row ++ [.int (c % b)])), some (.int b), r4, r5] [(2, 1)]) := by
     simp only [zb, ae, bO, aj, af, bJ, CQ, aJ, ag, g8, qs, ar, aP, bf, ma, aq, bW, Ou.aa, ax, aA.eq_def, cg, frg, cj, iT, Bt, gts, bY, tgN, AG, fH, List.getElem?_cons_zero, List.getElem?_cons_succ, List.set_cons_zero, List.set_cons_succ, List.contains_cons, List.contains_nil, List.lookup_cons, Option.getD_some, Option.isSome_some, Bool.and_true, Bool.and_false, Bool.or_false, Bool.false_eq_true, if_true, if_false, beq_self_eq_true, Nat.reduceBEq, Nat.reduceLT, Nat.min_def, Nat.lt_irrefl, decide_false, and_true, and_false, Nat.reduceEqDiff, gG h0, iN h0 h1, Dr hlt]
   rw [e1, Ou.aa, fE, e]
   simp only [List.append_assoc, List.cons_append, List.nil_append, List.map_cons]
theorem rG (Ψ ΨM : FnT) (μ : Nat → Md) (n : Nat) : ∀ (bs : List Int) (k : Nat) (c : Int) (x r3 r4 r5 : Option T) (row : List T), (∀ b ∈ bs, 0 < b ∧ b.natAbs < big) → row.length + bs.length < ai → k + bs.length < ai →
   ∃ (rs : List Int) (r3' r4' r5' : Option T), Dig rs bs ∧ eJ (eM Ψ ΨM ⟨μ, [2], 0⟩ n (.tp [4, 3]) zd) (jH k (bs.map T.int)) [some (.int c), x, some (.lst row), r3, r4, r5] [(2, 1)]
     = .ok (.nx [some (.int c), x, some (.lst (row ++ rs.map T.int)), r3', r4', r5'] [(2, 1)])
 | [], k, c, x, r3, r4, r5, row, _, _, _ => ⟨[], r3, r4, r5, trivial, by simp only [List.map_nil, jH, d8, List.append_nil]⟩
 | b :: bs, k, c, x, r3, r4, r5, row, hb, hl, hk => by
   obtain ⟨h0, h1⟩ := hb b (by simp)
   simp only [List.length_cons] at hl hk
   have hlt : row.length < ai := by omega
   have lm : ai = 1000000 := rfl
   have kk : (k : Int) < 1000000 := by omega
   have k2 : (k : Int) * (k : Int) < 1000000 * 1000000 := by
     rcases Nat.eq_zero_or_pos k with z | z
     · subst z; decide
     · exact Int.mul_lt_mul kk (by omega) (by omega) (by decide)
   have k3 : (0 : Int) ≤ (k : Int) * (k : Int) := Int.mul_nonneg (by omega) (by omega)
   have m1 : z2 .mul (.int c) (.int 48271) = .ok (.int (c * 48271)) := fG (fv (by decide))
   have m2 : z2 .mul (.int (k : Int)) (.int (k : Int)) = .ok (.int ((k : Int) * (k : Int))) := fG (fv (by omega))
   have m3 : z2 .mul (.int ((k : Int) * (k : Int))) (.int 69621) = .ok (.int ((k : Int) * (k : Int) * 69621)) := fG (fv (by decide))
   have m4 : z2 .mul (.int (k : Int)) (.int 16807) = .ok (.int ((k : Int) * 16807)) := fG (fv (by decide))
   have m5 : ∀ z : Int, z2 .mul (.int z) (.int 40692) = .ok (.int (z * 40692)) := fun z => fG (fv (by decide))
   have m6 : z2 .mul (.int 31) (.int (k : Int)) = .ok (.int (31 * (k : Int))) := fG (dF (by decide))
   have m7 : ∀ z : Int, z2 .mod (.int z) (.int 2147483647) = .ok (.int (z % 2147483647)) := fun z => gG (by decide)
   have m8 : ∀ z : Int, z2 .mod (.int z) (.int 2147483399) = .ok (.int (z % 2147483399)) := fun z => gG (by decide)
   have m9 : ∀ z : Int, z2 .fdiv (.int z) (.int 7) = .ok (.int (z / 7)) := fun z => iN (by decide) (fI (by decide))
   generalize hv : ((((c * 48271 + (k : Int) * (k : Int) * 69621 + (k : Int) * 16807 + 11) % 2147483647 * 40692 + c + 31 * (k : Int)) % 2147483399 / 7) % b) = v
   obtain ⟨rs, r3', r4', r5', dg, e⟩ := rG Ψ ΨM μ n bs (k + 1) c x (some (.int b)) (some (.int (k : Int))) (some (.int ((c * 48271 + (k : Int) * (k : Int) * 69621 + (k : Int) * 16807 + 11) % 2147483647))) (row ++ [.int v]) (fun y hy => hb y (by simp [hy])) (by rw [K4]; omega) (by omega)
   refine ⟨v :: rs, r3', r4', r5', ⟨⟨by rw [← hv]; exact Int.emod_nonneg _ (by omega), by rw [← hv]; exact Int.emod_lt_of_pos _ h0⟩, dg⟩, ?_⟩
   rw [List.map_cons, jH, dI]
   have e1 : eM Ψ ΨM ⟨μ, [2], 0⟩ n (.tp [4, 3]) zd (.tup [.int (k : Nat), .int b]) [some (.int c), x, some (.lst row), r3, r4, r5] [(2, 1)] = .ok (.nx [some (.int c), x, some (.lst (row ++ [.int v])), some (.int b), some (.int (k : Int)), some (.int ((c * 48271 + (k : Int) * (k : Int) * 69621 + (k : Int) * 16807 + 11) % 2147483647))] [(2, 1)]) := by
     simp only [zd, ae, aK, bO, aj, af, bJ, CQ, aJ, ag, g8, pv, ar, aP, bf, ma, aq, bW, Ou.aa, ax, aA.eq_def, kX, cg, frg, cj, iT, Bt, gts, bY, tgN, AG, gJ, fH, List.getElem?_cons_zero, List.getElem?_cons_succ, List.set_cons_zero, List.set_cons_succ, List.contains_cons, List.contains_nil, List.lookup_cons, Option.getD_some, Option.isSome_some, Bool.and_true, Bool.and_false, Bool.or_false, Bool.false_eq_true, if_true, if_false, beq_self_eq_true, Nat.reduceBEq, Nat.reduceLT, Nat.min_def, Nat.lt_irrefl, decide_false, and_true, and_false, Nat.reduceEqDiff, m1, m2, m3, m4, m5, m6, m7, m8, m9, gG h0, Dr hlt, hv]
   rw [e1, Ou.aa, fE, e]
   simp only [List.append_assoc, List.cons_append, List.nil_append, List.map_cons]
theorem xw (Ψ ΨM : FnT) (μ : Nat → Md) (c : Int) (bs : List Int) (hb : ∀ b ∈ bs, 0 < b ∧ b.natAbs < 10 ^ 200) (hl : bs.length < ai) : ∃ rs : List Int, Dig rs bs ∧ mkT Ψ ΨM μ ⟨false, 0, 0⟩ [2] kx 2 6 [.int c, inT bs] = .ok (inT rs) := by
 have hb' : ∀ b ∈ bs, 0 < b ∧ b.natAbs < big := fun b h => ⟨(hb b h).1, fI (hb b h).2⟩
 show ∃ rs : List Int, Dig rs bs ∧ cA ⟨false, 0, 0⟩ (ySs Ψ ΨM ⟨μ, [2], 0⟩ _ kx [some (.int c), some (.lst (bs.map .int)), none, none, none, none] []) = .ok (.lst (rs.map .int))
 by_cases h : (10 : Int) ^ 18 ≤ (c.natAbs : Int)
 · obtain ⟨rs, c', r3', dg, e⟩ := so Ψ ΨM μ (aV [.int c, inT bs]) bs c (some (.lst (bs.map T.int))) none none none [] hb' (by simpa using hl)
   refine ⟨rs, dg, ?_⟩
   simp only [kx, ae, aK, bO, aS, ke, dD, aj, af, gX, bJ, bD, j3, aJ, ag, uD, yU, yr, ar, aP, fO, au, pK, aq, bW, uk, Ou.aa, ax, aA.eq_def, cg, iT, A9, gts, bY, gM, i7, sW, List.getElem?_cons_zero, List.getElem?_cons_succ, List.set_cons_zero, List.set_cons_succ, List.contains_cons, List.contains_nil, List.all_nil, Option.isSome_some, Bool.and_true, Bool.and_false, Bool.or_false, Bool.false_eq_true, if_true, if_false, beq_self_eq_true, Nat.reduceBEq, Nat.reduceLT, Nat.min_def, Nat.lt_irrefl, decide_true, decide_false, and_true, and_false, reduceCtorEq, Nat.reduceEqDiff, Nat.reduceLeDiff, p18, h, decide_true]
   simp only [e, ae, aI, ag, ar, aw, cU, aN, Ou.aa, Ou.gI, ax, List.getElem?_cons_zero, List.getElem?_cons_succ, List.nil_append]
 · obtain ⟨rs, r3', r4', r5', dg, e⟩ := rG Ψ ΨM μ (aV [.int c, inT bs]) bs 0 c (some (.lst (bs.map T.int))) none none none [] hb' (by simpa using hl) (by simpa using hl)
   refine ⟨rs, dg, ?_⟩
   simp only [kx, ae, aK, bO, aS, ke, dD, aj, af, gX, yR, bJ, bD, j3, aJ, ag, uD, yU, yr, ar, aP, bU, au, pK, FQ, aq, bW, uk, Ou.aa, ax, aA.eq_def, cg, iT, A9, gts, bY, gM, i7, sW, List.getElem?_cons_zero, List.getElem?_cons_succ, List.set_cons_zero, List.set_cons_succ, List.contains_cons, List.contains_nil, List.all_nil, Option.isSome_some, Bool.and_true, Bool.and_false, Bool.or_false, Bool.false_eq_true, if_true, if_false, beq_self_eq_true, Nat.reduceBEq, Nat.reduceLT, Nat.min_def, Nat.lt_irrefl, decide_true, decide_false, and_true, and_false, reduceCtorEq, Nat.reduceEqDiff, Nat.reduceLeDiff, p18, h, decide_false]
   simp only [e, ae, aI, ag, ar, aw, cU, aN, Ou.aa, Ou.gI, ax, List.getElem?_cons_zero, List.getElem?_cons_succ, List.nil_append]
structure Low (t b : Int) : Prop where
 pos : 1 ≤ b
 cop : Int.gcd t b = 1
theorem D2 {t b : Int} (hb : 0 < b) : Low (t / (Int.gcd t b : Int)) (b / (Int.gcd t b : Int)) ∧ t / (Int.gcd t b : Int) * b = t * (b / (Int.gcd t b : Int)) := by
 have hg : 0 < Int.gcd t b := Int.gcd_pos_of_ne_zero_right _ (by omega)
 obtain ⟨t', ht⟩ := Int.gcd_dvd_left t b
 obtain ⟨b', hb'⟩ := Int.gcd_dvd_right t b
 have g0 : (Int.gcd t b : Int) ≠ 0 := by omega
 have e1 : t / (Int.gcd t b : Int) = t' := by rw [Int.ediv_eq_iff_eq_mul_right g0 (Int.gcd_dvd_left t b)]; exact ht
 have e2 : b / (Int.gcd t b : Int) = b' := by rw [Int.ediv_eq_iff_eq_mul_right g0 (Int.gcd_dvd_right t b)]; exact hb'
 rw [e1, e2]
 refine ⟨⟨?_, ?_⟩, ?_⟩
 · have : 0 < (Int.gcd t b : Int) * b' := by rw [← hb']; exact hb
   have : 0 < b' := by
     rcases Int.lt_or_le 0 b' with h | h
     · exact h
     · have := Int.mul_nonpos_of_nonneg_of_nonpos (show (0 : Int) ≤ (Int.gcd t b : Int) by omega) h
       omega
   omega
 · have := Int.gcd_mul_left (Int.gcd t b : Int) t' b'
   rw [← ht, ← hb'] at this
   simp only [Int.natAbs_natCast] at this
   have h2 : Int.gcd t b * 1 = Int.gcd t b * Int.gcd t' b' := by omega
   exact (Nat.eq_of_mul_eq_mul_left hg h2).symm
 · generalize hG : (Int.gcd t b : Int) = G at *
   calc t' * b = t' * (G * b') := by rw [← hb']
     _ = (G * t') * b' := by rw [← Int.mul_assoc, Int.mul_comm t' G]
     _ = t * b' := by rw [← ht]
noncomputable def aE (t b : Int) : T := .tup [.int t, .int b]
noncomputable def FG (Ψ : FnT) (dv : Nat) : Prop := ∀ a b : Int, Ψ dv [.int a, .int b] = .ok (.int (Int.gcd a b : Nat))
theorem BC (t b : Int) (hb : b ≠ 0) : Int.gcd t b ≤ b.natAbs := Nat.le_of_dvd (by omega) (Int.natAbs_dvd_natAbs.mpr (Int.gcd_dvd_right t b))
noncomputable def yb (dv : Nat) : List S := [.set (.nm 2) (.call dv [(.var 0), (.var 1)]), .ret (.tup [(.op .fdiv (.var 0) (.var 2)), (.op .fdiv (.var 1) (.var 2))])]
theorem DS (sc : Bool) (a b : Int) : cA ⟨sc, 0, 0⟩ (.ok (.rt (.tup [.int a, .int b]))) = .ok (aE a b) := by cases sc <;> rfl
theorem El {Ψ ΨM : FnT} {μ : Nat → Md} {sc : Bool} {dv : Nat} (hmv : (μ dv).mv = 0) (hd : FG Ψ dv) (t b : Int) (hb : 0 < b) (hs : b.natAbs < big) : mkT Ψ ΨM μ ⟨sc, 0, 0⟩ [] (yb dv) 2 3 [.int t, .int b] = .ok (aE (t / (Int.gcd t b : Int)) (b / (Int.gcd t b : Int))) := by
 have hg : 0 < Int.gcd t b := Int.gcd_pos_of_ne_zero_right _ (by omega)
 have hl := BC t b (by omega)
 have d1 : ∀ i : Int, z2 .fdiv (.int i) (.int (Int.gcd t b : Int)) = .ok (.int (i / (Int.gcd t b : Int))) := fun i => iN (by omega) (by rw [Int.natAbs_natCast]; omega)
 show cA ⟨sc, 0, 0⟩ (ySs Ψ ΨM ⟨μ, [], 0⟩ _ (yb dv) [some (.int t), some (.int b), none] []) = _
 simp only [yb, ae, bO, ip, aC, aj, af, bJ, aI, ag, bZ, cc, iu, cX, ar, aw, aP, aN, aq, fU, Ou.aa, ax, aA.eq_def, cg, List.getElem?_cons_zero, List.getElem?_cons_succ, List.set_cons_zero, List.set_cons_succ, List.contains_nil, Option.isSome_some, Bool.and_true, Bool.and_false, Bool.false_eq_true, if_false, Nat.min_def, Nat.lt_irrefl, decide_false, and_true, and_false, hmv, hd t b, d1, DS]
structure Nu (t b : Int) : Prop where
 low : Low t b
 st : t.natAbs ≤ 10 ^ 40
 sb : b.natAbs ≤ 10 ^ 40
end Sv
namespace Sv
open PySem PySem.Spec L2
open Ev (D aR aY ai)
mutual
noncomputable def nx : T → Bool
 | .exo _ => false
 | .tup xs => nxs xs
 | .lst xs => nxs xs
 | _ => true
noncomputable def nxs : List T → Bool
 | [] => true
 | x :: xs => nx x && nxs xs
end
theorem yx : ∀ {xs : List T} {x : T}, nxs xs = true → x ∈ xs → nx x = true
 | y :: ys, x, h, hx => by
   rw [nxs, Bool.and_eq_true] at h
   rcases List.mem_cons.mp hx with rfl | hx
   · exact h.1
   · exact yx h.2 hx
theorem BG {xs : List T} (h : nx (.tup xs) = true) : ∀ x ∈ xs, nx x = true := fun x hx => yx (by rwa [nx] at h) hx
noncomputable def tU : T → Bool
 | .int _ => true
 | _ => false
theorem vb {d : T} (h : tU d = true) : ∃ i, d = .int i := by
 cases d with
 | int i => exact ⟨i, rfl⟩
 | _ => cases h
noncomputable def tq : List S := [.ret (.and (.isi (.var 0) .int) (.not (.isi (.var 0) .bool)))]
noncomputable def Lo (Ψ : FnT) (w : Nat) : Prop := ∀ d, nx d = true → Ψ w [d] = .ok (.bl (tU d))
theorem pU {Ψ ΨM : FnT} {μ : Nat → Md} {sc : Bool} (d : T) (h : nx d = true) : mkT Ψ ΨM μ ⟨sc, 0, 0⟩ [] tq 1 1 [d] = .ok (.bl (tU d)) := by
 show cA ⟨sc, 0, 0⟩ (ySs Ψ ΨM ⟨μ, [], 0⟩ _ tq [some d] []) = _
 cases d <;> first | (simp [nx] at h; done) | (simp only [tq, ae, dz, jJ, fS, aI, ag, aw, lb, w9, dt, yP, CT, yH, yQ, fF, tZ, cJ, aN, Ou.aa, ax, iX.eq_def, List.getElem?_cons_zero, Bool.not_true, Bool.not_false, tU])
noncomputable def xG : T → Bool
 | .tup [.int a, .int b] => decide (1 ≤ b) && decide (Int.gcd a b = 1)
 | _ => false
theorem De {xs : List T} (h : xs.length ≠ 2) : xG (.tup xs) = false := by
 match xs, h with
 | [], _ => rfl
 | [a], _ => cases a <;> rfl
 | [a, b], h => simp at h
 | a :: b :: c :: r, _ => cases a <;> first | rfl | (cases b <;> rfl)
theorem u6 {a b : T} (h : (tU a && tU b) = false) : xG (.tup [a, b]) = false := by
 cases a <;> cases b <;> first | rfl | (simp [tU] at h)
noncomputable def iO (wh cd : Nat) : List S := [.ite (.or (.not (.isi (.var 0) .tuple)) (.cmp .ne (.bi .len [(.var 0)]) (.cI 2))) [.ret (.cB false)] [], .ite (.or (.not (.call wh [(.ix (.var 0) (.cI 0))])) (.not (.call wh [(.ix (.var 0) (.cI 1))]))) [.ret (.cB false)] [], .ret (.and (.cmp .ge (.ix (.var 0) (.cI 1)) (.cI 1)) (.cmp .eq (.call cd [(.ix (.var 0) (.cI 0)), (.ix (.var 0) (.cI 1))]) (.cI 1)))]
theorem LF {xs : List T} (h : xs.length = 2) : ∃ a b, xs = [a, b] := by
 match xs, h with
 | [a, b], _ => exact ⟨a, b, rfl⟩
theorem ne2 {xs : List T} (h : xs.length ≠ 2) : ¬ ((xs.length : Nat) : Int) = 2 := by omega
section
variable {Ψ ΨM : FnT} {μ : Nat → Md} {sc : Bool} {wh cd : Nat}
theorem Bo (hw : Lo Ψ wh) (hc : FG Ψ cd) (d : T) (h : nx d = true) : mkT Ψ ΨM μ ⟨sc, 0, 0⟩ [] (iO wh cd) 1 1 [d] = .ok (.bl (xG d)) := by
 show cA ⟨sc, 0, 0⟩ (ySs Ψ ΨM ⟨μ, [], 0⟩ _ (iO wh cd) [some d] []) = _
 cases d with
 | exo c => simp [nx] at h
 | tup xs =>
   by_cases hl : xs.length = 2
   · obtain ⟨a, b, rfl⟩ := LF hl
     have ha := BG h a (by simp)
     have hb := BG h b (by simp)
     have l2 : ((([a, b] : List T).length : Nat) : Int) = 2 := rfl
     cases wa : tU a with
     | false => simp only [iO, ae, ic, aK, dz, aS, iE, bq, aC, dD, fS, aj, af, aI, bD, aJ, ag, ar, aw, FO, jd, fO, bU, dt, au, fF, cJ, aN, aq, Ou.aa, ax, bM, fu, fb, eF, iX, List.getElem?_cons_zero, Bool.not_true, Bool.not_false, decide_true, l2, hw a ha, hw b hb, wa, u6 (a := a) (b := b) (by rw [wa]; rfl)]
     | true =>
       cases wb : tU b with
       | false => simp only [iO, ae, ic, aK, dz, aS, iE, bq, aC, dD, fS, aj, af, aI, bD, aJ, ag, ar, aw, jd, fO, bU, dt, au, fF, cJ, aN, aq, Ou.aa, ax, bM, fu, fb, eF, iX, List.getElem?_cons_zero, Bool.and_false, Bool.not_true, Bool.not_false, decide_true, and_false, l2, hw a ha, hw b hb, wa, wb, u6 (a := a) (b := b) (by rw [wb, Bool.and_false])]
       | true =>
         obtain ⟨i, rfl⟩ := vb wa
         obtain ⟨j, rfl⟩ := vb wb
         by_cases hj : 1 ≤ j
         · simp only [iO, ae, ic, aK, dz, aS, jJ, iE, bq, aC, dD, fS, aj, af, aI, bD, aJ, ag, ar, aw, lb, jd, bU, dt, au, fF, cJ, aN, aq, Ou.aa, ax, dq, bM, i7, fu, fb, eF, iX.eq_def, List.getElem?_cons_zero, Bool.true_and, Bool.not_true, decide_true, true_and, l2, hw _ ha, hw _ hb, wa, wb, hj, hc i j, xG]
           congr 2
           exact decide_eq_decide.mpr (by omega)
         · simp only [iO, ae, ic, aK, dz, aS, jJ, iE, bq, aC, dD, fS, aj, af, aI, bD, aJ, ag, ar, aw, w9, jd, bU, dt, au, fF, cJ, aN, aq, Ou.aa, ax, dq, bM, i7, fu, fb, eF, iX.eq_def, List.getElem?_cons_zero, Bool.false_and, Bool.not_true, decide_true, decide_false, false_and, l2, hw _ ha, hw _ hb, wa, wb, hj, hc i j, xG]
   · simp only [iO, ae, ic, aK, dz, aS, iE, dD, fS, aj, af, aI, bD, aJ, ag, aw, jd, fO, dt, au, fF, cJ, aN, aq, Ou.aa, ax, bM, eF, iX.eq_def, List.getElem?_cons_zero, Bool.not_true, Bool.not_false, decide_false, ne2 hl, De hl]
 | _ => simp only [iO, ae, ic, aK, dz, aS, iE, dD, fS, aj, af, aI, bD, aJ, ag, aw, FO, fO, dt, au, yP, CT, yH, yQ, tZ, cJ, aN, aq, Ou.aa, ax, bM, ki, iX.eq_def, List.getElem?_cons_zero, Bool.not_false, xG]
end
end Sv
namespace Sv
open PySem PySem.Spec L2
open Ev (D aR aY ai)
theorem fZ {n : Nat} (h : n ≤ 7) : n < ai := Nat.lt_of_le_of_lt h (by decide)
section
variable {Ψ ΨM : FnT} {μ : Nat → Md} {sc : Bool} {sl fr rw' : Nat}
end
end Sv
namespace Sv
open PySem PySem.Spec L2
open Ev (D aR aY ai)
noncomputable def Tbl (rows : List (List (Int × Int))) (m w : Nat) : Prop := rows.length = m ∧ ∀ r ∈ rows, r.length = w ∧ ∀ p ∈ r, Nu p.1 p.2
theorem EN (n : Nat) (h : n < 1000000) : Hf (.int (n : Nat)) = .ok ((List.range n).map fun k => .int (k : Nat)) := by
 rw [Hf, if_pos (by omega), Int.toNat_natCast]
 unfold rangeT
 congr 2
 funext k
 rw [Int.zero_add]
theorem nD {Ψ : FnT} {e : E} {τ : aD} {n : Nat} (h : yE Ψ e τ = .ok (.int (n : Nat))) (hn : n < 1000000) : yIt Ψ (.rng e) τ = .ok ((List.range n).map fun k => .int (k : Nat)) := by
 rw [DI, h, Ou.aa, EN n hn]
theorem eg {Ψ : FnT} {τ : aD} {caps : List (Option Nat)} {t : Tg} {it : It} {ifs : List E} {elt : E} {xs ys : List T} (h1 : yIt Ψ it τ = .ok xs) (h2 : xs.length < ai) (h3 : gN (xA Ψ τ caps t ifs elt) xs = .ok ys) : yE Ψ (.comp caps t it ifs elt) τ = .ok (.lst ys) := by
 rw [FD, h1, Ou.aa, if_pos h2, h3]; rfl
end Sv
namespace Sv
open PySem PySem.Spec PyProof.Rows L2
theorem uZ {Z : Zt} {m : List Addr} {H : Hp} : ∀ ns : List Int, ak Z m H (ns.map V.int) (ns.map U.int)
 | [] => .nil
 | _ :: r => .cons .int (uZ r)
theorem vI {st : Sto} : ∀ ns : List Int, aM st (ns.map U.int) (ns.map T.int)
 | [] => .nil
 | _ :: r => .cons .int (vI r)
theorem GJ {md : Md} {F : List U → Sto → Rs U} {G : List T → Ou T} (p : Pure md F G) (hG : ∀ ns : List Int, ns.length ≤ 63 → G [inT ns] = .ok (.bl true)) {K : Params → PySem.W.Frag} {cl : Nat → Addr} (w : World) (H : Hp) (a : Addr) (ns : List Int) (hl : ns.length ≤ 63) (hO : Er H) (hS : SqL (K w.params) H a (ns.map V.int)) :
   spU ⟨K w.params, cl⟩ F [.ref a] H (fun v _ => v = .bl true) fun _ _ _ => False := by
 have hF : SqF (K w.params) H a (ns.map V.int) := by
   rcases hS with (h | ⟨o, h⟩) | h
   · rcases hO a with z | ⟨o, xs, z⟩
     · rw [z] at h; cases h
     · rw [z] at h; cases h
   · exact .inl ⟨o, h⟩
   · exact .inr (.inr h)
 have g := p.plain (h := ⟨fun _ => False, fun _ => False, fun _ z => z⟩) (st := []) (us := [.kl (ns.map .int)]) (ds := [inT ns]) ⟨fun k fz us _ e => by simp at e, fun _ z => z.elim⟩
   (.cons (.of (.kl (vI ns)) (Av.kl.mpr fun u hu => by obtain ⟨i, _, rfl⟩ := List.mem_map.mp hu; exact .int)) .nil)
 rw [hG ns hl] at g
 obtain ⟨u, st', h', e, _, r, _⟩ := g
 have := r.jI
 subst this
 refine ⟨[], [], [.kl (ns.map .int)], ⟨rfl, fun i j a e => by simp at e, fun l a fz ds e => by simp at e⟩, .cons (.kl hF (uZ ns)) .nil, ?_⟩
 rw [e]
 exact fun m' H' v _ _ dv => jt dv
theorem _root_.L2.Fun.Gg {K : PySem.W.Frag} {x qual : Str} {st : Stmt} {f T : Addr} {fd : FuncData} {ps : List Str} {c : Value} {d : Option Addr} {items : Array Value} {n : Nat} {sl : Array (Option Value)} (_ : L2.Fun K x qual st f fd) (hd : fd.defaults = .ref T) (lT : K.lookup T = some ⟨c, d, .seq items n, sl⟩)
   (h : ∀ us : List Value, us.length = ps.length → ∃ k, bindArgs fd ⟨us, []⟩ = seqItems? fd.defaults >>= k ∧ k (some items) = pure (ps.zip us)) : L2.Binds K fd ps [] := fun s us X hl => by
 rw [List.append_nil] at hl ⊢
 obtain ⟨k, h1, h2⟩ := h us hl
 exact .of_defaults hd (X _ _ lT) rfl h1 h2
theorem _root_.L2.Fun.Io {K : PySem.W.Frag} {x qual : Str} {st : Stmt} {f T : Addr} {fd : FuncData} {p : Str} {ps : List Str} {c d : Value} {dd : Option Addr} {items : Array Value} {n : Nat} {sl : Array (Option Value)} (_ : L2.Fun K x qual st f fd) (hd : fd.defaults = .ref T) (lT : K.lookup T = some ⟨c, dd, .seq items n, sl⟩)
   (h : ∀ us : List Value, us.length = ps.length → ∃ k, bindArgs fd ⟨us, []⟩ = seqItems? fd.defaults >>= k ∧ k (some items) = pure ((p :: ps).zip (us ++ [d]))) : L2.Binds K fd (p :: ps) [d] := fun s us X hl => by
 obtain ⟨k, h1, h2⟩ := h us (by simpa using hl)
 exact .of_defaults hd (X _ _ lT) rfl h1 h2
end Sv
namespace Sv
open PySem PySem.Spec L2
open Ev (D aR aY ai)
theorem Eb {n i : Nat} (h : i < n) : L2.ixN n ((i : Nat) : Int) = some i := by
 unfold L2.ixN
 rw [if_pos (by omega), if_pos (by omega), Int.toNat_natCast]
structure Ch (cs : List Nat) (n : Nat) : Prop where
 ne : cs ≠ []
 up : ∀ (i j a b : Nat), cs[i]? = some a → cs[j]? = some b → i < j → a < b
 lt : ∀ a ∈ cs, a < n
theorem Ch.len {cs : List Nat} {n : Nat} (h : Ch cs n) : cs.length ≤ n := by
 have key : ∀ (i a : Nat), cs[i]? = some a → i ≤ a := by
   intro i
   induction i with
   | zero => intro a _; exact Nat.zero_le _
   | succ i ih =>
     intro a ha
     have hi : i < cs.length := by have := (List.getElem?_eq_some_iff.mp ha).1; omega
     have := ih _ (List.getElem?_eq_getElem hi)
     have := h.up i (i + 1) _ _ (List.getElem?_eq_getElem hi) ha (by omega)
     omega
 rcases Nat.eq_zero_or_pos cs.length with z | z
 · omega
 · have hl : cs.length - 1 < cs.length := by omega
   have h1 := key _ _ (List.getElem?_eq_getElem hl)
   have h2 := h.lt _ (List.getElem_mem hl)
   omega
theorem Fd {α : Type} {xs : List α} {i : Nat} {d : α} (h : i < xs.length) : xs[i]? = some (xs.getD i d) := by
 rw [List.getD_eq_getElem?_getD, List.getElem?_eq_getElem h, Option.getD_some]
noncomputable def FU (rows : List (List (Int × Int))) (w : Nat) : List (List (Int × Int)) := (List.range w).map fun j => rows.map fun r => r.getD j (0, 1)
theorem Tbl.turn {rows : List (List (Int × Int))} {m w : Nat} (h : Tbl rows m w) : Tbl (FU rows w) w m := by
 refine ⟨by simp [FU], fun r hr => ?_⟩
 obtain ⟨j, hj, rfl⟩ := List.mem_map.mp hr
 refine ⟨by rw [List.length_map, h.1], fun p hp => ?_⟩
 obtain ⟨r, hr', rfl⟩ := List.mem_map.mp hp
 have hj' : j < r.length := by rw [(h.2 r hr').1]; exact List.mem_range.mp hj
 exact (h.2 r hr').2 _ (List.mem_of_getElem? (Fd hj'))
end Sv
namespace K19
open PySem PySem.Spec L2 Sv
noncomputable def lF0 : List (List U → Sto → Rs U) := []
noncomputable def ld0 : List Md := []
noncomputable def lG0 : List (List T → Ou T) := []
noncomputable def lH0 : List (List T → Ou T) := []
noncomputable def lS0 : List Str := []
noncomputable def hU : List S := [.set (.nm 2) (.lst []), .ite (.cmp .ge (.bi .abs [(.var 0)]) (.op .pow (.cI 10) (.cI 18))) [.for (.nm 3) (.seq (.var 1)) [.mth .append (.var 2) [(.op .mod (.var 0) (.var 3))], .set (.nm 0) (.op .fdiv (.var 0) (.var 3))], .ret (.var 2)] [], .for (.tp [4, 3]) (.enu (.var 1)) [.set (.nm 5) (.op .mod (.op .add (.op .add (.op .add (.op .mul (.var 0) (.cI 48271)) (.op .mul (.op .mul (.var 4) (.var 4)) (.cI 69621))) (.op .mul (.var 4) (.cI 16807))) (.cI 11)) (.cI 2147483647)), .mth .append (.var 2) [(.op .mod (.op .fdiv (.op .mod (.op .add (.op .add (.op .mul (.var 5) (.cI 40692)) (.var 0)) (.op .mul (.cI 31) (.var 4))) (.cI 2147483399)) (.cI 7)) (.var 3))]], .ret (.var 2)]
noncomputable def wL : Fn := tab lF0
noncomputable def oB : List U → Sto → Rs U := mk wL hU 2 6
noncomputable def vR : FnT := aU lG0
noncomputable def vo : FnT := aU lH0
noncomputable def wm : Nat → Md := cM ld0
noncomputable def uz : Md := ⟨false, 0, 0⟩
noncomputable def iQ : List T → Ou T := mkT vR vo wm ⟨false, 0, 0⟩ [2] hU 2 6
noncomputable def ur : List T → Ou T := fun _ => .bad
noncomputable def lF1 : List (List U → Sto → Rs U) := lF0 ++ [oB]
noncomputable def ld1 : List Md := ld0 ++ [uz]
noncomputable def lG1 : List (List T → Ou T) := lG0 ++ [iQ]
noncomputable def lH1 : List (List T → Ou T) := lH0 ++ [ur]
noncomputable def lS1 : List Str := lS0 ++ [("_law_numbers" : Str)]
theorem wj : bS lF1 ld1 lG1 lH1 := bS.nil.def ⟨false, 0, 0⟩ rfl [2] hU 2 6
noncomputable def gR : List S := [.set (.nm 0) (.bi .abs [(.var 0)]), .set (.nm 1) (.bi .abs [(.var 1)]), .while (.cmp .gt (.var 1) (.cI 0)) [.set (.nm 2) (.op .mod (.var 0) (.var 1)), .set (.nm 0) (.var 1), .set (.nm 1) (.var 2)], .ret (.var 0)]
noncomputable def wK : Fn := tab lF1
noncomputable def ot : List U → Sto → Rs U := mk wK gR 2 3
noncomputable def uU : FnT := aU lG1
noncomputable def vd : FnT := aU lH1
noncomputable def vh : Nat → Md := cM ld1
noncomputable def uL : Md := ⟨false, 0, 0⟩
noncomputable def j9 : List T → Ou T := mkT uU vd vh ⟨false, 0, 0⟩ [] gR 2 3
noncomputable def wF : List T → Ou T := fun _ => .bad
noncomputable def lF2 : List (List U → Sto → Rs U) := lF1 ++ [ot]
noncomputable def ld2 : List Md := ld1 ++ [uL]
noncomputable def lG2 : List (List T → Ou T) := lG1 ++ [j9]
noncomputable def lH2 : List (List T → Ou T) := lH1 ++ [wF]
noncomputable def lS2 : List Str := lS1 ++ [("_law_divisor" : Str)]
theorem vf : bS lF2 ld2 lG2 lH2 := wj.def ⟨false, 0, 0⟩ rfl [] gR 2 3
noncomputable def kn : List S := [.set (.nm 2) (.call 1 [(.var 0), (.var 1)]), .ret (.tup [(.op .fdiv (.var 0) (.var 2)), (.op .fdiv (.var 1) (.var 2))])]
noncomputable def CC : Fn := tab lF2
noncomputable def wz : List U → Sto → Rs U := mk CC kn 2 3
noncomputable def vA : FnT := aU lG2
noncomputable def vT : FnT := aU lH2
noncomputable def uT : Nat → Md := cM ld2
noncomputable def Df : Md := ⟨false, 0, 0⟩
noncomputable def kc : List T → Ou T := mkT vA vT uT ⟨false, 0, 0⟩ [] kn 2 3
noncomputable def B0 : List T → Ou T := fun _ => .bad
noncomputable def lF3 : List (List U → Sto → Rs U) := lF2 ++ [wz]
noncomputable def ld3 : List Md := ld2 ++ [Df]
noncomputable def lG3 : List (List T → Ou T) := lG2 ++ [kc]
noncomputable def lH3 : List (List T → Ou T) := lH2 ++ [B0]
noncomputable def lS3 : List Str := lS2 ++ [("_law_made" : Str)]
theorem BO : bS lF3 ld3 lG3 lH3 := vf.def ⟨false, 0, 0⟩ rfl [] kn 2 3
noncomputable def jh : List S := [.set (.nm 1) (.cI 1), .for (.nm 2) (.rng (.var 0)) [.set (.nm 1) (.op .mul (.cI 10) (.var 1))], .ret (.var 1)]
noncomputable def EH : Fn := tab lF3
noncomputable def zm : List U → Sto → Rs U := mk EH jh 1 3
noncomputable def ku : FnT := aU lG3
noncomputable def mG : FnT := aU lH3
noncomputable def mz : Nat → Md := cM ld3
noncomputable def Dw : Md := ⟨false, 0, 0⟩
noncomputable def o2 : List T → Ou T := mkT ku mG mz ⟨false, 0, 0⟩ [] jh 1 3
noncomputable def Ec : List T → Ou T := fun _ => .bad
theorem xB (x0 : T) : o2 [x0] = cA ⟨false, 0, 0⟩ (ySs ku mG ⟨mz, [], 0⟩ (aV [x0]) jh [some x0, none, none] []) := bo rfl
noncomputable def lF4 : List (List U → Sto → Rs U) := lF3 ++ [zm]
noncomputable def ld4 : List Md := ld3 ++ [Dw]
noncomputable def lG4 : List (List T → Ou T) := lG3 ++ [o2]
noncomputable def lH4 : List (List T → Ou T) := lH3 ++ [Ec]
noncomputable def lS4 : List Str := lS3 ++ [("_law_ten" : Str)]
theorem Fw : bS lF4 ld4 lG4 lH4 := BO.def ⟨false, 0, 0⟩ rfl [] jh 1 3
noncomputable def dQ : List S := [.ite (.cmp .gt (.var 1) (.cI 0)) [.set (.nm 2) (.call 3 [(.var 1)]), .ret (.call 2 [(.op .mod (.var 0) (.var 2)), (.op .add (.cI 1) (.op .mod (.op .fdiv (.var 0) (.var 2)) (.op .sub (.var 2) (.cI 1))))])] [], .ret (.call 2 [(.op .mod (.var 0) (.cI 7)), (.op .add (.cI 1) (.op .mod (.op .fdiv (.var 0) (.cI 7)) (.cI 4)))])]
noncomputable def xy : Fn := tab lF4
noncomputable def pG : List U → Sto → Rs U := mk xy dQ 2 3
noncomputable def jz : FnT := aU lG4
noncomputable def qB : FnT := aU lH4
noncomputable def lu : Nat → Md := cM ld4
noncomputable def wV : Md := ⟨false, 0, 0⟩
noncomputable def jA : List T → Ou T := mkT jz qB lu ⟨false, 0, 0⟩ [] dQ 2 3
noncomputable def x8 : List T → Ou T := fun _ => .bad
theorem kZ (x0 x1 : T) : jA [x0, x1] = cA ⟨false, 0, 0⟩ (ySs jz qB ⟨lu, [], 0⟩ (aV [x0, x1]) dQ [some x0, some x1, none] []) := bo rfl
theorem iF : jz 2 = kc := rfl
theorem nU : jz 3 = o2 := rfl
theorem nX : lu 3 = ⟨false, 0, 0⟩ := rfl
noncomputable def lF5 : List (List U → Sto → Rs U) := lF4 ++ [pG]
noncomputable def ld5 : List Md := ld4 ++ [wV]
noncomputable def lG5 : List (List T → Ou T) := lG4 ++ [jA]
noncomputable def lH5 : List (List T → Ou T) := lH4 ++ [x8]
noncomputable def lS5 : List Str := lS4 ++ [("_law_weight" : Str)]
theorem xo : bS lF5 ld5 lG5 lH5 := Fw.def ⟨false, 0, 0⟩ rfl [] dQ 2 3
noncomputable def hX : List S := [.ret (.comp [none, some 0] (.nm 0) (.rng (.var 0)) [] (.comp [none, some 0] (.nm 0) (.rng (.var 1)) [] (.tup [(.bi .int [(.cmp .eq (.var 1) (.var 0))]), (.cI 1)])))]
noncomputable def CO : Fn := tab lF5
noncomputable def wA : List U → Sto → Rs U := mk CO hX 1 1
noncomputable def mZ : FnT := aU lG5
noncomputable def vX : FnT := aU lH5
noncomputable def uM : Nat → Md := cM ld5
noncomputable def CZ : Md := ⟨false, 2, 0⟩
noncomputable def mO : List T → Ou T := mkT mZ vX uM ⟨false, 2, 0⟩ [] hX 1 1
noncomputable def Dk : List T → Ou T := fun _ => .bad
theorem v9 (x0 : T) : mO [x0] = cA ⟨false, 2, 0⟩ (ySs mZ vX ⟨uM, [], 2⟩ (aV [x0]) hX [some x0] []) := bo rfl
noncomputable def lF6 : List (List U → Sto → Rs U) := lF5 ++ [wA]
noncomputable def ld6 : List Md := ld5 ++ [CZ]
noncomputable def lG6 : List (List T → Ou T) := lG5 ++ [mO]
noncomputable def lH6 : List (List T → Ou T) := lH5 ++ [Dk]
noncomputable def lS6 : List Str := lS5 ++ [("_law_unit" : Str)]
theorem Cy : bS lF6 ld6 lG6 lH6 := xo.def ⟨false, 2, 0⟩ rfl [] hX 1 1
noncomputable def jm : List S := [.ret (.and (.isi (.var 0) .int) (.not (.isi (.var 0) .bool)))]
noncomputable def Ah : Fn := tab lF6
noncomputable def rp : List U → Sto → Rs U := mk Ah jm 1 1
noncomputable def Ap : FnT := aU lG6
noncomputable def Ao : FnT := aU lH6
noncomputable def Ay : Nat → Md := cM ld6
noncomputable def Af : Md := ⟨false, 0, 0⟩
noncomputable def nE : List T → Ou T := mkT Ap Ao Ay ⟨false, 0, 0⟩ [] jm 1 1
noncomputable def Ag : List T → Ou T := fun _ => .bad
noncomputable def lF7 : List (List U → Sto → Rs U) := lF6 ++ [rp]
noncomputable def ld7 : List Md := ld6 ++ [Af]
noncomputable def lG7 : List (List T → Ou T) := lG6 ++ [nE]
noncomputable def lH7 : List (List T → Ou T) := lH6 ++ [Ag]
noncomputable def lS7 : List Str := lS6 ++ [("_law_whole" : Str)]
theorem Au : bS lF7 ld7 lG7 lH7 := Cy.def ⟨false, 0, 0⟩ rfl [] jm 1 1
noncomputable def cC : List S := [.ite (.or (.not (.isi (.var 0) .tuple)) (.or (.cmp .ne (.bi .len [(.var 0)]) (.cI 2)) (.or (.not (.call 6 [(.ix (.var 0) (.cI 0))])) (.not (.call 6 [(.ix (.var 0) (.cI 1))]))))) [.ret (.cB false)] [], .ite (.or (.cmp .lt (.ix (.var 0) (.cI 1)) (.cI 1)) (.cmp .ne (.call 1 [(.ix (.var 0) (.cI 0)), (.ix (.var 0) (.cI 1))]) (.cI 1))) [.ret (.cB false)] [], .ret (.cmp .eq (.op .mul (.ix (.var 0) (.cI 0)) (.var 2)) (.op .mul (.var 1) (.ix (.var 0) (.cI 1))))]
noncomputable def rb : Fn := tab lF7
noncomputable def kN : List U → Sto → Rs U := mk rb cC 3 3
noncomputable def gq : FnT := aU lG7
noncomputable def kO : FnT := aU lH7
noncomputable def kM : Nat → Md := cM ld7
noncomputable def qR : Md := ⟨false, 0, 0⟩
noncomputable def eN : List T → Ou T := mkT gq kO kM ⟨false, 0, 0⟩ [] cC 3 3
noncomputable def qE : List T → Ou T := fun _ => .bad
theorem nk (x0 x1 x2 : T) : eN [x0, x1, x2] = cA ⟨false, 0, 0⟩ (ySs gq kO ⟨kM, [], 0⟩ (aV [x0, x1, x2]) cC [some x0, some x1, some x2] []) := bo rfl
theorem jV : gq 6 = nE := rfl
theorem i9 : gq 1 = j9 := rfl
noncomputable def lF8 : List (List U → Sto → Rs U) := lF7 ++ [kN]
noncomputable def ld8 : List Md := ld7 ++ [qR]
noncomputable def lG8 : List (List T → Ou T) := lG7 ++ [eN]
noncomputable def lH8 : List (List T → Ou T) := lH7 ++ [qE]
noncomputable def lS8 : List Str := lS7 ++ [("_law_is_number" : Str)]
theorem qL : bS lF8 ld8 lG8 lH8 := Au.def ⟨false, 0, 0⟩ rfl [] cC 3 3
noncomputable def ez : List S := [.ite (.or (.not (.isi (.var 0) .list)) (.cmp .ne (.bi .len [(.var 0)]) (.bi .len [(.var 1)]))) [.ret (.cB false)] [], .for (.tp [2, 3]) (.zip (.var 0) (.var 1)) [.ite (.or (.not (.isi (.var 2) .list)) (.cmp .ne (.bi .len [(.var 2)]) (.bi .len [(.var 3)]))) [.ret (.cB false)] [], .for (.tp [4, 5]) (.zip (.var 2) (.var 3)) [.ite (.not (.call 7 [(.var 4), (.ix (.var 5) (.cI 0)), (.ix (.var 5) (.cI 1))])) [.ret (.cB false)] []]], .ret (.cB true)]
noncomputable def uR : Fn := tab lF8
noncomputable def oq : List U → Sto → Rs U := mk uR ez 2 6
noncomputable def dP : FnT := aU lG8
noncomputable def fm : FnT := aU lH8
noncomputable def fq : Nat → Md := cM ld8
noncomputable def vm : Md := ⟨false, 0, 0⟩
noncomputable def fA : List T → Ou T := mkT dP fm fq ⟨false, 0, 0⟩ [] ez 2 6
noncomputable def uG : List T → Ou T := fun _ => .bad
theorem qA (x0 x1 : T) : fA [x0, x1] = cA ⟨false, 0, 0⟩ (ySs dP fm ⟨fq, [], 0⟩ (aV [x0, x1]) ez [some x0, some x1, none, none, none, none] []) := bo rfl
theorem i5 : dP 7 = eN := rfl
noncomputable def lF9 : List (List U → Sto → Rs U) := lF8 ++ [oq]
noncomputable def ld9 : List Md := ld8 ++ [vm]
noncomputable def lG9 : List (List T → Ou T) := lG8 ++ [fA]
noncomputable def lH9 : List (List T → Ou T) := lH8 ++ [uG]
noncomputable def lS9 : List Str := lS8 ++ [("_law_is_like" : Str)]
theorem vn : bS lF9 ld9 lG9 lH9 := qL.def ⟨false, 0, 0⟩ rfl [] ez 2 6
noncomputable def kz : List S := [.ite (.cmp .lt (.var 1) (.bi .len [(.var 0)])) [.ret (.ix (.var 0) (.var 1))] [], .ret (.cI 0)]
noncomputable def BB : Fn := tab lF9
noncomputable def vc : List U → Sto → Rs U := mk BB kz 2 2
noncomputable def BU : FnT := aU lG9
noncomputable def Cp : FnT := aU lH9
noncomputable def Br : Nat → Md := cM ld9
noncomputable def Bl : Md := ⟨false, 0, 0⟩
noncomputable def mR : List T → Ou T := mkT BU Cp Br ⟨false, 0, 0⟩ [] kz 2 2
noncomputable def Bs : List T → Ou T := fun _ => .bad
noncomputable def Ed : List (List U → Sto → Rs U) := lF9 ++ [vc]
noncomputable def Hc : List Md := ld9 ++ [Bl]
noncomputable def Gi : List (List T → Ou T) := lG9 ++ [mR]
noncomputable def Iy : List (List T → Ou T) := lH9 ++ [Bs]
noncomputable def GF : List Str := lS9 ++ [("_law_cell" : Str)]
theorem Cg : bS Ed Hc Gi Iy := vn.def ⟨false, 0, 0⟩ rfl [] kz 2 2
noncomputable def iP : List S := [.ret (.and (.isi (.var 0) .int) (.not (.isi (.var 0) .bool)))]
noncomputable def xU : Fn := tab Ed
noncomputable def pC : List U → Sto → Rs U := mk xU iP 1 1
noncomputable def xC : FnT := aU Gi
noncomputable def yj : FnT := aU Iy
noncomputable def wO : Nat → Md := cM Hc
noncomputable def xH : Md := ⟨false, 0, 0⟩
noncomputable def js : List T → Ou T := mkT xC yj wO ⟨false, 0, 0⟩ [] iP 1 1
noncomputable def xZ : List T → Ou T := fun _ => .bad
noncomputable def EF : List (List U → Sto → Rs U) := Ed ++ [pC]
noncomputable def Jl : List Md := Hc ++ [xH]
noncomputable def Gh : List (List T → Ou T) := Gi ++ [js]
noncomputable def JC : List (List T → Ou T) := Iy ++ [xZ]
noncomputable def Gv : List Str := GF ++ [("is_whole" : Str)]
theorem wQ : bS EF Jl Gh JC := Cg.def ⟨false, 0, 0⟩ rfl [] iP 1 1
noncomputable def de : List S := [.ret (.and (.call 10 [(.var 0)]) (.chain .le .le (.var 1) (.var 0) (.var 2)))]
noncomputable def t7 : Fn := tab EF
noncomputable def mj : List U → Sto → Rs U := mk t7 de 3 3
noncomputable def jn : FnT := aU Gh
noncomputable def mx : FnT := aU JC
noncomputable def mF : Nat → Md := cM Jl
noncomputable def tH : Md := ⟨false, 0, 0⟩
noncomputable def fR : List T → Ou T := mkT jn mx mF ⟨false, 0, 0⟩ [] de 3 3
noncomputable def sV : List T → Ou T := fun _ => .bad
theorem oV (x0 x1 x2 : T) : fR [x0, x1, x2] = cA ⟨false, 0, 0⟩ (ySs jn mx ⟨mF, [], 0⟩ (aV [x0, x1, x2]) de [some x0, some x1, some x2] []) := bo rfl
theorem jS : jn 10 = js := rfl
noncomputable def E3 : List (List U → Sto → Rs U) := EF ++ [mj]
noncomputable def Jt : List Md := Jl ++ [tH]
noncomputable def Hv : List (List T → Ou T) := Gh ++ [fR]
noncomputable def Ht : List (List T → Ou T) := JC ++ [sV]
noncomputable def Gx : List Str := Gv ++ [("is_between" : Str)]
theorem tE : bS E3 Jt Hv Ht := wQ.def ⟨false, 0, 0⟩ rfl [] de 3 3
noncomputable def dC : List S := [.set (.nm 2) (.bi .abs [(.var 0)]), .set (.nm 3) (.bi .abs [(.var 1)]), .while (.cmp .ne (.var 3) (.cI 0)) [.set (.nm 4) (.op .mod (.var 2) (.var 3)), .set (.nm 2) (.var 3), .set (.nm 3) (.var 4)], .ret (.var 2)]
noncomputable def nP : Fn := tab E3
noncomputable def jg : List U → Sto → Rs U := mk nP dC 2 5
noncomputable def nA : FnT := aU Hv
noncomputable def nu : FnT := aU Ht
noncomputable def nM : Nat → Md := cM Jt
noncomputable def nK : Md := ⟨false, 0, 0⟩
noncomputable def bP : List T → Ou T := mkT nA nu nM ⟨false, 0, 0⟩ [] dC 2 5
noncomputable def nC : List T → Ou T := fun _ => .bad
noncomputable def Dv : List (List U → Sto → Rs U) := E3 ++ [jg]
noncomputable def GK : List Md := Jt ++ [nK]
noncomputable def Iz : List (List T → Ou T) := Hv ++ [bP]
noncomputable def Ie : List (List T → Ou T) := Ht ++ [nC]
noncomputable def Hq : List Str := Gx ++ [("common_divisor" : Str)]
theorem nH : bS Dv GK Iz Ie := tE.def ⟨false, 0, 0⟩ rfl [] dC 2 5
noncomputable def fQ : List S := [.ite (.or (.not (.isi (.var 0) .tuple)) (.cmp .ne (.bi .len [(.var 0)]) (.cI 2))) [.ret (.cB false)] [], .ite (.or (.not (.call 10 [(.ix (.var 0) (.cI 0))])) (.not (.call 10 [(.ix (.var 0) (.cI 1))]))) [.ret (.cB false)] [], .ret (.and (.cmp .ge (.ix (.var 0) (.cI 1)) (.cI 1)) (.cmp .eq (.call 12 [(.ix (.var 0) (.cI 0)), (.ix (.var 0) (.cI 1))]) (.cI 1)))]
noncomputable def qG : Fn := tab Dv
noncomputable def kP : List U → Sto → Rs U := mk qG fQ 1 1
noncomputable def qV : FnT := aU Iz
noncomputable def qJ : FnT := aU Ie
noncomputable def rm : Nat → Md := cM GK
noncomputable def rj : Md := ⟨false, 0, 0⟩
noncomputable def gx : List T → Ou T := mkT qV qJ rm ⟨false, 0, 0⟩ [] fQ 1 1
noncomputable def qT : List T → Ou T := fun _ => .bad
noncomputable def ET : List (List U → Sto → Rs U) := Dv ++ [kP]
noncomputable def Jd : List Md := GK ++ [rj]
noncomputable def Hx : List (List T → Ou T) := Iz ++ [gx]
noncomputable def Gf : List (List T → Ou T) := Ie ++ [qT]
noncomputable def GG : List Str := Hq ++ [("is_fraction" : Str)]
theorem qM : bS ET Jd Hx Gf := nH.def ⟨false, 0, 0⟩ rfl [] fQ 1 1
noncomputable def d9 : List S := [.ret (.and (.call 13 [(.var 0)]) (.cmp .ge (.ix (.var 0) (.cI 0)) (.cI 0)))]
noncomputable def vL : Fn := tab ET
noncomputable def ow : List U → Sto → Rs U := mk vL d9 1 1
noncomputable def kd : FnT := aU Hx
noncomputable def oH : FnT := aU Gf
noncomputable def oN : Nat → Md := cM Jd
noncomputable def wg : Md := ⟨false, 0, 0⟩
noncomputable def iU : List T → Ou T := mkT kd oH oN ⟨false, 0, 0⟩ [] d9 1 1
noncomputable def u3 : List T → Ou T := fun _ => .bad
theorem qu (x0 : T) : iU [x0] = cA ⟨false, 0, 0⟩ (ySs kd oH ⟨oN, [], 0⟩ (aV [x0]) d9 [some x0] []) := bo rfl
theorem jf : kd 13 = gx := rfl
noncomputable def Eo : List (List U → Sto → Rs U) := ET ++ [ow]
noncomputable def Js : List Md := Jd ++ [wg]
noncomputable def Jj : List (List T → Ou T) := Hx ++ [iU]
noncomputable def FW : List (List T → Ou T) := Gf ++ [u3]
noncomputable def HD : List Str := GG ++ [("is_weight" : Str)]
theorem wD : bS Eo Js Jj FW := qM.def ⟨false, 0, 0⟩ rfl [] d9 1 1
noncomputable def dZ : List S := [.ite (.or (.not (.isi (.var 0) .tuple)) (.or (.cmp .ne (.bi .len [(.var 0)]) (.cI 3)) (.not (.call 14 [(.ix (.var 0) (.cI 2))])))) [.ret (.cB false)] [], .ite (.cmp .eq (.ix (.var 0) (.cI 0)) (.cS "weigh")) [.ret (.call 11 [(.ix (.var 0) (.cI 1)), (.cI 0), (.op .sub (.var 1) (.cI 1))])] [], .ret (.and (.cmp .isin (.ix (.var 0) (.cI 0)) (.tup [(.cS "down"), (.cS "up")])) (.call 11 [(.ix (.var 0) (.cI 1)), (.cI 0), (.op .sub (.var 1) (.cI 2))]))]
noncomputable def zW : Fn := tab Eo
noncomputable def sg : List U → Sto → Rs U := mk zW dZ 2 2
noncomputable def kv : FnT := aU Jj
noncomputable def rW : FnT := aU FW
noncomputable def rq : Nat → Md := cM Js
noncomputable def zL : Md := ⟨false, 0, 0⟩
noncomputable def hZ : List T → Ou T := mkT kv rW rq ⟨false, 0, 0⟩ [] dZ 2 2
noncomputable def Ai : List T → Ou T := fun _ => .bad
theorem tw (x0 x1 : T) : hZ [x0, x1] = cA ⟨false, 0, 0⟩ (ySs kv rW ⟨rq, [], 0⟩ (aV [x0, x1]) dZ [some x0, some x1] []) := bo rfl
theorem dR : kv 11 = fR := rfl
theorem eA : kv 14 = iU := rfl
noncomputable def DD : List (List U → Sto → Rs U) := Eo ++ [sg]
noncomputable def IY : List Md := Js ++ [zL]
noncomputable def GQ : List (List T → Ou T) := Jj ++ [hZ]
noncomputable def GW : List (List T → Ou T) := FW ++ [Ai]
noncomputable def Gn : List Str := HD ++ [("is_step" : Str)]
theorem AL : bS DD IY GQ GW := wD.def ⟨false, 0, 0⟩ rfl [] dZ 2 2
noncomputable def eo : List S := [.ite (.or (.not (.isi (.var 0) .tuple)) (.or (.cmp .ne (.bi .len [(.var 0)]) (.cI 4)) (.not (.call 11 [(.ix (.var 0) (.cI 0)), (.cI 1), (.cI 7)])))) [.ret (.cB false)] [], .ite (.or (.not (.call 11 [(.ix (.var 0) (.cI 1)), (.cI 1), (.ix (.var 0) (.cI 0))])) (.not (.call 11 [(.ix (.var 0) (.cI 2)), (.cI 1), (.ix (.var 0) (.cI 0))]))) [.ret (.cB false)] [], .ite (.or (.not (.isi (.ix (.var 0) (.cI 3)) .list)) (.cmp .gt (.bi .len [(.ix (.var 0) (.cI 3))]) (.cI 400))) [.ret (.cB false)] [], .ret (.bi .all [(.comp [none, some 0] (.nm 0) (.seq (.ix (.var 0) (.cI 3))) [] (.call 15 [(.var 0), (.ix (.var 1) (.cI 0))]))])]
noncomputable def vO : Fn := tab DD
noncomputable def oE : List U → Sto → Rs U := mk vO eo 1 1
noncomputable def gB : FnT := aU GQ
noncomputable def oj : FnT := aU GW
noncomputable def oJ : Nat → Md := cM IY
noncomputable def uE : Md := ⟨false, 0, 0⟩
noncomputable def iJ : List T → Ou T := mkT gB oj oJ ⟨false, 0, 0⟩ [] eo 1 1
noncomputable def uW : List T → Ou T := fun _ => .bad
theorem pO (x0 : T) : iJ [x0] = cA ⟨false, 0, 0⟩ (ySs gB oj ⟨oJ, [], 0⟩ (aV [x0]) eo [some x0] []) := bo rfl
theorem jG : gB 11 = fR := rfl
theorem kC : gB 15 = hZ := rfl
noncomputable def Ey : List (List U → Sto → Rs U) := DD ++ [oE]
noncomputable def HY : List Md := IY ++ [uE]
noncomputable def HR : List (List T → Ou T) := GQ ++ [iJ]
noncomputable def IW : List (List T → Ou T) := GW ++ [uW]
noncomputable def Hu : List Str := Gn ++ [("is_ladder" : Str)]
theorem vB : bS Ey HY HR IW := AL.def ⟨false, 0, 0⟩ rfl [] eo 1 1
noncomputable def cF : List S := [.ite (.not (.call 16 [(.var 0)])) [.nev] []]
noncomputable def qX : Fn := tab Ey
noncomputable def kU : List U → Sto → Rs U := mk qX cF 1 1
noncomputable def iY : FnT := aU HR
noncomputable def kR : FnT := aU IW
noncomputable def kS : Nat → Md := cM HY
noncomputable def qY : Md := ⟨false, 0, 0⟩
noncomputable def eE : List T → Ou T := mkT iY kR kS ⟨false, 0, 0⟩ [] cF 1 1
noncomputable def qW : List T → Ou T := fun _ => .bad
theorem n9 (x0 : T) : eE [x0] = cA ⟨false, 0, 0⟩ (ySs iY kR ⟨kS, [], 0⟩ (aV [x0]) cF [some x0] []) := bo rfl
theorem i8 : iY 16 = iJ := rfl
noncomputable def EW : List (List U → Sto → Rs U) := Ey ++ [kU]
noncomputable def Hz : List Md := HY ++ [qY]
noncomputable def GD : List (List T → Ou T) := HR ++ [eE]
noncomputable def HE : List (List T → Ou T) := IW ++ [qW]
noncomputable def FX : List Str := Hu ++ [("look_ladder" : Str)]
theorem rh : bS EW Hz GD HE := vB.def ⟨false, 0, 0⟩ rfl [] cF 1 1
noncomputable def ef : List S := [.ret (.comp [none, some 1] (.nm 0) (.seq (.var 0)) [] (.ix (.var 0) (.var 1)))]
noncomputable def uJ : Fn := tab EW
noncomputable def oD : List U → Sto → Rs U := mk uJ ef 2 2
noncomputable def ka : FnT := aU GD
noncomputable def oy : FnT := aU HE
noncomputable def oF : Nat → Md := cM Hz
noncomputable def vF : Md := ⟨false, 0, 0⟩
noncomputable def iH : List T → Ou T := mkT ka oy oF ⟨false, 0, 0⟩ [] ef 2 2
noncomputable def vt : List T → Ou T := fun _ => .bad
theorem qm (x0 x1 : T) : iH [x0, x1] = cA ⟨false, 0, 0⟩ (ySs ka oy ⟨oF, [], 0⟩ (aV [x0, x1]) ef [some x0, some x1] []) := bo rfl
noncomputable def EI : List (List U → Sto → Rs U) := EW ++ [oD]
noncomputable def GZ : List Md := Hz ++ [vF]
noncomputable def Jo : List (List T → Ou T) := GD ++ [iH]
noncomputable def HV : List (List T → Ou T) := HE ++ [vt]
noncomputable def Ju : List Str := FX ++ [("column_of" : Str)]
theorem wH : bS EI GZ Jo HV := rh.def ⟨false, 0, 0⟩ rfl [] ef 2 2
noncomputable def dk : List S := [.ret (.comp [none, some 0] (.nm 0) (.rng (.bi .len [(.ix (.var 0) (.cI 0))])) [] (.call 18 [(.var 1), (.var 0)]))]
noncomputable def sT : Fn := tab EI
noncomputable def mV : List U → Sto → Rs U := mk sT dk 1 1
noncomputable def hW : FnT := aU Jo
noncomputable def mW : FnT := aU HV
noncomputable def mB : Nat → Md := cM GZ
noncomputable def sR : Md := ⟨false, 0, 0⟩
noncomputable def fM : List T → Ou T := mkT hW mW mB ⟨false, 0, 0⟩ [] dk 1 1
noncomputable def sF : List T → Ou T := fun _ => .bad
theorem oT (x0 : T) : fM [x0] = cA ⟨false, 0, 0⟩ (ySs hW mW ⟨mB, [], 0⟩ (aV [x0]) dk [some x0] []) := bo rfl
theorem jL : hW 18 = iH := rfl
noncomputable def DO : List (List U → Sto → Rs U) := EI ++ [mV]
noncomputable def JN : List Md := GZ ++ [sR]
noncomputable def IF : List (List T → Ou T) := Jo ++ [fM]
noncomputable def GO : List (List T → Ou T) := HV ++ [sF]
noncomputable def Jp : List Str := Ju ++ [("columns_of" : Str)]
theorem tN : bS DO JN IF GO := wH.def ⟨false, 0, 0⟩ rfl [] dk 1 1
noncomputable def di : List S := [.ret (.tup [(.comp [none, some 0] (.nm 0) (.rng (.var 1)) [] (.ite (.cmp .eq (.var 0) (.var 1)) (.cI 1) (.cI 0))), (.cI 1)])]
noncomputable def tP : Fn := tab DO
noncomputable def mT : List U → Sto → Rs U := mk tP di 2 2
noncomputable def jC : FnT := aU IF
noncomputable def mJ : FnT := aU GO
noncomputable def lM : Nat → Md := cM JN
noncomputable def ug : Md := ⟨false, 0, 0⟩
noncomputable def hR : List T → Ou T := mkT jC mJ lM ⟨false, 0, 0⟩ [] di 2 2
noncomputable def td : List T → Ou T := fun _ => .bad
theorem oW (x0 x1 : T) : hR [x0, x1] = cA ⟨false, 0, 0⟩ (ySs jC mJ ⟨lM, [], 0⟩ (aV [x0, x1]) di [some x0, some x1] []) := bo rfl
noncomputable def DZ : List (List U → Sto → Rs U) := DO ++ [mT]
noncomputable def Hi : List Md := JN ++ [ug]
noncomputable def Ia : List (List T → Ou T) := IF ++ [hR]
noncomputable def Im : List (List T → Ou T) := GO ++ [td]
noncomputable def Ig : List Str := Jp ++ [("first_sums" : Str)]
theorem ub : bS DZ Hi Ia Im := tN.def ⟨false, 0, 0⟩ rfl [] di 2 2
noncomputable def bK : List S := [.set (.nm 2) (.var 0), .for (.nm 3) (.seq (.var 1)) [.set (.nm 2) (.call 12 [(.var 3), (.var 2)])], .ret (.var 2)]
noncomputable def nS : Fn := tab DZ
noncomputable def jc : List U → Sto → Rs U := mk nS bK 2 4
noncomputable def bF : FnT := aU Ia
noncomputable def cE : FnT := aU Im
noncomputable def bQ : Nat → Md := cM Hi
noncomputable def oa : Md := ⟨false, 0, 0⟩
noncomputable def bE : List T → Ou T := mkT bF cE bQ ⟨false, 0, 0⟩ [] bK 2 4
noncomputable def nZ : List T → Ou T := fun _ => .bad
theorem kI (x0 x1 : T) : bE [x0, x1] = cA ⟨false, 0, 0⟩ (ySs bF cE ⟨bQ, [], 0⟩ (aV [x0, x1]) bK [some x0, some x1, none, none] []) := bo rfl
theorem fW : bF 12 = bP := rfl
theorem fV : bQ 12 = ⟨false, 0, 0⟩ := rfl
noncomputable def E0 : List (List U → Sto → Rs U) := DZ ++ [jc]
noncomputable def JE : List Md := Hi ++ [oa]
noncomputable def GC : List (List T → Ou T) := Ia ++ [bE]
noncomputable def GU : List (List T → Ou T) := Im ++ [nZ]
noncomputable def Je : List Str := Ig ++ [("shared_divisor" : Str)]
theorem nz : bS E0 JE GC GU := ub.def ⟨false, 0, 0⟩ rfl [] bK 2 4
noncomputable def cf : List S := [.set (.nm 2) (.call 12 [(.ix (.var 1) (.cI 0)), (.ix (.var 0) (.cI 1))]), .set (.nm 3) (.call 21 [(.ix (.var 1) (.cI 1)), (.ix (.var 0) (.cI 0))]), .set (.nm 4) (.op .fdiv (.ix (.var 1) (.cI 0)) (.var 2)), .ret (.tup [(.comp [none, some 3, some 4] (.nm 0) (.seq (.ix (.var 0) (.cI 0))) [] (.op .mul (.op .fdiv (.var 0) (.var 1)) (.var 2))), (.op .mul (.op .fdiv (.ix (.var 0) (.cI 1)) (.var 2)) (.op .fdiv (.ix (.var 1) (.cI 1)) (.var 3)))])]
noncomputable def qg : Fn := tab E0
noncomputable def kh : List U → Sto → Rs U := mk qg cf 2 5
noncomputable def dW : FnT := aU GC
noncomputable def kg : FnT := aU GU
noncomputable def fN : Nat → Md := cM JE
noncomputable def pF : Md := ⟨false, 0, 0⟩
noncomputable def bV : List T → Ou T := mkT dW kg fN ⟨false, 0, 0⟩ [] cf 2 5
noncomputable def p7 : List T → Ou T := fun _ => .bad
theorem mX (x0 x1 : T) : bV [x0, x1] = cA ⟨false, 0, 0⟩ (ySs dW kg ⟨fN, [], 0⟩ (aV [x0, x1]) cf [some x0, some x1, none, none, none] []) := bo rfl
theorem gC : dW 12 = bP := rfl
theorem gz : fN 12 = ⟨false, 0, 0⟩ := rfl
theorem gy : dW 21 = bE := rfl
theorem gA : fN 21 = ⟨false, 0, 0⟩ := rfl
noncomputable def D7 : List (List U → Sto → Rs U) := E0 ++ [kh]
noncomputable def IP : List Md := JE ++ [pF]
noncomputable def HZ : List (List T → Ou T) := GC ++ [bV]
noncomputable def Hl : List (List T → Ou T) := GU ++ [p7]
noncomputable def GI : List Str := Je ++ [("weighed_sums" : Str)]
theorem pz : bS D7 IP HZ Hl := nz.def ⟨false, 0, 0⟩ rfl [] cf 2 5
noncomputable def dm : List S := [.set (.nm 2) (.call 12 [(.ix (.var 0) (.cI 1)), (.ix (.var 1) (.cI 1))]), .set (.nm 3) (.op .fdiv (.ix (.var 1) (.cI 1)) (.var 2)), .set (.nm 4) (.op .fdiv (.ix (.var 0) (.cI 1)) (.var 2)), .set (.nm 5) (.comp [none, none, some 3, some 4] (.tp [0, 1]) (.zip (.ix (.var 0) (.cI 0)) (.ix (.var 1) (.cI 0))) [] (.op .add (.op .mul (.var 0) (.var 2)) (.op .mul (.var 1) (.var 3)))), .set (.nm 6) (.call 21 [(.var 2), (.var 5)]), .ret (.tup [(.comp [none, some 6] (.nm 0) (.seq (.var 5)) [] (.op .fdiv (.var 0) (.var 1))), (.op .mul (.var 4) (.op .fdiv (.ix (.var 1) (.cI 1)) (.var 6)))])]
noncomputable def sD : Fn := tab D7
noncomputable def mh : List U → Sto → Rs U := mk sD dm 2 7
noncomputable def er : FnT := aU HZ
noncomputable def lW : FnT := aU Hl
noncomputable def hJ : Nat → Md := cM IP
noncomputable def su : Md := ⟨false, 0, 0⟩
noncomputable def fT : List T → Ou T := mkT er lW hJ ⟨false, 0, 0⟩ [] dm 2 7
noncomputable def tF : List T → Ou T := fun _ => .bad
theorem oU (x0 x1 : T) : fT [x0, x1] = cA ⟨false, 0, 0⟩ (ySs er lW ⟨hJ, [], 0⟩ (aV [x0, x1]) dm [some x0, some x1, none, none, none, none, none] []) := bo rfl
theorem gY : er 12 = bP := rfl
theorem g9 : hJ 12 = ⟨false, 0, 0⟩ := rfl
theorem hV : er 21 = bE := rfl
theorem gQ : hJ 21 = ⟨false, 0, 0⟩ := rfl
noncomputable def Ek : List (List U → Sto → Rs U) := D7 ++ [mh]
noncomputable def Ij : List Md := IP ++ [su]
noncomputable def GX : List (List T → Ou T) := HZ ++ [fT]
noncomputable def Gw : List (List T → Ou T) := Hl ++ [tF]
noncomputable def JI : List Str := GI ++ [("added_sums" : Str)]
theorem tS : bS Ek Ij GX Gw := pz.def ⟨false, 0, 0⟩ rfl [] dm 2 7
noncomputable def bB : List S := [.set (.nm 2) (.call 12 [(.var 0), (.var 1)]), .ite (.cmp .lt (.var 1) (.cI 0)) [.set (.nm 2) (.neg (.var 2))] [], .ret (.tup [(.op .fdiv (.var 0) (.var 2)), (.op .fdiv (.var 1) (.var 2))])]
noncomputable def ml : Fn := tab Ek
noncomputable def iI : List U → Sto → Rs U := mk ml bB 2 3
noncomputable def fL : FnT := aU GX
noncomputable def iK : FnT := aU Gw
noncomputable def fB : Nat → Md := cM Ij
noncomputable def my : Md := ⟨false, 0, 0⟩
noncomputable def dB : List T → Ou T := mkT fL iK fB ⟨false, 0, 0⟩ [] bB 2 3
noncomputable def lZ : List T → Ou T := fun _ => .bad
theorem kj (x0 x1 : T) : dB [x0, x1] = cA ⟨false, 0, 0⟩ (ySs fL iK ⟨fB, [], 0⟩ (aV [x0, x1]) bB [some x0, some x1, none] []) := bo rfl
theorem fP : fL 12 = bP := rfl
theorem fD : fB 12 = ⟨false, 0, 0⟩ := rfl
noncomputable def Fy : List (List U → Sto → Rs U) := Ek ++ [iI]
noncomputable def HK : List Md := Ij ++ [my]
noncomputable def IC : List (List T → Ou T) := GX ++ [dB]
noncomputable def Ih : List (List T → Ou T) := Gw ++ [lZ]
noncomputable def IV : List Str := JI ++ [("in_lowest_terms" : Str)]
theorem me : bS Fy HK IC Ih := tS.def ⟨false, 0, 0⟩ rfl [] bB 2 3
noncomputable def fj : List S := [.ite (.or (.not (.call 10 [(.var 0)])) (.not (.call 10 [(.var 1)]))) [.nev] [], .ite (.cmp .eq (.var 1) (.cI 0)) [.nev] [], .ret (.call 24 [(.var 0), (.var 1)])]
noncomputable def wY : Fn := tab Fy
noncomputable def qd : List U → Sto → Rs U := mk wY fj 2 2
noncomputable def jF : FnT := aU IC
noncomputable def pV : FnT := aU Ih
noncomputable def qy : Nat → Md := cM HK
noncomputable def xb : Md := ⟨false, 0, 0⟩
noncomputable def ig : List T → Ou T := mkT jF pV qy ⟨false, 0, 0⟩ [] fj 2 2
noncomputable def xm : List T → Ou T := fun _ => .bad
theorem qD (x0 x1 : T) : ig [x0, x1] = cA ⟨false, 0, 0⟩ (ySs jF pV ⟨qy, [], 0⟩ (aV [x0, x1]) fj [some x0, some x1] []) := bo rfl
theorem ik : jF 24 = dB := rfl
theorem kH : jF 10 = js := rfl
noncomputable def FA : List (List U → Sto → Rs U) := Fy ++ [dfU 1 (1) qd]
noncomputable def Jc : List Md := HK ++ [xb]
noncomputable def HA : List (List T → Ou T) := IC ++ [dfT 1 (1) ig]
noncomputable def ID : List (List T → Ou T) := Ih ++ [xm]
noncomputable def Gz : List Str := IV ++ [("fraction" : Str)]
theorem xh : bS FA Jc HA ID := me.df 1 (1) ⟨false, 0, 0⟩ rfl [] fj 2 2
noncomputable def el : List S := [.ret (.comp [none, some 0] (.nm 0) (.seq (.ix (.var 0) (.cI 0))) [] (.call 25 [(.var 0), (.ix (.var 1) (.cI 1))]))]
noncomputable def wM : Fn := tab FA
noncomputable def ou : List U → Sto → Rs U := mk wM el 1 1
noncomputable def iM : FnT := aU HA
noncomputable def oi : FnT := aU ID
noncomputable def oP : Nat → Md := cM Jc
noncomputable def vy : Md := ⟨false, 0, 0⟩
noncomputable def iG : List T → Ou T := mkT iM oi oP ⟨false, 0, 0⟩ [] el 1 1
noncomputable def vS : List T → Ou T := fun _ => .bad
theorem qw (x0 : T) : iG [x0] = cA ⟨false, 0, 0⟩ (ySs iM oi ⟨oP, [], 0⟩ (aV [x0]) el [some x0] []) := bo rfl
theorem j6 : iM 25 = dfT 1 (1) ig := rfl
noncomputable def DL : List (List U → Sto → Rs U) := FA ++ [ou]
noncomputable def IB : List Md := Jc ++ [vy]
noncomputable def GN : List (List T → Ou T) := HA ++ [iG]
noncomputable def IE : List (List T → Ou T) := ID ++ [vS]
noncomputable def Jq : List Str := Gz ++ [("told_sums" : Str)]
theorem vZ : bS DL IB GN IE := xh.def ⟨false, 0, 0⟩ rfl [] el 1 1
noncomputable def dX : List S := [.ret (.ite (.cmp .eq (.ix (.var 0) (.cI 0)) (.cS "down")) (.op .add (.ix (.var 0) (.cI 1)) (.cI 1)) (.ix (.var 0) (.cI 1)))]
noncomputable def xp : Fn := tab DL
noncomputable def qC : List U → Sto → Rs U := mk xp dX 1 1
noncomputable def qo : FnT := aU GN
noncomputable def pT : FnT := aU IE
noncomputable def qp : Nat → Md := cM IB
noncomputable def xV : Md := ⟨false, 0, 0⟩
noncomputable def eQ : List T → Ou T := mkT qo pT qp ⟨false, 0, 0⟩ [] dX 1 1
noncomputable def xq : List T → Ou T := fun _ => .bad
theorem kW (x0 : T) : eQ [x0] = cA ⟨false, 0, 0⟩ (ySs qo pT ⟨qp, [], 0⟩ (aV [x0]) dX [some x0] []) := bo rfl
noncomputable def Fh : List (List U → Sto → Rs U) := DL ++ [qC]
noncomputable def Hk : List Md := IB ++ [xV]
noncomputable def HB : List (List T → Ou T) := GN ++ [eQ]
noncomputable def HG : List (List T → Ou T) := IE ++ [xq]
noncomputable def Hr : List Str := Jq ++ [("rung_end" : Str)]
theorem xQ : bS Fh Hk HB HG := vZ.def ⟨false, 0, 0⟩ rfl [] dX 1 1
noncomputable def cm : List S := [.ret (.ite (.cmp .eq (.ix (.var 0) (.cI 0)) (.cS "down")) (.ix (.var 0) (.cI 1)) (.op .add (.ix (.var 0) (.cI 1)) (.cI 1)))]
noncomputable def tD : Fn := tab Fh
noncomputable def mC : List U → Sto → Rs U := mk tD cm 1 1
noncomputable def lD : FnT := aU HB
noncomputable def mE : FnT := aU HG
noncomputable def mK : Nat → Md := cM Hk
noncomputable def ui : Md := ⟨false, 0, 0⟩
noncomputable def cL : List T → Ou T := mkT lD mE mK ⟨false, 0, 0⟩ [] cm 1 1
noncomputable def tW : List T → Ou T := fun _ => .bad
theorem jO (x0 : T) : cL [x0] = cA ⟨false, 0, 0⟩ (ySs lD mE ⟨mK, [], 0⟩ (aV [x0]) cm [some x0] []) := bo rfl
noncomputable def Ft : List (List U → Sto → Rs U) := Fh ++ [mC]
noncomputable def Jx : List Md := Hk ++ [ui]
noncomputable def HU : List (List T → Ou T) := HB ++ [cL]
noncomputable def Hm : List (List T → Ou T) := HG ++ [tW]
noncomputable def GR : List Str := Hr ++ [("rung_start" : Str)]
theorem sM : bS Ft Jx HU Hm := xQ.def ⟨false, 0, 0⟩ rfl [] cm 1 1
noncomputable def ff : List S := [.expr (.call 17 [(.var 0)]), .set (.nm 1) (.comp [none, some 0] (.nm 0) (.rng (.ix (.var 0) (.cI 0))) [] (.call 20 [(.var 0), (.ix (.var 1) (.cI 1))])), .for (.nm 2) (.seq (.ix (.var 0) (.cI 3))) [.ite (.cmp .eq (.ix (.var 2) (.cI 0)) (.cS "weigh")) [.put (.var 1) (.ix (.var 2) (.cI 1)) (.call 22 [(.ix (.var 1) (.ix (.var 2) (.cI 1))), (.ix (.var 2) (.cI 2))])] [.set (.nm 3) (.call 22 [(.ix (.var 1) (.call 28 [(.var 2)])), (.ix (.var 2) (.cI 2))]), .put (.var 1) (.call 27 [(.var 2)]) (.call 23 [(.ix (.var 1) (.call 27 [(.var 2)])), (.var 3)])]], .ret (.call 19 [(.comp [none] (.nm 0) (.seq (.sl (.var 1) .cN (.ix (.var 0) (.cI 2)))) [] (.call 26 [(.var 0)]))])]
noncomputable def wU : Fn := tab Ft
noncomputable def pN : List U → Sto → Rs U := mk wU ff 1 4
noncomputable def aL : FnT := aU HU
noncomputable def dN : FnT := aU Hm
noncomputable def bj : Nat → Md := cM Jx
noncomputable def xT : Md := ⟨false, 0, 0⟩
noncomputable def cn : List T → Ou T := mkT aL dN bj ⟨false, 0, 0⟩ [1] ff 1 4
noncomputable def xO : List T → Ou T := fun _ => .bad
theorem qO (x0 : T) : cn [x0] = cA ⟨false, 0, 0⟩ (ySs aL dN ⟨bj, [1], 0⟩ (aV [x0]) ff [some x0, none, none, none] []) := bo rfl
theorem jo : aL 17 = eE := rfl
theorem jr : bj 17 = ⟨false, 0, 0⟩ := rfl
theorem jT : aL 19 = fM := rfl
theorem jX : aL 20 = hR := rfl
theorem j0 : bj 20 = ⟨false, 0, 0⟩ := rfl
theorem fw : aL 22 = bV := rfl
theorem fh : bj 22 = ⟨false, 0, 0⟩ := rfl
theorem jQ : aL 23 = fT := rfl
theorem jW : bj 23 = ⟨false, 0, 0⟩ := rfl
theorem j1 : aL 26 = iG := rfl
theorem kK : aL 27 = eQ := rfl
theorem kG : bj 27 = ⟨false, 0, 0⟩ := rfl
theorem jR : aL 28 = cL := rfl
theorem jZ : bj 28 = ⟨false, 0, 0⟩ := rfl
noncomputable def DR : List (List U → Sto → Rs U) := Ft ++ [pN]
noncomputable def Gk : List Md := Jx ++ [xT]
noncomputable def Il : List (List T → Ou T) := HU ++ [cn]
noncomputable def Ip : List (List T → Ou T) := Hm ++ [xO]
noncomputable def Ho : List Str := GR ++ [("table_of" : Str)]
theorem xv : bS DR Gk Il Ip := sM.def ⟨false, 0, 0⟩ rfl [1] ff 1 4
noncomputable def je : List S := [.ret (.comp [none, some 2] (.nm 0) (.seq (.sl (.var 0) .cN (.var 1))) [] (.sl (.var 0) .cN (.var 1)))]
noncomputable def Eu : Fn := tab DR
noncomputable def y9 : List U → Sto → Rs U := mk Eu je 3 3
noncomputable def o9 : FnT := aU Il
noncomputable def yN : FnT := aU Ip
noncomputable def zx : Nat → Md := cM Gk
noncomputable def Dz : Md := ⟨false, 0, 0⟩
noncomputable def pd : List T → Ou T := mkT o9 yN zx ⟨false, 0, 0⟩ [] je 3 3
noncomputable def Fi : List T → Ou T := fun _ => .bad
theorem yc (x0 x1 x2 : T) : pd [x0, x1, x2] = cA ⟨false, 0, 0⟩ (ySs o9 yN ⟨zx, [], 0⟩ (aV [x0, x1, x2]) je [some x0, some x1, some x2] []) := bo rfl
noncomputable def DN : List (List U → Sto → Rs U) := DR ++ [y9]
noncomputable def Ii : List Md := Gk ++ [Dz]
noncomputable def Hn : List (List T → Ou T) := Il ++ [pd]
noncomputable def Jw : List (List T → Ou T) := Ip ++ [Fi]
noncomputable def JT : List Str := Ho ++ [("_law_cut" : Str)]
theorem EX : bS DN Ii Hn Jw := xv.def ⟨false, 0, 0⟩ rfl [] je 3 3
noncomputable def nO : List S := [.for (.tp [1, 2]) (.enu (.op .add (.lst [(.call 9 [(.var 0), (.cI 0)])]) (.sl (.var 0) (.cI 1) (.cI 20)))) [.set (.nm 3) (.call 0 [(.op .add (.var 2) (.op .mul (.cI 31) (.var 1))), (.lst [(.cI 7), (.cI 7), (.cI 7), (.cI 3), (.cI 7), (.cI 2), (.op .mul (.op .pow (.cI 10) (.cI 41)) (.op .pow (.cI 10) (.cI 41)))])]), .set (.nm 4) (.op .add (.cI 1) (.ix (.var 3) (.cI 0))), .set (.nm 5) (.op .add (.cI 1) (.op .mod (.ix (.var 3) (.cI 1)) (.var 4))), .set (.nm 6) (.op .add (.cI 1) (.op .mod (.ix (.var 3) (.cI 2)) (.var 4))), .ite (.not (.call 8 [(.call 29 [(.tup [(.var 4), (.var 5), (.var 6), (.lst [])])]), (.call 30 [(.call 5 [(.var 4)]), (.var 5), (.var 6)])])) [.ret (.cB false)] [], .set (.nm 7) (.call 4 [(.ix (.var 3) (.cI 6)), (.ix (.lst [(.cI 0), (.cI 40)]) (.ix (.var 3) (.cI 5)))]), .set (.nm 8) (.call 5 [(.var 4)]), .set (.nm 9) (.op .mod (.ix (.var 3) (.cI 4)) (.var 4)), .set (.nm 10) (.tup [(.cS "weigh"), (.var 9), (.var 7)]), .put (.ix (.var 8) (.var 9)) (.var 9) (.var 7), .ite (.and (.cmp .gt (.ix (.var 3) (.cI 3)) (.cI 0)) (.cmp .gt (.var 4) (.cI 1))) [.set (.nm 9) (.op .mod (.ix (.var 3) (.cI 4)) (.op .sub (.var 4) (.cI 1))), .set (.nm 8) (.call 5 [(.var 4)]), .set (.nm 10) (.tup [(.ix (.lst [(.cS "down"), (.cS "up")]) (.op .sub (.ix (.var 3) (.cI 3)) (.cI 1))), (.var 9), (.var 7)]), .put (.ix (.var 8) (.op .add (.var 9) (.bi .int [(.cmp .eq (.ix (.var 3) (.cI 3)) (.cI 2))]))) (.op .add (.var 9) (.bi .int [(.cmp .eq (.ix (.var 3) (.cI 3)) (.cI 1))])) (.var 7)] [], .ite (.not (.call 8 [(.call 29 [(.tup [(.var 4), (.var 5), (.var 6), (.lst [(.var 10)])])]), (.call 30 [(.var 8), (.var 5), (.var 6)])])) [.ret (.cB false)] []], .ret (.cB true)]
noncomputable def Ka : Fn := tab DN
noncomputable def uN : List U → Sto → Rs U := mk Ka nO 1 11
noncomputable def ba : FnT := aU Hn
noncomputable def dY : FnT := aU Jw
noncomputable def aX : Nat → Md := cM Ii
noncomputable def JU : Md := ⟨false, 0, 0⟩
noncomputable def Cc : List T → Ou T := mkT ba dY aX ⟨false, 0, 0⟩ [8] nO 1 11
noncomputable def KO : List T → Ou T := fun _ => .bad
theorem BX (x0 : T) : Cc [x0] = cA ⟨false, 0, 0⟩ (ySs ba dY ⟨aX, [8], 0⟩ (aV [x0]) nO [some x0, none, none, none, none, none, none, none, none, none, none] []) := bo rfl
theorem oR : ba 0 = iQ := rfl
theorem oX : aX 0 = ⟨false, 0, 0⟩ := rfl
theorem pH : ba 4 = jA := rfl
theorem ql : aX 4 = ⟨false, 0, 0⟩ := rfl
theorem mq : ba 5 = mO := rfl
theorem lX : aX 5 = ⟨false, 2, 0⟩ := rfl
theorem jP : ba 8 = fA := rfl
theorem o1 : aX 8 = ⟨false, 0, 0⟩ := rfl
theorem ua : ba 9 = mR := rfl
theorem j5 : ba 29 = cn := rfl
theorem qt : aX 29 = ⟨false, 0, 0⟩ := rfl
theorem oK : ba 30 = pd := rfl
theorem vz : aX 30 = ⟨false, 0, 0⟩ := rfl
noncomputable def Lx : List (List U → Sto → Rs U) := DN ++ [uN]
noncomputable def LB : List Md := Ii ++ [JU]
noncomputable def Lc : List (List T → Ou T) := Hn ++ [Cc]
noncomputable def Lp : List (List T → Ou T) := Jw ++ [KO]
theorem J9 : bS Lx LB Lc Lp := EX.def ⟨false, 0, 0⟩ rfl [8] nO 1 11
end K19
namespace K19
open PySem PySem.Spec L2 Sv
open Ev (D aR aY ai)
theorem uo (a b : Int) : bP [.int a, .int b] = .ok (.int (Int.gcd a b : Nat)) := zU _ _ _ _ a b
theorem FE (a b : Int) : j9 [.int a, .int b] = .ok (.int (Int.gcd a b : Nat)) := xj _ _ _ _ a b
theorem CU (i : Int) : js [.int i] = .ok (.bl true) := pU _ rfl
theorem Ir (i : Int) : nE [.int i] = .ok (.bl true) := pU _ rfl
theorem E9 (c : Int) (bs : List Int) (hb : ∀ b ∈ bs, 0 < b ∧ b.natAbs < 10 ^ 200) (hl : bs.length < ai) : ∃ rs : List Int, Dig rs bs ∧ iQ [.int c, inT bs] = .ok (inT rs) := xw _ _ _ c bs hb hl
theorem Fv (ns : List Int) (k : Nat) : ∃ c : Int, mR [inT ns, .int (k : Nat)] = .ok (.int c) := Dy _ _ _ _ ns k
noncomputable def vec (n : Nat) (f : Nat → Int) : List T := (List.range n).map fun i => .int (f i)
noncomputable def dl (i j : Nat) : Int := if i = j then 1 else 0
noncomputable def sums (n : Nat) (f : Nat → Int) (b : Int) : T := .tup [.lst (vec n f), .int b]
theorem CI (t n : Nat) (hn : n ≤ 7) : hR [.int (t : Nat), .int (n : Nat)] = .ok (sums n (fun i => dl i t) 1) := by
 have cp : yE jC (.comp [none, some 0] (.nm 0) (.rng (.var 1)) [] (.ite (.cmp .eq (.var 0) (.var 1)) (.cI 1) (.cI 0))) [some (.int (t : Nat)), some (.int (n : Nat))] = .ok (.lst (vec n fun i => dl i t)) := by
   refine eg (nD (n := n) (by rw [ae]; rfl) (by omega)) (by rw [List.length_map, List.length_range]; exact fZ (by omega)) (cD _ fun j hj => ?_)
   by_cases h : j = t
   · subst h
     simp only [ae, aK, aS, nh, cH, fO, au, Ou.aa, ax, aA, gH, dq, az, List.getElem?_cons_zero, List.getElem?_cons_succ, List.set_cons_zero, List.map_cons, List.map_nil, List.nil_append, List.cons_append, Option.bind_some, Option.bind_none, Option.join_some, if_true, decide_true, az, dl]
   · have h' : ¬ ((j : Nat) : Int) = (t : Nat) := by omega
     simp only [ae, aK, aS, nh, cH, bU, au, Ou.aa, ax, aA, gH, dq, az, List.getElem?_cons_zero, List.getElem?_cons_succ, List.set_cons_zero, List.map_cons, List.map_nil, List.nil_append, List.cons_append, Option.bind_some, Option.bind_none, Option.join_some, if_true, if_false, decide_false, az, dl, h, h', if_false, decide_false]
 rw [oW, di, ag, aI, ip, af, cp]
 simp only [aK, aj, af, aw, cU, aN, fU, Ou.aa, sums]
noncomputable def fg : Int → List Int → Int
 | c, [] => c
 | c, x :: xs => fg (Int.gcd x c : Nat) xs
noncomputable def zJ : List S := [.set (.nm 2) (.call 12 [(.var 3), (.var 2)])]
theorem oz (n : Nat) (a l : Option T) : ∀ (xs : List Int) (c : Int) (r : Option T), ∃ r', eJ (eM bF cE ⟨bQ, [], 0⟩ n (.nm 3) zJ) (xs.map .int) [a, l, some (.int c), r] [] = .ok (.nx [a, l, some (.int (fg c xs)), r'] [])
 | [], c, r => ⟨r, by rw [List.map_nil, d8]; rfl⟩
 | x :: xs, c, r => by
   obtain ⟨r', e⟩ := oz n a l xs (Int.gcd x c : Nat) (some (.int x))
   refine ⟨r', ?_⟩
   have t : eM bF cE ⟨bQ, [], 0⟩ n (.nm 3) zJ (.int x) [a, l, some (.int c), r] [] = .ok (.nx [a, l, some (.int (Int.gcd x c : Nat)), some (.int x)] []) := by
     simp only [zJ, ae, aC, aj, af, bJ, aJ, ag, bZ, cc, iu, cX, ar, aP, aq, Ou.aa, ax, aA, cg, fH, List.getElem?_cons_zero, List.getElem?_cons_succ, List.set_cons_zero, List.set_cons_succ, List.contains_nil, Option.isSome_some, Bool.and_true, Bool.and_false, Bool.false_eq_true, if_false, Nat.min_def, Nat.lt_irrefl, decide_false, and_true, and_false, fW, fV, uo]
   rw [List.map_cons, dI, t, Ou.aa, fE, e]
   rfl
theorem rN (c : Int) (xs : List Int) : bE [.int c, inT xs] = .ok (.int (fg c xs)) := by
 rw [kI]
 obtain ⟨r', e⟩ := oz (aV [.int c, inT xs]) (some (.int c)) (some (inT xs)) xs c none
 rw [show bK = [.set (.nm 2) (.var 0), .for (.nm 3) (.seq (.var 1)) zJ, .ret (.var 2)] from rfl]
 have h1 : yS bF cE ⟨bQ, [], 0⟩ (aV [.int c, inT xs]) (.set (.nm 2) (.var 0)) [some (.int c), some (inT xs), none, none] [] = .ok (.nx [some (.int c), some (inT xs), some (.int c), none] []) := by
   simp only [ae, bJ, qi, sZ, aP, aq, Ou.aa, ax, aA, cg, List.getElem?_cons_zero, List.getElem?_cons_succ, List.set_cons_zero, List.set_cons_succ, List.contains_nil, Option.isSome_some, Bool.and_true, Bool.false_eq_true, if_false, Nat.min_def, and_true]
 have hi : yIt bF (.seq (.var 1)) [some (.int c), some (inT xs), some (.int c), none] = .ok (xs.map .int) := rfl
 rw [ag, h1, Ou.aa, ar, ag, j3, hi, Ou.aa, aq, e, Ou.gI, Ou.aa, ar]
 simp only [ae, aI, ag, aw, eG, aN, Ou.aa, ax, List.getElem?_cons_zero, List.getElem?_cons_succ]
theorem CW (n : Nat) (f : Nat → Int) : T.lst (vec n f) = inT ((List.range n).map f) := by
 rw [inT, vec, List.map_map]
 rfl
theorem fd1 (i : Int) : z2 .fdiv (.int i) (.int 1) = .ok (.int i) := by rw [iN (by decide) (fI (by decide)), Int.ediv_one]
theorem mu1 (i : Int) : z2 .mul (.int 1) (.int i) = .ok (.int i) := by rw [fG (dF (by decide)), Int.one_mul]
theorem pR {n : Nat} {f : Nat → Int} {a b g : Int} (hn : n ≤ 7) (hg : fg b ((List.range n).map f) = g) (g0 : 0 < g) (gs : g.natAbs < big) (hf : ∀ i, (f i / g).natAbs < 2 ^ 64) :
   bV [sums n f 1, .tup [.int a, .int b]] = .ok (sums n (fun i => f i / g * a) (b / g)) := by
 have fd : ∀ i : Int, z2 .fdiv (.int i) (.int g) = .ok (.int (i / g)) := fun i => iN g0 gs
 have sh : bE [.int b, .lst (vec n f)] = .ok (.int g) := by rw [CW, rN, hg]
 have g1 : ((Int.gcd a 1 : Nat) : Int) = 1 := by rw [Int.gcd_one]; rfl
 have cp : ∀ r2, yE dW (.comp [none, some 3, some 4] (.nm 0) (.seq (.ix (.var 0) (.cI 0))) [] (.op .mul (.op .fdiv (.var 0) (.var 1)) (.var 2))) [some (sums n f 1), some (.tup [.int a, .int b]), r2, some (.int g), some (.int a)] = .ok (.lst (vec n fun i => f i / g * a)) := fun r2 => by
   refine eg (xs := (List.range n).map fun i => .int (f i)) (by rw [gX, bq, ae]; rfl) (by rw [List.length_map, List.length_range]; exact fZ (by omega)) (cD _ fun j hj => ?_)
   have m : z2 .mul (.int (f j / g)) (.int a) = .ok (.int (f j / g * a)) := fG (dF (hf j))
   simp only [ae, bO, cH, Ou.aa, ax, aA, gH, az, List.getElem?_cons_zero, List.getElem?_cons_succ, List.set_cons_zero, List.map_cons, List.map_nil, List.nil_append, List.cons_append, Option.bind_some, Option.bind_none, Option.join_some, if_true, az, fd, m]
 rw [mX]
 unfold sums at cp ⊢
 simp only [cf, ae, aK, bO, ip, bq, aC, aj, af, bJ, aI, ag, bZ, cc, g8, lU, cX, qs, ar, aw, aP, cU, aN, aq, fU, Ou.aa, ax, aA, cg, fu, fb, List.getElem?_cons_zero, List.getElem?_cons_succ, List.set_cons_zero, List.set_cons_succ, List.contains_nil, Option.isSome_some, Bool.and_true, Bool.and_false, Bool.false_eq_true, if_false, Nat.min_def, Nat.lt_irrefl, decide_false, and_true, and_false, gC, gz, gy, gA, uo, g1, sh, fd1, fd, mu1, cp]
theorem xr : ∀ xs : List Int, fg 1 xs = 1
 | [] => rfl
 | x :: xs => by
   rw [fg, Int.gcd_one]
   exact xr xs
theorem mr1 (i : Int) : z2 .mul (.int i) (.int 1) = .ok (.int i) := by rw [fG (fv (by decide)), Int.mul_one]
theorem zu (f h : Nat → Int) : ∀ ks : List Nat, kD (ks.map fun i => T.int (f i)) (ks.map fun i => .int (h i)) = ks.map fun i => .tup [.int (f i), .int (h i)]
 | [] => rfl
 | k :: ks => by rw [List.map_cons, List.map_cons, List.map_cons, kD, zu f h ks]
theorem BM {n : Nat} {f h : Nat → Int} {c : Int} (hn : n ≤ 7) (hf : ∀ i, (f i).natAbs < 2 ^ 64) : fT [sums n f 1, sums n h c] = .ok (sums n (fun i => f i * c + h i) c) := by
 have g1 : ((Int.gcd 1 c : Nat) : Int) = 1 := by rw [Int.one_gcd]; rfl
 have sh : bE [.int 1, .lst (vec n fun i => f i * c + h i)] = .ok (.int 1) := by rw [CW, rN, xr]
 have cp : ∀ r5 r6, yE er (.comp [none, none, some 3, some 4] (.tp [0, 1]) (.zip (.ix (.var 0) (.cI 0)) (.ix (.var 1) (.cI 0))) [] (.op .add (.op .mul (.var 0) (.var 2)) (.op .mul (.var 1) (.var 3)))) [some (sums n f 1), some (sums n h c), some (.int 1), some (.int c), some (.int 1), r5, r6] = .ok (.lst (vec n fun i => f i * c + h i)) := fun r5 r6 => by
   refine eg (xs := (List.range n).map fun i => .tup [.int (f i), .int (h i)]) ?_ (by rw [List.length_map, List.length_range]; exact fZ (by omega)) (cD _ fun j hj => ?_)
   · rw [← zu]
     rfl
   · have m : z2 .mul (.int (f j)) (.int c) = .ok (.int (f j * c)) := fG (dF (hf j))
     simp only [ae, bO, cH, Ou.aa, ax, aA, kX, gH, gJ, az, List.getElem?_cons_zero, List.getElem?_cons_succ, List.set_cons_zero, List.set_cons_succ, List.map_cons, List.map_nil, List.nil_append, List.cons_append, Option.bind_some, Option.bind_none, Option.join_some, if_true, az, m, mr1]
 have cq : ∀ r0 r1 r2 r3 r4, yE er (.comp [none, some 6] (.nm 0) (.seq (.var 5)) [] (.op .fdiv (.var 0) (.var 1))) [r0, r1, r2, r3, r4, some (.lst (vec n fun i => f i * c + h i)), some (.int 1)] = .ok (.lst (vec n fun i => f i * c + h i)) := fun r0 r1 r2 r3 r4 => by
   refine eg (xs := (List.range n).map fun i => .int (f i * c + h i)) rfl (by rw [List.length_map, List.length_range]; exact fZ (by omega)) (cD _ fun j hj => ?_)
   simp only [ae, bO, cH, Ou.aa, ax, aA, gH, az, List.getElem?_cons_zero, List.getElem?_cons_succ, List.set_cons_zero, List.map_cons, List.map_nil, List.nil_append, List.cons_append, Option.bind_some, Option.bind_none, Option.join_some, if_true, az, fd1]
 rw [oU]
 unfold sums at cp ⊢
 simp only [dm, ae, aK, bO, ip, bq, aC, aj, af, bJ, aI, ag, bZ, cc, iu, g8, lU, rF, uQ, cX, yk, qs, ar, aw, aP, cU, aN, aq, fU, Ou.aa, ax, aA, cg, fb, List.getElem?_cons_zero, List.getElem?_cons_succ, List.set_cons_zero, List.set_cons_succ, List.contains_nil, Option.isSome_some, Bool.and_true, Bool.and_false, Bool.false_eq_true, if_false, Nat.min_def, Nat.lt_irrefl, decide_false, and_true, and_false, reduceCtorEq, gY, g9, hV, gQ, uo, g1, sh, fd1, mu1, cp, cq]
noncomputable def tel (t b : Int) : T := aE (t / (Int.gcd t b : Int)) (b / (Int.gcd t b : Int))
theorem Ef {t b : Int} (hb : b ≠ 0) (h : b.natAbs < big) : Int.gcd t b < big := Nat.lt_of_le_of_lt (BC t b hb) h
theorem J6 {t b : Int} (hb : 0 < b) (sb : b.natAbs < big) : ig [.int t, .int b] = .ok (tel t b) := by
 have g1 : 0 < Int.gcd t b := Int.gcd_pos_of_ne_zero_right _ (by omega)
 have f : ∀ i : Int, z2 .fdiv (.int i) (.int (Int.gcd t b : Int)) = .ok (.int (i / (Int.gcd t b : Int))) := fun i => iN (by omega) (by rw [Int.natAbs_natCast]; exact Ef (by omega) sb)
 have hn : ¬ b < 0 := by omega
 have h0 : ¬ b = 0 := by omega
 have il : dB [.int t, .int b] = .ok (tel t b) := by
   rw [kj]
   simp only [bB, tel, aE, ae, aK, bO, Iw, aS, ip, aC, aj, af, bJ, aI, bD, aJ, ag, bZ, cc, iu, Bb, D3, cX, ar, aw, aP, bU, Ji, au, cU, aN, aq, fU, Ou.aa, ax, aA, cg, ko, List.getElem?_cons_zero, List.getElem?_cons_succ, List.set_cons_zero, List.set_cons_succ, List.contains_nil, Option.isSome_some, Bool.and_true, Bool.and_false, Bool.false_eq_true, if_false, Nat.min_def, Nat.lt_irrefl, decide_false, and_true, and_false, fP, fD, uo, hn, decide_false, f]
 rw [qD]
 simp only [fj, ae, aK, dz, aS, iE, aC, aj, af, aI, bD, aJ, ag, ar, aw, jd, bU, dt, au, cU, aN, aq, Ou.aa, ax, dq, List.getElem?_cons_zero, List.getElem?_cons_succ, Bool.not_true, decide_false, kH, ik, CU, h0, decide_false, il, tel, aE]
theorem Fe {n : Nat} {f : Nat → Int} {b : Int} (hn : n ≤ 7) (hb : 0 < b) (sb : b.natAbs < big) : iG [sums n f b] = .ok (.lst ((List.range n).map fun i => tel (f i) b)) := by
 have cp : yE iM (.comp [none, some 0] (.nm 0) (.seq (.ix (.var 0) (.cI 0))) [] (.call 25 [(.var 0), (.ix (.var 1) (.cI 1))])) [some (sums n f b)] = .ok (.lst ((List.range n).map fun i => tel (f i) b)) := by
   refine eg (xs := (List.range n).map fun i => .int (f i)) (by rw [gX, bq, ae]; rfl) (by rw [List.length_map, List.length_range]; exact fZ (by omega)) (cD _ fun j hj => ?_)
   have e : dfT 1 1 ig [.int (f j), .int b] = .ok (tel (f j) b) := J6 hb sb
   unfold sums
   simp only [ae, aK, bq, aC, aj, af, cH, Ou.aa, ax, aA, gH, fb, az, List.getElem?_cons_zero, List.getElem?_cons_succ, List.set_cons_zero, List.map_cons, List.map_nil, List.nil_append, List.cons_append, Option.bind_some, Option.bind_none, Option.join_some, if_true, az, j6, e]
 rw [qw, el, ag, aI, cp]
 simp only [aw, cU, aN, Ou.aa]
noncomputable def line (n : Nat) (F : Nat → T) : T := .lst ((List.range n).map F)
noncomputable def aQ (m w : Nat) (F : Nat → Nat → T) : T := line m fun i => line w (F i)
theorem mr {n j : Nat} {F : Nat → T} (hj : j < n) : zI (line n F) (.int (j : Nat)) = .ok (F j) := jk (by rw [List.getElem?_map, List.getElem?_range hj]; rfl)
theorem mH (n : Nat) (F : Nat → T) : zB .len [line n F] = .ok (.int (n : Nat)) := by rw [line, ki, List.length_map, List.length_range]
theorem AH {w m i : Nat} {F : Nat → Nat → T} (hw : w ≤ 7) (hi : i < m) : iH [aQ w m F, .int (i : Nat)] = .ok (line w fun j => F j i) := by
 have cp : yE ka (.comp [none, some 1] (.nm 0) (.seq (.var 0)) [] (.ix (.var 0) (.var 1))) [some (aQ w m F), some (.int (i : Nat))] = .ok (line w fun j => F j i) := by
   refine eg (xs := (List.range w).map fun j => line m (F j)) (by rw [gX, ae]; rfl) (by rw [List.length_map, List.length_range]; exact fZ hw) (cD _ fun j hj => ?_)
   simp only [ae, bq, cH, Ou.aa, ax, aA, gH, az, List.getElem?_cons_zero, List.getElem?_cons_succ, List.set_cons_zero, List.map_cons, List.map_nil, List.nil_append, List.cons_append, Option.bind_some, Option.bind_none, Option.join_some, if_true, az, mr hi]
 rw [qm, ef, ag, aI, cp]
 simp only [aw, cU, aN, Ou.aa, line]
theorem yf {w m : Nat} {F : Nat → Nat → T} (hw : 1 ≤ w ∧ w ≤ 7) (hm : m ≤ 7) : fM [aQ w m F] = .ok (aQ m w fun i j => F j i) := by
 have e0 : zI (aQ w m F) (.int 0) = .ok (line m (F 0)) := mr (j := 0) (by omega)
 have cp : yE hW (.comp [none, some 0] (.nm 0) (.rng (.bi .len [(.ix (.var 0) (.cI 0))])) [] (.call 18 [(.var 1), (.var 0)])) [some (aQ w m F)] = .ok (aQ m w fun i j => F j i) := by
   refine eg (nD (n := m) (by simp only [ae, aK, bq, dD, aj, af, Ou.aa, ax, List.getElem?_cons_zero, e0, mH]) (by omega)) (by rw [List.length_map, List.length_range]; exact fZ hm) (cD _ fun j hj => ?_)
   have hj' := List.mem_range.mp hj
   simp only [ae, aC, aj, af, cH, Ou.aa, ax, aA, gH, az, List.getElem?_cons_zero, List.getElem?_cons_succ, List.set_cons_zero, List.map_cons, List.map_nil, List.nil_append, List.cons_append, Option.bind_some, Option.bind_none, Option.join_some, if_true, az, jL, AH hw.2 hj']
 rw [oT, dk, ag, aI, cp]
 simp only [aw, cU, aN, Ou.aa, aQ, line]
theorem v8 (m w : Nat) (F : Nat → Nat → T) : lvT (aQ m w F) = 2 := by
 show (if ((List.range m).map fun i => line w (F i)).all isL = true then 2 else 1) = 2
 rw [if_pos]
 rw [List.all_map, List.all_eq_true]
 intro r _
 rfl
theorem JS {μ : Nat → Md} {own : Own} {e : E} {m w : Nat} {F : Nat → Nat → T} (hv : ∀ i, e ≠ .var i) (hf : cG μ e = 2) : Cd ⟨μ, [], 2⟩ own e (aQ m w F) = .ok (.rt (aQ m w F)) := by
 unfold Cd
 rw [if_neg (by simp [aQ, line, isL]), if_pos]
 have hh : 2 ≤ min (cG μ e) (lvT (aQ m w F)) := by rw [hf, v8]; decide
 cases e with
 | var i => exact absurd rfl (hv i)
 | _ => exact hh
theorem yz {n : Nat} (hn : n ≤ 7) : mO [.int (n : Nat)] = .ok (aQ n n fun i j => aE (dl i j) 1) := by
 have ci : ∀ i : Nat, yE mZ (.comp [none, some 0] (.nm 0) (.rng (.var 1)) [] (.tup [(.bi .int [(.cmp .eq (.var 1) (.var 0))]), (.cI 1)])) [some (.int (i : Nat)), some (.int (n : Nat)), none] = .ok (line n fun j => aE (dl i j) 1) := fun i => by
   refine eg (nD (n := n) (by rw [ae]; rfl) (by omega)) (by rw [List.length_map, List.length_range]; exact fZ (by omega)) (cD _ fun j hj => ?_)
   by_cases h : i = j
   · subst h
     simp only [ae, aK, aS, ip, dD, aj, af, cH, au, fU, Ou.aa, ax, aA, gH, dq, iW, az, List.getElem?_cons_zero, List.getElem?_cons_succ, List.set_cons_zero, List.map_cons, List.map_nil, List.nil_append, List.cons_append, Option.bind_some, Option.bind_none, Option.join_some, if_true, decide_true, az, dl, aE, iW]
   · have h' : ¬ ((i : Nat) : Int) = (j : Nat) := by omega
     simp only [ae, aK, aS, ip, dD, aj, af, cH, au, fU, Ou.aa, ax, aA, gH, dq, iW, az, List.getElem?_cons_zero, List.getElem?_cons_succ, List.set_cons_zero, List.map_cons, List.map_nil, List.nil_append, List.cons_append, Option.bind_some, Option.bind_none, Option.join_some, Bool.false_eq_true, if_true, if_false, decide_false, az, dl, h, h', if_false, decide_false, aE, iW]
 have cp : yE mZ (.comp [none, some 0] (.nm 0) (.rng (.var 0)) [] (.comp [none, some 0] (.nm 0) (.rng (.var 1)) [] (.tup [(.bi .int [(.cmp .eq (.var 1) (.var 0))]), (.cI 1)]))) [some (.int (n : Nat))] = .ok (aQ n n fun i j => aE (dl i j) 1) := by
   refine eg (nD (n := n) (by rw [ae]; rfl) (by omega)) (by rw [List.length_map, List.length_range]; exact fZ (by omega)) (cD _ fun i hi => ?_)
   simp only [cH, Ou.aa, aA, gH, az, List.getElem?_cons_zero, List.set_cons_zero, List.map_cons, List.map_nil, List.nil_append, List.cons_append, Option.bind_some, Option.bind_none, Option.join_some, if_true, az, ci]
 rw [v9, hX, ag, aI, cp, Ou.aa, JS (fun _ => by intro z; cases z) (by simp [cG]), Ou.aa, aw]
 rfl
theorem pB {n r : Nat} {F : Nat → T} (h : r ≤ n) : oS ((List.range n).map F) none (some (r : Nat)) = (List.range r).map F := by
 unfold oS
 rw [HT.Bv, HT.Fm, List.length_map, List.length_range, List.drop_zero, ← List.map_take, List.take_range]
 congr 2
 omega
theorem A8 {n r c : Nat} {F : Nat → Nat → T} (hn : n ≤ 7) (hr : r ≤ n) (hc : c ≤ n) : pd [aQ n n F, .int (r : Nat), .int (c : Nat)] = .ok (aQ r c F) := by
 have cp : yE o9 (.comp [none, some 2] (.nm 0) (.seq (.sl (.var 0) .cN (.var 1))) [] (.sl (.var 0) .cN (.var 1))) [some (aQ n n F), some (.int (r : Nat)), some (.int (c : Nat))] = .ok (aQ r c F) := by
   have hi : yE o9 (.sl (.var 0) .cN (.var 1)) [some (aQ n n F), some (.int (r : Nat)), some (.int (c : Nat))] = .ok (.lst ((List.range r).map fun i => line n (F i))) := by
     rw [← pB (n := n) hr]
     simp only [ae, Ct, zG, bf, Ou.aa, ax, List.getElem?_cons_zero, List.getElem?_cons_succ, mi]
     rfl
   refine eg (xs := (List.range r).map fun i => line n (F i)) (by rw [gX, hi, Ou.aa, pK]) (by rw [List.length_map, List.length_range]; exact fZ (by omega)) (cD _ fun i _ => ?_)
   have hj : zSl (line n (F i)) none (some (c : Nat)) = .ok (line c (F i)) := by
     show Ou.ok (T.lst (oS ((List.range n).map (F i)) none (some (c : Nat)))) = _
     rw [pB hc]
     rfl
   simp only [ae, Ct, zG, cH, bf, Ou.aa, ax, aA, gH, az, List.getElem?_cons_zero, List.getElem?_cons_succ, List.set_cons_zero, List.map_cons, List.map_nil, List.nil_append, List.cons_append, Option.bind_some, Option.bind_none, Option.join_some, if_true, az, mi, hj]
 rw [yc, je, ag, aI, cp]
 simp only [aw, cU, aN, Ou.aa, aQ, line]
noncomputable def AD (x y : T) : Prop := ∃ p q t b, x = aE p q ∧ y = aE t b ∧ eN [aE p q, .int t, .int b] = .ok (.bl true)
theorem zip_map (F H : Nat → T) : ∀ ks : List Nat, kD (ks.map F) (ks.map H) = ks.map fun i => .tup [F i, H i]
 | [] => rfl
 | k :: ks => by rw [List.map_cons, List.map_cons, List.map_cons, kD, zip_map F H ks]
noncomputable def yT : List S := [.ite (.not (.call 7 [(.var 4), (.ix (.var 5) (.cI 0)), (.ix (.var 5) (.cI 1))])) [.ret (.cB false)] []]
noncomputable def zc : List S := [.ite (.or (.not (.isi (.var 2) .list)) (.cmp .ne (.bi .len [(.var 2)]) (.bi .len [(.var 3)]))) [.ret (.cB false)] [], .for (.tp [4, 5]) (.zip (.var 2) (.var 3)) yT]
theorem yu (n : Nat) (a b c d : Option T) (F H : Nat → T) : ∀ (ks : List Nat) (r4 r5 : Option T), (∀ j ∈ ks, AD (F j) (H j)) → ∃ s4 s5, eJ (eM dP fm ⟨fq, [], 0⟩ n (.tp [4, 5]) yT) (ks.map fun j => .tup [F j, H j]) [a, b, c, d, r4, r5] [] = .ok (.nx [a, b, c, d, s4, s5] [])
 | [], r4, r5, _ => ⟨r4, r5, by rw [List.map_nil, d8]⟩
 | k :: ks, r4, r5, h => by
   obtain ⟨p, q, t, u, e1, e2, e3⟩ := h k (List.mem_cons_self ..)
   obtain ⟨s4, s5, e⟩ := yu n a b c d F H ks (some (F k)) (some (H k)) fun j hj => h j (List.mem_cons_of_mem _ hj)
   refine ⟨s4, s5, ?_⟩
   have tn : eM dP fm ⟨fq, [], 0⟩ n (.tp [4, 5]) yT (.tup [F k, H k]) [a, b, c, d, r4, r5] [] = .ok (.nx [a, b, c, d, some (F k), some (H k)] []) := by
     rw [e1, e2]
     unfold aE at e3 ⊢
     simp only [yT, ae, ic, aK, dz, bq, aC, aj, af, aI, bD, aJ, ag, ar, aw, bU, dt, aN, aq, Ou.aa, ax, aA, kX, fu, fb, fH, List.getElem?_cons_zero, List.getElem?_cons_succ, List.set_cons_zero, List.set_cons_succ, Bool.not_true, i5, e3]
   rw [List.map_cons, dI, tn, Ou.aa, fE, e]
theorem vM (n w : Nat) (a b : Option T) (F H : Nat → Nat → T) : ∀ (ks : List Nat) (r2 r3 r4 r5 : Option T), (∀ i ∈ ks, ∀ j < w, AD (F i j) (H i j)) → ∃ s2 s3 s4 s5, eJ (eM dP fm ⟨fq, [], 0⟩ n (.tp [2, 3]) zc) (ks.map fun i => .tup [line w (F i), line w (H i)]) [a, b, r2, r3, r4, r5] [] = .ok (.nx [a, b, s2, s3, s4, s5] [])
 | [], r2, r3, r4, r5, _ => ⟨r2, r3, r4, r5, by rw [List.map_nil, d8]⟩
 | k :: ks, r2, r3, r4, r5, h => by
   obtain ⟨t4, t5, e1⟩ := yu n a b (some (line w (F k))) (some (line w (H k))) (F k) (H k) (List.range w) r4 r5 fun j hj => h k (List.mem_cons_self ..) j (List.mem_range.mp hj)
   obtain ⟨s2, s3, s4, s5, e⟩ := vM n w a b F H ks (some (line w (F k))) (some (line w (H k))) t4 t5 fun i hi => h i (List.mem_cons_of_mem _ hi)
   refine ⟨s2, s3, s4, s5, ?_⟩
   have z : zpT (line w (F k)) (line w (H k)) = .ok ((List.range w).map fun j => .tup [F k j, H k j]) := by rw [← zip_map]; rfl
   have il : tM .list (line w (F k)) = .ok (.bl true) := rfl
   have tn : eM dP fm ⟨fq, [], 0⟩ n (.tp [2, 3]) zc (.tup [line w (F k), line w (H k)]) [a, b, r2, r3, r4, r5] [] = .ok (.nx [a, b, some (line w (F k)), some (line w (H k)), t4, t5] []) := by
     simp only [zc, ae, ic, dz, aS, iE, dD, fS, aj, af, yI, aI, bD, j3, aJ, ag, ar, aw, jd, bU, dt, au, aN, aq, Ou.aa, Ou.gI, ax, aA, kX, bM, fH, List.getElem?_cons_zero, List.getElem?_cons_succ, List.set_cons_zero, List.set_cons_succ, Bool.not_true, decide_true, mH, z, il, e1]
   rw [List.map_cons, dI, tn, Ou.aa, fE, e]
theorem yM {m w : Nat} {F H : Nat → Nat → T} (h : ∀ i < m, ∀ j < w, AD (F i j) (H i j)) : fA [aQ m w F, aQ m w H] = .ok (.bl true) := by
 rw [qA]
 obtain ⟨s2, s3, s4, s5, e⟩ := vM (aV [aQ m w F, aQ m w H]) w (some (aQ m w F)) (some (aQ m w H)) F H (List.range m) none none none none fun i hi => h i (List.mem_range.mp hi)
 have z : zpT (aQ m w F) (aQ m w H) = .ok ((List.range m).map fun i => .tup [line w (F i), line w (H i)]) := by rw [← zip_map]; rfl
 have il : tM .list (aQ m w F) = .ok (.bl true) := rfl
 have lF : zB .len [aQ m w F] = .ok (.int (m : Nat)) := mH m _
 have lH : zB .len [aQ m w H] = .ok (.int (m : Nat)) := mH m _
 rw [show ez = [.ite (.or (.not (.isi (.var 0) .list)) (.cmp .ne (.bi .len [(.var 0)]) (.bi .len [(.var 1)]))) [.ret (.cB false)] [], .for (.tp [2, 3]) (.zip (.var 0) (.var 1)) zc, .ret (.cB true)] from rfl]
 simp only [ae, ic, dz, aS, iE, dD, fS, aj, af, yI, aI, bD, j3, aJ, ag, ar, aw, jd, bU, dt, au, cJ, aN, aq, Ou.aa, Ou.gI, ax, bM, List.getElem?_cons_zero, List.getElem?_cons_succ, Bool.not_true, decide_true, lF, lH, z, il, e]
theorem wx (n : Nat) (a : Option T) : ∀ (ks : List Nat) (c : Int) (r : Option T), ∃ r', eJ (eM ku mG ⟨mz, [], 0⟩ n (.nm 2) [.set (.nm 1) (.op .mul (.cI 10) (.var 1))]) (ks.map fun k => .int (k : Nat)) [a, some (.int c), r] [] = .ok (.nx [a, some (.int (10 ^ ks.length * c)), r'] [])
 | [], c, r => ⟨r, by rw [List.map_nil, d8, List.length_nil, Int.pow_zero, Int.one_mul]⟩
 | k :: ks, c, r => by
   obtain ⟨r', e⟩ := wx n a ks (10 * c) (some (.int (k : Nat)))
   refine ⟨r', ?_⟩
   have m : z2 .mul (.int 10) (.int c) = .ok (.int (10 * c)) := fG (dF (by decide))
   have tn : eM ku mG ⟨mz, [], 0⟩ n (.nm 2) [.set (.nm 1) (.op .mul (.cI 10) (.var 1))] (.int (k : Nat)) [a, some (.int c), r] [] = .ok (.nx [a, some (.int (10 * c)), some (.int (k : Nat))] []) := by
     simp only [ae, aK, bO, bJ, aJ, ag, g8, DC, ar, aP, aq, Ou.aa, ax, aA, cg, fH, List.getElem?_cons_zero, List.getElem?_cons_succ, List.set_cons_zero, List.set_cons_succ, List.contains_nil, Option.isSome_some, Bool.and_true, Bool.false_eq_true, if_false, Nat.min_def, and_true, m]
   rw [List.map_cons, dI, tn, Ou.aa, fE, e, List.length_cons, Int.pow_succ, Int.mul_assoc]
theorem HQ : o2 [.int 40] = .ok (.int (10 ^ 40)) := by
 rw [xB]
 obtain ⟨r', e⟩ := wx (aV [.int 40]) (some (.int 40)) (List.range 40) 1 none
 have hi : yIt ku (.rng (.var 0)) [some (.int 40), some (.int 1), none] = .ok ((List.range 40).map fun k => .int (k : Nat)) := nD (n := 40) (by rw [ae]; rfl) (by decide)
 have h1 : yS ku mG ⟨mz, [], 0⟩ (aV [.int 40]) (.set (.nm 1) (.cI 1)) [some (.int 40), none, none] [] = .ok (.nx [some (.int 40), some (.int 1), none] []) := by
   simp only [aK, bJ, Ei, IX, aP, aq, Ou.aa, aA, cg, List.getElem?_cons_zero, List.getElem?_cons_succ, List.set_cons_zero, List.set_cons_succ, List.contains_nil, Option.isSome_some, Bool.and_true, Bool.false_eq_true, if_false, Nat.min_def, and_true]
 rw [show jh = [.set (.nm 1) (.cI 1), .for (.nm 2) (.rng (.var 0)) [.set (.nm 1) (.op .mul (.cI 10) (.var 1))], .ret (.var 1)] from rfl]
 rw [ag, h1, Ou.aa, ar, ag, j3, hi, Ou.aa, aq, e, Ou.gI, Ou.aa, ar, List.length_range, Int.mul_one]
 simp only [ae, aI, ag, aw, eG, aN, Ou.aa, ax, List.getElem?_cons_zero, List.getElem?_cons_succ]
theorem nY {x l h : Int} (h1 : l ≤ x) (h2 : x ≤ h) : fR [.int x, .int l, .int h] = .ok (.bl true) := by
 rw [oV]
 simp only [de, ae, Cb, jJ, aC, aj, af, aI, ag, aw, lb, KY, au, cJ, aN, Ou.aa, ax, Aj, List.getElem?_cons_zero, List.getElem?_cons_succ, decide_true, jS, CU, h1, h2, decide_true]
theorem y6 {t b : Int} (ht : 0 ≤ t) (hb : 0 < b) (hs : b.natAbs < big) : ∃ p q : Int, kc [.int t, .int b] = .ok (aE p q) ∧ Low p q ∧ 0 ≤ p ∧ p ≤ t ∧ q ≤ b :=
 ⟨_, _, El (Ψ := vA) (ΨM := vT) (μ := uT) (sc := false) (dv := 1) rfl (fun a b => FE a b) t b hb hs, (D2 hb).1,
   Int.ediv_nonneg ht (by omega), Int.ediv_le_self _ ht, Int.ediv_le_self _ (by omega)⟩
theorem AI (p : Int) (k : Int) (hk : k = 0 ∨ k = 40) : ∃ a b : Int, jA [.int p, .int k] = .ok (aE a b) ∧ Low a b ∧ 0 ≤ a ∧ a ≤ 10 ^ 40 ∧ b ≤ 10 ^ 40 := by
 have l7 : (7 : Int) ≤ 10 ^ 40 := by decide +kernel
 rcases hk with rfl | rfl
 · obtain ⟨a, b, e, lo, h1, h2, h3⟩ := y6 (t := p % 7) (b := 1 + p / 7 % 4) (by omega) (by omega) (fI (Nat.lt_of_lt_of_le (show (1 + p / 7 % 4).natAbs < 10 by omega) (by decide +kernel)))
   refine ⟨a, b, ?_, lo, h1, by omega, by omega⟩
   have d1 : z2 .mod (.int p) (.int 7) = .ok (.int (p % 7)) := gG (by decide)
   have d2 : z2 .fdiv (.int p) (.int 7) = .ok (.int (p / 7)) := iN (by decide) (fI (by decide))
   have d3 : z2 .mod (.int (p / 7)) (.int 4) = .ok (.int (p / 7 % 4)) := gG (by decide)
   have e : kc [.int (p % 7), .int (1 + p / 7 % 4)] = .ok (.tup [.int a, .int b]) := e
   rw [kZ]
   simp only [dQ, ae, aK, bO, aS, aC, aj, af, aI, bD, aJ, ag, ar, aw, bU, au, cU, aN, aq, Ou.aa, ax, ib, gJ, List.getElem?_cons_zero, List.getElem?_cons_succ, Nat.lt_irrefl, decide_false, iF, d1, d2, d3, e, Int.lt_irrefl, decide_false, aE]
 · have t0 : (0 : Int) < 10 ^ 40 := by decide +kernel
   have t1 : (0 : Int) < 10 ^ 40 - 1 := by decide +kernel
   have r1 := Int.emod_nonneg p (show (10 ^ 40 : Int) ≠ 0 by omega)
   have r2 := Int.emod_lt_of_pos p t0
   have r3 := Int.emod_nonneg (p / 10 ^ 40) (show (10 ^ 40 - 1 : Int) ≠ 0 by omega)
   have r4 := Int.emod_lt_of_pos (p / 10 ^ 40) t1
   have sz : (1 + p / 10 ^ 40 % (10 ^ 40 - 1)).natAbs < big := fI (Nat.lt_of_le_of_lt (show (1 + p / 10 ^ 40 % (10 ^ 40 - 1)).natAbs ≤ 10 ^ 40 by omega) (by decide +kernel))
   obtain ⟨a, b, e, lo, h1, h2, h3⟩ := y6 (t := p % 10 ^ 40) (b := 1 + p / 10 ^ 40 % (10 ^ 40 - 1)) r1 (by omega) sz
   refine ⟨a, b, ?_, lo, h1, by omega, by omega⟩
   have d1 : z2 .mod (.int p) (.int (10 ^ 40)) = .ok (.int (p % 10 ^ 40)) := gG t0
   have d2 : z2 .fdiv (.int p) (.int (10 ^ 40)) = .ok (.int (p / 10 ^ 40)) := iN t0 (fI (by decide +kernel))
   have d3 : z2 .mod (.int (p / 10 ^ 40)) (.int (10 ^ 40 - 1)) = .ok (.int (p / 10 ^ 40 % (10 ^ 40 - 1))) := gG t1
   have e : kc [.int (p % 10 ^ 40), .int (1 + p / 10 ^ 40 % (10 ^ 40 - 1))] = .ok (.tup [.int a, .int b]) := e
   have h40 : (0 : Int) < 40 := by decide
   rw [kZ]
   simp only [dQ, ae, aK, bO, aS, aC, aj, af, bJ, aI, bD, aJ, ag, bZ, cc, iu, cX, ar, aw, aP, fO, au, cU, aN, aq, Ou.aa, ax, aA, cg, ib, gJ, nQ, List.getElem?_cons_zero, List.getElem?_cons_succ, List.set_cons_zero, List.set_cons_succ, List.contains_nil, Option.isSome_some, Bool.and_true, Bool.and_false, Bool.false_eq_true, if_false, Nat.min_def, Nat.lt_irrefl, decide_true, decide_false, and_true, and_false, iF, nU, nX, HQ, d1, d2, d3, e, h40, decide_true, aE]
theorem EM {p q : Int} (lo : Low p q) : gx [aE p q] = .ok (.bl true) := by
 have h : gx [aE p q] = .ok (.bl (xG (aE p q))) := Bo (wh := 10) (cd := 12) (fun d h => pU d h) (fun a b => uo a b) _ rfl
 rw [h]
 show Ou.ok (T.bl (decide (1 ≤ q) && decide (Int.gcd p q = 1))) = _
 rw [decide_eq_true lo.pos, decide_eq_true lo.cop]
 rfl
theorem uy {p q : Int} (lo : Low p q) (hp : 0 ≤ p) : iU [aE p q] = .ok (.bl true) := by
 have f := EM lo
 rw [qu]
 unfold aE at f ⊢
 simp only [d9, ae, aK, aS, jJ, bq, aC, aj, af, aI, ag, aw, lb, au, cJ, aN, Ou.aa, ax, i7, fu, List.getElem?_cons_zero, decide_true, jf, f, hp, decide_true]
noncomputable def step (w : Str) (k : Nat) (p q : Int) : T := .tup [.str w, .int (k : Nat), aE p q]
theorem KQ : zC .eq (.str "weigh") (.str "weigh") = some true := by decide +kernel
theorem KI : zC .eq (.str "down") (.str "weigh") = some false := by decide +kernel
theorem K0 : zC .eq (.str "up") (.str "weigh") = some false := by decide +kernel
theorem K6 : zC .eq (.str "down") (.str "down") = some true := by decide +kernel
theorem J5 : zC .eq (.str "up") (.str "down") = some false := by decide +kernel
theorem i_d : zC .isin (.str "down") (.tup [.str "down", .str "up"]) = some true := by decide +kernel
theorem i_u : zC .isin (.str "up") (.tup [.str "down", .str "up"]) = some true := by decide +kernel
noncomputable def Stp (n : Nat) (w : Str) (k : Nat) : Prop := (w = "weigh" ∧ k < n) ∨ ((w = "down" ∨ w = "up") ∧ k + 1 < n)
theorem Du {n k : Nat} {w : Str} {p q : Int} (lo : Low p q) (hp : 0 ≤ p) (h : Stp n w k) : hZ [step w k p q, .int (n : Nat)] = .ok (.bl true) := by
 have f := uy lo hp
 have l3 : (((0 + 1 + 1 + 1 : Nat) : Int) = 3) = True := eq_true rfl
 rw [tw]
 unfold step
 unfold aE at f ⊢
 have i2 : ∀ a b c : T, zI (.tup [a, b, c]) (.int 2) = .ok c := fun a b c => rfl
 rcases h with ⟨rfl, h⟩ | ⟨rfl | rfl, h⟩
 · have b := nY (x := (k : Nat)) (l := 0) (h := (n : Nat) - 1) (by omega) (by omega)
   simp only [dZ, ae, ic, aK, km, bO, dz, aS, iE, bq, aC, dD, fS, aj, af, aI, bD, aJ, ag, ar, aw, jd, fO, bU, dt, au, fF, cJ, aN, aq, Ou.aa, ax, bM, nQ, fu, fb, eF, iX, List.getElem?_cons_zero, List.getElem?_cons_succ, Bool.not_true, decide_true, i2, eA, dR, f, b, KQ, l3, List.length_cons, List.length_nil]
 · have b := nY (x := (k : Nat)) (l := 0) (h := (n : Nat) - 2) (by omega) (by omega)
   simp only [dZ, ae, ic, aK, km, bO, dz, aS, jJ, iE, ip, bq, aC, dD, fS, aj, af, aI, bD, aJ, ag, ar, aw, lb, jd, bU, dt, au, fF, cJ, aN, aq, fU, Ou.aa, ax, bM, nQ, fu, fb, eF, iX, List.getElem?_cons_zero, List.getElem?_cons_succ, Bool.not_true, decide_true, i2, eA, dR, f, b, KI, i_d, l3, List.length_cons, List.length_nil]
 · have b := nY (x := (k : Nat)) (l := 0) (h := (n : Nat) - 2) (by omega) (by omega)
   simp only [dZ, ae, ic, aK, km, bO, dz, aS, jJ, iE, ip, bq, aC, dD, fS, aj, af, aI, bD, aJ, ag, ar, aw, lb, jd, bU, dt, au, fF, cJ, aN, aq, fU, Ou.aa, ax, bM, nQ, fu, fb, eF, iX, List.getElem?_cons_zero, List.getElem?_cons_succ, Bool.not_true, decide_true, i2, eA, dR, f, b, K0, i_u, l3, List.length_cons, List.length_nil]
noncomputable def aW (n r c : Nat) (ss : List T) : T := .tup [.int (n : Nat), .int (r : Nat), .int (c : Nat), .lst ss]
theorem K3 (a b c d : T) : zI (.tup [a, b, c, d]) (.int 2) = .ok c := rfl
theorem K8 (a b c d : T) : zI (.tup [a, b, c, d]) (.int 3) = .ok d := rfl
theorem zS {n r c : Nat} {ss : List T} (hn : 1 ≤ n ∧ n ≤ 7) (hr : 1 ≤ r ∧ r ≤ n) (hc : 1 ≤ c ∧ c ≤ n) (hl : ss.length ≤ 7) (hs : ∀ x ∈ ss, hZ [x, .int (n : Nat)] = .ok (.bl true)) : iJ [aW n r c ss] = .ok (.bl true) := by
 have b1 := nY (x := (n : Nat)) (l := 1) (h := 7) (by omega) (by omega)
 have b2 := nY (x := (r : Nat)) (l := 1) (h := (n : Nat)) (by omega) (by omega)
 have b3 := nY (x := (c : Nat)) (l := 1) (h := (n : Nat)) (by omega) (by omega)
 have l4 : (((0 + 1 + 1 + 1 + 1 : Nat) : Int) = 4) = True := eq_true rfl
 have lg : ¬ (400 : Int) < ((ss.length : Nat) : Int) := by omega
 have ha : zB .all [.lst (ss.map fun _ => .bl true)] = .ok (.bl true) := by
   rw [Iu ss fun _ => true]
   simp
 have cp : yE gB (.comp [none, some 0] (.nm 0) (.seq (.ix (.var 0) (.cI 3))) [] (.call 15 [(.var 0), (.ix (.var 1) (.cI 0))])) [some (aW n r c ss)] = .ok (.lst (ss.map fun _ => .bl true)) := by
   refine eg (xs := ss) (by rw [gX, bq, ae]; rfl) (fZ hl) (DJ ss fun x hx => ?_)
   unfold aW
   simp only [ae, aK, bq, aC, aj, af, cH, Ou.aa, ax, aA, gH, fu, az, List.getElem?_cons_zero, List.getElem?_cons_succ, List.set_cons_zero, List.map_cons, List.map_nil, List.nil_append, List.cons_append, Option.bind_some, Option.bind_none, Option.join_some, if_true, az, kC, hs x hx]
 rw [pO]
 unfold aW at cp ⊢
 simp only [eo, ae, ic, aK, dz, aS, iE, bq, aC, dD, fS, aj, af, aI, bD, aJ, ag, ar, aw, jd, bU, dt, au, fF, tZ, cJ, aN, aq, Ou.aa, ax, bM, ib, fu, fb, Ce, ki, eF, iX, List.getElem?_cons_zero, Bool.not_true, decide_true, decide_false, K3, K8, jG, b1, b2, b3, l4, lg, cp, ha, decide_false, List.length_cons, List.length_nil]
theorem yB {n r c : Nat} {ss : List T} (hn : 1 ≤ n ∧ n ≤ 7) (hr : 1 ≤ r ∧ r ≤ n) (hc : 1 ≤ c ∧ c ≤ n) (hl : ss.length ≤ 7) (hs : ∀ x ∈ ss, hZ [x, .int (n : Nat)] = .ok (.bl true)) : eE [aW n r c ss] = .ok .non := by
 rw [n9]
 simp only [cF, ae, dz, aC, aj, af, bD, aJ, ag, ar, bU, dt, ED, aq, Ou.aa, ax, List.getElem?_cons_zero, Bool.not_true, i8, zS hn hr hc hl hs]
end K19
namespace K19
open PySem PySem.Spec L2 Sv
open Ev (D aR aY ai)
theorem mN {n k : Nat} {F : Nat → T} {v : T} : ((List.range n).map F).set k v = (List.range n).map fun t => if t = k then v else F t := by
 apply List.ext_getElem?
 intro i
 rw [List.getElem?_set, List.length_map, List.length_range]
 by_cases h : k = i
 · subst h
   by_cases h2 : k < n
   · simp [h2]
   · simp [h2]
 · have h' : ¬ i = k := fun z => h z.symm
   rw [if_neg h]
   by_cases h2 : i < n
   · simp [h2, h']
   · simp [h2]
noncomputable def p6 : List S := [.ite (.cmp .eq (.ix (.var 2) (.cI 0)) (.cS "weigh")) [.put (.var 1) (.ix (.var 2) (.cI 1)) (.call 22 [(.ix (.var 1) (.ix (.var 2) (.cI 1))), (.ix (.var 2) (.cI 2))])] [.set (.nm 3) (.call 22 [(.ix (.var 1) (.call 28 [(.var 2)])), (.ix (.var 2) (.cI 2))]), .put (.var 1) (.call 27 [(.var 2)]) (.call 23 [(.ix (.var 1) (.call 27 [(.var 2)])), (.var 3)])]]
theorem Kc (a b c : T) : zI (.tup [a, b, c]) (.int 2) = .ok c := rfl
theorem tV {n k : Nat} {F : Nat → T} (h : k < n) : ixN ((List.range n).map F).length ((k : Nat) : Int) = some k := by
 rw [List.length_map, List.length_range]
 exact Eb h
theorem Hh {m n k : Nat} {a r2 r3 : Option T} {F : Nat → T} {p q : Int} {v : T} (hk : k < n) (h : bV [F k, aE p q] = .ok v) :
   eM aL dN ⟨bj, [1], 0⟩ m (.nm 2) p6 (step "weigh" k p q) [a, some (line n F), r2, r3] [(1, 1)] = .ok (.nx [a, some (line n fun t => if t = k then v else F t), some (step "weigh" k p q), r3] [(1, 1)]) := by
 have l := mr (F := F) hk
 unfold line at l
 unfold step
 simp only [p6, ae, aK, km, aS, bq, aC, aj, af, bJ, CK, bD, aJ, ag, bZ, cc, lU, cX, ar, aP, bf, ma, fO, au, aq, bW, Ou.aa, ax, aA, cg, frg, cj, intOf, iT, FN, gts, bY, tgN, zV, fu, fb, Ce, fH, List.getElem?_cons_zero, List.getElem?_cons_succ, List.set_cons_zero, List.set_cons_succ, List.contains_cons, List.contains_nil, List.lookup_cons, Option.getD_some, Option.isSome_some, Bool.and_true, Bool.and_false, Bool.or_false, Bool.false_eq_true, if_true, if_false, beq_self_eq_true, Nat.reduceBEq, Nat.reduceLT, Nat.min_def, Nat.lt_irrefl, decide_false, and_true, and_false, Nat.reduceEqDiff, KQ, Kc, l, fw, fh, h, tV hk, mN, line]
theorem J2 (k : Nat) (p q : Int) : eQ [step "down" k p q] = .ok (.int ((k + 1 : Nat) : Int)) := by
 rw [kW]
 unfold step
 simp only [dX, ae, aK, km, bO, aS, nh, bq, aI, ag, aw, fO, au, eG, aN, Ou.aa, ax, gJ, fu, fb, List.getElem?_cons_zero, K6]
 rfl
theorem Kw (k : Nat) (p q : Int) : eQ [step "up" k p q] = .ok (.int (k : Nat)) := by
 rw [kW]
 unfold step
 simp only [dX, ae, aK, km, bO, aS, nh, bq, aI, ag, aw, bU, au, eG, aN, Ou.aa, ax, gJ, fu, fb, List.getElem?_cons_zero, J5]
theorem E6 (k : Nat) (p q : Int) : cL [step "down" k p q] = .ok (.int (k : Nat)) := by
 rw [jO]
 unfold step
 simp only [cm, ae, aK, km, bO, aS, nh, bq, aI, ag, aw, fO, au, eG, aN, Ou.aa, ax, gJ, fu, fb, List.getElem?_cons_zero, K6]
theorem EB (k : Nat) (p q : Int) : cL [step "up" k p q] = .ok (.int ((k + 1 : Nat) : Int)) := by
 rw [jO]
 unfold step
 simp only [cm, ae, aK, km, bO, aS, nh, bq, aI, ag, aw, bU, au, eG, aN, Ou.aa, ax, gJ, fu, fb, List.getElem?_cons_zero, J5]
 rfl
theorem JD {m n k x y : Nat} {w : Str} {a r2 r3 : Option T} {F : Nat → T} {p q : Int} {v u : T} (hw : zC .eq (.str w) (.str "weigh") = some false) (hx : x < n) (hy : y < n) (e1 : cL [step w k p q] = .ok (.int (x : Nat))) (e2 : eQ [step w k p q] = .ok (.int (y : Nat)))
   (h : bV [F x, aE p q] = .ok v) (h2 : fT [F y, v] = .ok u) (hv : isL v = false) :
   eM aL dN ⟨bj, [1], 0⟩ m (.nm 2) p6 (step w k p q) [a, some (line n F), r2, r3] [(1, 1)] = .ok (.nx [a, some (line n fun t => if t = y then u else F t), some (step w k p q), some v] [(1, 1)]) := by
 have l := mr (F := F) hx
 have l2 := mr (F := F) hy
 unfold line at l l2
 unfold step at *
 simp only [p6, ae, aK, km, aS, bq, aC, aj, af, bJ, CK, bD, aJ, ag, bZ, cc, lU, cX, ar, aP, bf, ma, bU, au, aq, bW, Ou.aa, ax, aA, cg, frg, cj, intOf, iT, FN, gts, bY, tgN, zV, fu, fb, Ce, fH, List.getElem?_cons_zero, List.getElem?_cons_succ, List.set_cons_zero, List.set_cons_succ, List.contains_cons, List.contains_nil, List.lookup_cons, Option.getD_some, Option.isSome_some, Bool.and_true, Bool.and_false, Bool.or_false, Bool.false_eq_true, if_true, if_false, beq_self_eq_true, Nat.reduceBEq, Nat.reduceLT, Nat.min_def, Nat.lt_irrefl, decide_true, decide_false, and_true, and_false, Nat.reduceEqDiff, hw, Kc, l, l2, e1, e2, fw, jQ, jR, kK, fh, jW, jZ, kG, h, h2, hv, tV hy, mN, line]
noncomputable def eR : E := .call 19 [(.comp [none] (.nm 0) (.seq (.sl (.var 1) .cN (.ix (.var 0) (.cI 2)))) [] (.call 26 [(.var 0)]))]
theorem Ib {n r c : Nat} {ss : List T} {G : Nat → Nat → Int} {B : Nat → Int} {r2 r3 : Option T} (hn : n ≤ 7) (hr : r ≤ n) (hc : 1 ≤ c ∧ c ≤ n) (hB : ∀ t, 0 < B t ∧ (B t).natAbs < big) :
   yE aL eR [some (aW n r c ss), some (line n fun t => sums r (G t) (B t)), r2, r3] = .ok (aQ r c fun i j => tel (G j i) (B j)) := by
 have hi : yE aL (.sl (.var 1) .cN (.ix (.var 0) (.cI 2))) [some (aW n r c ss), some (line n fun t => sums r (G t) (B t)), r2, r3] = .ok (.lst ((List.range c).map fun t => sums r (G t) (B t))) := by
   have i2 : zI (aW n r c ss) (.int 2) = .ok (.int (c : Nat)) := K3 _ _ _ _
   have hz : zSl (line n fun t => sums r (G t) (B t)) none (some ((c : Nat) : Int)) = .ok (.lst ((List.range c).map fun t => sums r (G t) (B t))) := by
     rw [← pB (n := n) hc.2]
     rfl
   simp only [zG, ae, bq, Ct, aK, ax, List.getElem?_cons_zero, List.getElem?_cons_succ, Ou.aa, i2, mi, bf, hz]
 have cp : yE aL (.comp [none] (.nm 0) (.seq (.sl (.var 1) .cN (.ix (.var 0) (.cI 2)))) [] (.call 26 [(.var 0)])) [some (aW n r c ss), some (line n fun t => sums r (G t) (B t)), r2, r3] = .ok (aQ c r fun j i => tel (G j i) (B j)) := by
   refine eg (xs := (List.range c).map fun t => sums r (G t) (B t)) (by rw [gX, hi, Ou.aa, pK]) (by rw [List.length_map, List.length_range]; exact fZ (by omega)) (cD _ fun j _ => ?_)
   have t := Fe (n := r) (f := G j) (by omega) (hB j).1 (hB j).2
   simp only [ae, aC, aj, af, cH, Ou.aa, ax, aA, gH, az, List.getElem?_cons_zero, List.set_cons_zero, List.map_cons, List.map_nil, List.nil_append, List.cons_append, Option.bind_none, if_true, az, j1, t]
   rfl
 have cl : fM [aQ c r fun j i => tel (G j i) (B j)] = .ok (aQ r c fun i j => tel (G j i) (B j)) := yf (by omega) (by omega)
 rw [eR, aC, af, cp, Ou.aa, aj, Ou.aa, Ou.aa, jT, cl]
theorem Dt {Ψ : FnT} {n r c : Nat} {ss : List T} {r2 r3 : Option T} {S : Nat → T} (hn : n ≤ 7) (h : ∀ j : Nat, Ψ 20 [.int (j : Nat), .int (r : Nat)] = .ok (S j)) : yE Ψ (.comp [none, some 0] (.nm 0) (.rng (.ix (.var 0) (.cI 0))) [] (.call 20 [(.var 0), (.ix (.var 1) (.cI 1))])) [some (aW n r c ss), none, r2, r3] = .ok (line n S) := by
 have i0 : zI (aW n r c ss) (.int 0) = .ok (.int (n : Nat)) := fu _ _
 have i1 : zI (aW n r c ss) (.int 1) = .ok (.int (r : Nat)) := fb _ _ _
 have h0 : yE Ψ (.ix (.var 0) (.cI 0)) [some (aW n r c ss), none, r2, r3] = .ok (.int (n : Nat)) := by
   simp only [bq, ae, aK, ax, List.getElem?_cons_zero, Ou.aa, i0]
 refine eg (nD h0 (by omega)) (by rw [List.length_map, List.length_range]; exact fZ (by omega)) (cD (k := S) _ fun j _ => ?_)
 simp only [ae, aK, bq, aC, aj, af, cH, Ou.aa, ax, aA, gH, az, List.getElem?_cons_zero, List.getElem?_cons_succ, List.set_cons_zero, List.map_cons, List.map_nil, List.nil_append, List.cons_append, Option.bind_some, Option.bind_none, Option.join_some, if_true, az, i1, h]
theorem CY {n r c : Nat} {ss : List T} {r2 r3 : Option T} (hn : n ≤ 7) (hr : r ≤ 7) : yE aL (.comp [none, some 0] (.nm 0) (.rng (.ix (.var 0) (.cI 0))) [] (.call 20 [(.var 0), (.ix (.var 1) (.cI 1))])) [some (aW n r c ss), none, r2, r3] = .ok (line n fun t => sums r (fun i => dl i t) 1) :=
 Dt hn fun j => by rw [jX]; exact CI j r hr
noncomputable def eS : E := .comp [none, some 0] (.nm 0) (.rng (.ix (.var 0) (.cI 0))) [] (.call 20 [(.var 0), (.ix (.var 1) (.cI 1))])
theorem zD {n r c : Nat} {ss : List T} {G : Nat → Nat → Int} {B : Nat → Int} {s2 s3 : Option T} (hn : n ≤ 7) (hr : r ≤ n) (hc : 1 ≤ c ∧ c ≤ n) (lk : eE [aW n r c ss] = .ok .non) (hB : ∀ t, 0 < B t ∧ (B t).natAbs < big)
   (hl : eJ (eM aL dN ⟨bj, [1], 0⟩ (aV [aW n r c ss]) (.nm 2) p6) ss [some (aW n r c ss), some (line n fun t => sums r (fun i => dl i t) 1), none, none] [(1, 1)] = .ok (.nx [some (aW n r c ss), some (line n fun t => sums r (G t) (B t)), s2, s3] [(1, 1)])) :
   cn [aW n r c ss] = .ok (aQ r c fun i j => tel (G j i) (B j)) := by
 have h1 : yS aL dN ⟨bj, [1], 0⟩ (aV [aW n r c ss]) (.expr (.call 17 [(.var 0)])) [some (aW n r c ss), none, none, none] [] = .ok (.nx [some (aW n r c ss), none, none, none] []) := by
   simp only [ae, aC, aj, af, EL, bZ, cc, iu, aq, Ou.aa, ax, List.getElem?_cons_zero, Bool.and_false, Nat.lt_irrefl, decide_false, and_false, jo, jr, lk]
 have h2 : yS aL dN ⟨bj, [1], 0⟩ (aV [aW n r c ss]) (.set (.nm 1) eS) [some (aW n r c ss), none, none, none] [] = .ok (.nx [some (aW n r c ss), some (line n fun t => sums r (fun i => dl i t) 1), none, none] [(1, 1)]) := by
   have st := CY (n := n) (r := r) (c := c) (ss := ss) (r2 := none) (r3 := none) hn (by omega)
   have lv : 1 ≤ lvT (line n fun t => sums r (fun i => dl i t) 1) := by
     show 1 ≤ (if _ then 2 else 1)
     split <;> decide
   simp only [eS, bJ, rF, uQ, cX, aP, aq, Ou.aa, aA, cg, List.getElem?_cons_zero, List.getElem?_cons_succ, List.set_cons_zero, List.set_cons_succ, List.contains_cons, List.contains_nil, Option.isSome_some, Bool.and_true, Bool.or_false, if_true, if_false, beq_self_eq_true, Nat.min_def, and_true, reduceCtorEq, st, j0, if_pos lv]
 have h3 : yIt aL (.seq (.ix (.var 0) (.cI 3))) [some (aW n r c ss), some (line n fun t => sums r (fun i => dl i t) 1), none, none] = .ok ss := by
   have i3 : zI (aW n r c ss) (.int 3) = .ok (.lst ss) := K8 _ _ _ _
   simp only [gX, bq, ae, aK, ax, List.getElem?_cons_zero, Ou.aa, i3, pK]
 rw [qO]
 rw [show ff = [.expr (.call 17 [(.var 0)]), .set (.nm 1) eS, .for (.nm 2) (.seq (.ix (.var 0) (.cI 3))) p6, .ret eR] from rfl]
 rw [ag, h1, Ou.aa, ar, ag, h2, Ou.aa, ar, ag, j3, h3, Ou.aa]
 have d : dn (gUI bj 0 (.seq (.ix (.var 0) (.cI 3)))) [(1, 1)] = [(1, 1)] := rfl
 have rt := Ib (n := n) (r := r) (c := c) (ss := ss) (G := G) (B := B) (r2 := s2) (r3 := s3) hn hr hc hB
 rw [d, hl, Ou.gI, Ou.aa, ar, ag, aI, rt, Ou.aa]
 simp only [aw, cU, aN, Ou.aa, aQ, line]
theorem Ej : (1 : Int).natAbs < big := fI (by decide +kernel)
theorem Ac {n r c : Nat} (hn : 1 ≤ n ∧ n ≤ 7) (hr : 1 ≤ r ∧ r ≤ n) (hc : 1 ≤ c ∧ c ≤ n) : cn [aW n r c []] = .ok (aQ r c fun i j => tel (dl i j) 1) :=
 zD (G := fun t i => dl i t) (B := fun _ => 1) hn.2 hr.2 hc (yB hn hr hc (by decide) fun x hx => by cases hx) (fun _ => ⟨by decide, Ej⟩) (by rw [d8])
theorem rA {n r c k : Nat} {w : Str} {p q : Int} {G : Nat → Nat → Int} {B : Nat → Int} {s3 : Option T} (hn : 1 ≤ n ∧ n ≤ 7) (hr : 1 ≤ r ∧ r ≤ n) (hc : 1 ≤ c ∧ c ≤ n) (lo : Low p q) (hp : 0 ≤ p) (hs : Stp n w k) (hB : ∀ t, 0 < B t ∧ (B t).natAbs < big)
   (ht : ∀ m a, eM aL dN ⟨bj, [1], 0⟩ m (.nm 2) p6 (step w k p q) [a, some (line n fun t => sums r (fun i => dl i t) 1), none, none] [(1, 1)] = .ok (.nx [a, some (line n fun t => sums r (G t) (B t)), some (step w k p q), s3] [(1, 1)])) :
   cn [aW n r c [step w k p q]] = .ok (aQ r c fun i j => tel (G j i) (B j)) :=
 zD hn.2 hr.2 hc (yB hn hr hc (show 1 ≤ 7 by decide) fun x hx => by cases List.mem_singleton.mp hx; exact Du lo hp hs) hB (by rw [dI, ht, Ou.aa, fE, d8])
theorem yD : ∀ (xs : List Int) (c : Int), 0 < c → (∀ x ∈ xs, x = 0) → fg c xs = c
 | [], _, _, _ => rfl
 | x :: xs, c, hc, h => by
   have hx := h x (List.mem_cons_self ..)
   subst hx
   rw [fg, Int.zero_gcd, show ((c.natAbs : Nat) : Int) = c by omega]
   exact yD xs c hc fun y hy => h y (List.mem_cons_of_mem _ hy)
theorem Dj : ∀ (xs : List Int) (c : Int), 0 < c → (∀ x ∈ xs, x = 0 ∨ x = 1) → (1 : Int) ∈ xs → fg c xs = 1
 | x :: xs, c, hc, h, h1 => by
   rcases h x (List.mem_cons_self ..) with hx | hx
   · subst hx
     rw [fg, Int.zero_gcd, show ((c.natAbs : Nat) : Int) = c by omega]
     exact Dj xs c hc (fun y hy => h y (List.mem_cons_of_mem _ hy)) ((List.mem_cons.mp h1).resolve_left (by decide))
   · subst hx
     rw [fg, Int.one_gcd]
     exact xr xs
theorem yo (i k : Nat) : dl i k = 0 ∨ dl i k = 1 := by unfold dl; split <;> simp
noncomputable def bot (r k : Nat) (q : Int) : Int := if k < r then q else 1
theorem vY {r k : Nat} {p q : Int} (hr : r ≤ 7) (hq : 1 ≤ q) (sq : q.natAbs < big) : bV [sums r (fun i => dl i k) 1, aE p q] = .ok (sums r (fun i => dl i k / (if k < r then 1 else q) * p) (bot r k q)) := by
 have h01 : ∀ x ∈ (List.range r).map fun i => dl i k, x = 0 ∨ x = 1 := by
   intro x hx
   obtain ⟨i, _, rfl⟩ := List.mem_map.mp hx
   exact yo i k
 have sm : ∀ (g : Int) (i : Nat), (dl i k / g).natAbs < 2 ^ 64 := fun g i => Nat.lt_of_le_of_lt (Int.natAbs_ediv_le_natAbs _ _) (by rcases yo i k with h | h <;> rw [h] <;> decide)
 by_cases h : k < r
 · have e : fg q ((List.range r).map fun i => dl i k) = 1 := Dj _ q (by omega) h01 (List.mem_map.mpr ⟨k, List.mem_range.mpr h, by simp [dl]⟩)
   have := pR (a := p) hr e (by decide) Ej (sm 1)
   refine this.trans ?_
   simp only [bot, if_pos h, Int.ediv_one]
 · have e : fg q ((List.range r).map fun i => dl i k) = q := yD _ q (by omega) fun x hx => by
     obtain ⟨i, hi, rfl⟩ := List.mem_map.mp hx
     have := List.mem_range.mp hi
     unfold dl
     rw [if_neg (by omega)]
   have := pR (a := p) hr e (by omega) sq (sm q)
   refine this.trans ?_
   simp only [bot, if_neg h]
   rw [Int.ediv_self (by omega)]
end K19
namespace K19
open PySem PySem.Spec L2 Sv
open Ev (D aR aY ai)
theorem zy {p q : Int} (lo : Low p q) : tel p q = aE p q := by
 unfold tel
 rw [lo.cop]
 simp
theorem CH {b : Int} (hb : 0 < b) : tel b b = aE 1 1 := by
 unfold tel
 rw [Int.gcd_self, show ((b.natAbs : Nat) : Int) = b by omega, Int.ediv_self (by omega)]
theorem vN {b : Int} (hb : 0 < b) : tel 0 b = aE 0 1 := by
 unfold tel
 rw [Int.zero_gcd, show ((b.natAbs : Nat) : Int) = b by omega, Int.ediv_self (by omega), Int.zero_ediv]
theorem tX (t : Int) : tel t 1 = aE t 1 := by
 unfold tel
 rw [Int.gcd_one]
 simp
theorem zF {n r y : Nat} {f g : Nat → Nat → Int} {b : Int} {G : Nat → Int} : (line n fun t => if t = y then sums r G b else sums r (f t) 1) = line n fun t => sums r (if t = y then G else f t) (if t = y then b else 1) := by
 unfold line
 congr 1
 apply List.map_congr_left
 intro t _
 by_cases h : t = y
 · simp only [if_pos h]
 · simp only [if_neg h]
theorem t9 {r k : Nat} {q : Int} (hq : 1 ≤ q) (sq : q.natAbs < big) : 0 < bot r k q ∧ (bot r k q).natAbs < big := by
 unfold bot
 split
 · exact ⟨by omega, sq⟩
 · exact ⟨by decide, Ej⟩
theorem J8 {r k y : Nat} {q : Int} (hq : 1 ≤ q) (sq : q.natAbs < big) (t : Nat) : 0 < (if t = y then bot r k q else 1) ∧ (if t = y then bot r k q else 1).natAbs < big := by
 split
 · exact t9 hq sq
 · exact ⟨by decide, Ej⟩
noncomputable def wt (r x : Nat) (p q : Int) (i : Nat) : Int := dl i x / (if x < r then 1 else q) * p
theorem A5 {r x : Nat} {p q : Int} (h : x < r) : wt r x p q x = p := by
 unfold wt dl
 rw [if_pos h, if_pos rfl, Int.ediv_one, Int.one_mul]
theorem BR {r x i : Nat} {p q : Int} (h : ¬ i = x) : wt r x p q i = 0 := by
 unfold wt dl
 rw [if_neg h, Int.zero_ediv, Int.zero_mul]
noncomputable def due (x y : Nat) (w : T) (i j : Nat) : T := if i = x ∧ j = y then w else aE (dl i j) 1
theorem qb {m w : Nat} {F H : Nat → Nat → T} (h : ∀ i < m, ∀ j < w, F i j = H i j) : aQ m w F = aQ m w H := by
 unfold aQ line
 congr 1
 apply List.map_congr_left
 intro i hi
 show T.lst _ = T.lst _
 congr 1
 apply List.map_congr_left
 intro j hj
 exact h i (List.mem_range.mp hi) j (List.mem_range.mp hj)
theorem As {n r c k : Nat} {p q : Int} (hn : 1 ≤ n ∧ n ≤ 7) (hr : 1 ≤ r ∧ r ≤ n) (hc : 1 ≤ c ∧ c ≤ n) (lo : Low p q) (hp : 0 ≤ p) (hk : k < n) (sq : q.natAbs < big) :
   cn [aW n r c [step "weigh" k p q]] = .ok (aQ r c (due k k (aE p q))) := by
 have hq := lo.pos
 have t := fun m a => Hh (m := m) (a := a) (r2 := none) (r3 := none) (F := fun t => sums r (fun i => dl i t) 1) hk (vY (r := r) (k := k) (p := p) (by omega) hq sq)
 simp only [zF (g := fun t i => dl i t) (f := fun t i => dl i t)] at t
 rw [rA hn hr hc lo hp (Or.inl ⟨rfl, hk⟩) (J8 hq sq) t]
 congr 1
 apply qb
 intro i hi j hj
 unfold due
 by_cases h : j = k
 · subst h
   simp only [if_true, and_true]
   by_cases h2 : i = j
   · subst h2
     rw [if_pos rfl, show bot r i q = q from if_pos hi]
     show tel (wt r i p q i) q = _
     rw [A5 hi, zy lo]
   · rw [if_neg h2]
     show tel (wt r j p q i) _ = _
     rw [BR h2, vN (t9 hq sq).1, dl, if_neg h2]
 · simp only [if_neg h]
   rw [if_neg fun z => h z.2]
   exact tX _
theorem wd {n r c k x y : Nat} {w : Str} {p q : Int} (hn : 1 ≤ n ∧ n ≤ 7) (hr : 1 ≤ r ∧ r ≤ n) (hc : 1 ≤ c ∧ c ≤ n) (lo : Low p q) (hp : 0 ≤ p) (hs : Stp n w k) (sq : q.natAbs < big)
   (hw : zC .eq (.str w) (.str "weigh") = some false) (hx : x < n) (hy : y < n) (hxy : ¬ x = y) (e1 : cL [step w k p q] = .ok (.int (x : Nat))) (e2 : eQ [step w k p q] = .ok (.int (y : Nat))) :
   cn [aW n r c [step w k p q]] = .ok (aQ r c (due x y (aE p q))) := by
 have hq := lo.pos
 have ad := BM (n := r) (f := fun i => dl i y) (h := wt r x p q) (c := bot r x q) (by omega) fun i => by rcases yo i y with h | h <;> rw [h] <;> decide
 have t := fun m a => JD (m := m) (a := a) (r2 := none) (r3 := none) (F := fun t => sums r (fun i => dl i t) 1) hw hx hy e1 e2 (vY (r := r) (k := x) (p := p) (by omega) hq sq) ad rfl
 simp only [zF (g := fun t i => dl i t) (f := fun t i => dl i t)] at t
 rw [rA hn hr hc lo hp hs (J8 hq sq) t]
 congr 1
 apply qb
 intro i hi j hj
 unfold due
 by_cases h : j = y
 · subst h
   simp only [if_true, and_true]
   by_cases h2 : i = x
   · subst h2
     rw [if_pos rfl, show bot r i q = q from if_pos hi, A5 hi, dl, if_neg hxy, Int.zero_mul, Int.zero_add, zy lo]
   · rw [if_neg h2, BR h2, Int.add_zero]
     by_cases h3 : i = j
     · rw [dl, if_pos h3, Int.one_mul, CH (t9 hq sq).1]
     · rw [dl, if_neg h3, Int.zero_mul, vN (t9 hq sq).1]
 · simp only [if_neg h]
   rw [if_neg fun z => h z.2]
   exact tX _
end K19
namespace K19
open PySem PySem.Spec L2 Sv
open Ev (D aR aY ai)
theorem Dc (p q : Int) (lo : Low p q) (m1 : aR p q) : eN [aE p q, .int p, .int q] = .ok (.bl true) := by
 have h1 : ¬ q < 1 := by have := lo.pos; omega
 have h2 : ((Int.gcd p q : Nat) : Int) = 1 := by rw [lo.cop]; rfl
 have l2 : (((0 + 1 + 1 : Nat) : Int) = 2) = True := eq_true rfl
 rw [nk]
 simp only [cC, aE, ae, ic, aK, bO, dz, aS, iE, bq, aC, dD, fS, aj, af, aI, bD, aJ, ag, ar, aw, jd, bU, dt, au, fF, cJ, aN, aq, Ou.aa, ax, dq, bM, ko, fu, fb, eF, iX, List.getElem?_cons_zero, List.getElem?_cons_succ, Bool.not_true, decide_true, decide_false, jV, i9, Ir, FE, fG m1, h1, h2, l2, decide_false, decide_true, List.length_cons, List.length_nil]
theorem oe {p q : Int} (lo : Low p q) (m1 : aR p q) : AD (aE p q) (aE p q) := ⟨p, q, p, q, rfl, rfl, Dc p q lo m1⟩
theorem zv (i j : Nat) : AD (aE (dl i j) 1) (aE (dl i j) 1) := by
 rcases yo i j with h | h <;> rw [h]
 · exact oe ⟨by decide, by decide⟩ (dF (by decide))
 · exact oe ⟨by decide, by decide⟩ (dF (by decide))
theorem B2 {x y : Nat} {p q : Int} (lo : Low p q) (m1 : aR p q) (i j : Nat) : AD (due x y (aE p q) i j) (due x y (aE p q) i j) := by
 unfold due
 split
 · exact oe lo m1
 · exact zv i j
theorem CB {n x y : Nat} {v : T} (hx : x < n) : T.lst (((List.range n).map fun i => line n fun j => aE (dl i j) 1).set x (.lst (((List.range n).map fun j => aE (dl x j) 1).set y v))) = aQ n n (due x y v) := by
 rw [mN, mN]
 unfold aQ line
 congr 1
 apply List.map_congr_left
 intro i _
 unfold due
 by_cases h : i = x
 · subst h
   rw [if_pos rfl]
   congr 1
   apply List.map_congr_left
   intro j _
   by_cases h2 : j = y
   · rw [if_pos h2, if_pos ⟨rfl, h2⟩]
   · rw [if_neg h2, if_neg fun z => h2 z.2]
 · rw [if_neg h]
   congr 1
   apply List.map_congr_left
   intro j _
   rw [if_neg fun z => h z.1]
theorem BY {n x : Nat} {F : Nat → Nat → T} (hx : x < n) : ((List.range n).map fun i => line n (F i))[x]?.bind lA = some ((List.range n).map (F x)) := by
 rw [List.getElem?_map, List.getElem?_range hx]
 rfl
theorem nW {m n x y v : Nat} {ea ei ee : E} {τ : aD} {w : T} (hx : x < n) (hy : y < n) (he : yE ba ee τ = .ok w) (hv : ax τ v = .ok (aQ n n fun i j => aE (dl i j) 1)) (ha : yE ba ea τ = .ok (.int (x : Nat))) (hi : yE ba ei τ = .ok (.int (y : Nat))) {own : Own} (hd : dn (gP2 aX ee ea ei) own = own) (hl : cj own v = 2) :
   yS ba dY ⟨aX, [8], 0⟩ m (.put (.ix (.var v) ea) ei ee) τ own = .ok (.nx (τ.set v (some (aQ n n (due x y w)))) own) := by
 rw [FC, hd, if_pos hl, he, Ou.aa, hv]
 have l1 : iL (Ou.ok (aQ n n fun i j => aE (dl i j) 1)) = some ((List.range n).map fun i => line n fun j => aE (dl i j) 1) := rfl
 have l2 : intOf (.int (x : Nat)) = some ((x : Nat) : Int) := rfl
 have l3 : intOf (.int (y : Nat)) = some ((y : Nat) : Int) := rfl
 rw [l1, bf, ha, Ou.aa, l2, bf, tV hx, bf, BY (F := fun i j => aE (dl i j) 1) hx, bf, hi, Ou.aa]
 unfold vP
 rw [l3, bf, tV hy, bf, CB hx]
end K19
namespace K19
open PySem PySem.Spec L2 Sv
open Ev (D aR aY ai)
theorem ij {m : Nat} {s : S} {ss : List S} {τ τ' : aD} {own own' : Own} (h : yS ba dY ⟨aX, [8], 0⟩ m s τ own = .ok (.nx τ' own')) : ySs ba dY ⟨aX, [8], 0⟩ m (s :: ss) τ own = ySs ba dY ⟨aX, [8], 0⟩ m ss τ' own' := by
 rw [ag, h, Ou.aa, ar]
theorem p41 : z2 .pow (.int 10) (.int 41) = .ok (.int (10 ^ 41)) := Cr 10 41
theorem Li : z2 .mul (.int (10 ^ 41)) (.int (10 ^ 41)) = .ok (.int (10 ^ 41 * 10 ^ 41)) := fG (mulOk_of (fI (by decide +kernel)) (fI (by decide +kernel)))
noncomputable def cx (a0 a1 a2 a3 a4 a5 a6 : Int) : T := .lst [.int a0, .int a1, .int a2, .int a3, .int a4, .int a5, .int a6]
noncomputable def sP : S := .set (.nm 3) (.call 0 [(.op .add (.var 2) (.op .mul (.cI 31) (.var 1))), (.lst [(.cI 7), (.cI 7), (.cI 7), (.cI 3), (.cI 7), (.cI 2), (.op .mul (.op .pow (.cI 10) (.cI 41)) (.op .pow (.cI 10) (.cI 41)))])])
theorem AX (k : Nat) (c : Int) : ∃ a0 a1 a2 a3 a4 a5 a6 : Int, (0 ≤ a0 ∧ a0 < 7) ∧ 0 ≤ a1 ∧ 0 ≤ a2 ∧ (0 ≤ a3 ∧ a3 < 3) ∧ 0 ≤ a4 ∧ (0 ≤ a5 ∧ a5 < 2) ∧
   ∀ (m : Nat) (s r3 r4 r5 r6 r7 r8 r9 r10 : Option T), yS ba dY ⟨aX, [8], 0⟩ m sP [s, some (.int (k : Nat)), some (.int c), r3, r4, r5, r6, r7, r8, r9, r10] [] = .ok (.nx [s, some (.int (k : Nat)), some (.int c), some (cx a0 a1 a2 a3 a4 a5 a6), r4, r5, r6, r7, r8, r9, r10] []) := by
 obtain ⟨rs, dg, e⟩ := E9 (c + 31 * k) [7, 7, 7, 3, 7, 2, 10 ^ 41 * 10 ^ 41] (by
   intro b hb
   simp only [List.mem_cons, List.not_mem_nil, or_false] at hb
   rcases hb with rfl | rfl | rfl | rfl | rfl | rfl | rfl <;> decide +kernel) (by decide)
 match rs, dg with
 | [a0, a1, a2, a3, a4, a5, a6], dg =>
   obtain ⟨d0, d1, d2, d3, d4, d5, _⟩ := dg
   refine ⟨a0, a1, a2, a3, a4, a5, a6, d0, d1.1, d2.1, d3, d4.1, d5, fun m s r3 r4 r5 r6 r7 r8 r9 r10 => ?_⟩
   have m31 : z2 .mul (.int 31) (.int (k : Nat)) = .ok (.int (31 * (k : Nat))) := fG (dF (by decide))
   have e : iQ [.int (c + 31 * (k : Nat)), .lst [.int 7, .int 7, .int 7, .int 3, .int 7, .int 2, .int (10 ^ 41 * 10 ^ 41)]] = .ok (.lst [.int a0, .int a1, .int a2, .int a3, .int a4, .int a5, .int a6]) := e
   have sh : ∀ (F : List T → T) (a b c d e f g : T), lj F [a, b, c, d, e, f, g] = .ok (F [a, b, c, d, e, f, g]) := fun _ _ _ _ _ _ _ _ => rfl
   unfold cx sP
   simp only [ae, aK, bO, ke, aC, aj, af, bJ, bZ, cc, D4, cX, aP, aq, Ou.aa, ax, aA, cg, gJ, List.getElem?_cons_zero, List.getElem?_cons_succ, List.set_cons_zero, List.set_cons_succ, List.contains_cons, List.contains_nil, Option.isSome_some, Bool.and_true, Bool.and_false, Bool.or_false, Bool.false_eq_true, if_false, Nat.reduceBEq, Nat.min_def, Nat.lt_irrefl, decide_false, and_true, and_false, m31, p41, Li, oR, oX, e, sh]
noncomputable def sS : List S := [.set (.nm 4) (.op .add (.cI 1) (.ix (.var 3) (.cI 0))), .set (.nm 5) (.op .add (.cI 1) (.op .mod (.ix (.var 3) (.cI 1)) (.var 4))), .set (.nm 6) (.op .add (.cI 1) (.op .mod (.ix (.var 3) (.cI 2)) (.var 4)))]
theorem Bz {a0 a1 a2 : Int} (h0 : 0 ≤ a0 ∧ a0 < 7) (h1 : 0 ≤ a1) (h2 : 0 ≤ a2) : ∃ n r c : Nat, (1 ≤ n ∧ n ≤ 7) ∧ (1 ≤ r ∧ r ≤ n) ∧ (1 ≤ c ∧ c ≤ n) ∧
   ∀ (m : Nat) (s k e r4 r5 r6 r7 r8 r9 r10 : Option T) (a3 a4 a5 a6 : Int) (ss : List S), ySs ba dY ⟨aX, [8], 0⟩ m (sS ++ ss) [s, k, e, some (cx a0 a1 a2 a3 a4 a5 a6), r4, r5, r6, r7, r8, r9, r10] [] = ySs ba dY ⟨aX, [8], 0⟩ m ss [s, k, e, some (cx a0 a1 a2 a3 a4 a5 a6), some (.int (n : Nat)), some (.int (r : Nat)), some (.int (c : Nat)), r7, r8, r9, r10] [] := by
 have g1 := Int.emod_nonneg a1 (show 1 + a0 ≠ 0 by omega)
 have g2 := Int.emod_lt_of_pos a1 (show 0 < 1 + a0 by omega)
 have g3 := Int.emod_nonneg a2 (show 1 + a0 ≠ 0 by omega)
 have g4 := Int.emod_lt_of_pos a2 (show 0 < 1 + a0 by omega)
 refine ⟨(1 + a0).toNat, (1 + a1 % (1 + a0)).toNat, (1 + a2 % (1 + a0)).toNat, by omega, by omega, by omega, fun m s k e r4 r5 r6 r7 r8 r9 r10 a3 a4 a5 a6 ss => ?_⟩
 rw [show (((1 + a0).toNat : Nat) : Int) = 1 + a0 by omega, show (((1 + a1 % (1 + a0)).toNat : Nat) : Int) = 1 + a1 % (1 + a0) by omega, show (((1 + a2 % (1 + a0)).toNat : Nat) : Int) = 1 + a2 % (1 + a0) by omega]
 have d1 : z2 .mod (.int a1) (.int (1 + a0)) = .ok (.int (a1 % (1 + a0))) := gG (by omega)
 have d2 : z2 .mod (.int a2) (.int (1 + a0)) = .ok (.int (a2 % (1 + a0))) := gG (by omega)
 unfold cx sS
 simp only [ae, aK, bO, bq, bJ, ag, g8, yk, ar, aP, aq, Ou.aa, ax, aA, cg, gJ, Bq, Dn, KS, List.getElem?_cons_zero, List.getElem?_cons_succ, List.set_cons_zero, List.set_cons_succ, List.nil_append, List.cons_append, List.contains_cons, List.contains_nil, Option.isSome_some, Bool.and_true, Bool.or_false, Bool.false_eq_true, if_false, Nat.reduceBEq, Nat.min_def, and_true, d1, d2]
theorem A0 {Ψ : FnT} {sl : List E} {xs : List T} {ed : E} {n r c : Nat} {F H D : Nat → Nat → T} {τ : aD} (e4 : yE Ψ (.var 4) τ = .ok (.int (n : Nat))) (e5 : yE Ψ (.var 5) τ = .ok (.int (r : Nat))) (e6 : yE Ψ (.var 6) τ = .ok (.int (c : Nat))) (es : yE Ψ (.lst sl) τ = .ok (.lst xs)) (ed1 : yE Ψ ed τ = .ok (aQ n n D))
   (h29 : Ψ 29 [aW n r c xs] = .ok (aQ r c F)) (h30 : Ψ 30 [aQ n n D, .int (r : Nat), .int (c : Nat)] = .ok (aQ r c H)) (h8 : Ψ 8 [aQ r c F, aQ r c H] = .ok (.bl true)) :
   yE Ψ (.not (.call 8 [(.call 29 [(.tup [(.var 4), (.var 5), (.var 6), .lst sl])]), (.call 30 [ed, (.var 5), (.var 6)])])) τ = .ok (.bl false) := by
 have tp : yE Ψ (.tup [(.var 4), (.var 5), (.var 6), .lst sl]) τ = .ok (aW n r c xs) := by
   rw [ip, af, e4, Ou.aa, af, e5, Ou.aa, af, e6, Ou.aa, af, es, Ou.aa, aj]
   rfl
 have a1 : yE Ψ (.call 29 [(.tup [(.var 4), (.var 5), (.var 6), .lst sl])]) τ = .ok (aQ r c F) := by
   rw [aC, af, tp, Ou.aa, aj, Ou.aa, Ou.aa, h29]
 have a2 : yE Ψ (.call 30 [ed, (.var 5), (.var 6)]) τ = .ok (aQ r c H) := by
   rw [aC, af, ed1, Ou.aa, af, e5, Ou.aa, af, e6, Ou.aa, aj, Ou.aa, Ou.aa, Ou.aa, Ou.aa, h30]
 rw [dz, aC, af, a1, Ou.aa, af, a2, Ou.aa, aj, Ou.aa, Ou.aa, Ou.aa, h8, Ou.aa, dt]
 rfl
theorem FT {Ψ : FnT} {f : Nat} {e : E} {d x : T} {τ : aD} (h : Ψ f [d] = .ok x) (he : yE Ψ e τ = .ok d) : yE Ψ (.call f [e]) τ = .ok x := by
 rw [aC, af, he, Ou.aa, aj, Ou.aa, Ou.aa, h]
noncomputable def s1 : S := .ite (.not (.call 8 [(.call 29 [(.tup [(.var 4), (.var 5), (.var 6), .lst []])]), (.call 30 [.call 5 [.var 4], (.var 5), (.var 6)])])) [.ret (.cB false)] []
theorem xI {m : Nat} {e : E} {a : List S} {τ : aD} {own own' : Own} (he : yE ba e τ = .ok (.bl false)) (hd : dn (gU aX 2 e) own = own') : yS ba dY ⟨aX, [8], 0⟩ m (.ite e a []) τ own = .ok (.nx τ own') := by
 rw [bD, he, Ou.aa, bU, aJ]
 exact congrArg (fun o => Ou.ok (FlT.nx τ o)) hd
theorem w6 {n r c m : Nat} {s k e r3 r7 r8 r9 r10 : Option T} (hn : 1 ≤ n ∧ n ≤ 7) (hr : 1 ≤ r ∧ r ≤ n) (hc : 1 ≤ c ∧ c ≤ n) :
   yS ba dY ⟨aX, [8], 0⟩ m s1 [s, k, e, r3, some (.int (n : Nat)), some (.int (r : Nat)), some (.int (c : Nat)), r7, r8, r9, r10] [] = .ok (.nx [s, k, e, r3, some (.int (n : Nat)), some (.int (r : Nat)), some (.int (c : Nat)), r7, r8, r9, r10] []) := by
 have t := Ac hn hr hc
 have u := yz hn.2
 have q := A8 (F := fun i j => aE (dl i j) 1) hn.2 hr.2 hc.2
 have l : fA [aQ r c fun i j => tel (dl i j) 1, aQ r c fun i j => aE (dl i j) 1] = .ok (.bl true) := yM fun i _ j _ => by rw [tX]; exact zv i j
 rw [← j5] at t
 rw [← mq] at u
 rw [← oK] at q
 rw [← jP] at l
 exact xI (A0 (xs := []) (by rw [ae]; rfl) (by rw [ae]; rfl) (by rw [ae]; rfl) (by rw [ke, aj, Ou.aa, uk]) (FT u (by rw [ae]; rfl)) t q l) (aq _)
end K19
namespace K19
open PySem PySem.Spec L2 Sv
open Ev (D aR aY ai)
noncomputable def s7 : S := .set (.nm 7) (.call 4 [(.ix (.var 3) (.cI 6)), (.ix (.lst [(.cI 0), (.cI 40)]) (.ix (.var 3) (.cI 5)))])
theorem zR {m : Nat} {s k e r4 r5 r6 r7 r8 r9 r10 : Option T} {a0 a1 a2 a3 a4 a5 a6 : Int} (h : 0 ≤ a5 ∧ a5 < 2) : ∃ p q : Int, Low p q ∧ 0 ≤ p ∧ p ≤ 10 ^ 40 ∧ q ≤ 10 ^ 40 ∧
   yS ba dY ⟨aX, [8], 0⟩ m s7 [s, k, e, some (cx a0 a1 a2 a3 a4 a5 a6), r4, r5, r6, r7, r8, r9, r10] [] = .ok (.nx [s, k, e, some (cx a0 a1 a2 a3 a4 a5 a6), r4, r5, r6, some (aE p q), r8, r9, r10] []) := by
 have h2 : ∃ y : Int, (y = 0 ∨ y = 40) ∧ zI (.lst [.int 0, .int 40]) (.int a5) = .ok (.int y) := by
   rcases show a5 = 0 ∨ a5 = 1 by omega with rfl | rfl
   · exact ⟨0, Or.inl rfl, Bq _ _⟩
   · exact ⟨40, Or.inr rfl, Dn _ _ _⟩
 obtain ⟨y, hy, ey⟩ := h2
 obtain ⟨p, q, ew, lo, h0, hp, hq⟩ := AI a6 y hy
 refine ⟨p, q, lo, h0, hp, hq, ?_⟩
 unfold cx s7
 simp only [ae, aK, ke, bq, aC, aj, af, bJ, bZ, cc, lU, cX, aP, aq, fU, Ou.aa, ax, aA, cg, Ky, KZ, List.getElem?_cons_zero, List.getElem?_cons_succ, List.set_cons_zero, List.set_cons_succ, List.contains_cons, List.contains_nil, Option.isSome_some, Bool.and_true, Bool.and_false, Bool.or_false, Bool.false_eq_true, if_false, Nat.reduceBEq, Nat.min_def, Nat.lt_irrefl, decide_false, and_true, and_false, ey, pH, ql, ew]
noncomputable def s8 : S := .set (.nm 8) (.call 5 [(.var 4)])
theorem zz {m n : Nat} {s k e r3 r5 r6 r7 r8 r9 r10 : Option T} {own : Own} (hn : n ≤ 7) (ho : own = [] ∨ own = [(8, 2)]) :
   yS ba dY ⟨aX, [8], 0⟩ m s8 [s, k, e, r3, some (.int (n : Nat)), r5, r6, r7, r8, r9, r10] own = .ok (.nx [s, k, e, r3, some (.int (n : Nat)), r5, r6, r7, some (aQ n n fun i j => aE (dl i j) 1), r9, r10] [(8, 2)]) := by
 have u := yz hn
 rw [← mq] at u
 have c := FT (e := .var 4) (τ := [s, k, e, r3, some (.int (n : Nat)), r5, r6, r7, r8, r9, r10]) u (by rw [ae]; rfl)
 have o : cg ⟨aX, [8], 0⟩ (dn (gU aX 0 (.call 5 [(.var 4)])) own) (.nm 8) (.call 5 [(.var 4)]) (aQ n n fun i j => aE (dl i j) 1) [s, k, e, r3, some (.int (n : Nat)), r5, r6, r7, r8, r9, r10] = [(8, 2)] := by
   rcases ho with rfl | rfl <;> simp only [cX, aq, bW, cg, frg, iT, gts, bY, tgN, List.getElem?_cons_zero, List.getElem?_cons_succ, List.contains_cons, List.contains_nil, Option.isSome_some, Bool.and_true, Bool.and_false, Bool.or_false, Bool.false_eq_true, if_true, if_false, beq_self_eq_true, Nat.reduceBEq, Nat.reduceLT, Nat.min_def, decide_true, and_true, and_false, reduceCtorEq, Nat.reduceLeDiff, lX, v8]
 rw [s8, bJ _ _ _ _ _ _ _ _ (by simp only [bZ, cc, iu, Bool.and_false, Nat.lt_irrefl, decide_false, and_false, lX]), c, Ou.aa]
 show nB _ (cg ⟨aX, [8], 0⟩ (dn (gU aX 0 (.call 5 [(.var 4)])) own) (.nm 8) (.call 5 [(.var 4)]) (aQ n n fun i j => aE (dl i j) 1) [s, k, e, r3, some (.int (n : Nat)), r5, r6, r7, r8, r9, r10]) = _
 rw [o]
 rfl
noncomputable def s9 (d : E) : S := .set (.nm 9) (.op .mod (.ix (.var 3) (.cI 4)) d)
theorem FP {m x : Nat} {d : E} {y : Int} {s k e r4 r5 r6 r7 r8 r9 r10 : Option T} {a0 a1 a2 a3 a4 a5 a6 : Int} (hx : a4 % y = (x : Nat)) (hy : 0 < y) (hd : yE ba d [s, k, e, some (cx a0 a1 a2 a3 a4 a5 a6), r4, r5, r6, r7, r8, r9, r10] = .ok (.int y)) (hg : dn (gU aX 0 (.op .mod (.ix (.var 3) (.cI 4)) d)) [(8, 2)] = [(8, 2)]) :
   yS ba dY ⟨aX, [8], 0⟩ m (s9 d) [s, k, e, some (cx a0 a1 a2 a3 a4 a5 a6), r4, r5, r6, r7, r8, r9, r10] [(8, 2)] = .ok (.nx [s, k, e, some (cx a0 a1 a2 a3 a4 a5 a6), r4, r5, r6, r7, r8, some (.int (x : Nat)), r10] [(8, 2)]) := by
 have m4 : z2 .mod (.int a4) (.int y) = .ok (.int (x : Nat)) := by rw [gG hy, hx]
 have i4 : zI (cx a0 a1 a2 a3 a4 a5 a6) (.int 4) = .ok (.int a4) := KA _ _ _ _ _ _
 have e1 : yE ba (.op .mod (.ix (.var 3) (.cI 4)) d) [s, k, e, some (cx a0 a1 a2 a3 a4 a5 a6), r4, r5, r6, r7, r8, r9, r10] = .ok (.int (x : Nat)) := by
   rw [bO, bq, ae, show ax [s, k, e, some (cx a0 a1 a2 a3 a4 a5 a6), r4, r5, r6, r7, r8, r9, r10] 3 = .ok (cx a0 a1 a2 a3 a4 a5 a6) from rfl, Ou.aa, aK, Ou.aa, i4, Ou.aa, hd, Ou.aa, m4]
 have o : ∀ τ, cg ⟨aX, [8], 0⟩ [(8, 2)] (.nm 9) (.op .mod (.ix (.var 3) (.cI 4)) d) (.int (x : Nat)) τ = [(8, 2)] := fun τ => by simp only [pv, Es, aq, bW, cg, frg, tgN, List.contains_cons, List.contains_nil, Bool.false_and, Bool.and_true, Bool.or_false, Bool.false_eq_true, if_true, if_false, Nat.reduceBEq, Nat.min_def, and_true, false_and, Nat.reduceLeDiff]
 rw [s9, bJ _ _ _ _ _ _ _ _ (by simp only [g8]), e1, Ou.aa]
 show nB _ (cg ⟨aX, [8], 0⟩ (dn (gU aX 0 (.op .mod (.ix (.var 3) (.cI 4)) d)) [(8, 2)]) _ _ _ _) = _
 rw [hg, o]
 rfl
noncomputable def s10 (e : E) : S := .set (.nm 10) (.tup [e, (.var 9), (.var 7)])
theorem step_at {m x : Nat} {d : E} {w : Str} {p q : Int} {s k e r3 r4 r5 r6 r8 r10 : Option T} (hd : yE ba d [s, k, e, r3, r4, r5, r6, some (aE p q), r8, some (.int (x : Nat)), r10] = .ok (.str w)) (hg : dn (gU aX 0 (.tup [d, (.var 9), (.var 7)])) [(8, 2)] = [(8, 2)]) :
   yS ba dY ⟨aX, [8], 0⟩ m (s10 d) [s, k, e, r3, r4, r5, r6, some (aE p q), r8, some (.int (x : Nat)), r10] [(8, 2)] = .ok (.nx [s, k, e, r3, r4, r5, r6, some (aE p q), r8, some (.int (x : Nat)), some (step w x p q)] [(8, 2)]) := by
 have e1 : yE ba (.tup [d, (.var 9), (.var 7)]) [s, k, e, r3, r4, r5, r6, some (aE p q), r8, some (.int (x : Nat)), r10] = .ok (step w x p q) := by
   rw [ip, af, hd, Ou.aa, af, ae, show ax [s, k, e, r3, r4, r5, r6, some (aE p q), r8, some (.int (x : Nat)), r10] 9 = .ok (.int (x : Nat)) from rfl, Ou.aa, af, ae, show ax [s, k, e, r3, r4, r5, r6, some (aE p q), r8, some (.int (x : Nat)), r10] 7 = .ok (aE p q) from rfl, Ou.aa, aj, Ou.aa, Ou.aa, Ou.aa, Ou.aa, Ds]
   rfl
 have o : ∀ τ, cg ⟨aX, [8], 0⟩ [(8, 2)] (.nm 10) (.tup [d, (.var 9), (.var 7)]) (step w x p q) τ = [(8, 2)] := fun τ => by simp only [Fj, aq, bW, cg, frg, tgN, List.contains_cons, List.contains_nil, Bool.false_and, Bool.and_true, Bool.or_false, Bool.false_eq_true, if_true, if_false, Nat.reduceBEq, Nat.min_def, and_true, false_and]
 rw [s10, bJ _ _ _ _ _ _ _ _ (by simp only [Bu]), e1, Ou.aa]
 show nB _ (cg ⟨aX, [8], 0⟩ (dn (gU aX 0 (.tup [d, (.var 9), (.var 7)])) [(8, 2)]) _ _ _ _) = _
 rw [hg, o]
 rfl
end K19
namespace K19
open PySem PySem.Spec L2 Sv
open Ev (D aR aY ai)
noncomputable def Kn : S := .put (.ix (.var 8) (.var 9)) (.var 9) (.var 7)
noncomputable def eC : E := .and (.cmp .gt (.ix (.var 3) (.cI 3)) (.cI 0)) (.cmp .gt (.var 4) (.cI 1))
noncomputable def eX : E := .op .add (.var 9) (.bi .int [(.cmp .eq (.ix (.var 3) (.cI 3)) (.cI 2))])
noncomputable def eY : E := .op .add (.var 9) (.bi .int [(.cmp .eq (.ix (.var 3) (.cI 3)) (.cI 1))])
noncomputable def eW : E := .ix (.lst [(.cS "down"), (.cS "up")]) (.op .sub (.ix (.var 3) (.cI 3)) (.cI 1))
noncomputable def u4 : List S := [s9 (.op .sub (.var 4) (.cI 1)), s8, s10 eW, .put (.ix (.var 8) eX) eY (.var 7)]
noncomputable def sE : S := .ite (.not (.call 8 [(.call 29 [(.tup [(.var 4), (.var 5), (.var 6), .lst [.var 10]])]), (.call 30 [.var 8, (.var 5), (.var 6)])])) [.ret (.cB false)] []
noncomputable def rY : List S := sP :: (sS ++ [s1, s7, s8, s9 (.var 4), s10 (.cS "weigh"), Kn, .ite eC u4 [], sE])
theorem Cj : nO = [.for (.tp [1, 2]) (.enu (.op .add (.lst [(.call 9 [(.var 0), (.cI 0)])]) (.sl (.var 0) (.cI 1) (.cI 20)))) rY, .ret (.cB true)] := rfl
theorem rL {n r c m x y k' : Nat} {w : Str} {p q : Int} {s k e r3 r7 r9 : Option T} (hn : 1 ≤ n ∧ n ≤ 7) (hr : 1 ≤ r ∧ r ≤ n) (hc : 1 ≤ c ∧ c ≤ n) (lo : Low p q) (m1 : aR p q) (t : cn [aW n r c [step w k' p q]] = .ok (aQ r c (due x y (aE p q)))) :
   yS ba dY ⟨aX, [8], 0⟩ m sE [s, k, e, r3, some (.int (n : Nat)), some (.int (r : Nat)), some (.int (c : Nat)), r7, some (aQ n n (due x y (aE p q))), r9, some (step w k' p q)] [(8, 2)] = .ok (.nx [s, k, e, r3, some (.int (n : Nat)), some (.int (r : Nat)), some (.int (c : Nat)), r7, some (aQ n n (due x y (aE p q))), r9, some (step w k' p q)] []) := by
 have qq := A8 (F := due x y (aE p q)) hn.2 hr.2 hc.2
 have l : fA [aQ r c (due x y (aE p q)), aQ r c (due x y (aE p q))] = .ok (.bl true) := yM fun i _ j _ => B2 lo m1 i j
 rw [← j5] at t
 rw [← oK] at qq
 rw [← jP] at l
 refine xI (A0 (xs := [step w k' p q]) (by rw [ae]; rfl) (by rw [ae]; rfl) (by rw [ae]; rfl) ?_ (by rw [ae]; rfl) t qq l) ?_
 · rw [ke, af, ae, show ax [s, k, e, r3, some (.int (n : Nat)), some (.int (r : Nat)), some (.int (c : Nat)), r7, some (aQ n n (due x y (aE p q))), r9, some (step w k' p q)] 10 = .ok (step w k' p q) from rfl, Ou.aa, aj, Ou.aa, Ou.aa, y3]
 · simp only [aq, bW, iT, gts, bY, Bool.and_true, Bool.and_false, Bool.or_false, Bool.or_true, Bool.false_eq_true, if_true, if_false, beq_self_eq_true, Nat.reduceBEq, Nat.reduceLT, decide_true, and_true, and_false, reduceCtorEq, o1, qt, vz]
end K19
namespace K19
open PySem PySem.Spec L2 Sv
open Ev (D aR aY ai)
theorem yK {m n : Nat} {s k e r5 r6 r7 r8 r9 r10 : Option T} {a0 a1 a2 a3 a4 a5 a6 : Int} : yE ba eC [s, k, e, some (cx a0 a1 a2 a3 a4 a5 a6), some (.int (n : Nat)), r5, r6, r7, r8, r9, r10] = .ok (.bl (decide (0 < a3) && decide (1 < ((n : Nat) : Int)))) := by
 unfold eC cx
 by_cases h : 0 < a3
 · simp only [ae, aK, aS, jJ, bq, lb, au, Ou.aa, ax, ib, vj, List.getElem?_cons_zero, List.getElem?_cons_succ, Bool.true_and, decide_true, true_and, h, decide_true]
 · simp only [ae, aK, aS, jJ, bq, w9, au, Ou.aa, ax, ib, vj, List.getElem?_cons_zero, List.getElem?_cons_succ, Bool.false_and, decide_false, false_and, h, decide_false]
theorem FI {x : Nat} {i : Int} {s k e r4 r5 r6 r7 r8 r10 : Option T} {a0 a1 a2 a3 a4 a5 a6 : Int} : yE ba (.op .add (.var 9) (.bi .int [(.cmp .eq (.ix (.var 3) (.cI 3)) (.cI i))])) [s, k, e, some (cx a0 a1 a2 a3 a4 a5 a6), r4, r5, r6, r7, r8, some (.int (x : Nat)), r10] = .ok (.int ((x + (if a3 = i then 1 else 0) : Nat) : Int)) := by
 unfold cx
 by_cases h : a3 = i
 · simp only [ae, aK, bO, aS, bq, dD, aj, af, au, Ou.aa, ax, dq, gJ, vj, iW, List.getElem?_cons_zero, List.getElem?_cons_succ, if_true, decide_true, h, decide_true, iW]
   rfl
 · simp only [ae, aK, bO, aS, bq, dD, aj, af, au, Ou.aa, ax, dq, gJ, vj, iW, List.getElem?_cons_zero, List.getElem?_cons_succ, Bool.false_eq_true, if_false, decide_false, h, decide_false, iW]
   rfl
theorem FR {q : Int} (h0 : 0 ≤ q) (h : q ≤ 10 ^ 40) : q.natAbs < big := fI (Nat.lt_of_le_of_lt (show q.natAbs ≤ 10 ^ 40 by omega) (by decide +kernel))
theorem CJ (ns : List Int) (m k : Nat) (c' : Int) (r1 r2 r3 r4 r5 r6 r7 r8 r9 r10 : Option T) : ∃ s3 s4 s5 s6 s7 s8 s9 s10, eM ba dY ⟨aX, [8], 0⟩ m (.tp [1, 2]) rY (.tup [.int (k : Nat), .int c']) [some (inT ns), r1, r2, r3, r4, r5, r6, r7, r8, r9, r10] [] = .ok (.nx [some (inT ns), some (.int (k : Nat)), some (.int c'), s3, s4, s5, s6, s7, s8, s9, s10] []) := by
 obtain ⟨a0, a1, a2, a3, a4, a5, a6, d0, d1, d2, d3, d4, d5, eP⟩ := AX k c'
 obtain ⟨n, r, c, hn, hr, hc, eS⟩ := Bz d0 d1 d2
 obtain ⟨p, q, lo, hp0, hp, hq, e7⟩ := zR (m := m) (s := some (inT ns)) (k := some (.int (k : Nat))) (e := some (.int c')) (r4 := some (.int (n : Nat))) (r5 := some (.int (r : Nat))) (r6 := some (.int (c : Nat))) (r7 := r7) (r8 := r8) (r9 := r9) (r10 := r10) (a0 := a0) (a1 := a1) (a2 := a2) (a3 := a3) (a4 := a4) (a6 := a6) d5
 have q1 := lo.pos
 have sq : q.natAbs < big := FR (by omega) hq
 have m1 : aR p q := mulOk_of (FR hp0 hp) sq
 have hx := Int.emod_nonneg a4 (show ((n : Nat) : Int) ≠ 0 by omega)
 have hx' := Int.emod_lt_of_pos a4 (show (0 : Int) < ((n : Nat) : Int) by omega)
 obtain ⟨x, ex⟩ : ∃ x : Nat, a4 % ((n : Nat) : Int) = (x : Nat) := ⟨(a4 % ((n : Nat) : Int)).toNat, by omega⟩
 have xn : x < n := by omega
 have t0 : eM ba dY ⟨aX, [8], 0⟩ m (.tp [1, 2]) rY (.tup [.int (k : Nat), .int c']) [some (inT ns), r1, r2, r3, r4, r5, r6, r7, r8, r9, r10] [] = ySs ba dY ⟨aX, [8], 0⟩ m rY [some (inT ns), some (.int (k : Nat)), some (.int c'), r3, r4, r5, r6, r7, r8, r9, r10] [] := by
   rw [fH]
   rfl
 have e9 := FP (m := m) (d := .var 4) (s := some (inT ns)) (k := some (.int (k : Nat))) (e := some (.int c')) (r4 := some (.int (n : Nat))) (r5 := some (.int (r : Nat))) (r6 := some (.int (c : Nat))) (r7 := some (aE p q)) (r8 := some (aQ n n fun i j => aE (dl i j) 1)) (r9 := r9) (r10 := r10) (a0 := a0) (a1 := a1) (a2 := a2) (a3 := a3) (a5 := a5) (a6 := a6) ex (by omega) (by rw [ae]; rfl) (by simp only [aq, bW, iT, gts, Bool.and_true, Bool.and_false, Bool.or_false, Bool.false_eq_true, if_true, if_false, Nat.reduceBEq, Nat.reduceLT, Nat.lt_irrefl, decide_true, decide_false, and_true, and_false])
 have e10 := step_at (m := m) (d := .cS "weigh") (w := "weigh") (x := x) (p := p) (q := q) (s := some (inT ns)) (k := some (.int (k : Nat))) (e := some (.int c')) (r3 := some (cx a0 a1 a2 a3 a4 a5 a6)) (r4 := some (.int (n : Nat))) (r5 := some (.int (r : Nat))) (r6 := some (.int (c : Nat))) (r8 := some (aQ n n fun i j => aE (dl i j) 1)) (r10 := r10) (by rw [km]) (by simp only [aq, bW, iT, gts, bY, Bool.and_true, Bool.and_false, Bool.or_false, Bool.false_eq_true, if_true, if_false, Nat.reduceBEq, Nat.reduceLT, decide_true, and_true, and_false])
 have ep := nW (m := m) (v := 8) (ea := .var 9) (ei := .var 9) (ee := .var 7) (τ := [some (inT ns), some (.int (k : Nat)), some (.int c'), some (cx a0 a1 a2 a3 a4 a5 a6), some (.int (n : Nat)), some (.int (r : Nat)), some (.int (c : Nat)), some (aE p q), some (aQ n n fun i j => aE (dl i j) 1), some (.int (x : Nat)), some (step "weigh" x p q)]) xn xn (by rw [ae]; rfl) rfl (by rw [ae]; rfl) (by rw [ae]; rfl) (own := [(8, 2)]) (by simp only [aq, bW, BI, gts, Bool.and_true, Bool.and_false, Bool.or_false, Bool.false_eq_true, if_true, if_false, Nat.reduceBEq, Nat.reduceLT, Nat.lt_irrefl, decide_true, decide_false, and_true, and_false]) rfl
 rw [t0, rY, ij (eP m _ _ _ _ _ _ _ _ _), eS, ij (w6 hn hr hc), ij e7, ij (zz hn.2 (Or.inl rfl)), ij e9, ij e10, Kn, ij ep]
 by_cases h : 0 < a3 ∧ 1 < ((n : Nat) : Int)
 · have hy := Int.emod_nonneg a4 (show ((n : Nat) : Int) - 1 ≠ 0 by omega)
   have hy' := Int.emod_lt_of_pos a4 (show (0 : Int) < ((n : Nat) : Int) - 1 by omega)
   obtain ⟨y, ey⟩ : ∃ y : Nat, a4 % (((n : Nat) : Int) - 1) = (y : Nat) := ⟨(a4 % (((n : Nat) : Int) - 1)).toNat, by omega⟩
   have yn : y + 1 < n := by omega
   have f9 := FP (m := m) (d := .op .sub (.var 4) (.cI 1)) (s := some (inT ns)) (k := some (.int (k : Nat))) (e := some (.int c')) (r4 := some (.int (n : Nat))) (r5 := some (.int (r : Nat))) (r6 := some (.int (c : Nat))) (r7 := some (aE p q)) (r8 := some (aQ n n (due x x (aE p q)))) (r9 := some (.int (x : Nat))) (r10 := some (step "weigh" x p q)) (a0 := a0) (a1 := a1) (a2 := a2) (a3 := a3) (a5 := a5) (a6 := a6) ey (by omega) (by simp only [ae, aK, bO, Ou.aa, ax, nQ, List.getElem?_cons_zero, List.getElem?_cons_succ]) (by simp only [aq, bW, iT, gts, Bool.and_true, Bool.and_false, Bool.or_false, Bool.false_eq_true, if_true, if_false, Nat.reduceBEq, Nat.reduceLT, Nat.lt_irrefl, decide_true, decide_false, and_true, and_false])
   have key : ∃ (w : Str) (u v : Nat), u < n ∧ v < n ∧ y + (if a3 = 2 then 1 else 0) = u ∧ y + (if a3 = 1 then 1 else 0) = v ∧ zI (.lst [.str "down", .str "up"]) (.int (a3 - 1)) = .ok (.str w) ∧ cn [aW n r c [step w y p q]] = .ok (aQ r c (due u v (aE p q))) := by
     rcases show a3 = 1 ∨ a3 = 2 by omega with rfl | rfl
     · exact ⟨"down", y, y + 1, by omega, yn, rfl, rfl, Bq _ _, wd hn hr hc lo hp0 (Or.inr ⟨Or.inl rfl, yn⟩) sq KI (by omega) yn (by omega) (E6 y p q) (J2 y p q)⟩
     · exact ⟨"up", y + 1, y, yn, by omega, rfl, rfl, Dn _ _ _, wd hn hr hc lo hp0 (Or.inr ⟨Or.inr rfl, yn⟩) sq K0 yn (by omega) (by omega) (EB y p q) (Kw y p q)⟩
   obtain ⟨w, u, v, hu, hv, eu, ev, ew, et⟩ := key
   have f10 := step_at (m := m) (d := eW) (w := w) (x := y) (p := p) (q := q) (s := some (inT ns)) (k := some (.int (k : Nat))) (e := some (.int c')) (r3 := some (cx a0 a1 a2 a3 a4 a5 a6)) (r4 := some (.int (n : Nat))) (r5 := some (.int (r : Nat))) (r6 := some (.int (c : Nat))) (r8 := some (aQ n n fun i j => aE (dl i j) 1)) (r10 := some (step "weigh" x p q)) (by unfold eW cx; simp only [ae, aK, km, bO, ke, bq, aj, af, fU, Ou.aa, ax, nQ, vj, List.getElem?_cons_zero, List.getElem?_cons_succ, ew]) (by unfold eW; simp only [aq, bW, iT, gts, bY, Bool.and_true, Bool.and_false, Bool.or_false, Bool.false_eq_true, if_true, if_false, Nat.reduceBEq, Nat.reduceLT, Nat.lt_irrefl, decide_true, decide_false, and_true, and_false])
   have fx := FI (x := y) (i := 2) (s := some (inT ns)) (k := some (.int (k : Nat))) (e := some (.int c')) (r4 := some (.int (n : Nat))) (r5 := some (.int (r : Nat))) (r6 := some (.int (c : Nat))) (r7 := some (aE p q)) (r8 := some (aQ n n fun i j => aE (dl i j) 1)) (r10 := some (step w y p q)) (a0 := a0) (a1 := a1) (a2 := a2) (a3 := a3) (a4 := a4) (a5 := a5) (a6 := a6)
   have fy := FI (x := y) (i := 1) (s := some (inT ns)) (k := some (.int (k : Nat))) (e := some (.int c')) (r4 := some (.int (n : Nat))) (r5 := some (.int (r : Nat))) (r6 := some (.int (c : Nat))) (r7 := some (aE p q)) (r8 := some (aQ n n fun i j => aE (dl i j) 1)) (r10 := some (step w y p q)) (a0 := a0) (a1 := a1) (a2 := a2) (a3 := a3) (a4 := a4) (a5 := a5) (a6 := a6)
   rw [eu] at fx
   rw [ev] at fy
   have fp := nW (m := m) (v := 8) (ea := eX) (ei := eY) (ee := .var 7) (τ := [some (inT ns), some (.int (k : Nat)), some (.int c'), some (cx a0 a1 a2 a3 a4 a5 a6), some (.int (n : Nat)), some (.int (r : Nat)), some (.int (c : Nat)), some (aE p q), some (aQ n n fun i j => aE (dl i j) 1), some (.int (y : Nat)), some (step w y p q)]) hu hv (by rw [ae]; rfl) rfl fx fy (own := [(8, 2)]) (by unfold eX eY; simp only [aq, bW, BI, gts, bY, Bool.and_true, Bool.and_false, Bool.or_false, Bool.false_eq_true, if_true, if_false, Nat.reduceBEq, Nat.reduceLT, Nat.lt_irrefl, decide_true, decide_false, and_true, and_false]) rfl
   have it : yS ba dY ⟨aX, [8], 0⟩ m (.ite eC u4 []) [some (inT ns), some (.int (k : Nat)), some (.int c'), some (cx a0 a1 a2 a3 a4 a5 a6), some (.int (n : Nat)), some (.int (r : Nat)), some (.int (c : Nat)), some (aE p q), some (aQ n n (due x x (aE p q))), some (.int (x : Nat)), some (step "weigh" x p q)] [(8, 2)] = .ok (.nx [some (inT ns), some (.int (k : Nat)), some (.int c'), some (cx a0 a1 a2 a3 a4 a5 a6), some (.int (n : Nat)), some (.int (r : Nat)), some (.int (c : Nat)), some (aE p q), some (aQ n n (due u v (aE p q))), some (.int (y : Nat)), some (step w y p q)] [(8, 2)]) := by
     have g : dn (gU aX 2 eC) [(8, 2)] = [(8, 2)] := by unfold eC; simp only [aq, bW, iT, gts, Bool.and_true, Bool.and_false, Bool.or_false, Bool.false_eq_true, if_true, if_false, Nat.reduceBEq, Nat.reduceLT, Nat.lt_irrefl, decide_false, and_true, and_false]
     rw [bD, yK (m := m), Ou.aa, decide_eq_true h.1, decide_eq_true h.2, Bool.and_true, fO]
     show ySs ba dY ⟨aX, [8], 0⟩ m u4 _ (dn (gU aX 2 eC) [(8, 2)]) = _
     rw [g, u4, ij f9, ij (zz hn.2 (Or.inr rfl)), ij f10, ij fp, aJ]
     rfl
   exact ⟨_, _, _, _, _, _, _, _, by rw [ij (by exact it), ij (rL hn hr hc lo m1 et), aJ]⟩
 · have it : yS ba dY ⟨aX, [8], 0⟩ m (.ite eC u4 []) [some (inT ns), some (.int (k : Nat)), some (.int c'), some (cx a0 a1 a2 a3 a4 a5 a6), some (.int (n : Nat)), some (.int (r : Nat)), some (.int (c : Nat)), some (aE p q), some (aQ n n (due x x (aE p q))), some (.int (x : Nat)), some (step "weigh" x p q)] [(8, 2)] = .ok (.nx [some (inT ns), some (.int (k : Nat)), some (.int c'), some (cx a0 a1 a2 a3 a4 a5 a6), some (.int (n : Nat)), some (.int (r : Nat)), some (.int (c : Nat)), some (aE p q), some (aQ n n (due x x (aE p q))), some (.int (x : Nat)), some (step "weigh" x p q)] [(8, 2)]) := by
     refine xI ?_ (by unfold eC; simp only [aq, bW, iT, gts, Bool.and_true, Bool.and_false, Bool.or_false, Bool.false_eq_true, if_true, if_false, Nat.reduceBEq, Nat.reduceLT, Nat.lt_irrefl, decide_false, and_true, and_false])
     rw [yK (m := m), show (decide (0 < a3) && decide (1 < ((n : Nat) : Int))) = false by rw [← Bool.decide_and]; exact decide_eq_false h]
   exact ⟨_, _, _, _, _, _, _, _, by rw [ij (by exact it), ij (rL hn hr hc lo m1 (As hn hr hc lo hp0 xn sq)), aJ]⟩
end K19
namespace K19
open PySem PySem.Spec L2 Sv
open Ev (D aR aY ai)
theorem vU (ns : List Int) (m : Nat) : ∀ (cs : List Int) (k : Nat) (r1 r2 r3 r4 r5 r6 r7 r8 r9 r10 : Option T), ∃ s1 s2 s3 s4 s5 s6 s7 s8 s9 s10, eJ (eM ba dY ⟨aX, [8], 0⟩ m (.tp [1, 2]) rY) (jH k (cs.map .int)) [some (inT ns), r1, r2, r3, r4, r5, r6, r7, r8, r9, r10] [] = .ok (.nx [some (inT ns), s1, s2, s3, s4, s5, s6, s7, s8, s9, s10] [])
 | [], k, r1, r2, r3, r4, r5, r6, r7, r8, r9, r10 => ⟨r1, r2, r3, r4, r5, r6, r7, r8, r9, r10, by rw [List.map_nil, jH, d8]⟩
 | c :: cs, k, r1, r2, r3, r4, r5, r6, r7, r8, r9, r10 => by
   obtain ⟨a3, a4, a5, a6, a7, a8, a9, a10, e⟩ := CJ ns m k c r1 r2 r3 r4 r5 r6 r7 r8 r9 r10
   obtain ⟨s1, s2, s3, s4, s5, s6, s7, s8, s9, s10, e'⟩ := vU ns m cs (k + 1) (some (.int (k : Nat))) (some (.int c)) a3 a4 a5 a6 a7 a8 a9 a10
   refine ⟨s1, s2, s3, s4, s5, s6, s7, s8, s9, s10, ?_⟩
   rw [List.map_cons, jH, dI, e, Ou.aa, fE, e']
theorem BA (ns : List Int) (hl : ns.length ≤ 63) : ∃ cs : List Int, yIt ba (.enu (.op .add (.lst [(.call 9 [(.var 0), (.cI 0)])]) (.sl (.var 0) (.cI 1) (.cI 20)))) [some (inT ns), none, none, none, none, none, none, none, none, none, none] = .ok (jH 0 (cs.map .int)) := by
 obtain ⟨c, ec⟩ := Fv ns 0
 refine ⟨c :: (ns.drop (HT.sIx ns.length 0 (some 1))).take (HT.sIx ns.length ns.length (some 20) - HT.sIx ns.length 0 (some 1)), ?_⟩
 have ec : mR [inT ns, .int 0] = .ok (.int c) := ec
 rw [← ua] at ec
 have e1 : yE ba (.lst [(.call 9 [(.var 0), (.cI 0)])]) [some (inT ns), none, none, none, none, none, none, none, none, none, none] = .ok (.lst [.int c]) := by
   rw [ke, af, aC, af, ae, show ax [some (inT ns), none, none, none, none, none, none, none, none, none, none] 0 = .ok (inT ns) from rfl, Ou.aa, af, aK, Ou.aa, aj, Ou.aa, Ou.aa, Ou.aa, ec, Ou.aa, Ou.aa, Ou.aa, y3]
 have e2 : yE ba (.sl (.var 0) (.cI 1) (.cI 20)) [some (inT ns), none, none, none, none, none, none, none, none, none, none] = .ok (.lst (oS (ns.map .int) (some 1) (some 20))) := by
   rw [zG, ae, show ax [some (inT ns), none, none, none, none, none, none, none, none, none, none] 0 = .ok (inT ns) from rfl, Ou.aa, aK, Ou.aa, show mi (.cI 1) (.int 1) = some (some 1) from rfl, bf, aK, Ou.aa, show mi (.cI 20) (.int 20) = some (some 20) from rfl, bf]
   rfl
 have l : (oS (ns.map T.int) (some 1) (some 20)).length ≤ 63 := by
   unfold oS
   rw [List.length_take, List.length_drop, List.length_map]
   omega
 have e3 : z2 .add (.lst [.int c]) (.lst (oS (ns.map .int) (some 1) (some 20))) = .ok (.lst (.int c :: oS (ns.map .int) (some 1) (some 20))) := by
   rw [z2, if_pos (by rw [List.length_singleton]; exact Nat.lt_of_le_of_lt (Nat.add_le_add_left l 1) (by decide))]
   rfl
 rw [yR, bO, e1, Ou.aa, e2, Ou.aa, e3, Ou.aa, FQ, oS, List.map_cons, List.map_take, List.map_drop, List.length_map]
theorem Ga (ns : List Int) (hl : ns.length ≤ 63) : Cc [inT ns] = .ok (.bl true) := by
 rw [BX]
 obtain ⟨cs, hi⟩ := BA ns hl
 obtain ⟨s1, s2, s3, s4, s5, s6, s7, s8, s9, s10, e⟩ := vU ns (aV [inT ns]) cs 0 none none none none none none none none none none
 rw [Cj, ag, j3, hi, Ou.aa, aq, e, Ou.gI, Ou.aa, ar, ag, aI, ic, Ou.aa, aN, Ou.aa, aw, cU]
end K19
namespace K19
open PySem PySem.Spec PyProof.Rows L2 Sv
noncomputable def top (i : Nat) : Stmt := PySem.Challenge.pw_signsmooth_k19_one_step.main.body.getD i (.Pass ⟨0, 0, 0, 0⟩)
noncomputable abbrev dG : Stmt := top 32
theorem tO : aF ["_law_cell_here", "_law_bases", "_law_row", "_law_base", "_law_k", "_law_mixed"] ["_law_cell_here", "_law_bases"] (ab dG) := ⟨rfl, rfl, rfl, by decide +kernel, rfl, by decide +kernel, by decide +kernel⟩
theorem sO : cK { sc := ab dG, N := ["_law_cell_here", "_law_bases", "_law_row", "_law_base", "_law_k", "_law_mixed"], F := lS0, cap := [], cst := [("MOST", 7), ("MOST_STEPS", 400)] } 60 (ah dG) = some hU := by with_unfolding_all rfl
noncomputable abbrev dE : Stmt := top 33
theorem sx : aF ["_law_one", "_law_other", "_law_rest"] ["_law_one", "_law_other"] (ab dE) := ⟨rfl, rfl, rfl, by decide +kernel, rfl, by decide +kernel, by decide +kernel⟩
theorem sv : cK { sc := ab dE, N := ["_law_one", "_law_other", "_law_rest"], F := lS1, cap := [], cst := [("MOST", 7), ("MOST_STEPS", 400)] } 60 (ah dE) = some gR := by with_unfolding_all rfl
noncomputable abbrev iq : Stmt := top 34
theorem Ar : aF ["_law_top", "_law_bottom", "_law_common"] ["_law_top", "_law_bottom"] (ab iq) := ⟨rfl, rfl, rfl, by decide +kernel, rfl, by decide +kernel, by decide +kernel⟩
theorem zP : cK { sc := ab iq, N := ["_law_top", "_law_bottom", "_law_common"], F := lS2, cap := [], cst := [("MOST", 7), ("MOST_STEPS", 400)] } 60 (ah iq) = some kn := by with_unfolding_all rfl
noncomputable abbrev jD : Stmt := top 30
theorem BW : aF ["_law_many", "_law_number", "_law_k"] ["_law_many"] (ab jD) := ⟨rfl, rfl, rfl, by decide +kernel, rfl, by decide +kernel, by decide +kernel⟩
theorem CM : cK { sc := ab jD, N := ["_law_many", "_law_number", "_law_k"], F := lS3, cap := [], cst := [("MOST", 7), ("MOST_STEPS", 400)] } 60 (ah jD) = some jh := by with_unfolding_all rfl
noncomputable abbrev eO : Stmt := top 38
theorem vD : aF ["_law_part", "_law_figures", "_law_ten_here"] ["_law_part", "_law_figures"] (ab eO) := ⟨rfl, rfl, rfl, by decide +kernel, rfl, by decide +kernel, by decide +kernel⟩
theorem vJ : cK { sc := ab eO, N := ["_law_part", "_law_figures", "_law_ten_here"], F := lS4, cap := [], cst := [("MOST", 7), ("MOST_STEPS", 400)] } 60 (ah eO) = some dQ := by with_unfolding_all rfl
noncomputable abbrev ie : Stmt := top 39
theorem AM : aF ["_law_tracks"] ["_law_tracks"] (ab ie) := ⟨rfl, rfl, rfl, by decide +kernel, rfl, by decide +kernel, by decide +kernel⟩
theorem AB : cK { sc := ab ie, N := ["_law_tracks"], F := lS5, cap := [], cst := [("MOST", 7), ("MOST_STEPS", 400)] } 60 (ah ie) = some hX := by with_unfolding_all rfl
noncomputable abbrev gb : Stmt := top 35
theorem yd : aF ["_law_thing"] ["_law_thing"] (ab gb) := ⟨rfl, rfl, rfl, by decide +kernel, rfl, by decide +kernel, by decide +kernel⟩
theorem yh : cK { sc := ab gb, N := ["_law_thing"], F := lS6, cap := [], cst := [("MOST", 7), ("MOST_STEPS", 400)] } 60 (ah gb) = some jm := by with_unfolding_all rfl
noncomputable abbrev cv : Stmt := top 36
theorem qh : aF ["_law_found", "_law_top", "_law_bottom"] ["_law_found", "_law_top", "_law_bottom"] (ab cv) := ⟨rfl, rfl, rfl, by decide +kernel, rfl, by decide +kernel, by decide +kernel⟩
theorem pS : cK { sc := ab cv, N := ["_law_found", "_law_top", "_law_bottom"], F := lS7, cap := [], cst := [("MOST", 7), ("MOST_STEPS", 400)] } 60 (ah cv) = some cC := by with_unfolding_all rfl
noncomputable abbrev dM : Stmt := top 37
theorem tm : aF ["_law_found", "_law_due", "_law_row", "_law_other", "_law_one", "_law_two"] ["_law_found", "_law_due"] (ab dM) := ⟨rfl, rfl, rfl, by decide +kernel, rfl, by decide +kernel, by decide +kernel⟩
theorem uj : cK { sc := ab dM, N := ["_law_found", "_law_due", "_law_row", "_law_other", "_law_one", "_law_two"], F := lS8, cap := [], cst := [("MOST", 7), ("MOST_STEPS", 400)] } 60 (ah dM) = some ez := by with_unfolding_all rfl
noncomputable abbrev iz : Stmt := top 31
theorem zK : aF ["_law_script", "_law_k"] ["_law_script", "_law_k"] (ab iz) := ⟨rfl, rfl, rfl, by decide +kernel, rfl, by decide +kernel, by decide +kernel⟩
theorem AQ : cK { sc := ab iz, N := ["_law_script", "_law_k"], F := lS9, cap := [], cst := [("MOST", 7), ("MOST_STEPS", 400)] } 60 (ah iz) = some kz := by with_unfolding_all rfl
noncomputable abbrev eU : Stmt := top 5
theorem uA : aF ["thing"] ["thing"] (ab eU) := ⟨rfl, rfl, rfl, by decide +kernel, rfl, by decide +kernel, by decide +kernel⟩
theorem vw : cK { sc := ab eU, N := ["thing"], F := GF, cap := [], cst := [("MOST", 7), ("MOST_STEPS", 400)] } 60 (ah eU) = some iP := by with_unfolding_all rfl
noncomputable abbrev cT : Stmt := top 6
theorem rk : aF ["thing", "least", "most"] ["thing", "least", "most"] (ab cT) := ⟨rfl, rfl, rfl, by decide +kernel, rfl, by decide +kernel, by decide +kernel⟩
theorem qU : cK { sc := ab cT, N := ["thing", "least", "most"], F := Gv, cap := [], cst := [("MOST", 7), ("MOST_STEPS", 400)] } 60 (ah cT) = some de := by with_unfolding_all rfl
noncomputable abbrev bG : Stmt := top 8
theorem mU : aF ["one", "other", "greater", "lesser", "rest"] ["one", "other"] (ab bG) := ⟨rfl, rfl, rfl, by decide +kernel, rfl, by decide +kernel, by decide +kernel⟩
theorem mn : cK { sc := ab bG, N := ["one", "other", "greater", "lesser", "rest"], F := Gx, cap := [], cst := [("MOST", 7), ("MOST_STEPS", 400)] } 60 (ah bG) = some dC := by with_unfolding_all rfl
noncomputable abbrev cu : Stmt := top 7
theorem qe : aF ["thing"] ["thing"] (ab cu) := ⟨rfl, rfl, rfl, by decide +kernel, rfl, by decide +kernel, by decide +kernel⟩
theorem qf : cK { sc := ab cu, N := ["thing"], F := Hq, cap := [], cst := [("MOST", 7), ("MOST_STEPS", 400)] } 60 (ah cu) = some fQ := by with_unfolding_all rfl
noncomputable abbrev dJ : Stmt := top 18
theorem tK : aF ["thing"] ["thing"] (ab dJ) := ⟨rfl, rfl, rfl, by decide +kernel, rfl, by decide +kernel, by decide +kernel⟩
theorem uh : cK { sc := ab dJ, N := ["thing"], F := GG, cap := [], cst := [("MOST", 7), ("MOST_STEPS", 400)] } 60 (ah dJ) = some d9 := by with_unfolding_all rfl
noncomputable abbrev fY : Stmt := top 19
theorem xJ : aF ["thing", "tracks"] ["thing", "tracks"] (ab fY) := ⟨rfl, rfl, rfl, by decide +kernel, rfl, by decide +kernel, by decide +kernel⟩
theorem wR : cK { sc := ab fY, N := ["thing", "tracks"], F := HD, cap := [], cst := [("MOST", 7), ("MOST_STEPS", 400)] } 60 (ah fY) = some dZ := by with_unfolding_all rfl
noncomputable abbrev dS : Stmt := top 20
theorem sI : aF ["thing"] ["thing"] (ab dS) := ⟨rfl, rfl, rfl, by decide +kernel, rfl, by decide +kernel, by decide +kernel⟩
theorem sH : cK { sc := ab dS, N := ["thing"], F := Gn, cap := [], cst := [("MOST", 7), ("MOST_STEPS", 400)] } 60 (ah dS) = some eo := by with_unfolding_all rfl
noncomputable abbrev cw : Stmt := top 21
theorem pD : aF ["thing"] ["thing"] (ab cw) := ⟨rfl, rfl, rfl, by decide +kernel, rfl, by decide +kernel, by decide +kernel⟩
theorem qc : cK { sc := ab cw, N := ["thing"], F := Hu, cap := [], cst := [("MOST", 7), ("MOST_STEPS", 400)] } 60 (ah cw) = some cF := by with_unfolding_all rfl
noncomputable abbrev dO : Stmt := top 15
theorem sG : aF ["table", "j"] ["table", "j"] (ab dO) := ⟨rfl, rfl, rfl, by decide +kernel, rfl, by decide +kernel, by decide +kernel⟩
theorem sN : cK { sc := ab dO, N := ["table", "j"], F := FX, cap := [], cst := [("MOST", 7), ("MOST_STEPS", 400)] } 60 (ah dO) = some ef := by with_unfolding_all rfl
noncomputable abbrev cP : Stmt := top 14
theorem rg : aF ["table"] ["table"] (ab cP) := ⟨rfl, rfl, rfl, by decide +kernel, rfl, by decide +kernel, by decide +kernel⟩
theorem rl : cK { sc := ab cP, N := ["table"], F := Ju, cap := [], cst := [("MOST", 7), ("MOST_STEPS", 400)] } 60 (ah cP) = some dk := by with_unfolding_all rfl
noncomputable abbrev cV : Stmt := top 25
theorem qF : aF ["track", "rows"] ["track", "rows"] (ab cV) := ⟨rfl, rfl, rfl, by decide +kernel, rfl, by decide +kernel, by decide +kernel⟩
theorem qQ : cK { sc := ab cV, N := ["track", "rows"], F := Jp, cap := [], cst := [("MOST", 7), ("MOST_STEPS", 400)] } 60 (ah cV) = some di := by with_unfolding_all rfl
noncomputable abbrev bC : Stmt := top 9
theorem lQ : aF ["number", "others", "found", "other"] ["number", "others"] (ab bC) := ⟨rfl, rfl, rfl, by decide +kernel, rfl, by decide +kernel, by decide +kernel⟩
theorem lN : cK { sc := ab bC, N := ["number", "others", "found", "other"], F := Ig, cap := [], cst := [("MOST", 7), ("MOST_STEPS", 400)] } 60 (ah bC) = some bK := by with_unfolding_all rfl
noncomputable abbrev bT : Stmt := top 27
theorem oZ : aF ["sums", "weight", "above", "below", "factor"] ["sums", "weight"] (ab bT) := ⟨rfl, rfl, rfl, by decide +kernel, rfl, by decide +kernel, by decide +kernel⟩
theorem oY : cK { sc := ab bT, N := ["sums", "weight", "above", "below", "factor"], F := Je, cap := [], cst := [("MOST", 7), ("MOST_STEPS", 400)] } 60 (ah bT) = some cf := by with_unfolding_all rfl
noncomputable abbrev cQ : Stmt := top 28
theorem qZ : aF ["one", "other", "shared", "one_factor", "other_factor", "tops", "divisor"] ["one", "other"] (ab cQ) := ⟨rfl, rfl, rfl, by decide +kernel, rfl, by decide +kernel, by decide +kernel⟩
theorem qH : cK { sc := ab cQ, N := ["one", "other", "shared", "one_factor", "other_factor", "tops", "divisor"], F := GI, cap := [], cst := [("MOST", 7), ("MOST_STEPS", 400)] } 60 (ah cQ) = some dm := by with_unfolding_all rfl
noncomputable abbrev bu : Stmt := top 10
theorem ll : aF ["top", "bottom", "divisor"] ["top", "bottom"] (ab bu) := ⟨rfl, rfl, rfl, by decide +kernel, rfl, by decide +kernel, by decide +kernel⟩
theorem lz : cK { sc := ab bu, N := ["top", "bottom", "divisor"], F := JI, cap := [], cst := [("MOST", 7), ("MOST_STEPS", 400)] } 60 (ah bu) = some bB := by with_unfolding_all rfl
noncomputable abbrev eT : Stmt := top 11
theorem u9 : aF ["top", "bottom"] ["top", "bottom"] (ab eT) := ⟨rfl, rfl, rfl, by decide +kernel, rfl, by decide +kernel, by decide +kernel⟩
theorem uH : cK { sc := ab eT, N := ["top", "bottom"], F := IV, cap := [], cst := [("MOST", 7), ("MOST_STEPS", 400)] } 60 (ah eT) = some fj := by with_unfolding_all rfl
noncomputable abbrev dU : Stmt := top 26
theorem tG : aF ["sums"] ["sums"] (ab dU) := ⟨rfl, rfl, rfl, by decide +kernel, rfl, by decide +kernel, by decide +kernel⟩
theorem sA : cK { sc := ab dU, N := ["sums"], F := Gz, cap := [], cst := [("MOST", 7), ("MOST_STEPS", 400)] } 60 (ah dU) = some el := by with_unfolding_all rfl
noncomputable abbrev eV : Stmt := top 23
theorem uK : aF ["step"] ["step"] (ab eV) := ⟨rfl, rfl, rfl, by decide +kernel, rfl, by decide +kernel, by decide +kernel⟩
theorem v7 : cK { sc := ab eV, N := ["step"], F := Jq, cap := [], cst := [("MOST", 7), ("MOST_STEPS", 400)] } 60 (ah eV) = some dX := by with_unfolding_all rfl
noncomputable abbrev cO : Stmt := top 22
theorem qS : aF ["step"] ["step"] (ab cO) := ⟨rfl, rfl, rfl, by decide +kernel, rfl, by decide +kernel, by decide +kernel⟩
theorem qK : cK { sc := ab cO, N := ["step"], F := Hr, cap := [], cst := [("MOST", 7), ("MOST_STEPS", 400)] } 60 (ah cO) = some cm := by with_unfolding_all rfl
noncomputable abbrev eZ : Stmt := top 24
theorem wJ : aF ["ladder", "tracks", "step", "carried"] ["ladder"] (ab eZ) := ⟨rfl, rfl, rfl, by decide +kernel, rfl, by decide +kernel, by decide +kernel⟩
theorem uS : cK { sc := ab eZ, N := ["ladder", "tracks", "step", "carried"], F := GR, cap := [], cst := [("MOST", 7), ("MOST_STEPS", 400)] } 60 (ah eZ) = some ff := by with_unfolding_all rfl
noncomputable abbrev ju : Stmt := top 40
theorem Cv : aF ["_law_lines", "_law_rows", "_law_columns"] ["_law_lines", "_law_rows", "_law_columns"] (ab ju) := ⟨rfl, rfl, rfl, by decide +kernel, rfl, by decide +kernel, by decide +kernel⟩
theorem Bp : cK { sc := ab ju, N := ["_law_lines", "_law_rows", "_law_columns"], F := Ho, cap := [], cst := [("MOST", 7), ("MOST_STEPS", 400)] } 60 (ah ju) = some je := by with_unfolding_all rfl
noncomputable abbrev kQ : Stmt := top 41
theorem HI : aF ["_law_script", "_law_k", "_law_cell_here", "_law_parts", "_law_tracks", "_law_rows", "_law_columns", "_law_weight_here", "_law_lines", "_law_at", "_law_step"] ["_law_script"] (ab kQ) := ⟨rfl, rfl, rfl, by decide +kernel, rfl, by decide +kernel, by decide +kernel⟩
theorem Hs : cK { sc := ab kQ, N := ["_law_script", "_law_k", "_law_cell_here", "_law_parts", "_law_tracks", "_law_rows", "_law_columns", "_law_weight_here", "_law_lines", "_law_at", "_law_step"], F := JT, cap := [], cst := [("MOST", 7), ("MOST_STEPS", 400)] } 60 (ah kQ) = some nO := by with_unfolding_all rfl
end K19
namespace K19
open PySem PySem.Spec PyProof.Rows L2 Sv
set_option maxHeartbeats 0 in
theorem all_mk {l : PySem.W.OpenLaw} {w : World} {K : PySem.W.Frag} {h : Heap} {mg : Str → Option Value} {fa : Addr} (X : K.In h) (G : h.Ns mainGlobals mg) (hfa : mg "law" = some (.ref fa))
   {f0 : Addr} {od0 an0 : Option Addr} {sl0 : Array (Option Value)} {oc0 kV0 dc0 pm0 cd0 ct0 : Value}
   {f1 : Addr} {od1 an1 : Option Addr} {sl1 : Array (Option Value)} {oc1 kV1 dc1 pm1 cd1 ct1 : Value}
   {f2 : Addr} {od2 an2 : Option Addr} {sl2 : Array (Option Value)} {oc2 kV2 dc2 pm2 cd2 ct2 : Value}
   {f3 : Addr} {od3 an3 : Option Addr} {sl3 : Array (Option Value)} {oc3 kV3 dc3 pm3 cd3 ct3 : Value}
   {f4 : Addr} {od4 an4 : Option Addr} {sl4 : Array (Option Value)} {oc4 kV4 dc4 pm4 cd4 ct4 : Value}
   {f5 : Addr} {od5 an5 : Option Addr} {sl5 : Array (Option Value)} {oc5 kV5 dc5 pm5 cd5 ct5 : Value}
   {f6 : Addr} {od6 an6 : Option Addr} {sl6 : Array (Option Value)} {oc6 kV6 dc6 pm6 cd6 ct6 : Value}
   {f7 : Addr} {od7 an7 : Option Addr} {sl7 : Array (Option Value)} {oc7 kV7 dc7 pm7 cd7 ct7 : Value}
   {f8 : Addr} {od8 an8 : Option Addr} {sl8 : Array (Option Value)} {oc8 kV8 dc8 pm8 cd8 ct8 : Value}
   {f9 : Addr} {od9 an9 : Option Addr} {sl9 : Array (Option Value)} {oc9 kV9 dc9 pm9 cd9 ct9 : Value}
   {f10 : Addr} {od10 an10 : Option Addr} {sl10 : Array (Option Value)} {oc10 kV10 dc10 pm10 cd10 ct10 : Value}
   {f11 : Addr} {od11 an11 : Option Addr} {sl11 : Array (Option Value)} {oc11 kV11 dc11 pm11 cd11 ct11 : Value}
   {f12 : Addr} {od12 an12 : Option Addr} {sl12 : Array (Option Value)} {oc12 kV12 dc12 pm12 cd12 ct12 : Value}
   {f13 : Addr} {od13 an13 : Option Addr} {sl13 : Array (Option Value)} {oc13 kV13 dc13 pm13 cd13 ct13 : Value}
   {f14 : Addr} {od14 an14 : Option Addr} {sl14 : Array (Option Value)} {oc14 kV14 dc14 pm14 cd14 ct14 : Value}
   {f15 : Addr} {od15 an15 : Option Addr} {sl15 : Array (Option Value)} {oc15 kV15 dc15 pm15 cd15 ct15 : Value}
   {f16 : Addr} {od16 an16 : Option Addr} {sl16 : Array (Option Value)} {oc16 kV16 dc16 pm16 cd16 ct16 : Value}
   {f17 : Addr} {od17 an17 : Option Addr} {sl17 : Array (Option Value)} {oc17 kV17 dc17 pm17 cd17 ct17 : Value}
   {f18 : Addr} {od18 an18 : Option Addr} {sl18 : Array (Option Value)} {oc18 kV18 dc18 pm18 cd18 ct18 : Value}
   {f19 : Addr} {od19 an19 : Option Addr} {sl19 : Array (Option Value)} {oc19 kV19 dc19 pm19 cd19 ct19 : Value}
   {f20 : Addr} {od20 an20 : Option Addr} {sl20 : Array (Option Value)} {oc20 kV20 dc20 pm20 cd20 ct20 : Value}
   {f21 : Addr} {od21 an21 : Option Addr} {sl21 : Array (Option Value)} {oc21 kV21 dc21 pm21 cd21 ct21 : Value}
   {f22 : Addr} {od22 an22 : Option Addr} {sl22 : Array (Option Value)} {oc22 kV22 dc22 pm22 cd22 ct22 : Value}
   {f23 : Addr} {od23 an23 : Option Addr} {sl23 : Array (Option Value)} {oc23 kV23 dc23 pm23 cd23 ct23 : Value}
   {f24 : Addr} {od24 an24 : Option Addr} {sl24 : Array (Option Value)} {oc24 kV24 dc24 pm24 cd24 ct24 : Value}
   {f25 : Addr} {od25 an25 : Option Addr} {sl25 : Array (Option Value)} {oc25 kV25 dc25 pm25 cd25 ct25 : Value}
   {f26 : Addr} {od26 an26 : Option Addr} {sl26 : Array (Option Value)} {oc26 kV26 dc26 pm26 cd26 ct26 : Value}
   {f27 : Addr} {od27 an27 : Option Addr} {sl27 : Array (Option Value)} {oc27 kV27 dc27 pm27 cd27 ct27 : Value}
   {f28 : Addr} {od28 an28 : Option Addr} {sl28 : Array (Option Value)} {oc28 kV28 dc28 pm28 cd28 ct28 : Value}
   {f29 : Addr} {od29 an29 : Option Addr} {sl29 : Array (Option Value)} {oc29 kV29 dc29 pm29 cd29 ct29 : Value}
   {f30 : Addr} {od30 an30 : Option Addr} {sl30 : Array (Option Value)} {oc30 kV30 dc30 pm30 cd30 ct30 : Value}
   {f31 : Addr} {od31 an31 : Option Addr} {sl31 : Array (Option Value)} {oc31 kV31 dc31 pm31 cd31 ct31 : Value}
   {t0 : Tok}
   {t1 : Tok}
   {T25 : Addr} {td25 : Option Addr} {tl25 : Array (Option Value)} {tc25 : Value} {tt25 : Tok} {tn25 : Nat}
   (a0 : PySem.W.nsIn K mainGlobals "_law_numbers" = some (some (.ref f0))) (l0 : K.lookup f0 = some ⟨oc0, od0, .func (PySem.W.fnOf "_law_numbers" "_law_numbers" (aG dG) (ah dG) (ab dG) .none kV0 dc0 pm0 an0 cd0 ct0), sl0⟩) (c0 : PySem.W.codeIn K cd0 "_law_numbers" = true) (k0 : PySem.W.keepIn K (.ref f0) = true)
   (a1 : PySem.W.nsIn K mainGlobals "_law_divisor" = some (some (.ref f1))) (l1 : K.lookup f1 = some ⟨oc1, od1, .func (PySem.W.fnOf "_law_divisor" "_law_divisor" (aG dE) (ah dE) (ab dE) .none kV1 dc1 pm1 an1 cd1 ct1), sl1⟩) (c1 : PySem.W.codeIn K cd1 "_law_divisor" = true) (k1 : PySem.W.keepIn K (.ref f1) = true)
   (a2 : PySem.W.nsIn K mainGlobals "_law_made" = some (some (.ref f2))) (l2 : K.lookup f2 = some ⟨oc2, od2, .func (PySem.W.fnOf "_law_made" "_law_made" (aG iq) (ah iq) (ab iq) .none kV2 dc2 pm2 an2 cd2 ct2), sl2⟩) (c2 : PySem.W.codeIn K cd2 "_law_made" = true) (k2 : PySem.W.keepIn K (.ref f2) = true)
   (a3 : PySem.W.nsIn K mainGlobals "_law_ten" = some (some (.ref f3))) (l3 : K.lookup f3 = some ⟨oc3, od3, .func (PySem.W.fnOf "_law_ten" "_law_ten" (aG jD) (ah jD) (ab jD) .none kV3 dc3 pm3 an3 cd3 ct3), sl3⟩) (c3 : PySem.W.codeIn K cd3 "_law_ten" = true) (k3 : PySem.W.keepIn K (.ref f3) = true)
   (a4 : PySem.W.nsIn K mainGlobals "_law_weight" = some (some (.ref f4))) (l4 : K.lookup f4 = some ⟨oc4, od4, .func (PySem.W.fnOf "_law_weight" "_law_weight" (aG eO) (ah eO) (ab eO) .none kV4 dc4 pm4 an4 cd4 ct4), sl4⟩) (c4 : PySem.W.codeIn K cd4 "_law_weight" = true) (k4 : PySem.W.keepIn K (.ref f4) = true)
   (a5 : PySem.W.nsIn K mainGlobals "_law_unit" = some (some (.ref f5))) (l5 : K.lookup f5 = some ⟨oc5, od5, .func (PySem.W.fnOf "_law_unit" "_law_unit" (aG ie) (ah ie) (ab ie) .none kV5 dc5 pm5 an5 cd5 ct5), sl5⟩) (c5 : PySem.W.codeIn K cd5 "_law_unit" = true) (k5 : PySem.W.keepIn K (.ref f5) = true)
   (a6 : PySem.W.nsIn K mainGlobals "_law_whole" = some (some (.ref f6))) (l6 : K.lookup f6 = some ⟨oc6, od6, .func (PySem.W.fnOf "_law_whole" "_law_whole" (aG gb) (ah gb) (ab gb) .none kV6 dc6 pm6 an6 cd6 ct6), sl6⟩) (c6 : PySem.W.codeIn K cd6 "_law_whole" = true) (k6 : PySem.W.keepIn K (.ref f6) = true)
   (a7 : PySem.W.nsIn K mainGlobals "_law_is_number" = some (some (.ref f7))) (l7 : K.lookup f7 = some ⟨oc7, od7, .func (PySem.W.fnOf "_law_is_number" "_law_is_number" (aG cv) (ah cv) (ab cv) .none kV7 dc7 pm7 an7 cd7 ct7), sl7⟩) (c7 : PySem.W.codeIn K cd7 "_law_is_number" = true) (k7 : PySem.W.keepIn K (.ref f7) = true)
   (a8 : PySem.W.nsIn K mainGlobals "_law_is_like" = some (some (.ref f8))) (l8 : K.lookup f8 = some ⟨oc8, od8, .func (PySem.W.fnOf "_law_is_like" "_law_is_like" (aG dM) (ah dM) (ab dM) .none kV8 dc8 pm8 an8 cd8 ct8), sl8⟩) (c8 : PySem.W.codeIn K cd8 "_law_is_like" = true) (k8 : PySem.W.keepIn K (.ref f8) = true)
   (a9 : PySem.W.nsIn K mainGlobals "_law_cell" = some (some (.ref f9))) (l9 : K.lookup f9 = some ⟨oc9, od9, .func (PySem.W.fnOf "_law_cell" "_law_cell" (aG iz) (ah iz) (ab iz) .none kV9 dc9 pm9 an9 cd9 ct9), sl9⟩) (c9 : PySem.W.codeIn K cd9 "_law_cell" = true) (k9 : PySem.W.keepIn K (.ref f9) = true)
   (a10 : PySem.W.nsIn K mainGlobals "is_whole" = some (some (.ref f10))) (l10 : K.lookup f10 = some ⟨oc10, od10, .func (PySem.W.fnOf "is_whole" "is_whole" (aG eU) (ah eU) (ab eU) .none kV10 dc10 pm10 an10 cd10 ct10), sl10⟩) (c10 : PySem.W.codeIn K cd10 "is_whole" = true) (k10 : PySem.W.keepIn K (.ref f10) = true)
   (a11 : PySem.W.nsIn K mainGlobals "is_between" = some (some (.ref f11))) (l11 : K.lookup f11 = some ⟨oc11, od11, .func (PySem.W.fnOf "is_between" "is_between" (aG cT) (ah cT) (ab cT) .none kV11 dc11 pm11 an11 cd11 ct11), sl11⟩) (c11 : PySem.W.codeIn K cd11 "is_between" = true) (k11 : PySem.W.keepIn K (.ref f11) = true)
   (a12 : PySem.W.nsIn K mainGlobals "common_divisor" = some (some (.ref f12))) (l12 : K.lookup f12 = some ⟨oc12, od12, .func (PySem.W.fnOf "common_divisor" "common_divisor" (aG bG) (ah bG) (ab bG) .none kV12 dc12 pm12 an12 cd12 ct12), sl12⟩) (c12 : PySem.W.codeIn K cd12 "common_divisor" = true) (k12 : PySem.W.keepIn K (.ref f12) = true)
   (a13 : PySem.W.nsIn K mainGlobals "is_fraction" = some (some (.ref f13))) (l13 : K.lookup f13 = some ⟨oc13, od13, .func (PySem.W.fnOf "is_fraction" "is_fraction" (aG cu) (ah cu) (ab cu) .none kV13 dc13 pm13 an13 cd13 ct13), sl13⟩) (c13 : PySem.W.codeIn K cd13 "is_fraction" = true) (k13 : PySem.W.keepIn K (.ref f13) = true)
   (a14 : PySem.W.nsIn K mainGlobals "is_weight" = some (some (.ref f14))) (l14 : K.lookup f14 = some ⟨oc14, od14, .func (PySem.W.fnOf "is_weight" "is_weight" (aG dJ) (ah dJ) (ab dJ) .none kV14 dc14 pm14 an14 cd14 ct14), sl14⟩) (c14 : PySem.W.codeIn K cd14 "is_weight" = true) (k14 : PySem.W.keepIn K (.ref f14) = true)
   (a15 : PySem.W.nsIn K mainGlobals "is_step" = some (some (.ref f15))) (l15 : K.lookup f15 = some ⟨oc15, od15, .func (PySem.W.fnOf "is_step" "is_step" (aG fY) (ah fY) (ab fY) .none kV15 dc15 pm15 an15 cd15 ct15), sl15⟩) (c15 : PySem.W.codeIn K cd15 "is_step" = true) (k15 : PySem.W.keepIn K (.ref f15) = true)
   (a16 : PySem.W.nsIn K mainGlobals "is_ladder" = some (some (.ref f16))) (l16 : K.lookup f16 = some ⟨oc16, od16, .func (PySem.W.fnOf "is_ladder" "is_ladder" (aG dS) (ah dS) (ab dS) .none kV16 dc16 pm16 an16 cd16 ct16), sl16⟩) (c16 : PySem.W.codeIn K cd16 "is_ladder" = true) (k16 : PySem.W.keepIn K (.ref f16) = true)
   (a17 : PySem.W.nsIn K mainGlobals "look_ladder" = some (some (.ref f17))) (l17 : K.lookup f17 = some ⟨oc17, od17, .func (PySem.W.fnOf "look_ladder" "look_ladder" (aG cw) (ah cw) (ab cw) .none kV17 dc17 pm17 an17 cd17 ct17), sl17⟩) (c17 : PySem.W.codeIn K cd17 "look_ladder" = true) (k17 : PySem.W.keepIn K (.ref f17) = true)
   (a18 : PySem.W.nsIn K mainGlobals "column_of" = some (some (.ref f18))) (l18 : K.lookup f18 = some ⟨oc18, od18, .func (PySem.W.fnOf "column_of" "column_of" (aG dO) (ah dO) (ab dO) .none kV18 dc18 pm18 an18 cd18 ct18), sl18⟩) (c18 : PySem.W.codeIn K cd18 "column_of" = true) (k18 : PySem.W.keepIn K (.ref f18) = true)
   (a19 : PySem.W.nsIn K mainGlobals "columns_of" = some (some (.ref f19))) (l19 : K.lookup f19 = some ⟨oc19, od19, .func (PySem.W.fnOf "columns_of" "columns_of" (aG cP) (ah cP) (ab cP) .none kV19 dc19 pm19 an19 cd19 ct19), sl19⟩) (c19 : PySem.W.codeIn K cd19 "columns_of" = true) (k19 : PySem.W.keepIn K (.ref f19) = true)
   (a20 : PySem.W.nsIn K mainGlobals "first_sums" = some (some (.ref f20))) (l20 : K.lookup f20 = some ⟨oc20, od20, .func (PySem.W.fnOf "first_sums" "first_sums" (aG cV) (ah cV) (ab cV) .none kV20 dc20 pm20 an20 cd20 ct20), sl20⟩) (c20 : PySem.W.codeIn K cd20 "first_sums" = true) (k20 : PySem.W.keepIn K (.ref f20) = true)
   (a21 : PySem.W.nsIn K mainGlobals "shared_divisor" = some (some (.ref f21))) (l21 : K.lookup f21 = some ⟨oc21, od21, .func (PySem.W.fnOf "shared_divisor" "shared_divisor" (aG bC) (ah bC) (ab bC) .none kV21 dc21 pm21 an21 cd21 ct21), sl21⟩) (c21 : PySem.W.codeIn K cd21 "shared_divisor" = true) (k21 : PySem.W.keepIn K (.ref f21) = true)
   (a22 : PySem.W.nsIn K mainGlobals "weighed_sums" = some (some (.ref f22))) (l22 : K.lookup f22 = some ⟨oc22, od22, .func (PySem.W.fnOf "weighed_sums" "weighed_sums" (aG bT) (ah bT) (ab bT) .none kV22 dc22 pm22 an22 cd22 ct22), sl22⟩) (c22 : PySem.W.codeIn K cd22 "weighed_sums" = true) (k22 : PySem.W.keepIn K (.ref f22) = true)
   (a23 : PySem.W.nsIn K mainGlobals "added_sums" = some (some (.ref f23))) (l23 : K.lookup f23 = some ⟨oc23, od23, .func (PySem.W.fnOf "added_sums" "added_sums" (aG cQ) (ah cQ) (ab cQ) .none kV23 dc23 pm23 an23 cd23 ct23), sl23⟩) (c23 : PySem.W.codeIn K cd23 "added_sums" = true) (k23 : PySem.W.keepIn K (.ref f23) = true)
   (a24 : PySem.W.nsIn K mainGlobals "in_lowest_terms" = some (some (.ref f24))) (l24 : K.lookup f24 = some ⟨oc24, od24, .func (PySem.W.fnOf "in_lowest_terms" "in_lowest_terms" (aG bu) (ah bu) (ab bu) .none kV24 dc24 pm24 an24 cd24 ct24), sl24⟩) (c24 : PySem.W.codeIn K cd24 "in_lowest_terms" = true) (k24 : PySem.W.keepIn K (.ref f24) = true)
   (a25 : PySem.W.nsIn K mainGlobals "fraction" = some (some (.ref f25))) (l25 : K.lookup f25 = some ⟨oc25, od25, .func (PySem.W.fnOf "fraction" "fraction" (aG eT) (ah eT) (ab eT) (.ref T25) kV25 dc25 pm25 an25 cd25 ct25), sl25⟩) (c25 : PySem.W.codeIn K cd25 "fraction" = true) (k25 : PySem.W.keepIn K (.ref f25) = true)
   (a26 : PySem.W.nsIn K mainGlobals "told_sums" = some (some (.ref f26))) (l26 : K.lookup f26 = some ⟨oc26, od26, .func (PySem.W.fnOf "told_sums" "told_sums" (aG dU) (ah dU) (ab dU) .none kV26 dc26 pm26 an26 cd26 ct26), sl26⟩) (c26 : PySem.W.codeIn K cd26 "told_sums" = true) (k26 : PySem.W.keepIn K (.ref f26) = true)
   (a27 : PySem.W.nsIn K mainGlobals "rung_end" = some (some (.ref f27))) (l27 : K.lookup f27 = some ⟨oc27, od27, .func (PySem.W.fnOf "rung_end" "rung_end" (aG eV) (ah eV) (ab eV) .none kV27 dc27 pm27 an27 cd27 ct27), sl27⟩) (c27 : PySem.W.codeIn K cd27 "rung_end" = true) (k27 : PySem.W.keepIn K (.ref f27) = true)
   (a28 : PySem.W.nsIn K mainGlobals "rung_start" = some (some (.ref f28))) (l28 : K.lookup f28 = some ⟨oc28, od28, .func (PySem.W.fnOf "rung_start" "rung_start" (aG cO) (ah cO) (ab cO) .none kV28 dc28 pm28 an28 cd28 ct28), sl28⟩) (c28 : PySem.W.codeIn K cd28 "rung_start" = true) (k28 : PySem.W.keepIn K (.ref f28) = true)
   (a29 : PySem.W.nsIn K mainGlobals "table_of" = some (some (.ref f29))) (l29 : K.lookup f29 = some ⟨oc29, od29, .func (PySem.W.fnOf "table_of" "table_of" (aG eZ) (ah eZ) (ab eZ) .none kV29 dc29 pm29 an29 cd29 ct29), sl29⟩) (c29 : PySem.W.codeIn K cd29 "table_of" = true) (k29 : PySem.W.keepIn K (.ref f29) = true)
   (a30 : PySem.W.nsIn K mainGlobals "_law_cut" = some (some (.ref f30))) (l30 : K.lookup f30 = some ⟨oc30, od30, .func (PySem.W.fnOf "_law_cut" "_law_cut" (aG ju) (ah ju) (ab ju) .none kV30 dc30 pm30 an30 cd30 ct30), sl30⟩) (c30 : PySem.W.codeIn K cd30 "_law_cut" = true) (k30 : PySem.W.keepIn K (.ref f30) = true)
   (a31 : PySem.W.nsIn K mainGlobals "law" = some (some (.ref f31))) (l31 : K.lookup f31 = some ⟨oc31, od31, .func (PySem.W.fnOf "law" "law" (aG kQ) (ah kQ) (ab kQ) .none kV31 dc31 pm31 an31 cd31 ct31), sl31⟩) (c31 : PySem.W.codeIn K cd31 "law" = true) (k31 : PySem.W.keepIn K (.ref f31) = true)
   (z0 : PySem.W.nsIn K mainGlobals "len" = some none)    (z1 : PySem.W.nsIn K mainGlobals "abs" = some none)    (z2 : PySem.W.nsIn K mainGlobals "max" = some none)    (z3 : PySem.W.nsIn K mainGlobals "min" = some none)    (z4 : PySem.W.nsIn K mainGlobals "int" = some none)    (z5 : PySem.W.nsIn K mainGlobals "bool" = some none)    (z6 : PySem.W.nsIn K mainGlobals "list" = some none)    (z7 : PySem.W.nsIn K mainGlobals "tuple" = some none)    (z8 : PySem.W.nsIn K mainGlobals "str" = some none)    (z9 : PySem.W.nsIn K mainGlobals "isinstance" = some none)    (z10 : PySem.W.nsIn K mainGlobals "range" = some none)    (z11 : PySem.W.nsIn K mainGlobals "enumerate" = some none)    (z12 : PySem.W.nsIn K mainGlobals "all" = some none)    (z13 : PySem.W.nsIn K mainGlobals "zip" = some none)    (z14 : PySem.W.nsIn K mainGlobals "sorted" = some none)    (z15 : PySem.W.nsIn K mainGlobals "sum" = some none)    (z16 : PySem.W.nsIn K mainGlobals "any" = some none)    (z17 : PySem.W.nsIn K mainGlobals "reversed" = some none)    (y0 : PySem.W.nsIn K mainGlobals "MOST" = some (some (.int 7 t0)))
   (y1 : PySem.W.nsIn K mainGlobals "MOST_STEPS" = some (some (.int 400 t1)))
   (dt25 : K.lookup T25 = some ⟨tc25, td25, .seq #[.int 1 tt25] tn25, tl25⟩)
 :
   ∃ fd : FuncData, (∀ (s : Shared) (v : Value), BindsTo s fd ⟨[v], []⟩ [("_law_script", v)]) ∧ ∀ base : Heap, K.In base → base.Ns mainGlobals mg → bR l.prog w K mg base CX0 32 fa fd ["_law_script"] (spU ⟨K, fun _ => 0⟩ uN) := by
 have e := hfa.symm.trans (PySem.W.mg_of X G a31)
 cases e
 have hb : ∀ x ∈ Sv.aO, mg x = none := by
   intro x hx
   simp only [Sv.aO, List.mem_cons, List.not_mem_nil, or_false] at hx
   rcases hx with rfl | rfl | rfl | rfl | rfl | rfl | rfl | rfl | rfl | rfl | rfl | rfl | rfl | rfl | rfl | rfl | rfl | rfl
   · exact PySem.W.mg_none_of X G z0
   · exact PySem.W.mg_none_of X G z1
   · exact PySem.W.mg_none_of X G z2
   · exact PySem.W.mg_none_of X G z3
   · exact PySem.W.mg_none_of X G z4
   · exact PySem.W.mg_none_of X G z5
   · exact PySem.W.mg_none_of X G z6
   · exact PySem.W.mg_none_of X G z7
   · exact PySem.W.mg_none_of X G z8
   · exact PySem.W.mg_none_of X G z9
   · exact PySem.W.mg_none_of X G z10
   · exact PySem.W.mg_none_of X G z11
   · exact PySem.W.mg_none_of X G z12
   · exact PySem.W.mg_none_of X G z13
   · exact PySem.W.mg_none_of X G z14
   · exact PySem.W.mg_none_of X G z15
   · exact PySem.W.mg_none_of X G z16
   · exact PySem.W.mg_none_of X G z17
 have hcst : ∀ (x : Str) (i : Int), ([("MOST", 7), ("MOST_STEPS", 400)] : List (Str × Int)).lookup x = some i → ∃ t, mg x = some (.int i t) := by
   intro x i hx
   simp only [List.lookup_cons, List.lookup_nil] at hx
   split at hx
   · rename_i he
     have he : x = "MOST" := by simpa using he
     subst he
     cases hx
     exact ⟨_, PySem.W.mg_of X G y0⟩
   split at hx
   · rename_i he
     have he : x = "MOST_STEPS" := by simpa using he
     subst he
     cases hx
     exact ⟨_, PySem.W.mg_of X G y1⟩
   cases hx
 have F0 := bc (st := dG) l0 c0 k0
 have b0 := F0.binds (ps := ["_law_cell_here", "_law_bases"]) (gL fun _ _ => rfl)
 have F1 := bc (st := dE) l1 c1 k1
 have b1 := F1.binds (ps := ["_law_one", "_law_other"]) (gL fun _ _ => rfl)
 have F2 := bc (st := iq) l2 c2 k2
 have b2 := F2.binds (ps := ["_law_top", "_law_bottom"]) (gL fun _ _ => rfl)
 have F3 := bc (st := jD) l3 c3 k3
 have b3 := F3.binds (ps := ["_law_many"]) (gK fun _ => rfl)
 have F4 := bc (st := eO) l4 c4 k4
 have b4 := F4.binds (ps := ["_law_part", "_law_figures"]) (gL fun _ _ => rfl)
 have F5 := bc (st := ie) l5 c5 k5
 have b5 := F5.binds (ps := ["_law_tracks"]) (gK fun _ => rfl)
 have F6 := bc (st := gb) l6 c6 k6
 have b6 := F6.binds (ps := ["_law_thing"]) (gK fun _ => rfl)
 have F7 := bc (st := cv) l7 c7 k7
 have b7 := F7.binds (ps := ["_law_found", "_law_top", "_law_bottom"]) (B4 fun _ _ _ => rfl)
 have F8 := bc (st := dM) l8 c8 k8
 have b8 := F8.binds (ps := ["_law_found", "_law_due"]) (gL fun _ _ => rfl)
 have F9 := bc (st := iz) l9 c9 k9
 have b9 := F9.binds (ps := ["_law_script", "_law_k"]) (gL fun _ _ => rfl)
 have F10 := bc (st := eU) l10 c10 k10
 have b10 := F10.binds (ps := ["thing"]) (gK fun _ => rfl)
 have F11 := bc (st := cT) l11 c11 k11
 have b11 := F11.binds (ps := ["thing", "least", "most"]) (B4 fun _ _ _ => rfl)
 have F12 := bc (st := bG) l12 c12 k12
 have b12 := F12.binds (ps := ["one", "other"]) (gL fun _ _ => rfl)
 have F13 := bc (st := cu) l13 c13 k13
 have b13 := F13.binds (ps := ["thing"]) (gK fun _ => rfl)
 have F14 := bc (st := dJ) l14 c14 k14
 have b14 := F14.binds (ps := ["thing"]) (gK fun _ => rfl)
 have F15 := bc (st := fY) l15 c15 k15
 have b15 := F15.binds (ps := ["thing", "tracks"]) (gL fun _ _ => rfl)
 have F16 := bc (st := dS) l16 c16 k16
 have b16 := F16.binds (ps := ["thing"]) (gK fun _ => rfl)
 have F17 := bc (st := cw) l17 c17 k17
 have b17 := F17.binds (ps := ["thing"]) (gK fun _ => rfl)
 have F18 := bc (st := dO) l18 c18 k18
 have b18 := F18.binds (ps := ["table", "j"]) (gL fun _ _ => rfl)
 have F19 := bc (st := cP) l19 c19 k19
 have b19 := F19.binds (ps := ["table"]) (gK fun _ => rfl)
 have F20 := bc (st := cV) l20 c20 k20
 have b20 := F20.binds (ps := ["track", "rows"]) (gL fun _ _ => rfl)
 have F21 := bc (st := bC) l21 c21 k21
 have b21 := F21.binds (ps := ["number", "others"]) (gL fun _ _ => rfl)
 have F22 := bc (st := bT) l22 c22 k22
 have b22 := F22.binds (ps := ["sums", "weight"]) (gL fun _ _ => rfl)
 have F23 := bc (st := cQ) l23 c23 k23
 have b23 := F23.binds (ps := ["one", "other"]) (gL fun _ _ => rfl)
 have F24 := bc (st := bu) l24 c24 k24
 have b24 := F24.binds (ps := ["top", "bottom"]) (gL fun _ _ => rfl)
 have F25 := bc (st := eT) l25 c25 k25
 have b25 := F25.Gg (ps := ["top", "bottom"]) rfl dt25 (gL fun _ _ => ⟨_, rfl, rfl⟩)
 have e25 := F25.Io (p := "top") (ps := ["bottom"]) (d := .int 1 tt25) rfl dt25 (gK fun _ => ⟨_, rfl, rfl⟩)
 have F26 := bc (st := dU) l26 c26 k26
 have b26 := F26.binds (ps := ["sums"]) (gK fun _ => rfl)
 have F27 := bc (st := eV) l27 c27 k27
 have b27 := F27.binds (ps := ["step"]) (gK fun _ => rfl)
 have F28 := bc (st := cO) l28 c28 k28
 have b28 := F28.binds (ps := ["step"]) (gK fun _ => rfl)
 have F29 := bc (st := eZ) l29 c29 k29
 have b29 := F29.binds (ps := ["ladder"]) (gK fun _ => rfl)
 have F30 := bc (st := ju) l30 c30 k30
 have b30 := F30.binds (ps := ["_law_lines", "_law_rows", "_law_columns"]) (B4 fun _ _ _ => rfl)
 have F31 := bc (st := kQ) l31 c31 k31
 have b31 := F31.binds (ps := ["_law_script"]) (gK fun _ => rfl)
 refine ⟨PySem.W.fnOf "law" "law" (aG kQ) (ah kQ) (ab kQ) .none kV31 dc31 pm31 an31 cd31 ct31, fun s v => .of_eq rfl, fun base _ _ => ?_⟩
 have C0 : cY l.prog w K mg base CX0 (fun _ => 0) 0 lS0 lF0 := cY.nil
 have G0 : bR l.prog w K mg base CX0 1 f0 _ _ (spU ⟨K, fun _ => 0⟩ oB) := fnU F0 tO sO hb hcst C0
 have C1 : cY l.prog w K mg base CX0 (fun _ => 0) 1 lS1 lF1 := C0.snoc rfl (bp G0 (PySem.W.mg_of X G a0) k0 b0)
 have G1 : bR l.prog w K mg base CX0 2 f1 _ _ (spU ⟨K, fun _ => 0⟩ ot) := fnU F1 sx sv hb hcst C1
 have C2 : cY l.prog w K mg base CX0 (fun _ => 0) 2 lS2 lF2 := C1.snoc rfl (bp G1 (PySem.W.mg_of X G a1) k1 b1)
 have G2 : bR l.prog w K mg base CX0 3 f2 _ _ (spU ⟨K, fun _ => 0⟩ wz) := fnU F2 Ar zP hb hcst C2
 have C3 : cY l.prog w K mg base CX0 (fun _ => 0) 3 lS3 lF3 := C2.snoc rfl (bp G2 (PySem.W.mg_of X G a2) k2 b2)
 have G3 : bR l.prog w K mg base CX0 4 f3 _ _ (spU ⟨K, fun _ => 0⟩ zm) := fnU F3 BW CM hb hcst C3
 have C4 : cY l.prog w K mg base CX0 (fun _ => 0) 4 lS4 lF4 := C3.snoc rfl (bp G3 (PySem.W.mg_of X G a3) k3 b3)
 have G4 : bR l.prog w K mg base CX0 5 f4 _ _ (spU ⟨K, fun _ => 0⟩ pG) := fnU F4 vD vJ hb hcst C4
 have C5 : cY l.prog w K mg base CX0 (fun _ => 0) 5 lS5 lF5 := C4.snoc rfl (bp G4 (PySem.W.mg_of X G a4) k4 b4)
 have G5 : bR l.prog w K mg base CX0 6 f5 _ _ (spU ⟨K, fun _ => 0⟩ wA) := fnU F5 AM AB hb hcst C5
 have C6 : cY l.prog w K mg base CX0 (fun _ => 0) 6 lS6 lF6 := C5.snoc rfl (bp G5 (PySem.W.mg_of X G a5) k5 b5)
 have G6 : bR l.prog w K mg base CX0 7 f6 _ _ (spU ⟨K, fun _ => 0⟩ rp) := fnU F6 yd yh hb hcst C6
 have C7 : cY l.prog w K mg base CX0 (fun _ => 0) 7 lS7 lF7 := C6.snoc rfl (bp G6 (PySem.W.mg_of X G a6) k6 b6)
 have G7 : bR l.prog w K mg base CX0 8 f7 _ _ (spU ⟨K, fun _ => 0⟩ kN) := fnU F7 qh pS hb hcst C7
 have C8 : cY l.prog w K mg base CX0 (fun _ => 0) 8 lS8 lF8 := C7.snoc rfl (bp G7 (PySem.W.mg_of X G a7) k7 b7)
 have G8 : bR l.prog w K mg base CX0 9 f8 _ _ (spU ⟨K, fun _ => 0⟩ oq) := fnU F8 tm uj hb hcst C8
 have C9 : cY l.prog w K mg base CX0 (fun _ => 0) 9 lS9 lF9 := C8.snoc rfl (bp G8 (PySem.W.mg_of X G a8) k8 b8)
 have G9 : bR l.prog w K mg base CX0 10 f9 _ _ (spU ⟨K, fun _ => 0⟩ vc) := fnU F9 zK AQ hb hcst C9
 have C10 : cY l.prog w K mg base CX0 (fun _ => 0) 10 GF Ed := C9.snoc rfl (bp G9 (PySem.W.mg_of X G a9) k9 b9)
 have G10 : bR l.prog w K mg base CX0 11 f10 _ _ (spU ⟨K, fun _ => 0⟩ pC) := fnU F10 uA vw hb hcst C10
 have C11 : cY l.prog w K mg base CX0 (fun _ => 0) 11 Gv EF := C10.snoc rfl (bp G10 (PySem.W.mg_of X G a10) k10 b10)
 have G11 : bR l.prog w K mg base CX0 12 f11 _ _ (spU ⟨K, fun _ => 0⟩ mj) := fnU F11 rk qU hb hcst C11
 have C12 : cY l.prog w K mg base CX0 (fun _ => 0) 12 Gx E3 := C11.snoc rfl (bp G11 (PySem.W.mg_of X G a11) k11 b11)
 have G12 : bR l.prog w K mg base CX0 13 f12 _ _ (spU ⟨K, fun _ => 0⟩ jg) := fnU F12 mU mn hb hcst C12
 have C13 : cY l.prog w K mg base CX0 (fun _ => 0) 13 Hq Dv := C12.snoc rfl (bp G12 (PySem.W.mg_of X G a12) k12 b12)
 have G13 : bR l.prog w K mg base CX0 14 f13 _ _ (spU ⟨K, fun _ => 0⟩ kP) := fnU F13 qe qf hb hcst C13
 have C14 : cY l.prog w K mg base CX0 (fun _ => 0) 14 GG ET := C13.snoc rfl (bp G13 (PySem.W.mg_of X G a13) k13 b13)
 have G14 : bR l.prog w K mg base CX0 15 f14 _ _ (spU ⟨K, fun _ => 0⟩ ow) := fnU F14 tK uh hb hcst C14
 have C15 : cY l.prog w K mg base CX0 (fun _ => 0) 15 HD Eo := C14.snoc rfl (bp G14 (PySem.W.mg_of X G a14) k14 b14)
 have G15 : bR l.prog w K mg base CX0 16 f15 _ _ (spU ⟨K, fun _ => 0⟩ sg) := fnU F15 xJ wR hb hcst C15
 have C16 : cY l.prog w K mg base CX0 (fun _ => 0) 16 Gn DD := C15.snoc rfl (bp G15 (PySem.W.mg_of X G a15) k15 b15)
 have G16 : bR l.prog w K mg base CX0 17 f16 _ _ (spU ⟨K, fun _ => 0⟩ oE) := fnU F16 sI sH hb hcst C16
 have C17 : cY l.prog w K mg base CX0 (fun _ => 0) 17 Hu Ey := C16.snoc rfl (bp G16 (PySem.W.mg_of X G a16) k16 b16)
 have G17 : bR l.prog w K mg base CX0 18 f17 _ _ (spU ⟨K, fun _ => 0⟩ kU) := fnU F17 pD qc hb hcst C17
 have C18 : cY l.prog w K mg base CX0 (fun _ => 0) 18 FX EW := C17.snoc rfl (bp G17 (PySem.W.mg_of X G a17) k17 b17)
 have G18 : bR l.prog w K mg base CX0 19 f18 _ _ (spU ⟨K, fun _ => 0⟩ oD) := fnU F18 sG sN hb hcst C18
 have C19 : cY l.prog w K mg base CX0 (fun _ => 0) 19 Ju EI := C18.snoc rfl (bp G18 (PySem.W.mg_of X G a18) k18 b18)
 have G19 : bR l.prog w K mg base CX0 20 f19 _ _ (spU ⟨K, fun _ => 0⟩ mV) := fnU F19 rg rl hb hcst C19
 have C20 : cY l.prog w K mg base CX0 (fun _ => 0) 20 Jp DO := C19.snoc rfl (bp G19 (PySem.W.mg_of X G a19) k19 b19)
 have G20 : bR l.prog w K mg base CX0 21 f20 _ _ (spU ⟨K, fun _ => 0⟩ mT) := fnU F20 qF qQ hb hcst C20
 have C21 : cY l.prog w K mg base CX0 (fun _ => 0) 21 Ig DZ := C20.snoc rfl (bp G20 (PySem.W.mg_of X G a20) k20 b20)
 have G21 : bR l.prog w K mg base CX0 22 f21 _ _ (spU ⟨K, fun _ => 0⟩ jc) := fnU F21 lQ lN hb hcst C21
 have C22 : cY l.prog w K mg base CX0 (fun _ => 0) 22 Je E0 := C21.snoc rfl (bp G21 (PySem.W.mg_of X G a21) k21 b21)
 have G22 : bR l.prog w K mg base CX0 23 f22 _ _ (spU ⟨K, fun _ => 0⟩ kh) := fnU F22 oZ oY hb hcst C22
 have C23 : cY l.prog w K mg base CX0 (fun _ => 0) 23 GI D7 := C22.snoc rfl (bp G22 (PySem.W.mg_of X G a22) k22 b22)
 have G23 : bR l.prog w K mg base CX0 24 f23 _ _ (spU ⟨K, fun _ => 0⟩ mh) := fnU F23 qZ qH hb hcst C23
 have C24 : cY l.prog w K mg base CX0 (fun _ => 0) 24 JI Ek := C23.snoc rfl (bp G23 (PySem.W.mg_of X G a23) k23 b23)
 have G24 : bR l.prog w K mg base CX0 25 f24 _ _ (spU ⟨K, fun _ => 0⟩ iI) := fnU F24 ll lz hb hcst C24
 have C25 : cY l.prog w K mg base CX0 (fun _ => 0) 25 IV Fy := C24.snoc rfl (bp G24 (PySem.W.mg_of X G a24) k24 b24)
 have G25 : bR l.prog w K mg base CX0 26 f25 _ _ (spU ⟨K, fun _ => 0⟩ qd) := fnU F25 u9 uH hb hcst C25
 have C26 : cY l.prog w K mg base CX0 (fun _ => 0) 26 Gz FA := C25.snoc rfl (Iq G25 (PySem.W.mg_of X G a25) k25 b25 e25)
 have G26 : bR l.prog w K mg base CX0 27 f26 _ _ (spU ⟨K, fun _ => 0⟩ ou) := fnU F26 tG sA hb hcst C26
 have C27 : cY l.prog w K mg base CX0 (fun _ => 0) 27 Jq DL := C26.snoc rfl (bp G26 (PySem.W.mg_of X G a26) k26 b26)
 have G27 : bR l.prog w K mg base CX0 28 f27 _ _ (spU ⟨K, fun _ => 0⟩ qC) := fnU F27 uK v7 hb hcst C27
 have C28 : cY l.prog w K mg base CX0 (fun _ => 0) 28 Hr Fh := C27.snoc rfl (bp G27 (PySem.W.mg_of X G a27) k27 b27)
 have G28 : bR l.prog w K mg base CX0 29 f28 _ _ (spU ⟨K, fun _ => 0⟩ mC) := fnU F28 qS qK hb hcst C28
 have C29 : cY l.prog w K mg base CX0 (fun _ => 0) 29 GR Ft := C28.snoc rfl (bp G28 (PySem.W.mg_of X G a28) k28 b28)
 have G29 : bR l.prog w K mg base CX0 30 f29 _ _ (spU ⟨K, fun _ => 0⟩ pN) := fnU F29 wJ uS hb hcst C29
 have C30 : cY l.prog w K mg base CX0 (fun _ => 0) 30 Ho DR := C29.snoc rfl (bp G29 (PySem.W.mg_of X G a29) k29 b29)
 have G30 : bR l.prog w K mg base CX0 31 f30 _ _ (spU ⟨K, fun _ => 0⟩ y9) := fnU F30 Cv Bp hb hcst C30
 have C31 : cY l.prog w K mg base CX0 (fun _ => 0) 31 JT DN := C30.snoc rfl (bp G30 (PySem.W.mg_of X G a30) k30 b30)
 have G31 : bR l.prog w K mg base CX0 32 fa _ _ (spU ⟨K, fun _ => 0⟩ uN) := fnU F31 HI Hs hb hcst C31
 exact G31
theorem walk {l : PySem.W.OpenLaw} {q : Program} {loose : List Str} {XP : (Str → Option Value) → Heap → Prop} {YP : World → Heap → Prop} {d : DefRec} {K : Params → PySem.W.Frag} (hn : l.most = some 63) (hdf : d.params.defaults = [])
   (hY : ∀ (w : World) (h : Heap), YP w h → (K w.params).In h)
   (F : ∀ (w : World) (mg : Str → Option Value) (fa : Addr) (h : Heap), (K w.params).In h → h.Ns mainGlobals mg → mg d.name = some (.ref fa) →
     ∃ fd : FuncData, (∀ (s : Shared) (u : Value), BindsTo s fd ⟨[u], []⟩ [("_law_script", u)]) ∧ ∀ base : Heap, (K w.params).In base → base.Ns mainGlobals mg → bR l.prog w (K w.params) mg base CX0 32 fa fd ["_law_script"] (spU ⟨K w.params, fun _ => 0⟩ uN)) :
   PySem.W.WalkO q loose XP YP l.row.toRowW d [] (fun f vs => PySem.call f vs) :=
 L2.D5 (n := 63) (k := 32) (x := "_law_script") (CX := fun _ => CX0) (sp := fun w => spU ⟨K w.params, fun _ => 0⟩ uN) hn (by decide) hdf ⟨rfl, by decide, by decide⟩ hY F
   (fun w H a ns hl hO hS => GJ (J9.at.1 31) (fun ns h => Ga ns h) w H a ns hl hO hS) fun _ _ _ _ _ z => z
end K19
open PySem PySem.W PyProof.Rows
theorem PySem.W.Fast.tw891535920139246137 : True := trivial
theorem PySem.W.Fast.tw18217430953147455210 : True := trivial
theorem PySem.W.Fast.tw9301773590466245374 : True := trivial
theorem PySem.W.Fast.tw2202886707372126370 : True := trivial
theorem PySem.W.Fast.tw16402642645078846276 : True := trivial
theorem PySem.W.Fast.tw195631161896375828 : True := trivial
theorem PySem.W.Fast.tw5729984277998512617 : True := trivial
theorem PySem.W.Fast.tw8922525314269443769 : True := trivial
theorem PySem.W.Fast.tw13818978384093321952 : True := trivial
theorem PySem.W.Fast.tw8271927365923876191 : True := trivial
theorem PySem.W.Fast.tw5081905907706934658 : True := trivial
theorem PySem.W.Fast.tw6939254276401442205 : True := trivial
theorem PySem.W.Fast.tw15735374693146780883 : True := trivial
theorem PySem.W.Fast.tw5306637909380808402 : True := trivial
theorem PySem.W.Fast.tw17080852262280312016 : True := trivial
set_option maxRecDepth 100000 in
set_option maxHeartbeats 0 in
theorem PySem.Challenge.cw_signsmooth_k19_one_step_holds : PySem.Challenge.rw_signsmooth_k19_one_step.Holds := by
 w_on; o_law; k_head; (case hw => w_witness2)
 k_fill
 refine K19.walk (l := PySem.Challenge.rw_signsmooth_k19_one_step) rfl rfl (fun w h Y => PySem.W.kIn_of Y) ?F
 case F =>
   intro w mg fa h KX G hmg
   refine' K19.all_mk KX G hmg ?a0 ?l0 ?c0 ?k0 ?a1 ?l1 ?c1 ?k1 ?a2 ?l2 ?c2 ?k2 ?a3 ?l3 ?c3 ?k3 ?a4 ?l4 ?c4 ?k4 ?a5 ?l5 ?c5 ?k5 ?a6 ?l6 ?c6 ?k6 ?a7 ?l7 ?c7 ?k7 ?a8 ?l8 ?c8 ?k8 ?a9 ?l9 ?c9 ?k9 ?a10 ?l10 ?c10 ?k10 ?a11 ?l11 ?c11 ?k11 ?a12 ?l12 ?c12 ?k12 ?a13 ?l13 ?c13 ?k13 ?a14 ?l14 ?c14 ?k14 ?a15 ?l15 ?c15 ?k15 ?a16 ?l16 ?c16 ?k16 ?a17 ?l17 ?c17 ?k17 ?a18 ?l18 ?c18 ?k18 ?a19 ?l19 ?c19 ?k19 ?a20 ?l20 ?c20 ?k20 ?a21 ?l21 ?c21 ?k21 ?a22 ?l22 ?c22 ?k22 ?a23 ?l23 ?c23 ?k23 ?a24 ?l24 ?c24 ?k24 ?a25 ?l25 ?c25 ?k25 ?a26 ?l26 ?c26 ?k26 ?a27 ?l27 ?c27 ?k27 ?a28 ?l28 ?c28 ?k28 ?a29 ?l29 ?c29 ?k29 ?a30 ?l30 ?c30 ?k30 ?a31 ?l31 ?c31 ?k31 ?z0 ?z1 ?z2 ?z3 ?z4 ?z5 ?z6 ?z7 ?z8 ?z9 ?z10 ?z11 ?z12 ?z13 ?z14 ?z15 ?z16 ?z17 ?y0 ?y1 ?dt25
   (case a0 => k_is)
   (case l0 => k_is)
   (case c0 => k_is)
   (case k0 => k_is)
   (case a1 => k_is)
   (case l1 => k_is)
   (case c1 => k_is)
   (case k1 => k_is)
   (case a2 => k_is)
   (case l2 => k_is)
   (case c2 => k_is)
   (case k2 => k_is)
   (case a3 => k_is)
   (case l3 => k_is)
   (case c3 => k_is)
   (case k3 => k_is)
   (case a4 => k_is)
   (case l4 => k_is)
   (case c4 => k_is)
   (case k4 => k_is)
   (case a5 => k_is)
   (case l5 => k_is)
   (case c5 => k_is)
   (case k5 => k_is)
   (case a6 => k_is)
   (case l6 => k_is)
   (case c6 => k_is)
   (case k6 => k_is)
   (case a7 => k_is)
   (case l7 => k_is)
   (case c7 => k_is)
   (case k7 => k_is)
   (case a8 => k_is)
   (case l8 => k_is)
   (case c8 => k_is)
   (case k8 => k_is)
   (case a9 => k_is)
   (case l9 => k_is)
   (case c9 => k_is)
   (case k9 => k_is)
   (case a10 => k_is)
   (case l10 => k_is)
   (case c10 => k_is)
   (case k10 => k_is)
   (case a11 => k_is)
   (case l11 => k_is)
   (case c11 => k_is)
   (case k11 => k_is)
   (case a12 => k_is)
   (case l12 => k_is)
   (case c12 => k_is)
   (case k12 => k_is)
   (case a13 => k_is)
   (case l13 => k_is)
   (case c13 => k_is)
   (case k13 => k_is)
   (case a14 => k_is)
   (case l14 => k_is)
   (case c14 => k_is)
   (case k14 => k_is)
   (case a15 => k_is)
   (case l15 => k_is)
   (case c15 => k_is)
   (case k15 => k_is)
   (case a16 => k_is)
   (case l16 => k_is)
   (case c16 => k_is)
   (case k16 => k_is)
   (case a17 => k_is)
   (case l17 => k_is)
   (case c17 => k_is)
   (case k17 => k_is)
   (case a18 => k_is)
   (case l18 => k_is)
   (case c18 => k_is)
   (case k18 => k_is)
   (case a19 => k_is)
   (case l19 => k_is)
   (case c19 => k_is)
   (case k19 => k_is)
   (case a20 => k_is)
   (case l20 => k_is)
   (case c20 => k_is)
   (case k20 => k_is)
   (case a21 => k_is)
   (case l21 => k_is)
   (case c21 => k_is)
   (case k21 => k_is)
   (case a22 => k_is)
   (case l22 => k_is)
   (case c22 => k_is)
   (case k22 => k_is)
   (case a23 => k_is)
   (case l23 => k_is)
   (case c23 => k_is)
   (case k23 => k_is)
   (case a24 => k_is)
   (case l24 => k_is)
   (case c24 => k_is)
   (case k24 => k_is)
   (case a25 => k_is)
   (case l25 => k_is)
   (case c25 => k_is)
   (case k25 => k_is)
   (case a26 => k_is)
   (case l26 => k_is)
   (case c26 => k_is)
   (case k26 => k_is)
   (case a27 => k_is)
   (case l27 => k_is)
   (case c27 => k_is)
   (case k27 => k_is)
   (case a28 => k_is)
   (case l28 => k_is)
   (case c28 => k_is)
   (case k28 => k_is)
   (case a29 => k_is)
   (case l29 => k_is)
   (case c29 => k_is)
   (case k29 => k_is)
   (case a30 => k_is)
   (case l30 => k_is)
   (case c30 => k_is)
   (case k30 => k_is)
   (case a31 => k_is)
   (case l31 => k_is)
   (case c31 => k_is)
   (case k31 => k_is)
   (case z0 => k_is)
   (case z1 => k_is)
   (case z2 => k_is)
   (case z3 => k_is)
   (case z4 => k_is)
   (case z5 => k_is)
   (case z6 => k_is)
   (case z7 => k_is)
   (case z8 => k_is)
   (case z9 => k_is)
   (case z10 => k_is)
   (case z11 => k_is)
   (case z12 => k_is)
   (case z13 => k_is)
   (case z14 => k_is)
   (case z15 => k_is)
   (case z16 => k_is)
   (case z17 => k_is)
   (case y0 => k_is)
   (case y1 => k_is)
   (case dt25 => k_is)
#print axioms PySem.Challenge.cw_signsmooth_k19_one_step_holds
