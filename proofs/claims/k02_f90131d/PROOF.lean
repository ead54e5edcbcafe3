import PyProof.Rows.All
import Wide.All
import OpenK.AllK
import Wide.FinOn
import Lean
import PyProof.EqAt
import PyProof.EqKinds
import PyProof.TupleCall
import PySem.Challenge.RW_signsmooth_k02_sums_products
set_option Elab.async false
set_option linter.all false
set_option maxRecDepth 100000
/-! THE HAND LAYER, for ints, bools, texts, own classes, LISTS and tuples (index, slices, in, append, pop ..), calls, loops. Paste it whole ahead of your own text; what your proof does not reach may be deleted. -/
namespace L2
open PySem PySem.Spec PyProof.Rows

/-- a key: an int or a str -/
abbrev Key := Sum Int Str
def keyIs : Key → Value → Bool
  | .inl k, v => Value.isInt k v
  | .inr x, v => Value.isStrOf x v
def keyH (w : World) : Key → Int
  | .inl k => hashInt k
  | .inr x => hashStr w x
theorem keyIs_shape : ∀ {k : Key} {v : Value}, keyIs k v = true → (∃ i t, k = Sum.inl i ∧ v = Value.int i t) ∨ (∃ x t, k = Sum.inr x ∧ v = Value.str x t)
  | .inl i, v, h => by
    obtain ⟨t, e⟩ := Value.isInt_shape (k := i) (v := v) h
    exact .inl ⟨i, t, rfl, e⟩
  | .inr x, v, h => by
    obtain ⟨t, e⟩ := Value.isStrOf_shape (x := x) (v := v) h
    exact .inr ⟨x, t, rfl, e⟩
theorem keyIs_int (i : Int) (t : Tok) : keyIs (.inl i) (.int i t) = true := by simp [keyIs, Value.isInt]
theorem keyIs_str (x : Str) (t : Tok) : keyIs (.inr x) (.str x t) = true := by simp [keyIs, Value.isStrOf]
theorem key_ll (a b : Int) : decide ((Sum.inl a : Key) = Sum.inl b) = (a == b) := by
  by_cases e : a = b
  · subst e; simp
  · have h : ¬ (Sum.inl a : Key) = Sum.inl b := fun q => e (Sum.inl.inj q)
    rw [decide_eq_false h]
    exact (beq_eq_false_iff_ne.mpr e).symm
theorem key_rr (a b : Str) : decide ((Sum.inr a : Key) = Sum.inr b) = decide (a = b) := by
  by_cases e : a = b
  · subst e; simp
  · have h : ¬ (Sum.inr a : Key) = Sum.inr b := fun q => e (Sum.inr.inj q)
    rw [decide_eq_false h, decide_eq_false e]
theorem key_lr (a : Int) (b : Str) : decide ((Sum.inl a : Key) = Sum.inr b) = false := decide_eq_false (fun q => nomatch q)
theorem key_rl (a : Str) (b : Int) : decide ((Sum.inr a : Key) = Sum.inl b) = false := decide_eq_false (fun q => nomatch q)

def mixKind (prog : Program) (w : World) : PySem.KeyKind prog w Key where
  is := keyIs
  hash := keyH w
  inj := fun v a b ha hb => by
    rcases keyIs_shape ha with ⟨i, t, rfl, rfl⟩ | ⟨x, t, rfl, rfl⟩
    · rcases keyIs_shape hb with ⟨j, u, rfl, e⟩ | ⟨y, u, rfl, e⟩
      · injection e with e1 _; rw [e1]
      · exact nomatch e
    · rcases keyIs_shape hb with ⟨j, u, rfl, e⟩ | ⟨y, u, rfl, e⟩
      · exact nomatch e
      · injection e with e1 _; rw [e1]
  byValue := fun k v h => by
    rcases keyIs_shape h with ⟨i, t, rfl, rfl⟩ | ⟨x, t, rfl, rfl⟩ <;> rfl
  pyHash := fun hv h => by
    rcases keyIs_shape hv with ⟨i, t, rfl, rfl⟩ | ⟨x, t, rfl, rfl⟩
    · exact wpAny_pyHash_int h
    · exact wpAny_pyHash_str h
  eqBool := fun hu hv h => by
    rcases keyIs_shape hu with ⟨i, t, rfl, rfl⟩ | ⟨x, t, rfl, rfl⟩
    · rcases keyIs_shape hv with ⟨j, u, rfl, rfl⟩ | ⟨y, u, rfl, rfl⟩
      · rw [key_ll] at h; exact wpAny_eqBool_int h
      · rw [key_lr] at h; exact SeqAt.EqAt.int_str i t y u _ _ _ _ h
    · rcases keyIs_shape hv with ⟨j, u, rfl, rfl⟩ | ⟨y, u, rfl, rfl⟩
      · rw [key_rl] at h; exact SeqAt.EqAt.str_int x t j u _ _ _ _ h
      · rw [key_rr] at h; exact wpAny_eqBool_str h
  «strs» := fun k x t v h => by
    rcases keyIs_shape h with ⟨i, u, rfl, e⟩ | ⟨y, u, rfl, e⟩
    · exact nomatch e
    · injection e with e1 _
      subst e1
      cases v <;> rfl

theorem mixKind_is (prog : Program) (w : World) (k : Key) (v : Value) : (mixKind prog w).is k v = keyIs k v := rfl
theorem mixKind_int (prog : Program) (w : World) (i : Int) (t : Tok) : (mixKind prog w).is (.inl i) (.int i t) = true := keyIs_int i t
theorem mixKind_str (prog : Program) (w : World) (x : Str) (t : Tok) : (mixKind prog w).is (.inr x) (.str x t) = true := keyIs_str x t
end L2

namespace L2
open PySem PySem.Spec PyProof.Rows

/-- a value, without the heap -/
inductive V where
  | non | bl (b : Bool) | int (i : Int) | str (x : Str) | byt (b : Array UInt8) | flt (b : UInt64) | ref (a : Addr) | ty (n : String)
  deriving DecidableEq

def RelV : V → Value → Prop
  | .non, u => u = Value.none
  | .bl b, u => u = Value.bool b
  | .int i, u => ∃ t, u = Value.int i t
  | .str x, u => ∃ t, u = Value.str x t
  | .byt b, u => ∃ t, u = Value.bytes b t
  | .flt b, u => ∃ t, u = Value.float b t
  | .ref a, u => u = Value.ref a
  | .ty n, u => u = Value.type n

abbrev Vals : List V → List Value → Prop := Paired RelV
theorem Vals.length {xs : List V} {us : List Value} (r : Vals xs us) : xs.length = us.length := Paired.length r
theorem Vals.get : ∀ {xs : List V} {us : List Value} {i : Nat} {x : V}, Vals xs us → xs[i]? = some x → ∃ u, us[i]? = some u ∧ RelV x u
  | _, _, _, _, .nil, e => by simp at e
  | _, _, 0, _, .cons r _, e => by simp at e; subst e; exact ⟨_, rfl, r⟩
  | _, _, i + 1, x, .cons _ t, e => by
    obtain ⟨u, h1, h2⟩ := Vals.get (i := i) (x := x) t (by simpa using e)
    exact ⟨u, by simpa using h1, h2⟩
theorem Vals.set {x : V} {u : Value} (r : RelV x u) : ∀ {xs : List V} {us : List Value} (i : Nat), Vals xs us → Vals (xs.set i x) (us.set i u)
  | _, _, _, .nil => .nil
  | _, _, 0, .cons _ t => .cons r t
  | _, _, i + 1, .cons q t => .cons q (Vals.set r i t)
theorem Vals.append : ∀ {xs ys : List V} {us ws : List Value}, Vals xs us → Vals ys ws → Vals (xs ++ ys) (us ++ ws)
  | _, _, _, _, .nil, s => s
  | _, _, _, _, .cons r t, s => .cons r (Vals.append t s)
theorem Vals.take : ∀ {xs : List V} {us : List Value} (n : Nat), Vals xs us → Vals (xs.take n) (us.take n)
  | _, _, 0, _ => .nil
  | _, _, _ + 1, .nil => .nil
  | _, _, n + 1, .cons r t => .cons r (Vals.take n t)
theorem Vals.drop : ∀ {xs : List V} {us : List Value} (n : Nat), Vals xs us → Vals (xs.drop n) (us.drop n)
  | _, _, 0, r => r
  | _, _, _ + 1, .nil => .nil
  | _, _, n + 1, .cons _ t => Vals.drop n t
theorem Vals.none_of : ∀ {xs : List V} {us : List Value} {i : Nat}, Vals xs us → xs[i]? = none → us[i]? = none := fun {xs us i} r e => by
  have h1 := r.length
  have h2 : xs.length ≤ i := List.getElem?_eq_none_iff.mp e
  exact List.getElem?_eq_none_iff.mpr (by omega)

def RelO : Option V → Option Value → Prop
  | some v, some u => RelV v u
  | none, none => True
  | _, _ => False
def KV {κ : Type} : List (κ × V) → List (κ × Value) → Prop := Paired fun (p : κ × V) (q : κ × Value) => p.1 = q.1 ∧ RelV p.2 q.2

/-- a key of a dict (00_mix): an int or a text -/
def kV : Key → V
  | .inl i => .int i
  | .inr x => .str x

/-- what stands at a tracked address -/
inductive HO where
  /-- a list -/
  | lst (xs : List V)
  /-- a tuple (never changes) -/
  | tup (xs : List V)
  /-- a dict whose keys are ints and texts; one whose keys are tuples of ints and texts (the empty one is both) -/
  | dK (kvs : List (Key × V)) | dT (kvs : List (List Key × V))
  /-- a set of ints: its members, its size -/
  | set (S : Int → Bool) (n : Nat)
  /-- an instance of the class at C, its dict at dx, its attributes -/
  | ins (C dx : Addr) (fs : List (Str × V))
  /-- the dict of the instance at x -/
  | own (x : Addr)
  /-- the dict of an exception -/
  | xd (fs : List (Str × V))
  /-- a bound method, f of x -/
  | met (f x : Addr)
  /-- a range object lo, lo + 1, .. below hi -/
  | rng (lo hi : Int)
  /-- a thing that is known to the object (the script; a dict while a loop walks it): read, never written while it is so -/
  | frz (o : Obj) (u : HO)
  /-- a code object's table -/
  | tbl (ps : Array Value)
  /-- any other thing, by what is true of its one object (a def of one's own: SetO a S n := HO.ext fun h => ..) -/
  | ext (φ : Heap → Prop)

abbrev Hp := Addr → Option HO
def upd (H : Hp) (a : Addr) (o : HO) : Hp := fun b => if b = a then some o else H b
theorem upd_same {H : Hp} {a : Addr} {o : HO} : upd H a o a = some o := by unfold upd; rw [if_pos rfl]
theorem upd_ne {H : Hp} {a b : Addr} {o : HO} (h : b ≠ a) : upd H a o b = H b := by unfold upd; rw [if_neg h]
theorem upd_upd {H : Hp} {a : Addr} {o u : HO} : upd (upd H a o) a u = upd H a u := by
  funext b; unfold upd; split <;> rfl
/-- two objects of different content stand apart -/
theorem ne_of {H : Hp} {a b : Addr} {o u : HO} (h : H a = some o) (h' : H b = some u) (d : o ≠ u) : a ≠ b := by
  intro e; subst e; rw [h] at h'; exact d (Option.some.inj h')
theorem ne_of_none {H : Hp} {a b : Addr} {o : HO} (h : H a = some o) (h' : H b = none) : a ≠ b := by
  intro e; subst e; rw [h] at h'; cases h'

section
variable (P : Program) (w : World)
def ObjOk (H : Hp) (h : Heap) (a : Addr) : HO → Prop
  | .lst xs => xs.length ≤ sizeLine ∧ ∃ (its : List Value) (n : Nat), Vals xs its ∧ h.get? a = some { cls := .type "list", data := .seq its.toArray n }
  | .tup xs => xs.length ≤ sizeLine ∧ ∃ its : List Value, Vals xs its ∧ IsTup h a its.toArray
  | .dK kvs => kvs.length ≤ sizeLine ∧ (a == sysModules) = false ∧ ∃ vs, KV kvs vs ∧ h.DictOf (mixKind P w) a vs
  | .dT kvs => kvs.length ≤ sizeLine ∧ (a == sysModules) = false ∧ ∃ xs : List (List Key × Addr × Value),
      Paired (fun (p : List Key × V) (q : List Key × Addr × Value) => p.1 = q.1 ∧ H q.2.1 = some (.tup (p.1.map kV)) ∧ RelV p.2 q.2.2) kvs xs ∧
      ∃ o es ep, h.get? a = some o ∧ o.ExactDict ∧ o.data = .dict es ep ∧ es.toList = xs.map (entryOfKey (tupleKind (mixKind P w))) ∧ (xs.map (·.1)).Nodup
  | .set S n => h.SetOf (intKind P w) a S n
  | .ins C dx fs => H dx = some (.own a) ∧ fs.length ≤ 1000 ∧ dx ≠ a ∧ h.get? a = some (PySem.W.instObj C dx) ∧
      ∃ mA, h.Ns1 dx mA ∧ (∀ f, RelO (fs.lookup f) (mA f)) ∧ PySem.Within mA (fs.map (·.1))
  | .own _ => ∃ o, h.get? a = some o
  | .xd fs => ∃ mA, h.Ns1 a mA ∧ ∀ f, RelO (fs.lookup f) (mA f)
  | .rng lo hi => ∃ t u v, h.get? a = some { cls := .type "range", data := .fields #[.int lo t, .int hi u, .int 1 v] }
  | .frz o u => h.get? a = some o ∧ ObjOk H h a u
  | .tbl ps => h.get? a = some { cls := .none, data := .fields ps }
  | .met f x => h.get? a = some (PySem.W.methodObj (.ref f) (.ref x))
  | .ext φ => φ h ∧ (∃ o, h.get? a = some o) ∧ ∀ h1 h2 : Heap, φ h1 → (∀ o, h1.get? a = some o → h2.get? a = some o) → φ h2
/-- the abstract heap is held -/
def HOk (H : Hp) (h : Heap) : Prop := ∀ a o, H a = some o → ObjOk P w H h a o
end

section
variable {P : Program} {w : World} {H H' : Hp} {h h' : Heap} {a : Addr} {o : HO}
theorem ObjOk.lt (x : ObjOk P w H h a o) : a < h.objs.size := by
  cases o with
  | lst xs => obtain ⟨_, _, _, _, e⟩ := x; exact Heap.lt_size e
  | tup xs => obtain ⟨_, _, _, p⟩ := x; exact p.lt
  | dK kvs => obtain ⟨_, _, _, _, o, _, _, e, _⟩ := x; exact Heap.lt_size e
  | dT kvs => obtain ⟨_, _, _, _, o, _, _, e, _⟩ := x; exact Heap.lt_size e
  | set S n => obtain ⟨o, _, _, _, e, _⟩ := x; exact Heap.lt_size e
  | ins C dx fs => obtain ⟨_, _, _, e, _⟩ := x; exact Heap.lt_size e
  | own y => obtain ⟨_, e⟩ := x; exact Heap.lt_size e
  | xd fs => obtain ⟨_, ⟨_, _, _, e, _⟩, _⟩ := x; exact Heap.lt_size e
  | rng lo hi => obtain ⟨_, _, _, e⟩ := x; exact Heap.lt_size e
  | frz ob u => obtain ⟨e, _⟩ := x; exact Heap.lt_size e
  | tbl ps => exact Heap.lt_size (show h.get? a = some _ from x)
  | met f y => exact Heap.lt_size (show h.get? a = some _ from x)
  | ext φ => obtain ⟨_, ⟨_, e⟩, _⟩ := x; exact Heap.lt_size e
theorem Paired.mapP {α β : Type} {F G : α → β → Prop} : ∀ {l₁ : List α} {l₂ : List β}, Paired F l₁ l₂ → (∀ a b, F a b → G a b) → Paired G l₁ l₂
  | _, _, .nil, _ => .nil
  | _, _, .cons r t, f => .cons (f _ _ r) (Paired.mapP t f)
theorem Paired.imp' {α β : Type} {F G : α → β → Prop} (f : ∀ a b, F a b → G a b) {l₁ : List α} {l₂ : List β} (r : Paired F l₁ l₂) : Paired G l₁ l₂ := Paired.mapP r f
/-- what an object's description leans on: its own object, its own dict, the tuples -/
theorem ObjOk.stay (x : ObjOk P w H h a o) (k : ∀ b u, (b = a ∨ H b = some (.own a)) → h.get? b = some u → h'.get? b = some u)
    (ho : ∀ b, H b = some (.own a) → H' b = some (.own a)) (ht : ∀ b xs, H b = some (.tup xs) → H' b = some (.tup xs)) : ObjOk P w H' h' a o := by
  induction o with
  | lst xs => obtain ⟨z, its, n, r, e⟩ := x; exact ⟨z, its, n, r, k _ _ (.inl rfl) e⟩
  | tup xs => obtain ⟨z, its, r, ob, e, c⟩ := x; exact ⟨z, its, r, ob, k _ _ (.inl rfl) e, c⟩
  | dK kvs => obtain ⟨z, y, vs, r, ob, es, ep, e, c⟩ := x; exact ⟨z, y, vs, r, ob, es, ep, k _ _ (.inl rfl) e, c⟩
  | dT kvs =>
    obtain ⟨z, y, xs, r, ob, es, ep, e, c⟩ := x
    exact ⟨z, y, xs, Paired.mapP r fun p q z => ⟨z.1, ht _ _ z.2.1, z.2.2⟩, ob, es, ep, k _ _ (.inl rfl) e, c⟩
  | set S n => obtain ⟨ob, es, ep, t, e, c⟩ := x; exact ⟨ob, es, ep, t, k _ _ (.inl rfl) e, c⟩
  | ins C dx fs =>
    obtain ⟨d, z, ne, e, mA, ⟨od, es, ep, e2, c⟩, r⟩ := x
    exact ⟨ho _ d, z, ne, k _ _ (.inl rfl) e, mA, ⟨od, es, ep, k _ _ (.inr d) e2, c⟩, r⟩
  | own y => obtain ⟨ob, e⟩ := x; exact ⟨ob, k _ _ (.inl rfl) e⟩
  | xd fs => obtain ⟨mA, ⟨od, es, ep, e, c⟩, r⟩ := x; exact ⟨mA, ⟨od, es, ep, k _ _ (.inl rfl) e, c⟩, r⟩
  | rng lo hi => obtain ⟨t, u, v, e⟩ := x; exact ⟨t, u, v, k _ _ (.inl rfl) e⟩
  | frz ob u ih => obtain ⟨e, q⟩ := x; exact ⟨k _ _ (.inl rfl) e, ih q⟩
  | tbl ps =>
    have e : h.get? a = some { cls := .none, data := .fields ps } := x
    show h'.get? a = some { cls := .none, data := .fields ps }
    exact k a _ (.inl rfl) e
  | met f y =>
    have e : h.get? a = some (PySem.W.methodObj (.ref f) (.ref y)) := x
    show h'.get? a = some (PySem.W.methodObj (.ref f) (.ref y))
    exact k a _ (.inl rfl) e
  | ext φ => obtain ⟨p, ⟨o, e⟩, st⟩ := x; exact ⟨st _ _ p fun o q => k _ _ (.inl rfl) q, ⟨o, k _ _ (.inl rfl) e⟩, st⟩
theorem HOk.lt (x : HOk P w H h) (e : H a = some o) : a < h.objs.size := (x a o e).lt
theorem HOk.fresh (x : HOk P w H h) (e : h.objs.size ≤ a) : H a = none := by
  cases q : H a with
  | none => rfl
  | some u => exact absurd (Nat.lt_of_lt_of_le (x.lt q) e) (Nat.lt_irrefl _)
/-- every object of the heap is kept -/
theorem HOk.kept (x : HOk P w H h) (k : ∀ b u, h.get? b = some u → h'.get? b = some u) : HOk P w H h' := fun a o e =>
  (x a o e).stay (fun b u _ q => k b u q) (fun _ q => q) fun _ _ q => q
/-- a new object is laid and tracked -/
theorem HOk.laid (x : HOk P w H h) (k : ∀ b u, h.get? b = some u → h'.get? b = some u) (hp : h.objs.size ≤ a) (new : ObjOk P w (upd H a o) h' a o) : HOk P w (upd H a o) h' := fun b u e => by
  have hn := x.fresh hp
  by_cases hb : b = a
  · subst hb; rw [upd_same] at e; cases e; exact new
  · rw [upd_ne hb] at e
    exact (x b u e).stay (fun c v _ q => k c v q) (fun c q => by rw [upd_ne (ne_of_none q hn)]; exact q) fun c xs q => by rw [upd_ne (ne_of_none q hn)]; exact q
end

/-- what may be read as u: it is u, or a known u -/
def Rd (H : Hp) (a : Addr) (u : HO) : Prop := H a = some u ∨ ∃ o, H a = some (.frz o u)
theorem Rd.of {H : Hp} {a : Addr} {u : HO} (h : H a = some u) : Rd H a u := .inl h
theorem Rd.ok {P : Program} {w : World} {H : Hp} {h : Heap} {a : Addr} {u : HO} (r : Rd H a u) (x : HOk P w H h) : ObjOk P w H h a u := by
  rcases r with r | ⟨o, r⟩
  · exact x a u r
  · obtain ⟨_, q⟩ := x a _ r
    exact q
/-- what may be written -/
def Mut : Option HO → Prop
  | some (.lst _) => True
  | some (.dK _) => True
  | some (.dT _) => True
  | some (.set _ _) => True
  | some (.ins _ _ _) => True
  | some (.ext _) => True
  | _ => False
section
variable {P : Program} {w : World} {H : Hp} {h h' : Heap} {x e : Addr} {o' : HO}
/-- the object at e is changed: x itself, or the dict of the instance x -/
theorem HOk.write (ok : HOk P w H h) (mu : Mut (H x)) (he : e = x ∨ H e = some (.own x)) (k : ∀ b u, b ≠ e → h.get? b = some u → h'.get? b = some u) (heo : ∃ u, h'.get? e = some u)
    (new : ObjOk P w (upd H x o') h' x o') : HOk P w (upd H x o') h' := fun b u q => by
  have nown : ∀ c y, H c = some (.own y) → c ≠ x := fun c y r z => by subst z; rw [r] at mu; exact mu
  have ntup : ∀ c xs, H c = some (.tup xs) → c ≠ x := fun c xs r z => by subst z; rw [r] at mu; exact mu
  by_cases hb : b = x
  · subst hb; rw [upd_same] at q; cases q; exact new
  · rw [upd_ne hb] at q
    by_cases hbe : b = e
    · have q' : H b = some (.own x) := by
        rcases he with z | z
        · exact absurd (hbe.trans z) hb
        · rw [hbe]; exact z
      rw [q] at q'; cases q'
      obtain ⟨v, hv⟩ := heo
      exact ⟨v, by rw [hbe]; exact hv⟩
    · refine (ok b u q).stay (fun c v hc r => k c v ?_ r) (fun c r => by rw [upd_ne (nown c b r)]; exact r) fun c xs r => by rw [upd_ne (ntup c xs r)]; exact r
      rcases hc with rfl | hc
      · exact hbe
      · rintro rfl
        rcases he with z | z
        · exact nown c b hc z
        · rw [hc] at z; cases z; exact hb rfl
end

/-! ### kept unless tracked; of the frames at fs (the callers') the slots may change (an exception that passes writes there); of the records at ex (iterators) nothing is said -/
structure Un (fs ex : List Addr) (H H' : Hp) (h h' : Heap) : Prop where
  keep : ∀ b o, h.get? b = some o → H b = none → b ∉ fs → b ∉ ex → h'.get? b = some o
  slot : ∀ b o, h.get? b = some o → H b = none → b ∈ fs → b ∉ ex → ∃ sl, h'.get? b = some { o with slots := sl }
  free : ∀ b o, h.get? b = some o → H b = none → b ∉ ex → H' b = none
  there : ∀ b o, h.get? b = some o → b ∉ ex → ∃ o', h'.get? b = some o'
  tups : ∀ b xs, H b = some (.tup xs) → H' b = some (.tup xs)
  frzs : ∀ b o u, H b = some (.frz o u) → H' b = some (.frz o u)
  tbls : ∀ b ps, H b = some (.tbl ps) → ∃ more, H' b = some (.tbl (ps ++ more))
section
variable {fs fs' ex ex' : List Addr} {H H1 H2 : Hp} {h h1 h2 h' : Heap} {a x e : Addr} {o : HO}
theorem Un.any (u : Un fs ex H H1 h h1) {b : Addr} {ob : Obj} (q : h.get? b = some ob) (n : H b = none) (hx : b ∉ ex) : ∃ sl, h1.get? b = some { ob with slots := sl } := by
  by_cases hb : b ∈ fs
  · exact u.slot b ob q n hb hx
  · exact ⟨ob.slots, u.keep b ob q n hb hx⟩
theorem Un.trans (a : Un fs ex H H1 h h1) (b : Un fs ex H1 H2 h1 h2) : Un fs ex H H2 h h2 where
  keep := fun c ob q n hc hx => b.keep c ob (a.keep c ob q n hc hx) (a.free c ob q n hx) hc hx
  slot := fun c ob q n hc hx => by
    obtain ⟨sl, e1⟩ := a.slot c ob q n hc hx
    obtain ⟨sl', e2⟩ := b.slot c _ e1 (a.free c ob q n hx) hc hx
    exact ⟨sl', e2⟩
  free := fun c ob q n hx => by
    obtain ⟨o', e1⟩ := a.there c ob q hx
    exact b.free c o' e1 (a.free c ob q n hx) hx
  there := fun c ob q hx => by
    obtain ⟨o', e1⟩ := a.there c ob q hx
    exact b.there c o' e1 hx
  tups := fun c xs q => b.tups c xs (a.tups c xs q)
  frzs := fun c ob xs q => b.frzs c ob xs (a.frzs c ob xs q)
  tbls := fun c ps q => by
    obtain ⟨m1, e1⟩ := a.tbls c ps q
    obtain ⟨m2, e2⟩ := b.tbls c _ e1
    exact ⟨m1 ++ m2, by rw [e2, Array.append_assoc]⟩
theorem Un.kept (k : ∀ b u, h.get? b = some u → h'.get? b = some u) : Un fs ex H H h h' :=
  ⟨fun b ob q _ _ _ => k b ob q, fun b ob q _ _ _ => ⟨ob.slots, k b ob q⟩, fun _ _ _ n _ => n, fun b ob q _ => ⟨ob, k b ob q⟩, fun _ _ q => q, fun _ _ _ q => q, fun _ ps q => ⟨#[], by rw [q]; simp⟩⟩
theorem Un.refl : Un fs ex H H h h := Un.kept fun _ _ q => q
theorem Un.laid (k : ∀ b u, h.get? b = some u → h'.get? b = some u) (hp : h.objs.size ≤ a) (hn : H a = none) : Un fs ex H (upd H a o) h h' where
  keep := fun b u q _ _ _ => k b u q
  slot := fun b u q _ _ _ => ⟨u.slots, k b u q⟩
  free := fun b u q n _ => by rw [upd_ne (Nat.ne_of_lt (Nat.lt_of_lt_of_le (Heap.lt_size q) hp))]; exact n
  there := fun b u q _ => ⟨u, k b u q⟩
  tups := fun b xs q => by rw [upd_ne (ne_of_none q hn)]; exact q
  frzs := fun b u xs q => by rw [upd_ne (ne_of_none q hn)]; exact q
  tbls := fun b ps q => ⟨#[], by rw [upd_ne (ne_of_none q hn), q]; simp⟩
theorem Un.write (mu : Mut (H x)) (he : e = x ∨ H e = some (.own x)) (k : ∀ b u, b ≠ e → h.get? b = some u → h'.get? b = some u) (heo : ∃ u, h'.get? e = some u) : Un fs ex H (upd H x o) h h' := by
  have hx : ∀ b, H b = none → b ≠ x := fun b n z => by subst z; rw [n] at mu; exact mu
  have hb : ∀ b, H b = none → b ≠ e := fun b n z => by
    subst z
    rcases he with r | r
    · exact hx b n r
    · rw [n] at r; cases r
  have hm : ∀ b u, H b = some u → ¬ Mut (some u) → b ≠ x := fun b u q nm z => by subst z; rw [q] at mu; exact nm mu
  refine ⟨fun b u q n _ _ => k b u (hb b n) q, fun b u q n _ _ => ⟨u.slots, k b u (hb b n) q⟩, fun b u q n _ => by rw [upd_ne (hx b n)]; exact n, fun b u q _ => ?_,
    fun b xs q => by rw [upd_ne (hm b _ q fun z => z)]; exact q, fun b u xs q => by rw [upd_ne (hm b _ q fun z => z)]; exact q, fun b ps q => ⟨#[], by rw [upd_ne (hm b _ q fun z => z), q]; simp⟩⟩
  by_cases hbe : b = e
  · subst hbe; exact heo
  · exact ⟨u, k b u hbe q⟩
theorem Un.mono (u : Un fs ex H H1 h h1) (hs : ∀ b ∈ fs, b ∈ fs') (hx : ∀ b ∈ ex, b ∈ ex') : Un fs' ex' H H1 h h1 :=
  ⟨fun b ob q n hb he => u.keep b ob q n (fun z => hb (hs b z)) fun z => he (hx b z), fun _ _ q n _ he => u.any q n fun z => he (hx _ z), fun b ob q n he => u.free b ob q n fun z => he (hx b z), fun b ob q he => u.there b ob q fun z => he (hx b z), u.tups, u.frzs, u.tbls⟩
end

/-! ### the heap without what is tracked -/
def trk (h : Heap) (H : Hp) : List Addr := (List.range h.objs.size).filter fun a => (H a).isSome
def hidT (h : Heap) (H : Hp) : Heap := PySem.W.hideAll h (trk h H)
theorem hidT_size (h : Heap) (H : Hp) : (hidT h H).objs.size = h.objs.size := PySem.W.hideAll_size _ _
theorem hidT_get {h : Heap} {H : Hp} {b : Addr} {o : Obj} (e : h.get? b = some o) (n : H b = none) : (hidT h H).get? b = some o :=
  PySem.W.hideAll_get _ e fun hm => by
    have q : (H b).isSome = true := (List.mem_filter.mp hm).2
    rw [n] at q; simp at q
theorem of_hidT {h : Heap} {H : Hp} {b : Addr} {o : Obj} (e : (hidT h H).get? b = some o) : h.get? b = some o ∧ H b = none := by
  have e' : h.get? b = some o := PySem.W.of_hideAll (trk h H) e
  refine ⟨e', ?_⟩
  cases q : H b with
  | none => rfl
  | some x =>
    have hm : b ∈ trk h H := List.mem_filter.mpr ⟨List.mem_range.mpr (Heap.lt_size e'), by simp [q]⟩
    have z : (hidT h H).get? b = none := PySem.W.hideAll_none (trk h H) hm
    rw [z] at e; cases e

/-! ### OpenK's ledger, filled with every new object but one -/
def allNews (g h : Heap) (L : Addr) : List (Addr × Obj) := (List.range h.objs.size).filterMap fun a => if a = L ∨ (g.get? a).isSome = true then none else (h.get? a).map fun o => (a, o)
theorem mem_allNews {g h : Heap} {L a : Addr} {o : Obj} (h1 : a ≠ L) (h2 : g.get? a = none) (h3 : h.get? a = some o) : (a, o) ∈ allNews g h L :=
  List.mem_filterMap.mpr ⟨a, List.mem_range.mpr (Heap.lt_size h3), by simp [h1, h2, h3]⟩
theorem of_mem_allNews {g h : Heap} {L : Addr} {p : Addr × Obj} (hp : p ∈ allNews g h L) : p.1 ≠ L ∧ g.get? p.1 = none ∧ h.get? p.1 = some p.2 := by
  obtain ⟨b, _, e⟩ := List.mem_filterMap.mp hp
  split at e
  · cases e
  · rename_i hn
    cases q : h.get? b with
    | none => rw [q] at e; simp at e
    | some u =>
      rw [q] at e
      simp only [Option.map_some, Option.some.injEq] at e
      subst e
      refine ⟨fun z => hn (.inl z), ?_, q⟩
      show g.get? b = none
      cases r : g.get? b with
      | none => rfl
      | some v => exact (hn (.inr (by simp [r]))).elim
def rest (g h : Heap) (L d : Addr) : List (Addr × Obj) := (allNews g h L).filter fun p => decide (p.1 ≠ d)
theorem rest_ne {g h : Heap} {L d : Addr} : ∀ p ∈ rest g h L d, p.1 ≠ d := fun p hp => of_decide_eq_true (List.mem_filter.mp hp).2
theorem mem_rest {g h : Heap} {L d a : Addr} {o : Obj} (h1 : a ≠ L) (h2 : g.get? a = none) (h3 : h.get? a = some o) (h4 : a ≠ d) : (a, o) ∈ rest g h L d :=
  List.mem_filter.mpr ⟨mem_allNews h1 h2 h3, decide_eq_true h4⟩
theorem news_all {g h : Heap} {L : Addr} : News g L h (allNews g h L) := fun p hp => let ⟨a, b, c⟩ := of_mem_allNews hp; ⟨c, a, b⟩
theorem news_at {g h : Heap} {L d : Addr} {o : Obj} (h1 : d ≠ L) (h2 : g.get? d = none) (h3 : h.get? d = some o) : News g L h ((d, o) :: rest g h L d) := fun p hp => by
  rcases List.mem_cons.mp hp with rfl | hp
  · exact ⟨h3, h1, h2⟩
  · exact news_all p (List.mem_filter.mp hp).1
/-- behind a rule that changed d alone: all else but the frame is kept -/
theorem kept_of_news {g h h' : Heap} {L d : Addr} {m : Str → Option Value} (k : ∀ b o, g.get? b = some o → h.get? b = some o) (F : Fr g L h' m) (N : News g L h' (rest g h L d)) :
    ∀ b o, b ≠ L → b ≠ d → h.get? b = some o → h'.get? b = some o := fun b o h1 h2 e => by
  cases q : g.get? b with
  | some u =>
    have := k b u q
    rw [e] at this; cases this
    exact F.keep b _ q
  | none => exact (N (b, o) (mem_rest h1 q e h2)).1
end L2

namespace L2
open PySem PySem.Spec PyProof.Rows

/-- the module's facts, over the base: the heap at the law's entry without what is tracked there -/
structure Mod (K : PySem.W.Frag) (mg : Str → Option Value) (base : Heap) : Prop where
  kin : K.In base
  glob : base.Ns mainGlobals mg
  blt : ∃ mb, base.Ns builtinsNs mb ∧ ∀ x : Str, x ≠ "__name__" → mb x = bootBuiltins x
  nolimit : base.NoLimit

/-- the context: a def's body (or a comprehension's block) running. base: fixed through the whole law; s₀, H₀: the entry; outer: the frames whose slots others may change (a def's callers); stack: all frames that run;
   ex: iterators that were made ahead of the entry and are walked here (a comprehension's); fn: the names whose cells were made at the entry (a def: all; a comprehension's block: its own); calm: not within an except suite; pn: pins that every state bears; xe: what is wanted of an exception that leaves the code -/
structure Cx where
  prog : Program
  w : World
  K : PySem.W.Frag
  mg : Str → Option Value
  base : Heap
  A : Around
  N : List Str
  s₀ : Shared
  H₀ : Hp
  env : Env
  outer : List Env
  stack : List Env
  ex : List Addr
  fn : Str → Bool
  calm : Bool
  pn : List (Addr × Obj)
  xe : Value → Shared → Prop
/-- the callers' frames -/
def frs (l : List Env) : List Addr := l.filterMap (·.frame)
abbrev Cx.fs (X : Cx) : List Addr := frs X.outer

def Vis (sc : Scope) (x : Str) : Prop := sc.names.lookup x = some .local ∨ sc.names.lookup x = some .cell ∨ sc.names.lookup x = some .free
def Loc (sc : Scope) (x : Str) : Prop := sc.names.lookup x = some .local ∨ sc.names.lookup x = some .cell
def Look (env : Env) (h : Heap) (m : Str → Option Value) (x : Str) (u : Value) : Prop :=
  (env.kindOf x = some .local ∧ m x = some u) ∨ ((env.kindOf x = some .cell ∨ env.kindOf x = some .free) ∧ ∃ c, env.cells.lookup x = some c ∧ h.IsCell c (some u))

structure Cx.Ok (X : Cx) : Prop where
  mod : Mod X.K X.mg X.base
  kind : X.env.scope.kind = .function
  glob : X.env.globals = mainGlobals
  blt : X.env.builtins = builtinsNs
  above : X.s₀.heap.objs.size ≤ X.env.locals
  inj : ∀ x y c, X.env.cells.lookup x = some c → X.env.cells.lookup y = some c → x = y
  has : ∀ x, (X.env.kindOf x = some .cell ∨ X.env.kindOf x = some .free) → ∃ c, X.env.cells.lookup x = some c
  cab : ∀ x c, X.fn x = true → X.env.cells.lookup x = some c → X.s₀.heap.objs.size ≤ c
  hd : X.calm = true → X.A.handled = none
  frames : X.A.frames = some X.stack
  stk : X.stack = X.outer ∨ (X.stack = X.env :: X.outer ∧ X.env.frame = some X.env.locals)
  exf : ∀ b ∈ X.ex, b ≠ X.env.locals ∧ ∀ x c, X.env.cells.lookup x = some c → c ≠ b
  bs : ∀ b o, X.base.get? b = some o → X.s₀.heap.get? b = some o ∧ X.H₀ b = none
  bsz : X.base.objs.size ≤ X.s₀.heap.objs.size
  noex : ∀ b o, X.base.get? b = some o → b ∉ X.ex
  exfs : ∀ b ∈ X.ex, b ∉ X.fs
  funs : X.s₀.heap.FunFrames X.base X.outer
  frf : ∀ b ∈ X.fs, X.H₀ b = none

structure Inv (X : Cx) (pins : List (Addr × Obj)) (σ : List (Option V)) (H : Hp) (s : Shared) : Prop where
  ok : X.Ok
  os : s.os = X.s₀.os
  bare : AllBare s.gens
  base : Un X.fs X.ex X.H₀ H X.s₀.heap s.heap
  loc : ∃ m, s.heap.Ns X.env.locals m ∧ ∀ (i : Nat) (x : Str) (v : V), X.N[i]? = some x → σ[i]? = some (some v) → Vis X.env.scope x → ∃ u, RelV v u ∧ Look X.env s.heap m x u
  cell : ∀ x c, X.env.cells.lookup x = some c → ∃ v, s.heap.IsCell c v
  free : H X.env.locals = none
  freeC : ∀ x c, X.env.cells.lookup x = some c → H c = none
  pin : ∀ p ∈ X.pn ++ pins, s.heap.get? p.1 = some p.2 ∧ H p.1 = none ∧ p.1 ≠ X.env.locals ∧ p.1 ∉ X.fs ∧ ∀ v, p.2.data ≠ .cell v
  hok : HOk X.prog X.w H s.heap
  len : σ.length = X.N.length

section
variable {X : Cx} {pins : List (Addr × Obj)} {σ : List (Option V)} {H H' : Hp} {s : Shared} {h' : Heap}

theorem Cx.Ok.nofr (ok : X.Ok) {b : Addr} {o : Obj} (e : X.base.get? b = some o) : b ∉ X.fs := fun hb => by
  have := (ok.funs.mem hb).1
  rw [e] at this; cases this
theorem Inv.bs (I : Inv X pins σ H s) : ∀ b o, X.base.get? b = some o → s.heap.get? b = some o ∧ H b = none := fun b o e =>
  ⟨I.base.keep b o (I.ok.bs b o e).1 (I.ok.bs b o e).2 (I.ok.nofr e) (I.ok.noex b o e), I.base.free b o (I.ok.bs b o e).1 (I.ok.bs b o e).2 (I.ok.noex b o e)⟩
theorem Inv.bk (I : Inv X pins σ H s) : ∀ b o, X.base.get? b = some o → s.heap.get? b = some o := fun b o e => (I.bs b o e).1
theorem Inv.mod (I : Inv X pins σ H s) : Mod X.K X.mg X.base := I.ok.mod
theorem Inv.kIn (I : Inv X pins σ H s) : X.K.In s.heap := I.ok.mod.kin.keeps I.bk
theorem Inv.nolimit (I : Inv X pins σ H s) : s.heap.NoLimit := I.ok.mod.nolimit.keeps I.bk
/-- the frame over the base: for OpenK's rules (K.In X.base is I.mod.kin) -/
theorem Inv.fr (I : Inv X pins σ H s) : ∃ m, Fr X.base X.env.locals s.heap m :=
  let ⟨m, hn, _⟩ := I.loc
  ⟨m, hn, I.bk, Nat.le_trans I.ok.bsz I.ok.above⟩
theorem Inv.lt (I : Inv X pins σ H s) : X.env.locals < s.heap.objs.size := let ⟨_, hn, _⟩ := I.loc; hn.lt
theorem Inv.sz (I : Inv X pins σ H s) : X.s₀.heap.objs.size ≤ s.heap.objs.size := Nat.le_trans I.ok.above (Nat.le_of_lt I.lt)
theorem Inv.nofs (I : Inv X pins σ H s) {a : Addr} (h : s.heap.objs.size ≤ a) : a ∉ X.fs := fun hb => by
  obtain ⟨_, o, ho, _⟩ := I.ok.funs.mem hb
  exact absurd (Nat.lt_of_lt_of_le (Heap.lt_size ho) (Nat.le_trans I.sz h)) (Nat.lt_irrefl _)
theorem Inv.cne (I : Inv X pins σ H s) : ∀ x c, X.env.cells.lookup x = some c → c ≠ X.env.locals := fun x c e z => by
  obtain ⟨v, o, ho, hd⟩ := I.cell x c e
  obtain ⟨m, ⟨o', es, ep, ho', hd', _⟩, _⟩ := I.loc
  rw [z, ho'] at ho; cases ho; rw [hd'] at hd; cases hd
theorem Inv.funs (I : Inv X pins σ H s) : s.heap.FunFrames X.base X.outer := by
  have all : ∀ (l : List Env), (∀ b ∈ frs l, b ∈ X.fs) → X.s₀.heap.FunFrames X.base l → s.heap.FunFrames X.base l := by
    intro l
    induction l with
    | nil => intro _ _; trivial
    | cons env r ih =>
      intro hs hl
      obtain ⟨hk, ⟨L, o, hf, hn, ho, hd⟩, hr⟩ := hl
      have hL : L ∈ X.fs := hs L (by unfold frs; rw [List.filterMap_cons, hf]; exact List.mem_cons_self)
      obtain ⟨sl, e⟩ := I.base.slot L o ho (I.ok.frf L hL) hL fun z => I.ok.exfs L z hL
      exact ⟨hk, ⟨L, _, hf, hn, e, hd⟩, ih (fun b hb => hs b (by unfold frs; rw [List.filterMap_cons, hf]; exact List.mem_cons_of_mem _ hb)) hr⟩
  exact all X.outer (fun _ hb => hb) I.ok.funs

/-- the frames that run, for a call -/
theorem Inv.stack (I : Inv X pins σ H s) : s.heap.FunFrames X.base X.stack := by
  rcases I.ok.stk with e | ⟨e, hf⟩
  · rw [e]; exact I.funs
  · rw [e]
    obtain ⟨m, hn, _⟩ := I.loc
    refine .cons (by rw [I.ok.kind]; decide) hf hn ?_ I.funs
    exact Heap.get?_none_of_le (Nat.le_trans I.ok.bsz I.ok.above)
theorem Inv.stkSub (I : Inv X pins σ H s) : ∀ b ∈ frs X.stack, b ∈ X.env.locals :: X.fs := fun b hb => by
  rcases I.ok.stk with e | ⟨e, hf⟩
  · rw [e] at hb; exact List.mem_cons_of_mem _ hb
  · rw [e] at hb
    unfold frs at hb
    rw [List.filterMap_cons, hf] at hb
    exact hb
theorem Inv.stkFree (I : Inv X pins σ H s) : ∀ b ∈ frs X.stack, H b = none := fun b hb => by
  rcases List.mem_cons.mp (I.stkSub b hb) with e | hb
  · rw [e]; exact I.free
  · obtain ⟨_, o, ho, _⟩ := I.ok.funs.mem hb
    exact I.base.free b o ho (I.ok.frf b hb) fun z => I.ok.exfs b z hb

/-- THE STEP: the untracked objects but the frame and the records at ch are kept (the callers' frames up to slots), the frame's map is kept, the new abstract heap is held -/
theorem Inv.step {g' : Array GenState} {t' : Nat} {d' : Drawn} {ch : List Addr} (I : Inv X pins σ H s)
    (hch : ∀ b ∈ ch, (b ∈ X.ex ∨ X.s₀.heap.objs.size ≤ b) ∧ b ≠ X.env.locals ∧ (∀ x c, X.env.cells.lookup x = some c → c ≠ b) ∧ ∀ p ∈ X.pn ++ pins, p.1 ≠ b)
    (keep : ∀ b o, b ≠ X.env.locals → b ∉ X.fs → b ∉ ch → s.heap.get? b = some o → H b = none → h'.get? b = some o)
    (slot : ∀ b o, b ≠ X.env.locals → b ∈ X.fs → b ∉ ch → s.heap.get? b = some o → H b = none → ∃ sl, h'.get? b = some { o with slots := sl }) (free : ∀ b o, b ∉ ch → s.heap.get? b = some o → H b = none → H' b = none)
    (there : ∀ b o, b ∉ ch → s.heap.get? b = some o → ∃ o', h'.get? b = some o')
    (tups : ∀ b xs, H b = some (.tup xs) → H' b = some (.tup xs)) (frzs : ∀ b o u, H b = some (.frz o u) → H' b = some (.frz o u)) (tbls : ∀ b ps, H b = some (.tbl ps) → ∃ more, H' b = some (.tbl (ps ++ more)))
    (ns : ∀ m, s.heap.Ns X.env.locals m → h'.Ns X.env.locals m) (hok : HOk X.prog X.w H' h') (hg : AllBare g') :
    Inv X pins σ H' { s with heap := h', gens := g', drawn := d', toks := t' } := by
  have neL : ∀ b o, X.s₀.heap.get? b = some o → b ≠ X.env.locals := fun b o e => Nat.ne_of_lt (Nat.lt_of_lt_of_le (Heap.lt_size e) I.ok.above)
  have neC : ∀ b o, X.s₀.heap.get? b = some o → b ∉ X.ex → b ∉ ch := fun b o e hx hb => by
    rcases (hch b hb).1 with z | z
    · exact hx z
    · exact absurd (Nat.lt_of_lt_of_le (Heap.lt_size e) z) (Nat.lt_irrefl _)
  have cellK : ∀ x c, X.env.cells.lookup x = some c → ∀ v, s.heap.IsCell c v → h'.IsCell c v := fun x c e v ⟨o, ho, hd⟩ => by
    have nch : c ∉ ch := fun z => (hch c z).2.2.1 x c e rfl
    by_cases hc : c ∈ X.fs
    · obtain ⟨sl, q⟩ := slot c o (I.cne x c e) hc nch ho (I.freeC x c e)
      exact ⟨_, q, hd⟩
    · exact ⟨o, keep c o (I.cne x c e) hc nch ho (I.freeC x c e), hd⟩
  refine ⟨I.ok, I.os, hg, ⟨fun b o e n hb hx => ?_, fun b o e n hb hx => ?_, fun b o e n hx => ?_, fun b o e hx => ?_, fun b xs e => tups b xs (I.base.tups b xs e), fun b o xs e => frzs b o xs (I.base.frzs b o xs e), fun b ps e => ?_⟩, ?_, fun x c e => ?_, ?_, fun x c e => ?_, fun p hp => ?_, hok, I.len⟩
  · exact keep b o (neL b o e) hb (neC b o e hx) (I.base.keep b o e n hb hx) (I.base.free b o e n hx)
  · obtain ⟨sl, e1⟩ := I.base.slot b o e n hb hx
    obtain ⟨sl', e2⟩ := slot b _ (neL b o e) hb (neC b o e hx) e1 (I.base.free b o e n hx)
    exact ⟨sl', e2⟩
  · obtain ⟨o', e1⟩ := I.base.there b o e hx
    exact free b o' (neC b o e hx) e1 (I.base.free b o e n hx)
  · obtain ⟨o', e1⟩ := I.base.there b o e hx
    exact there b o' (neC b o e hx) e1
  · obtain ⟨m1, e1⟩ := I.base.tbls b ps e
    obtain ⟨m2, e2⟩ := tbls b _ e1
    exact ⟨m1 ++ m2, by rw [e2, Array.append_assoc]⟩
  · obtain ⟨m, hn, hl⟩ := I.loc
    refine ⟨m, ns m hn, fun i x v e1 e2 e3 => ?_⟩
    obtain ⟨u, r, l⟩ := hl i x v e1 e2 e3
    refine ⟨u, r, ?_⟩
    rcases l with l | ⟨k, c, e, z⟩
    · exact .inl l
    · exact .inr ⟨k, c, e, cellK x c e _ z⟩
  · obtain ⟨v, z⟩ := I.cell x c e
    exact ⟨v, cellK x c e v z⟩
  · obtain ⟨m, ⟨o, _, _, ho, _⟩, _⟩ := I.loc
    exact free _ o (fun z => (hch _ z).2.1 rfl) ho I.free
  · obtain ⟨v, o, ho, hd⟩ := I.cell x c e
    exact free c o (fun z => (hch c z).2.2.1 x c e rfl) ho (I.freeC x c e)
  · obtain ⟨e, n, ne, nf, d⟩ := I.pin p hp
    have nch : p.1 ∉ ch := fun z => (hch p.1 z).2.2.2 p hp rfl
    exact ⟨keep p.1 p.2 ne nf nch e n, free p.1 p.2 nch e n, ne, nf, d⟩
/-- .. where the frame's own object is kept too -/
theorem Inv.un {t' : Nat} (I : Inv X pins σ H s) (u : Un X.fs [] H H' s.heap h') (hok : HOk X.prog X.w H' h') : Inv X pins σ H' { s with heap := h', toks := t' } := by
  obtain ⟨m, ⟨o, es, ep, ho, r⟩, _⟩ := id I.loc
  obtain ⟨sl, hL⟩ := u.any ho I.free (by simp)
  exact I.step (g' := s.gens) (d' := s.drawn) (ch := []) (fun _ z => nomatch z) (fun b o _ hb _ e n => u.keep b o e n hb (by simp)) (fun b o _ hb _ e n => u.slot b o e n hb (by simp)) (fun b o _ e n => u.free b o e n (by simp)) (fun b o _ e => u.there b o e (by simp)) u.tups u.frzs u.tbls (fun m' hm => by
    obtain ⟨o', es', ep', ho', r'⟩ := hm
    rw [ho] at ho'; cases ho'
    exact ⟨_, es', ep', hL, r'⟩) hok I.bare
/-- behind a call (or a comprehension's block): the slots of this frame may have changed too, the records at ch may have turned -/
theorem Inv.call {g' : Array GenState} {t' : Nat} {d' : Drawn} {ch : List Addr} (I : Inv X pins σ H s) (u : Un (frs X.stack) ch H H' s.heap h') (hok : HOk X.prog X.w H' h') (hg : AllBare g')
    (hch : ∀ b ∈ ch, (b ∈ X.ex ∨ X.s₀.heap.objs.size ≤ b) ∧ b ≠ X.env.locals ∧ (∀ x c, X.env.cells.lookup x = some c → c ≠ b) ∧ ∀ p ∈ X.pn ++ pins, p.1 ≠ b) :
    Inv X pins σ H' { s with heap := h', gens := g', drawn := d', toks := t' } := by
  obtain ⟨m, ⟨o, es, ep, ho, r⟩, _⟩ := id I.loc
  obtain ⟨sl, hL⟩ := u.any ho I.free fun z => (hch _ z).2.1 rfl
  exact I.step (ch := ch) hch (fun b o hL hb hc e n => u.keep b o e n (fun z => (List.mem_cons.mp (I.stkSub b z)).elim hL hb) hc) (fun b o _ _ hc e n => u.any e n hc) (fun b o hc e n => u.free b o e n hc) (fun b o hc e => u.there b o e hc) u.tups u.frzs u.tbls (fun m' hm => by
    obtain ⟨o', es', ep', ho', r'⟩ := hm
    rw [ho] at ho'; cases ho'
    exact ⟨_, es', ep', hL, r'⟩) hok hg
/-- an untracked record of ours (an iterator) has turned -/
theorem Inv.turned {t' : Nat} {it : Addr} (I : Inv X pins σ H s) (k : ∀ b o, b ≠ it → s.heap.get? b = some o → h'.get? b = some o) (hn : H it = none) (hL : it ≠ X.env.locals)
    (h1 : it ∈ X.ex ∨ X.s₀.heap.objs.size ≤ it) (h2 : ∀ x c, X.env.cells.lookup x = some c → c ≠ it) (h3 : ∀ p ∈ X.pn ++ pins, p.1 ≠ it) : Inv X pins σ H { s with heap := h', toks := t' } := by
  have nit : ∀ b u, H b = some u → b ≠ it := fun b u e z => by rw [z, hn] at e; cases e
  refine I.step (g' := s.gens) (d' := s.drawn) (ch := [it]) (fun b hb => ?_) (fun b o _ _ hc e _ => k b o (fun z => hc (by simp [z])) e) (fun b o _ _ hc e _ => ⟨o.slots, k b o (fun z => hc (by simp [z])) e⟩) (fun _ _ _ _ n => n)
    (fun b o hc e => ⟨o, k b o (fun z => hc (by simp [z])) e⟩) (fun _ _ e => e) (fun _ _ _ e => e) (fun b ps e => ⟨#[], by rw [e]; simp⟩) (fun m hm => ?_) (fun b u e => ?_) I.bare
  · have e : b = it := by simpa using hb
    subst e
    exact ⟨h1, hL, h2, h3⟩
  · obtain ⟨o, es, ep, ho, r⟩ := hm
    exact ⟨o, es, ep, k _ o (Ne.symm hL) ho, r⟩
  · refine (I.hok b u e).stay (fun c v hc q => k c v ?_ q) (fun _ q => q) fun _ _ q => q
    rcases hc with z | z
    · rw [z]; exact nit b u e
    · exact nit c _ z
theorem Inv.tok (I : Inv X pins σ H s) (t : Nat) : Inv X pins σ H { s with toks := t } := I.un (h' := s.heap) (t' := t) Un.refl I.hok
/-- all objects kept -/
theorem Inv.kept {t' : Nat} (I : Inv X pins σ H s) (k : ∀ b u, s.heap.get? b = some u → h'.get? b = some u) : Inv X pins σ H { s with heap := h', toks := t' } := I.un (Un.kept k) (I.hok.kept k)
/-- a new object laid and tracked -/
theorem Inv.laid {a : Addr} {o : HO} {t' : Nat} (I : Inv X pins σ H s) (k : ∀ b u, s.heap.get? b = some u → h'.get? b = some u) (hp : s.heap.objs.size ≤ a) (new : ObjOk X.prog X.w (upd H a o) h' a o) :
    Inv X pins σ (upd H a o) { s with heap := h', toks := t' } := I.un (Un.laid k hp (I.hok.fresh hp)) (I.hok.laid k hp new)
/-- an object written -/
theorem Inv.write {x e : Addr} {o : HO} {t' : Nat} (I : Inv X pins σ H s) (mu : Mut (H x)) (he : e = x ∨ H e = some (.own x)) (k : ∀ b u, b ≠ e → s.heap.get? b = some u → h'.get? b = some u) (heo : ∃ u, h'.get? e = some u)
    (new : ObjOk X.prog X.w (upd H x o) h' x o) : Inv X pins σ (upd H x o) { s with heap := h', toks := t' } := I.un (Un.write mu he k heo) (I.hok.write mu he k heo new)
/-- forgetting slots, pins -/
theorem Inv.weak {σ' : List (Option V)} (I : Inv X pins σ H s) (hl : σ'.length = σ.length) (w : ∀ (i : Nat) v, σ'[i]? = some (some v) → σ[i]? = some (some v)) : Inv X pins σ' H s :=
  ⟨I.ok, I.os, I.bare, I.base, let ⟨m, hn, hl'⟩ := I.loc; ⟨m, hn, fun i x v e1 e2 e3 => hl' i x v e1 (w i v e2) e3⟩, I.cell, I.free, I.freeC, I.pin, I.hok, hl.trans I.len⟩
theorem Inv.pins_of {pins' : List (Addr × Obj)} (I : Inv X pins σ H s) (h : ∀ p ∈ pins', s.heap.get? p.1 = some p.2 ∧ H p.1 = none ∧ p.1 ≠ X.env.locals ∧ p.1 ∉ X.fs ∧ ∀ v, p.2.data ≠ .cell v) : Inv X pins' σ H s :=
  ⟨I.ok, I.os, I.bare, I.base, I.loc, I.cell, I.free, I.freeC, fun p hp => (List.mem_append.mp hp).elim (fun z => I.pin p (List.mem_append_left _ z)) (h p), I.hok, I.len⟩

theorem nodup_ix {N : List Str} (hN : N.Nodup) {i j : Nat} {x : Str} (a : N[i]? = some x) (b : N[j]? = some x) : i = j := by
  obtain ⟨h1, e1⟩ := List.getElem?_eq_some_iff.mp a
  obtain ⟨h2, e2⟩ := List.getElem?_eq_some_iff.mp b
  exact (List.getElem_inj hN).mp (e1.trans e2.symm)

/-- a name is stored; what changed -/
theorem store_ok2 {M : Model} {A : Around} {E : Value → Shared → Prop} {i : Nat} {x : Str} {v : V} {u : Value} {Q : Unit → Shared → Prop} (I : Inv X pins σ H s) (hN : X.N.Nodup) (hi : X.N[i]? = some x) (hx : Loc X.env.scope x) (r : RelV v u)
    (h : ∀ s', Inv X pins (σ.set i (some v)) H s' → (∃ a, Heap.SameBut a s.heap s'.heap ∧ (a = X.env.locals ∨ X.env.cells.lookup x = some a)) → Q () s') (hf : X.fn x = true ∨ X.env.scope.names.lookup x = some .local := by first | exact .inl rfl | exact .inr rfl | assumption) : wpAny M A (storeName X.env x u) Q E s := by
  obtain ⟨m, hn, hl⟩ := id I.loc
  have hcls : (X.env.scope.kind == .class || (X.env.scope.kind == .module && X.env.locals != X.env.globals)) = false := by rw [I.ok.kind]; rfl
  have hiσ : i < σ.length := by rw [I.len]; exact (List.getElem?_eq_some_iff.mp hi).1
  have cne := I.cne
  have tracked : ∀ {a : Addr} {h' : Heap}, (∃ o, s.heap.get? a = some o ∧ H a = none) → Heap.SameBut a s.heap h' → HOk X.prog X.w H h' := fun {a h'} ha hs b ob e => by
    obtain ⟨_, _, hfree⟩ := ha
    refine (I.hok b ob e).stay (fun c w' hc q => (hs.2 c ?_).trans q) (fun _ q => q) fun _ _ q => q
    rintro rfl
    rcases hc with rfl | hc
    · rw [hfree] at e; cases e
    · rw [hfree] at hc; cases hc
  rcases hx with hk | hk
  · refine wpAny_storeName_local hk hn (fun h' hn' hs => ?_) hcls
    obtain ⟨oL, _, _, hoL, _⟩ := id hn
    refine h _ ⟨I.ok, I.os, I.bare, ⟨fun b o e n hb hx => ?_, fun b o e n hb hx => ?_, I.base.free, fun b o e hx => ?_, I.base.tups, I.base.frzs, I.base.tbls⟩, ⟨_, hn', fun j y v' e1 e2 e3 => ?_⟩, fun y c e => ?_, I.free, I.freeC, fun p hp => ?_, tracked ⟨oL, hoL, I.free⟩ hs, by simpa using I.len⟩ ⟨_, hs, .inl rfl⟩
    · exact (hs.2 b (Nat.ne_of_lt (Nat.lt_of_lt_of_le (Heap.lt_size e) I.ok.above))).trans (I.base.keep b o e n hb hx)
    · obtain ⟨sl, e1⟩ := I.base.slot b o e n hb hx
      exact ⟨sl, (hs.2 b (Nat.ne_of_lt (Nat.lt_of_lt_of_le (Heap.lt_size e) I.ok.above))).trans e1⟩
    · obtain ⟨o', e1⟩ := I.base.there b o e hx
      exact ⟨o', (hs.2 b (Nat.ne_of_lt (Nat.lt_of_lt_of_le (Heap.lt_size e) I.ok.above))).trans e1⟩
    · by_cases hj : j = i
      · subst hj
        rw [hi] at e1; cases e1
        rw [List.getElem?_set_self hiσ] at e2
        cases e2
        exact ⟨u, r, .inl ⟨hk, by simp⟩⟩
      · rw [List.getElem?_set_ne (Ne.symm hj)] at e2
        obtain ⟨u', r', q⟩ := hl j y v' e1 e2 e3
        refine ⟨u', r', ?_⟩
        rcases q with ⟨k, e⟩ | ⟨k, c, e, z⟩
        · refine .inl ⟨k, ?_⟩
          have : y ≠ x := fun e => hj (nodup_ix hN e1 (e ▸ hi))
          simp [this, e]
        · exact .inr ⟨k, c, e, z.sameBut hs (cne y c e)⟩
    · obtain ⟨w', z⟩ := I.cell y c e
      exact ⟨w', z.sameBut hs (cne y c e)⟩
    · obtain ⟨e, n, ne, nf, d⟩ := I.pin p hp
      exact ⟨(hs.2 p.1 ne).trans e, n, ne, nf, d⟩
  · have hfn : X.fn x = true := by
      rcases hf with z | z
      · exact z
      · rw [z] at hk; cases hk
    obtain ⟨c, hc⟩ := I.ok.has x (.inl hk)
    obtain ⟨w', z⟩ := I.cell x c hc
    refine wpAny_storeName_cell I.ok.kind hk hc z (fun h' hc' hs => ?_)
    obtain ⟨oc, hoc, hocd⟩ := id z
    refine h { s with heap := h' } ⟨I.ok, I.os, I.bare, ⟨fun b o e n hb hx => ?_, fun b o e n hb hx => ?_, I.base.free, fun b o e hx => ?_, I.base.tups, I.base.frzs, I.base.tbls⟩, ⟨m, hn.sameBut hs (Ne.symm (cne x c hc)), fun j y v' e1 e2 e3 => ?_⟩, fun y c' e => ?_, I.free, I.freeC, fun p hp => ?_, tracked ⟨oc, hoc, I.freeC x c hc⟩ hs, by simpa using I.len⟩ ⟨c, hs, .inr hc⟩
    · exact (hs.2 b (Nat.ne_of_lt (Nat.lt_of_lt_of_le (Heap.lt_size e) (I.ok.cab x c hfn hc)))).trans (I.base.keep b o e n hb hx)
    · obtain ⟨sl, e1⟩ := I.base.slot b o e n hb hx
      exact ⟨sl, (hs.2 b (Nat.ne_of_lt (Nat.lt_of_lt_of_le (Heap.lt_size e) (I.ok.cab x c hfn hc)))).trans e1⟩
    · obtain ⟨o', e1⟩ := I.base.there b o e hx
      exact ⟨o', (hs.2 b (Nat.ne_of_lt (Nat.lt_of_lt_of_le (Heap.lt_size e) (I.ok.cab x c hfn hc)))).trans e1⟩
    · by_cases hj : j = i
      · subst hj
        rw [hi] at e1; cases e1
        rw [List.getElem?_set_self hiσ] at e2
        cases e2
        exact ⟨u, r, .inr ⟨.inl hk, c, hc, hc'⟩⟩
      · rw [List.getElem?_set_ne (Ne.symm hj)] at e2
        obtain ⟨u', r', q⟩ := hl j y v' e1 e2 e3
        refine ⟨u', r', ?_⟩
        rcases q with q | ⟨k, c', e, z'⟩
        · exact .inl q
        · refine .inr ⟨k, c', e, z'.sameBut hs ?_⟩
          rintro rfl
          exact hj (nodup_ix hN e1 (I.ok.inj _ _ _ e hc ▸ hi))
    · by_cases hcc : c' = c
      · subst hcc; exact ⟨_, hc'⟩
      · obtain ⟨w2, z2⟩ := I.cell y c' e
        exact ⟨w2, z2.sameBut hs hcc⟩
    · obtain ⟨e, n, ne, nf, d⟩ := I.pin p hp
      refine ⟨(hs.2 p.1 ?_).trans e, n, ne, nf, d⟩
      intro q
      rw [q, hoc] at e
      have q' : oc = p.2 := Option.some.inj e
      exact d w' (by rw [← q']; exact hocd)
theorem store_ok {M : Model} {A : Around} {E : Value → Shared → Prop} {i : Nat} {x : Str} {v : V} {u : Value} {Q : Unit → Shared → Prop} (I : Inv X pins σ H s) (hN : X.N.Nodup) (hi : X.N[i]? = some x) (hx : Loc X.env.scope x) (r : RelV v u)
    (h : ∀ s', Inv X pins (σ.set i (some v)) H s' → Q () s') (hf : X.fn x = true ∨ X.env.scope.names.lookup x = some .local := by first | exact .inl rfl | exact .inr rfl | assumption) : wpAny M A (storeName X.env x u) Q E s :=
  store_ok2 I hN hi hx r (fun s' I' _ => h s' I') hf
/-- behind a call or a block, the state as it is -/
theorem Inv.call' {s' : Shared} {ch : List Addr} (I : Inv X pins σ H s) (ho : s'.os = s.os) (u : Un (frs X.stack) ch H H' s.heap s'.heap) (hok : HOk X.prog X.w H' s'.heap) (hg : AllBare s'.gens)
    (hch : ∀ b ∈ ch, (b ∈ X.ex ∨ X.s₀.heap.objs.size ≤ b) ∧ b ≠ X.env.locals ∧ (∀ x c, X.env.cells.lookup x = some c → c ≠ b) ∧ ∀ p ∈ X.pn ++ pins, p.1 ≠ b) : Inv X pins σ H' s' := by
  obtain ⟨h', g', d', t', o'⟩ := s'
  have e : o' = s.os := ho
  subst e
  exact I.call (g' := g') (t' := t') (d' := d') u hok hg hch
end

/-! ### the judgements -/
/-- an exception: its class, its own dict's address (where it has one), the abstract heap behind it -/
abbrev XK := Value → Option Addr → Hp → Prop
abbrev St := List (Option V)
abbrev VK := V → Hp → Prop
/-- an expression's reading; a test's; an argument list's -/
abbrev TE := St → Hp → VK → Prop
abbrev TT := St → Hp → (Bool → Hp → Prop) → Prop
abbrev TA := St → Hp → (List V → Hp → Prop) → Prop
/-- what is wanted behind a statement -/
structure Ends where
  nx : St → Hp → Prop
  rt : VK
  bk : St → Hp → Prop := fun _ _ => False
  ct : St → Hp → Prop := fun _ _ => False
abbrev TS := Ends → St → Hp → Prop

def EP (X : Cx) (pins : List (Addr × Obj)) (σ : St) (Q : VK) (u : Value) (s' : Shared) : Prop := ∃ v H', Inv X pins σ H' s' ∧ RelV v u ∧ Q v H'
def TP (X : Cx) (pins : List (Addr × Obj)) (σ : St) (Q : Bool → Hp → Prop) (b : Bool) (s' : Shared) : Prop := ∃ H', Inv X pins σ H' s' ∧ Q b H'
def AP (X : Cx) (pins : List (Addr × Obj)) (σ : St) (Q : List V → Hp → Prop) (us : List Value) (s' : Shared) : Prop := ∃ vs H', Inv X pins σ H' s' ∧ Vals vs us ∧ Q vs H'
def SP (X : Cx) (pins : List (Addr × Obj)) (D : Ends) (f : Flow) (s' : Shared) : Prop :=
  match f with
  | .next => ∃ σ' H', Inv X pins σ' H' s' ∧ D.nx σ' H'
  | .brk => ∃ σ' H', Inv X pins σ' H' s' ∧ D.bk σ' H'
  | .cont => ∃ σ' H', Inv X pins σ' H' s' ∧ D.ct σ' H'
  | .ret u => ∃ v σ' H', Inv X pins σ' H' s' ∧ RelV v u ∧ D.rt v H'

def PE (X : Cx) (e : Expr) (t : TE) : Prop :=
  ∀ (pins : List (Addr × Obj)) (s : Shared) (σ : St) (H : Hp) (Q : VK), Inv X pins σ H s → t σ H Q → wpAny (model X.prog X.w) X.A (eval e X.env) (EP X pins σ Q) X.xe s
def PT (X : Cx) (e : Expr) (t : TT) : Prop :=
  ∀ (pins : List (Addr × Obj)) (s : Shared) (σ : St) (H : Hp) (Q : Bool → Hp → Prop), Inv X pins σ H s → t σ H Q → wpAny (model X.prog X.w) X.A (isTrue e X.env (eval e X.env)) (TP X pins σ Q) X.xe s
/-- a test whatever its 'whole' is (and, or) -/
def PW (X : Cx) (e : Expr) (t : TT) : Prop :=
  ∀ (whole : Sem Value) (pins : List (Addr × Obj)) (s : Shared) (σ : St) (H : Hp) (Q : Bool → Hp → Prop), Inv X pins σ H s → t σ H Q → wpAny (model X.prog X.w) X.A (isTrue e X.env whole) (TP X pins σ Q) X.xe s
theorem PW.pt {X : Cx} {e : Expr} {t : TT} (h : PW X e t) : PT X e t := h _
/-- an argument list (no star), from the left -/
def PA (X : Cx) (es : List Expr) (t : TA) : Prop :=
  ∀ (pos : Pos) (pins : List (Addr × Obj)) (s : Shared) (σ : St) (H : Hp) (Q : List V → Hp → Prop), Inv X pins σ H s → t σ H Q → wpAny (model X.prog X.w) X.A (spliced (backTo pos (starEach es X.env))) (AP X pins σ Q) X.xe s
def PS (X : Cx) (st : Stmt) (t : TS) : Prop :=
  ∀ (pins : List (Addr × Obj)) (s : Shared) (σ : St) (H : Hp) (D : Ends), Inv X pins σ H s → t D σ H → wpAny (model X.prog X.w) X.A (exec st X.env) (SP X pins D) X.xe s
def PSs (X : Cx) (st : List Stmt) (t : TS) : Prop :=
  ∀ (pins : List (Addr × Obj)) (s : Shared) (σ : St) (H : Hp) (D : Ends), Inv X pins σ H s → t D σ H → wpAny (model X.prog X.w) X.A (execs st X.env) (SP X pins D) X.xe s
/-- weaken the end -/
theorem thn {α : Type} {t : Sem α} {Q Q' : α → Shared → Prop} {M : Model} {A : Around} {E : Value → Shared → Prop} {s : Shared} (h : wpAny M A t Q E s) (hQ : ∀ a s, Q a s → Q' a s) : wpAny M A t Q' E s := wpAny_mono h hQ fun _ _ x => x
end L2

namespace L2
open PySem PySem.Spec PyProof.Rows
section
variable {X : Cx}

/-- two expressions in a row -/
theorem bin {a b : Expr} {ta tb : TE} (ha : PE X a ta) (hb : PE X b tb) {pins : List (Addr × Obj)} {s : Shared} {σ : St} {H : Hp} {R : V → V → Hp → Prop} (I : Inv X pins σ H s) (h : ta σ H fun x H1 => tb σ H1 fun y H2 => R x y H2)
    {α : Type} {Q : α → Shared → Prop} {f : Value → Value → Sem α}
    (hf : ∀ v u s2 x y H2, Inv X pins σ H2 s2 → RelV x v → RelV y u → R x y H2 → wpAny (model X.prog X.w) X.A (f v u) Q X.xe s2) :
    wpAny (model X.prog X.w) X.A (eval a X.env) (fun v s₁ => wpAny (model X.prog X.w) X.A (eval b X.env) (fun u s₂ => wpAny (model X.prog X.w) X.A (f v u) Q X.xe s₂) X.xe s₁) X.xe s := by
  refine thn (ha pins s σ H _ I h) fun v s1 ⟨x, H1, I1, r1, q1⟩ => ?_
  refine thn (hb pins s1 σ H1 _ I1 q1) fun u s2 ⟨y, H2, I2, r2, q2⟩ => ?_
  exact hf v u s2 x y H2 I2 r1 r2 q2

/-! ### names and constants -/
def tVar (i : Nat) : TE := fun σ H Q => ∃ v, σ[i]? = some (some v) ∧ Q v H
def tC (v : V) : TE := fun _ H Q => Q v H
theorem pe_var {i : Nat} {x : Str} {pos : Pos} (hN : X.N[i]? = some x) (hv : Vis X.env.scope x) (hd : (x == ("__debug__" : Str)) = false := by decide) (hcd : (x == ("__classdict__" : Str)) = false := by decide) : PE X (.Name x pos) (tVar i) := by
  intro pins s σ H Q I h
  obtain ⟨v, e, h⟩ := h
  obtain ⟨m, hn, hl⟩ := I.loc
  obtain ⟨u, r, l⟩ := hl i x v hN e hv
  have fin : EP X pins σ Q u s := ⟨v, H, I, r, h⟩
  rcases l with ⟨hk, hm⟩ | ⟨hk, c, hc, hcell⟩
  · exact wpAny_Name (wpAny_loadName_local I.ok.kind hk hn hm fin) hd
  · rcases hk with hk | hk
    · exact wpAny_Name (wpAny_loadName_cell I.ok.kind hk hc hcell fin) hd
    · exact wpAny_Name (wpAny_loadName_free I.ok.kind hk hc hcell fin hcd) hd
theorem pe_int {i j pos} : PE X (.Constant (.int i) j pos) (tC (.int i)) := fun _ _ _ H _ I h => wpAny_Constant_int ⟨.int i, H, I.tok _, ⟨_, rfl⟩, h⟩
theorem pe_bl {b j pos} : PE X (.Constant (.bool b) j pos) (tC (.bl b)) := fun _ _ _ H _ I h => Constant_bool ⟨.bl b, H, I, rfl, h⟩
theorem pe_non {j pos} : PE X (.Constant .none j pos) (tC .non) := fun _ _ _ H _ I h => Constant_none ⟨.non, H, I, rfl, h⟩
theorem pe_str {x j pos} : PE X (.Constant (.str x) j pos) (tC (.str x)) := fun _ _ _ H _ I h => Calls.Constant_str ⟨.str x, H, I.tok _, ⟨_, rfl⟩, h⟩

/-- a global name of the def -/
def Gl (X : Cx) (x : Str) : Prop := X.env.kindOf x = some .globalImplicit
theorem ld_glob {E : Value → Shared → Prop} {pins : List (Addr × Obj)} {s : Shared} {σ : St} {H : Hp} {x : Str} {u : Value} {pos : Pos} {Q : Value → Shared → Prop} (I : Inv X pins σ H s) (hg : Gl X x) (hm : X.mg x = some u) (h : Q u s)
    (hd : (x == ("__debug__" : Str)) = false := by decide) : wpAny (model X.prog X.w) X.A (eval (.Name x pos) X.env) Q E s :=
  Calls.Name_function_global I.ok.kind hg (Calls.loadGlobal_global (by rw [I.ok.glob]; exact I.mod.glob.keeps I.bk) hm h) hd
theorem ld_blt {E : Value → Shared → Prop} {pins : List (Addr × Obj)} {s : Shared} {σ : St} {H : Hp} {x : Str} {u : Value} {pos : Pos} {Q : Value → Shared → Prop} (I : Inv X pins σ H s) (hg : Gl X x) (hm : X.mg x = none) (hv : bootBuiltins x = some u) (h : Q u s)
    (hn : x ≠ "__name__" := by decide) (hd : (x == ("__debug__" : Str)) = false := by decide) : wpAny (model X.prog X.w) X.A (eval (.Name x pos) X.env) Q E s := by
  obtain ⟨mb, h1, h2⟩ := I.mod.blt
  exact Calls.Name_function_global I.ok.kind hg (Calls.loadGlobal_builtin (by rw [I.ok.glob]; exact I.mod.glob.keeps I.bk) hm (by rw [I.ok.blt]; exact h1.keeps I.bk) ((h2 x hn).trans hv) h) hd
/-- a module's constant, a class, a function, as a value -/
theorem pe_glob {x : Str} {v : V} {u : Value} {pos : Pos} (hg : Gl X x) (hm : X.mg x = some u) (r : RelV v u) (hd : (x == ("__debug__" : Str)) = false := by decide) : PE X (.Name x pos) (tC v) :=
  fun _ _ _ H _ I h => ld_glob I hg hm ⟨v, H, I, r, h⟩ hd
theorem pe_bltn {x : Str} {v : V} {u : Value} {pos : Pos} (hg : Gl X x) (hm : X.mg x = none) (hv : bootBuiltins x = some u) (r : RelV v u) (hn : x ≠ "__name__" := by decide) (hd : (x == ("__debug__" : Str)) = false := by decide) : PE X (.Name x pos) (tC v) :=
  fun _ _ _ H _ I h => ld_blt I hg hm hv ⟨v, H, I, r, h⟩ hn hd

/-! ### arithmetic -/
/-- two ints -/
def t2I (ta tb : TE) (k : Int → Int → Hp → Prop) : St → Hp → Prop := fun σ H => ta σ H fun x H1 => tb σ H1 fun y H2 => ∃ i j, x = .int i ∧ y = .int j ∧ k i j H2
def tAdd (ta tb : TE) : TE := fun σ H Q => t2I ta tb (fun i j H2 => Q (.int (i + j)) H2) σ H
def tSub (ta tb : TE) : TE := fun σ H Q => t2I ta tb (fun i j H2 => Q (.int (i - j)) H2) σ H
/-- the left factor below 2^64 -/
def tMul (ta tb : TE) : TE := fun σ H Q => t2I ta tb (fun i j H2 => (-(2 ^ 64) < i ∧ i < 2 ^ 64) ∧ Q (.int (i * j)) H2) σ H
variable {a b : Expr} {ta tb : TE} {pos : Pos}
theorem pe_add (ha : PE X a ta) (hb : PE X b tb) : PE X (.BinOp a .Add b pos) (tAdd ta tb) := by
  intro pins s σ H Q I h
  refine wpAny_BinOp (bin ha hb I h fun v u s2 x y H2 I2 rx ry q => ?_)
  obtain ⟨i, j, rfl, rfl, q⟩ := q
  obtain ⟨t, rfl⟩ := rx
  obtain ⟨t', rfl⟩ := ry
  exact add_int ⟨.int _, H2, I2.tok _, ⟨_, rfl⟩, q⟩
theorem pe_sub (ha : PE X a ta) (hb : PE X b tb) : PE X (.BinOp a .Sub b pos) (tSub ta tb) := by
  intro pins s σ H Q I h
  refine wpAny_BinOp (bin ha hb I h fun v u s2 x y H2 I2 rx ry q => ?_)
  obtain ⟨i, j, rfl, rfl, q⟩ := q
  obtain ⟨t, rfl⟩ := rx
  obtain ⟨t', rfl⟩ := ry
  exact sub_int ⟨.int _, H2, I2.tok _, ⟨_, rfl⟩, q⟩
theorem pe_mul (ha : PE X a ta) (hb : PE X b tb) : PE X (.BinOp a .Mult b pos) (tMul ta tb) := by
  intro pins s σ H Q I h
  refine wpAny_BinOp (bin ha hb I h fun v u s2 x y H2 I2 rx ry q => ?_)
  obtain ⟨i, j, rfl, rfl, ⟨q1, q2⟩, q⟩ := q
  obtain ⟨t, rfl⟩ := rx
  obtain ⟨t', rfl⟩ := ry
  exact mul_int ⟨.int _, H2, I2.tok _, ⟨_, rfl⟩, q⟩ (.of_left (intBits_le_64 q1 q2))

/-! ### comparisons -/
def PC (X : Cx) (op : CmpOp) (a b : Expr) (t : TE) : Prop :=
  ∀ (pins : List (Addr × Obj)) (s : Shared) (σ : St) (H : Hp) (Q : VK), Inv X pins σ H s → t σ H Q →
    wpAny (model X.prog X.w) X.A (eval a X.env) (fun v s₁ => wpAny (model X.prog X.w) X.A (eval b X.env) (fun u s₂ => wpAny (model X.prog X.w) X.A (compareOp op v u) (EP X pins σ Q) X.xe s₂) X.xe s₁) X.xe s
theorem nobehind (b : Expr) {op : CmpOp} (h : op ≠ .In) (h2 : op ≠ .NotIn) : behindInMarks op b = false := by
  have e1 : (op == CmpOp.In) = false := by cases op <;> first | rfl | exact absurd rfl h
  have e2 : (op == CmpOp.NotIn) = false := by cases op <;> first | rfl | exact absurd rfl h2
  cases b <;> simp [behindInMarks, e1, e2]
def tCmp (p : Int → Int → Bool) (ta tb : TE) : TE := fun σ H Q => t2I ta tb (fun i j H2 => Q (.bl (p i j)) H2) σ H
abbrev tLt : TE → TE → TE := tCmp fun i j => decide (i < j)
abbrev tLe : TE → TE → TE := tCmp fun i j => decide (i ≤ j)
abbrev tGt : TE → TE → TE := tCmp fun i j => decide (j < i)
abbrev tGe : TE → TE → TE := tCmp fun i j => decide (j ≤ i)
abbrev tEqI : TE → TE → TE := tCmp fun i j => decide (i = j)
abbrev tNeI : TE → TE → TE := tCmp fun i j => !decide (i = j)
/-- a comparison of two ints, by its rule -/
theorem pc_int {op : CmpOp} {p : Int → Int → Bool} (ha : PE X a ta) (hb : PE X b tb)
    (rule : ∀ (i j : Int) (t u : Tok) (Q : Value → Shared → Prop) (s : Shared), Q (.bool (p i j)) s → wpAny (model X.prog X.w) X.A (compareOp op (.int i t) (.int j u)) Q X.xe s) : PC X op a b (tCmp p ta tb) := by
  intro pins s σ H Q I h
  refine bin ha hb I h fun v u s2 x y H2 I2 rx ry q => ?_
  obtain ⟨i, j, rfl, rfl, q⟩ := q
  obtain ⟨t, rfl⟩ := rx
  obtain ⟨t', rfl⟩ := ry
  exact rule i j t t' _ s2 ⟨.bl _, H2, I2, rfl, q⟩
theorem pc_lt (ha : PE X a ta) (hb : PE X b tb) : PC X .Lt a b (tLt ta tb) := pc_int ha hb fun _ _ _ _ _ _ h => lt_int h
theorem pc_le (ha : PE X a ta) (hb : PE X b tb) : PC X .LtE a b (tLe ta tb) := pc_int ha hb fun _ _ _ _ _ _ h => le_int h
theorem pc_gt (ha : PE X a ta) (hb : PE X b tb) : PC X .Gt a b (tGt ta tb) := pc_int ha hb fun _ _ _ _ _ _ h => gt_int h
theorem pc_ge (ha : PE X a ta) (hb : PE X b tb) : PC X .GtE a b (tGe ta tb) := pc_int ha hb fun _ _ _ _ _ _ h => ge_int h
theorem pc_eqI (ha : PE X a ta) (hb : PE X b tb) : PC X .Eq a b (tEqI ta tb) := pc_int ha hb fun _ _ _ _ _ _ h => eq_int (by rw [Bool.beq_eq_decide_eq]; exact h)
theorem pc_neI (ha : PE X a ta) (hb : PE X b tb) : PC X .NotEq a b (tNeI ta tb) := pc_int ha hb fun _ _ _ _ _ _ h => ne_int (by rw [bne, Bool.beq_eq_decide_eq]; exact h)
/-- is None -/
def tIsN (ta : TE) : TE := fun σ H Q => ta σ H fun x H1 => Q (.bl (decide (x = .non))) H1
def tNotN (ta : TE) : TE := fun σ H Q => ta σ H fun x H1 => Q (.bl (!decide (x = .non))) H1
theorem RelV.none_iff {x : V} {v : Value} (r : RelV x v) : (v == Value.none) = decide (x = .non) := by
  cases x with
  | non => cases r; rfl
  | bl _ => cases r; rfl
  | int _ => obtain ⟨t, rfl⟩ := r; rfl
  | str _ => obtain ⟨t, rfl⟩ := r; rfl
  | byt _ => obtain ⟨t, rfl⟩ := r; rfl
  | flt _ => obtain ⟨t, rfl⟩ := r; rfl
  | ref _ => cases r; rfl
  | ty _ => cases r; rfl
theorem pc_isN {j pos'} (ha : PE X a ta) : PC X .Is a (.Constant .none j pos') (tIsN ta) := by
  intro pins s σ H Q I h
  refine thn (ha pins s σ H _ I h) fun v s1 ⟨x, H1, I1, r1, q1⟩ => ?_
  exact Constant_none (is_none_gen ⟨.bl _, H1, I1, by rw [r1.none_iff]; rfl, q1⟩)
theorem pc_notN {j pos'} (ha : PE X a ta) : PC X .IsNot a (.Constant .none j pos') (tNotN ta) := by
  intro pins s σ H Q I h
  refine thn (ha pins s σ H _ I h) fun v s1 ⟨x, H1, I1, r1, q1⟩ => ?_
  exact Constant_none (isnot_none_gen ⟨.bl _, H1, I1, by rw [r1.none_iff]; rfl, q1⟩)
/-- a comparison as a value, as a test -/
def tB (t : TE) : TT := fun σ H Q => t σ H fun x H1 => ∃ c, x = .bl c ∧ Q c H1
theorem pe_cmp {op : CmpOp} {t : TE} (h : PC X op a b t) (h1 : behindInMarks op b = false := by first | exact nobehind _ (by decide) (by decide) | rfl) : PE X (.Compare a [op] [b] pos) t := fun pins s σ H Q I hw => wpAny_Compare1 (h pins s σ H Q I hw) h1
theorem pt_cmp {op : CmpOp} {t : TE} (h : PC X op a b t) (h1 : behindInMarks op b = false := by first | exact nobehind _ (by decide) (by decide) | rfl) : PT X (.Compare a [op] [b] pos) (tB t) := by
  intro pins s σ H Q I hw
  refine wpAny_isTrue_Compare1 (thn (h pins s σ H _ I hw) fun v s1 h1 => thn h1 fun u s2 h2 => thn h2 fun c s3 ⟨x, H1, I1, r1, q1⟩ => ?_) h1
  obtain ⟨d, rfl, q⟩ := q1
  cases r1
  exact wpAny_truthy_bool ⟨H1, I1, q⟩
/-- an expression whose value is a bool, as a test -/
theorem pt_val {e : Expr} {t : TE} (h : PE X e t) (he : ∀ whole, isTrue e X.env whole = (do let v ← whole; standAt e.pos; holding [v] (truthy v)) := by intro _; rfl) : PT X e (tB t) := by
  intro pins s σ H Q I hw
  refine isTrue_plain (thn (h pins s σ H _ I hw) fun v s1 ⟨x, H1, I1, r1, q1⟩ => ?_) (he _)
  obtain ⟨d, rfl, q⟩ := q1
  cases r1
  exact wpAny_truthy_bool ⟨H1, I1, q⟩

/-! ### and, or, not -/
variable {tA tB' : TT} {rest : List Expr}
def tAnd (t u : TT) : TT := fun σ H Q => t σ H fun c H1 => if c = true then u σ H1 Q else Q false H1
def tOr (t u : TT) : TT := fun σ H Q => t σ H fun c H1 => if c = true then Q true H1 else u σ H1 Q
def tNot (t : TT) : TT := fun σ H Q => t σ H fun c H1 => Q (!c) H1
theorem pw_and1 (ha : PT X a tA) : PW X (.BoolOp .And [a] pos) tA := by
  intro wh pins s σ H Q I h
  refine isTrue_and (thn (ha pins s σ H Q I h) fun c s1 e => ?_)
  cases c with
  | true => exact isTrue_and_nil e
  | false => exact e
theorem pw_or1 (ha : PT X a tA) : PW X (.BoolOp .Or [a] pos) tA := by
  intro wh pins s σ H Q I h
  refine isTrue_or (thn (ha pins s σ H Q I h) fun c s1 e => ?_)
  cases c with
  | false => exact isTrue_or_nil e
  | true => exact e
theorem pw_and (ha : PT X a tA) (hb : PW X (.BoolOp .And (b :: rest) pos) tB') : PW X (.BoolOp .And (a :: b :: rest) pos) (tAnd tA tB') := by
  intro wh pins s σ H Q I h
  refine isTrue_and (thn (ha pins s σ H _ I h) fun c s1 ⟨H1, I1, q1⟩ => ?_)
  cases c with
  | true => exact hb wh pins s1 σ H1 Q I1 q1
  | false => exact ⟨H1, I1, q1⟩
theorem pw_or (ha : PT X a tA) (hb : PW X (.BoolOp .Or (b :: rest) pos) tB') : PW X (.BoolOp .Or (a :: b :: rest) pos) (tOr tA tB') := by
  intro wh pins s σ H Q I h
  refine isTrue_or (thn (ha pins s σ H _ I h) fun c s1 ⟨H1, I1, q1⟩ => ?_)
  cases c with
  | true => exact ⟨H1, I1, q1⟩
  | false => exact hb wh pins s1 σ H1 Q I1 q1
theorem pt_not (ha : PT X a tA) : PT X (.UnaryOp .Not a pos) (tNot tA) := by
  intro pins s σ H Q I h
  exact isTrue_not (ha pins s σ H (fun c H1 => Q (!c) H1) I h)
/-- .. as values (bools) -/
def tAndV (ta tb : TE) : TE := fun σ H Q => ta σ H fun x H1 => ∃ c, x = .bl c ∧ if c = true then tb σ H1 Q else Q (.bl false) H1
def tOrV (ta tb : TE) : TE := fun σ H Q => ta σ H fun x H1 => ∃ c, x = .bl c ∧ if c = true then Q (.bl true) H1 else tb σ H1 Q
def tNotV (ta : TE) : TE := fun σ H Q => ta σ H fun x H1 => ∃ c, x = .bl c ∧ Q (.bl (!c)) H1
theorem pe_one {op} {t : TE} (h : PE X a t) : PE X (.BoolOp op [a] pos) t := fun pins s σ H Q I hw => BoolOp_one (h pins s σ H Q I hw)
theorem pe_and (ha : PE X a ta) (hb : PE X (.BoolOp .And (b :: rest) pos) tb) : PE X (.BoolOp .And (a :: b :: rest) pos) (tAndV ta tb) := by
  intro pins s σ H Q I h
  refine BoolOp_and (thn (ha pins s σ H _ I h) fun v s1 ⟨x, H1, I1, r1, q1⟩ => ?_)
  obtain ⟨c, rfl, q1⟩ := q1
  cases r1
  refine wpAny_truthy_bool ?_
  cases c with
  | true => exact hb pins s1 σ H1 Q I1 q1
  | false => exact ⟨.bl false, H1, I1, rfl, q1⟩
theorem pe_or (ha : PE X a ta) (hb : PE X (.BoolOp .Or (b :: rest) pos) tb) : PE X (.BoolOp .Or (a :: b :: rest) pos) (tOrV ta tb) := by
  intro pins s σ H Q I h
  refine BoolOp_or (thn (ha pins s σ H _ I h) fun v s1 ⟨x, H1, I1, r1, q1⟩ => ?_)
  obtain ⟨c, rfl, q1⟩ := q1
  cases r1
  refine wpAny_truthy_bool ?_
  cases c with
  | false => exact hb pins s1 σ H1 Q I1 q1
  | true => exact ⟨.bl true, H1, I1, rfl, q1⟩
theorem pe_not (ha : PE X a ta) : PE X (.UnaryOp .Not a pos) (tNotV ta) := by
  intro pins s σ H Q I h
  refine UnaryOp_ (thn (ha pins s σ H _ I h) fun v s1 ⟨x, H1, I1, r1, q1⟩ => ?_)
  obtain ⟨c, rfl, q1⟩ := q1
  cases r1
  exact not_of (wpAny_truthy_bool ⟨.bl (!c), H1, I1, rfl, q1⟩)
/-- a if t else b -/
def tIf (t : TT) (ta tb : TE) : TE := fun σ H Q => t σ H fun c H1 => if c = true then ta σ H1 Q else tb σ H1 Q
theorem pe_ifExp {c : Expr} (hc : PT X c tA) (ha : PE X a ta) (hb : PE X b tb) : PE X (.IfExp c a b pos) (tIf tA ta tb) := by
  intro pins s σ H Q I h
  refine wpAny_IfExp (thn (hc pins s σ H _ I h) fun d s1 ⟨H1, I1, q1⟩ => ?_)
  cases d with
  | true => exact ha pins s1 σ H1 Q I1 q1
  | false => exact hb pins s1 σ H1 Q I1 q1
end
end L2

namespace L2
open PySem PySem.Spec PyProof.Rows

/-! ### a list, a tuple that is read: tracked, frozen, or an object of the module -/
def SqL (K : PySem.W.Frag) (H : Hp) (a : Addr) (xs : List V) : Prop :=
  Rd H a (.lst xs) ∨
    ∃ (o : Obj) (its : Array Value) (n : Nat), K.lookup a = some o ∧ o.cls = .type "list" ∧ o.dict = none ∧ o.data = .seq its n ∧ its.size ≤ sizeLine ∧ Vals xs its.toList
def SqT (K : PySem.W.Frag) (H : Hp) (a : Addr) (xs : List V) : Prop :=
  Rd H a (.tup xs) ∨
    ∃ (o : Obj) (its : Array Value) (n : Nat), K.lookup a = some o ∧ o.cls = .type "tuple" ∧ o.data = .seq its n ∧ its.size ≤ sizeLine ∧ Vals xs its.toList
def absV : Value → Option V
  | .none => some .non
  | .bool b => some (.bl b)
  | .int i _ => some (.int i)
  | .str x _ => some (.str x)
  | .bytes b _ => some (.byt b)
  | .float b _ => some (.flt b)
  | .ref a => some (.ref a)
  | .type n => some (.ty n)
  | _ => none
theorem RelV.abs {x : V} {u : Value} (r : RelV x u) : absV u = some x := by
  cases x with
  | non => cases r; rfl
  | bl _ => cases r; rfl
  | int _ => obtain ⟨t, rfl⟩ := r; rfl
  | str _ => obtain ⟨t, rfl⟩ := r; rfl
  | byt _ => obtain ⟨t, rfl⟩ := r; rfl
  | flt _ => obtain ⟨t, rfl⟩ := r; rfl
  | ref _ => cases r; rfl
  | ty _ => cases r; rfl
theorem RelV.inj {x y : V} {u : Value} (r : RelV x u) (q : RelV y u) : x = y := Option.some.inj (r.abs.symm.trans q.abs)
theorem Vals.inj : ∀ {xs ys : List V} {us : List Value}, Vals xs us → Vals ys us → xs = ys
  | _, _, _, .nil, .nil => rfl
  | _, _, _, .cons r t, .cons r' t' => by rw [r.inj r', Vals.inj t t']
section
variable {X : Cx} {pins : List (Addr × Obj)} {σ : St} {H : Hp} {s : Shared} {a : Addr} {xs ys : List V}
theorem SqL.of {K : PySem.W.Frag} (h : H a = some (.lst xs)) : SqL K H a xs := .inl (.inl h)
theorem SqT.of {K : PySem.W.Frag} (h : H a = some (.tup xs)) : SqT K H a xs := .inl (.inl h)
theorem Inv.list (I : Inv X pins σ H s) (h : SqL X.K H a xs) : ∃ its : List Value, Vals xs its ∧ PlainL s.heap a its.toArray ∧ xs.length ≤ sizeLine := by
  rcases h with h | ⟨o, its, n, hk, hc, hd, hs, hz, r⟩
  · obtain ⟨z, its, n, r, e⟩ := h.ok I.hok
    exact ⟨its, r, ⟨_, n, e, rfl, rfl, rfl⟩, z⟩
  · refine ⟨its.toList, r, ⟨o, n, I.kIn a o hk, hc, hd, by simpa using hs⟩, ?_⟩
    have e := r.length
    simp only [Array.length_toList] at e
    omega
theorem Inv.tuple (I : Inv X pins σ H s) (h : SqT X.K H a xs) : ∃ its : List Value, Vals xs its ∧ IsTup s.heap a its.toArray ∧ xs.length ≤ sizeLine := by
  rcases h with h | ⟨o, its, n, hk, hc, hs, hz, r⟩
  · obtain ⟨z, its, r, p⟩ := h.ok I.hok
    exact ⟨its, r, p, z⟩
  · refine ⟨its.toList, r, ⟨o, I.kIn a o hk, hc, n, by simpa using hs⟩, ?_⟩
    have e := r.length
    simp only [Array.length_toList] at e
    omega
theorem Inv.list_inj (I : Inv X pins σ H s) (h : SqL X.K H a xs) (h' : SqL X.K H a ys) : xs = ys := by
  obtain ⟨its, r, ⟨o, n, e, _, _, d⟩, _⟩ := I.list h
  obtain ⟨its', r', ⟨o', n', e', _, _, d'⟩, _⟩ := I.list h'
  rw [e] at e'; cases e'
  rw [d] at d'
  injection d' with d1 _
  have : its = its' := by simpa using congrArg Array.toList d1
  subst this
  exact r.inj r'
theorem Inv.tuple_inj (I : Inv X pins σ H s) (h : SqT X.K H a xs) (h' : SqT X.K H a ys) : xs = ys := by
  obtain ⟨its, r, ⟨o, e, _, n, d⟩, _⟩ := I.tuple h
  obtain ⟨its', r', ⟨o', e', _, n', d'⟩, _⟩ := I.tuple h'
  rw [e] at e'; cases e'
  rw [d] at d'
  injection d' with d1 _
  have : its = its' := by simpa using congrArg Array.toList d1
  subst this
  exact r.inj r'
end

/-! ### another wish about exceptions -/
abbrev Cx.wish (X : Cx) (E : Value → Shared → Prop) : Cx := { X with xe := E }
/-- no exception leaves -/
abbrev Cx.nox (X : Cx) : Cx := X.wish fun _ _ => False
theorem Cx.Ok.wish {X : Cx} (ok : X.Ok) (E : Value → Shared → Prop) : (X.wish E).Ok :=
  ⟨ok.mod, ok.kind, ok.glob, ok.blt, ok.above, ok.inj, ok.has, ok.cab, ok.hd, ok.frames, ok.stk, ok.exf, ok.bs, ok.bsz, ok.noex, ok.exfs, ok.funs, ok.frf⟩
theorem Cx.Ok.unwish {X : Cx} {E : Value → Shared → Prop} (ok : (X.wish E).Ok) : X.Ok :=
  ⟨ok.mod, ok.kind, ok.glob, ok.blt, ok.above, ok.inj, ok.has, ok.cab, ok.hd, ok.frames, ok.stk, ok.exf, ok.bs, ok.bsz, ok.noex, ok.exfs, ok.funs, ok.frf⟩
section
variable {X : Cx} {pins : List (Addr × Obj)} {σ : St} {H : Hp} {s : Shared} {E : Value → Shared → Prop}
theorem Inv.wish (I : Inv X pins σ H s) (E : Value → Shared → Prop) : Inv (X.wish E) pins σ H s := ⟨I.ok.wish E, I.os, I.bare, I.base, I.loc, I.cell, I.free, I.freeC, I.pin, I.hok, I.len⟩
theorem Inv.unwish (I : Inv (X.wish E) pins σ H s) : Inv X pins σ H s := ⟨I.ok.unwish, I.os, I.bare, I.base, I.loc, I.cell, I.free, I.freeC, I.pin, I.hok, I.len⟩
theorem SP.unwish {D : Ends} {f : Flow} {s' : Shared} (h : SP (X.wish E) pins D f s') : SP X pins D f s' := by
  cases f with
  | next => obtain ⟨σ', H', I, q⟩ := h; exact ⟨σ', H', I.unwish, q⟩
  | brk => obtain ⟨σ', H', I, q⟩ := h; exact ⟨σ', H', I.unwish, q⟩
  | cont => obtain ⟨σ', H', I, q⟩ := h; exact ⟨σ', H', I.unwish, q⟩
  | ret u => obtain ⟨v, σ', H', I, r, q⟩ := h; exact ⟨v, σ', H', I.unwish, r, q⟩
theorem PE.nox {e : Expr} {t : TE} (h : PE X.nox e t) : PE X e t := fun pins s σ H Q I hw =>
  wpAny_mono (h pins s σ H Q (I.wish _) hw) (fun _ _ ⟨v, H', I', r, q⟩ => ⟨v, H', I'.unwish, r, q⟩) fun _ _ z => False.elim z
theorem PT.nox {e : Expr} {t : TT} (h : PT X.nox e t) : PT X e t := fun pins s σ H Q I hw =>
  wpAny_mono (h pins s σ H Q (I.wish _) hw) (fun _ _ ⟨H', I', q⟩ => ⟨H', I'.unwish, q⟩) fun _ _ z => False.elim z
theorem PSs.nox {st : List Stmt} {t : TS} (h : PSs X.nox st t) : PSs X st t := fun pins s σ H D I hw =>
  wpAny_mono (h pins s σ H D (I.wish _) hw) (fun _ _ q => q.unwish) fun _ _ z => False.elim z
end

/-! ### blocks and small statements -/
section
variable {X : Cx} {st : Stmt} {rest : List Stmt} {t u : TS} {e : Expr} {te : TE} {pos : Pos}
def tNext : TS := fun D σ H => D.nx σ H
def tSeq (t u : TS) : TS := fun D σ H => t { D with nx := u D } σ H
theorem pss_nil : PSs X [] tNext := fun _ _ σ H _ I h => wpAny_execs_nil ⟨σ, H, I, h⟩
theorem pss_cons (h1 : PS X st t) (h2 : PSs X rest u) : PSs X (st :: rest) (tSeq t u) := by
  intro pins s σ H D I h
  refine wpAny_execs_cons (thn (h1 pins s σ H { D with nx := u D } I h) fun f s1 q => ?_)
  cases f with
  | next =>
    obtain ⟨σ', H', I', q⟩ := q
    exact h2 pins s1 σ' H' D I' q
  | ret v => exact q
  | brk => exact q
  | cont => exact q
theorem pss_one (h1 : PS X st t) : PSs X [st] t := by
  intro pins s σ H D I h
  refine wpAny_execs_cons (thn (h1 pins s σ H D I h) fun f s1 q => ?_)
  cases f with
  | next => exact wpAny_execs_nil q
  | ret v => exact q
  | brk => exact q
  | cont => exact q
def tBreak : TS := fun D σ H => D.bk σ H
def tCont : TS := fun D σ H => D.ct σ H
theorem ps_pass : PS X (.Pass pos) tNext := fun _ _ σ H _ I h => wpAny_Pass ⟨σ, H, I, h⟩
theorem ps_break : PS X (.Break pos) tBreak := fun _ _ σ H _ I h => wpAny_Break ⟨σ, H, I, h⟩
theorem ps_continue : PS X (.Continue pos) tCont := fun _ _ σ H _ I h => wpAny_Continue ⟨σ, H, I, h⟩
/-- in a def's body nothing is shown -/
theorem Inv.quiet {pins : List (Addr × Obj)} {σ : St} {H : Hp} {s : Shared} (I : Inv X pins σ H s) : interactive X.env = false := by simp [interactive, I.ok.kind]
/-- a docstring -/
theorem ps_doc {x j pos pos'} : PS X (.Expr (.Constant (.str x) j pos) pos') tNext := fun _ s σ H _ I h => wpAny_Expr (Calls.Constant_str (show SP X _ _ .next { s with toks := s.toks + 1 } from ⟨σ, H, I.tok _, h⟩)) I.quiet
/-- an expression whose value is dropped -/
def tDrop (te : TE) : TS := fun D σ H => te σ H fun _ H1 => D.nx σ H1
theorem ps_expr (he : PE X e te) (hs : swapsWith e none pos.line X.env = pure false := by rfl) : PS X (.Expr e pos) (tDrop te) := by
  intro pins s σ H D I h
  exact wpAny_Expr_any (thn (he pins s σ H _ I h) fun v s1 ⟨x, H1, I1, r1, q1⟩ => ⟨σ, H1, I1, q1⟩) I.quiet hs
def tRet (te : TE) : TS := fun D σ H => te σ H D.rt
theorem ps_ret (he : PE X e te) : PS X (.Return (some e) pos) (tRet te) := by
  intro pins s σ H D I h
  exact wpAny_Return_some (thn (he pins s σ H _ I h) fun v s1 ⟨x, H1, I1, r1, q1⟩ => ⟨x, σ, H1, I1, r1, q1⟩)
def tRetN : TS := fun D _ H => D.rt .non H
theorem ps_retN : PS X (.Return none pos) tRetN := fun _ _ σ H _ I h => wpAny_Return_none ⟨.non, σ, H, I, rfl, h⟩
def tIfS (c : TT) (t u : TS) : TS := fun D σ H => c σ H fun b H1 => if b = true then t D σ H1 else u D σ H1
theorem ps_if {c : Expr} {a b : List Stmt} {tc : TT} (hc : PT X c tc) (ha : PSs X a t) (hb : PSs X b u) : PS X (.If c a b pos) (tIfS tc t u) := by
  intro pins s σ H D I h
  refine wpAny_If (thn (hc pins s σ H _ I h) fun d s1 ⟨H1, I1, q1⟩ => ?_)
  cases d with
  | true => exact ha pins s1 σ H1 D I1 q1
  | false => exact hb pins s1 σ H1 D I1 q1
/-- code that the proof never comes to -/
def tNever : TS := fun _ _ _ => False
theorem ps_never : PS X st tNever := fun _ _ _ _ _ _ h => h.elim
theorem pss_never {sts : List Stmt} : PSs X sts tNever := fun _ _ _ _ _ _ h => h.elim
end

/-! ### targets -/
abbrev TG := V → St → Hp → (St → Hp → Prop) → Prop
abbrev TGs := List V → St → Hp → (St → Hp → Prop) → Prop
def PG (X : Cx) (target : Expr) (t : TG) : Prop :=
  ∀ (pins : List (Addr × Obj)) (s : Shared) (σ : St) (H : Hp) (v : V) (u : Value) (Q : St → Hp → Prop), Inv X pins σ H s → RelV v u → t v σ H Q →
    wpAny (model X.prog X.w) X.A (assign target X.env u) (fun _ s' => ∃ σ' H', Inv X pins σ' H' s' ∧ Q σ' H') X.xe s
/-- several targets, one after another -/
def PGs (X : Cx) (ts : List Expr) (t : TGs) : Prop :=
  ∀ (pins : List (Addr × Obj)) (s : Shared) (σ : St) (H : Hp) (vs : List V) (us : List Value) (Q : St → Hp → Prop), Inv X pins σ H s → Vals vs us → t vs σ H Q →
    wpAny (model X.prog X.w) X.A (assignInOrder ((assignEach ts X.env).map (·.2)) us) (fun _ s' => ∃ σ' H', Inv X pins σ' H' s' ∧ Q σ' H') X.xe s
/-- o[i] = v, by values -/
abbrev TSet := V → V → V → Hp → (Hp → Prop) → Prop
def PSet (X : Cx) (t : TSet) : Prop :=
  ∀ (pins : List (Addr × Obj)) (s : Shared) (σ : St) (H : Hp) (o i v : V) (ov iv u : Value) (Q : Hp → Prop), Inv X pins σ H s → RelV o ov → RelV i iv → RelV v u → t o i v H Q →
    wpAny (model X.prog X.w) X.A (setItem ov iv u) (fun _ s' => ∃ H', Inv X pins σ H' s' ∧ Q H') X.xe s
/-- a op= b, by values -/
abbrev TIp := V → V → Hp → VK → Prop
def PIp (X : Cx) (op : Operator) (t : TIp) : Prop :=
  ∀ (pins : List (Addr × Obj)) (s : Shared) (σ : St) (H : Hp) (x y : V) (v u : Value) (Q : VK), Inv X pins σ H s → RelV x v → RelV y u → t x y H Q →
    wpAny (model X.prog X.w) X.A (inplaceOp op v u) (EP X pins σ Q) X.xe s
section
variable {X : Cx} {pos : Pos}
def gName (i : Nat) : TG := fun v σ H Q => Q (σ.set i (some v)) H
theorem pg_name {i : Nat} {x : Str} (hN : X.N.Nodup) (hi : X.N[i]? = some x) (hx : Loc X.env.scope x) (hf : X.fn x = true ∨ X.env.scope.names.lookup x = some .local := by first | exact .inl rfl | exact .inr rfl | assumption) : PG X (.Name x pos) (gName i) := by
  intro pins s σ H v u Q I r h
  exact wpAny_assign_Name (store_ok I hN hi hx r (fun s' I' => ⟨_, H, I', h⟩) hf)
def gNil : TGs := fun vs σ H Q => vs = [] ∧ Q σ H
def gCons (t : TG) (u : TGs) : TGs := fun vs σ H Q => ∃ v r, vs = v :: r ∧ t v σ H fun σ' H' => u r σ' H' Q
theorem pgs_nil : PGs X [] gNil := by
  intro pins s σ H vs us Q I r h
  obtain ⟨e, h⟩ := h
  subst e
  cases r
  exact assignInOrder_nil ⟨σ, H, I, h⟩
theorem pgs_cons {e : Expr} {es : List Expr} {t : TG} {u : TGs} (h1 : PG X e t) (h2 : PGs X es u)
    (hs : (assignEach (e :: es) X.env).map (·.2) = assign e X.env :: (assignEach es X.env).map (·.2) := by rfl) : PGs X (e :: es) (gCons t u) := by
  intro pins s σ H vs us Q I r h
  obtain ⟨v, vr, e1, h⟩ := h
  subst e1
  cases r with
  | cons r rr =>
    rw [hs]
    refine assignInOrder_cons (thn (h1 pins s σ H _ _ _ I r h) fun _ s1 ⟨σ1, H1, I1, q1⟩ => ?_)
    exact h2 pins s1 σ1 H1 _ _ Q I1 rr q1
/-- (a, b, ..) = a tuple of that length -/
def gTup (K : PySem.W.Frag) (n : Nat) (t : TGs) : TG := fun v σ H Q => ∃ a xs, v = .ref a ∧ SqT K H a xs ∧ xs.length = n ∧ t xs σ H Q
theorem pg_tup {es : List Expr} {k : Nat} {t : TGs} {n : Nat} (hc : X.calm = true) (h : PGs X es t)
    (hn : (assignEach es X.env).length = n := by rfl) (hst : (assignEach es X.env).findIdx? (·.1) = none := by rfl) : PG X (.Tuple es k pos) (gTup X.K n t) := by
  intro pins s σ H v u Q I r hw
  obtain ⟨a, xs, e1, hq, hl, hw⟩ := hw
  subst e1
  cases r
  obtain ⟨its, rv, ht, hz⟩ := I.tuple hq
  refine assign_Tuple_tuple (I.ok.hd hc) ht (by simp [hn, ← hl, rv.length]) hst fun h' hx => ?_
  have I1 : Inv X pins σ H { s with heap := h' } := I.kept (t' := s.toks) fun b o e => hx b o (Nat.ne_of_lt (Heap.lt_size e)) e
  exact h pins _ σ H xs _ Q I1 (by simpa using rv) hw
/-- o[i] = .. -/
def gSub (to ti : TE) (t : TSet) : TG := fun v σ H Q => to σ H fun o H1 => ti σ H1 fun i H2 => t o i v H2 fun H3 => Q σ H3
theorem pg_sub {o i : Expr} {to ti : TE} {t : TSet} (ho : PE X o to) (hi : PE X i ti) (hs : PSet X t)
    (ha : ∀ v, assign (.Subscript o i pos) X.env v = (do
      let ov ← holding [v] (eval o X.env)
      let iv ← holding [v, ov] (eval i X.env)
      standAt pos
      holding [v, ov, iv] (setItem ov iv v)
      release [v, ov, iv] []) := by intro _; rfl) : PG X (.Subscript o i pos) (gSub to ti t) := by
  intro pins s σ H v u Q I r h
  rw [ha]
  refine wpAny_bind (wpAny_holding (thn (ho pins s σ H _ I h) fun ov s1 ⟨x, H1, I1, r1, q1⟩ => ?_))
  refine wpAny_bind (wpAny_holding (thn (hi pins s1 σ H1 _ I1 q1) fun iv s2 ⟨y, H2, I2, r2, q2⟩ => ?_))
  refine wpAny_bind (wpAny_standAt (wpAny_bind (wpAny_holding (thn (hs pins s2 σ H2 x y v ov iv u _ I2 r1 r2 r q2) fun _ s3 ⟨H3, I3, q3⟩ => ?_))))
  exact wpAny_release ⟨σ, H3, I3, q3⟩
/-- target = value -/
def tAsg (te : TE) (g : TG) : TS := fun D σ H => te σ H fun x H1 => g x σ H1 D.nx
theorem ps_asg {tg e : Expr} {te : TE} {g : TG} (he : PE X e te) (hg : PG X tg g) (hs : swapsWithSole [tg] e pos.line X.env = pure false := by rfl) (hw : swappedStores [tg] e X.env = pure none := by rfl)
    (h1 : (assignEach [tg] X.env).map (·.2) = [assign tg X.env] := by rfl) : PS X (.Assign [tg] e pos) (tAsg te g) := by
  intro pins s σ H D I h
  refine wpAny_Assign_stores (thn (he pins s σ H _ I h) fun v s1 ⟨x, H1, I1, r1, q1⟩ => ?_) hs hw
  rw [h1]
  exact thn (hg pins s1 σ H1 x v _ I1 r1 q1) fun _ s2 q => q
/-- name = value -/
theorem ps_set {i : Nat} {x : Str} {e : Expr} {te : TE} {pos' : Pos} (hN : X.N.Nodup) (hi : X.N[i]? = some x) (hx : Loc X.env.scope x) (he : PE X e te) (hs : swapsWith e (some (.Name x pos')) pos.line X.env = pure false := by rfl) (hf : X.fn x = true ∨ X.env.scope.names.lookup x = some .local := by first | exact .inl rfl | exact .inr rfl | assumption) :
    PS X (.Assign [.Name x pos'] e pos) (tAsg te (gName i)) := by
  intro pins s σ H D I h
  refine wpAny_Assign_Name (thn (he pins s σ H _ I h) fun v s1 ⟨y, H1, I1, r1, q1⟩ => ?_) hs
  exact store_ok I1 hN hi hx r1 (fun s2 I2 => ⟨_, H1, I2, q1⟩) hf
/-- a, b = x, y with plain local names: stored from the right; the pair itself is not tracked (the opening rows as in PyProof/Rows/TupAssign.lean:23) -/
def tPar (i j : Nat) (ta : TA) : TS := fun D σ H => ta σ H fun vs H1 => ∃ v w, vs = [v, w] ∧ D.nx ((σ.set i (some v)).set j (some w)) H1
theorem ps_par {i j : Nat} {x y : Str} {a b : Expr} {ta : TA} {px py pt : Pos} {kt k2 pt2} (hc : X.calm = true) (hN : X.N.Nodup) (hi : X.N[i]? = some x) (hj : X.N[j]? = some y) (hij : i ≠ j)
    (hx : X.env.scope.names.lookup x = some .local) (hy : X.env.scope.names.lookup y = some .local) (ha : PA X [a, b] ta)
    (hw : swappedStores [.Tuple [.Name x px, .Name y py] kt pt] (.Tuple [a, b] k2 pt2) X.env = pure (some [x, y]))
    (hs : swapsWithSole [.Tuple [.Name x px, .Name y py] kt pt] (.Tuple [a, b] k2 pt2) pos.line X.env = pure false := by rfl) :
    PS X (.Assign [.Tuple [.Name x px, .Name y py] kt pt] (.Tuple [a, b] k2 pt2) pos) (tPar i j ta) := by
  intro pins s σ H D I h
  rw [exec_Assign_arm]
  refine wpAny_bind (wpAny_standAt ?_)
  rw [hs]
  refine wpAny_bind (wpAny_pure ?_)
  rw [if_neg (by decide)]
  refine wpAny_bind (Tuple_ (thn (ha _ pins s σ H _ I h) fun us s1 ⟨vs, H1, I1, r1, q1⟩ => ?_))
  obtain ⟨v, w, e1, q1⟩ := q1
  subst e1
  obtain ⟨u1, u2, rfl, rv, rw'⟩ : ∃ u1 u2, us = [u1, u2] ∧ RelV v u1 ∧ RelV w u2 := by
    cases r1 with
    | cons p q =>
      cases q with
      | cons p' q' =>
        cases q'
        exact ⟨_, _, rfl, p, p'⟩
  refine wpAny_newObj_type ?_ (by show 2 ≤ sizeLine; decide)
  have I2 : Inv X pins σ H1 { s1 with heap := s1.heap.push { cls := .type "tuple", data := .seq [u1, u2].toArray } } := I1.kept (t' := s1.toks) fun b o e => Heap.get?_push_of_some _ e
  rw [hw]
  refine wpAny_bind (wpAny_pure ?_)
  show wpAny (model X.prog X.w) X.A (do rule "assign.swapped-stores"; let items ← unpackItems (.ref s1.heap.objs.size) 2 none; assignInOrder [fun v => bindName X.env y v, fun v => bindName X.env x v] items.reverse; pure Flow.next) _ _ _
  refine wpAny_bind (wpAny_rule (wpAny_bind (unpackItems_tuple (items := #[u1, u2]) (I.ok.hd hc) (IsTup.new s1.heap _) fun h' hx' => ?_)))
  have I3 := I2.kept (h' := h') (t' := s1.toks) fun b o e => hx' b o (Nat.ne_of_lt (Heap.lt_size e)) e
  show wpAny _ _ (assignInOrder [fun v => bindName X.env y v, fun v => bindName X.env x v] [u2, u1] >>= fun _ => pure Flow.next) _ _ _
  refine wpAny_bind (assignInOrder_cons (wpAny_bindName (store_ok I3 hN hj (.inl hy) rw' (fun s2 I4 => ?_) (.inr hy))))
  refine assignInOrder_cons (wpAny_bindName (store_ok I4 hN hi (.inl hx) rv (fun s3 I5 => assignInOrder_nil (wpAny_pure ?_)) (.inr hx)))
  rw [List.set_comm _ _ (Ne.symm hij)] at I5
  exact ⟨_, H1, I5, q1⟩
/-- name op= e -/
def tAug (i : Nat) (te : TE) (ti : TIp) : TS := fun D σ H => ∃ x, σ[i]? = some (some x) ∧ te σ H fun y H1 => ti x y H1 fun z H2 => D.nx (σ.set i (some z)) H2
theorem ps_aug {i : Nat} {x : Str} {e : Expr} {te : TE} {op : Operator} {ti : TIp} {pos' : Pos} (hN : X.N.Nodup) (hi : X.N[i]? = some x) (hx : Loc X.env.scope x) (he : PE X e te) (ho : PIp X op ti) (hf : X.fn x = true ∨ X.env.scope.names.lookup x = some .local := by first | exact .inl rfl | exact .inr rfl | assumption) :
    PS X (.AugAssign (.Name x pos') op e pos) (tAug i te ti) := by
  intro pins s σ H D I h
  obtain ⟨v, e1, h⟩ := h
  obtain ⟨m, hn, hl⟩ := I.loc
  have vis : Vis X.env.scope x := by rcases hx with k | k; exact .inl k; exact .inr (.inl k)
  obtain ⟨u, r, l⟩ := hl i x v hi e1 vis
  refine wpAny_AugAssign_Name ?_
  have go : wpAny (model X.prog X.w) X.A (eval e X.env) (fun w s₂ => wpAny (model X.prog X.w) X.A (inplaceOp op u w) (fun r s₃ => wpAny (model X.prog X.w) X.A (storeName X.env x r) (fun _ => SP X pins D .next) X.xe s₃) X.xe s₂) X.xe s := by
    refine thn (he pins s σ H _ I h) fun w s1 ⟨y, H1, I1, r1, q1⟩ => ?_
    refine thn (ho pins s1 σ H1 v y u w _ I1 r r1 q1) fun z s2 ⟨zv, H2, I2, r2, q2⟩ => ?_
    exact store_ok I2 hN hi hx r2 (fun s3 I3 => ⟨_, H2, I3, q2⟩) hf
  rcases l with ⟨hk, hm⟩ | ⟨hk, c, hc, hcell⟩
  · exact wpAny_loadName_local I.ok.kind hk hn hm go
  · rcases hk with hk | hk
    · exact wpAny_loadName_cell I.ok.kind hk hc hcell go
    · rcases hx with k | k
      · have : X.env.scope.names.lookup x = some .free := hk
        rw [k] at this; cases this
      · have : X.env.scope.names.lookup x = some .free := hk
        rw [k] at this; cases this
/-- o[i] op= e -/
def tAugS (to ti te : TE) (tget : V → V → Hp → VK → Prop) (tip : TIp) (tset : TSet) : TS := fun D σ H => to σ H fun o H1 => ti σ H1 fun i H2 => tget o i H2 fun x H3 => te σ H3 fun y H4 => tip x y H4 fun z H5 => tset o i z H5 fun H6 => D.nx σ H6
/-- o[i], by values -/
def PGet (X : Cx) (t : V → V → Hp → VK → Prop) : Prop :=
  ∀ (pins : List (Addr × Obj)) (s : Shared) (σ : St) (H : Hp) (o i : V) (ov iv : Value) (Q : VK), Inv X pins σ H s → RelV o ov → RelV i iv → t o i H Q →
    wpAny (model X.prog X.w) X.A (getItem ov iv) (EP X pins σ Q) X.xe s
theorem ps_augS {o i e : Expr} {to ti te : TE} {tget : V → V → Hp → VK → Prop} {tip : TIp} {tset : TSet} {op : Operator} {tpos : Pos} (ho : PE X o to) (hi : PE X i ti) (hg : PGet X tget) (he : PE X e te) (hp : PIp X op tip) (hs : PSet X tset)
    (ha : ∀ ov iv new, augStore i ov iv new = (do holding [new, ov, iv] (setItem ov iv new); release [new, ov, iv] []; pure .next) := by intros; rfl) : PS X (.AugAssign (.Subscript o i tpos) op e pos) (tAugS to ti te tget tip tset) := by
  intro pins s σ H D I h
  refine wpAny_AugAssign_SubscriptAny (thn (ho pins s σ H _ I h) fun ov s1 ⟨x1, H1, I1, r1, q1⟩ => ?_) ha
  refine thn (hi pins s1 σ H1 _ I1 q1) fun iv s2 ⟨x2, H2, I2, r2, q2⟩ => ?_
  refine thn (hg pins s2 σ H2 x1 x2 ov iv _ I2 r1 r2 q2) fun old s3 ⟨x3, H3, I3, r3, q3⟩ => ?_
  refine thn (he pins s3 σ H3 _ I3 q3) fun v s4 ⟨x4, H4, I4, r4, q4⟩ => ?_
  refine thn (hp pins s4 σ H4 x3 x4 old v _ I4 r3 r4 q4) fun new s5 ⟨x5, H5, I5, r5, q5⟩ => ?_
  exact thn (hs pins s5 σ H5 x1 x2 x5 ov iv new _ I5 r1 r2 r5 q5) fun _ s6 ⟨H6, I6, q6⟩ => ⟨σ, H6, I6, q6⟩
/-- ints -/
def ipI (f : Int → Int → Int) : TIp := fun x y H Q => ∃ i j, x = .int i ∧ y = .int j ∧ Q (.int (f i j)) H
theorem ip_add : PIp X .Add (ipI fun i j => i + j) := by
  intro pins s σ H x y v u Q I r1 r2 h
  obtain ⟨i, j, e1, e2, q⟩ := h
  subst e1; subst e2
  obtain ⟨t, rfl⟩ := r1
  obtain ⟨t', rfl⟩ := r2
  exact iadd_int ⟨.int _, H, I.tok _, ⟨_, rfl⟩, q⟩
theorem ip_sub : PIp X .Sub (ipI fun i j => i - j) := by
  intro pins s σ H x y v u Q I r1 r2 h
  obtain ⟨i, j, e1, e2, q⟩ := h
  subst e1; subst e2
  obtain ⟨t, rfl⟩ := r1
  obtain ⟨t', rfl⟩ := r2
  exact isub_int ⟨.int _, H, I.tok _, ⟨_, rfl⟩, q⟩
end

/-! ### while -/
section
variable {X : Cx} {pos : Pos}
/-- the invariant W with its measure -/
def tWhile (c : TT) (tb : TS) : TS := fun D σ H => ∃ W : Nat → St → Hp → Prop, (∃ m, W m σ H) ∧ ∀ m σ H, W m σ H →
  c σ H fun b H1 => if b = true then ∃ N : St → Hp → Prop, (∀ σ' H', N σ' H' → ∃ m', m' < m ∧ W m' σ' H') ∧ tb { D with nx := N, ct := N, bk := D.nx } σ H1 else D.nx σ H1
theorem ps_while {c : Expr} {body : List Stmt} {tc : TT} {tb : TS} (hp : PassesOwn (model X.prog X.w) X.A X.env X.xe) (hc : PT X c tc) (hb : PSs X body tb) : PS X (.While c body [] pos) (tWhile tc tb) := by
  intro pins s σ H D I h
  obtain ⟨W, ⟨m0, w0⟩, turn⟩ := h
  refine wpAny_While (codeAny_whileLoop (fun n s' => ∃ σ' H', Inv X pins σ' H' s' ∧ W n σ' H') ?_ m0 ⟨σ, H, I, w0⟩)
  rintro n s1 ⟨σ1, H1, I1, w1⟩
  refine wpAny_passesOwn hp (thn (hc pins s1 σ1 H1 _ I1 (turn n σ1 H1 w1)) fun b s2 ⟨H2, I2, q2⟩ => ?_)
  cases b with
  | true =>
    obtain ⟨N, hN, q2⟩ := q2
    rw [if_pos rfl]
    refine wpAny_passesOwn hp (thn (hb pins s2 σ1 H2 _ I2 q2) fun f s3 q3 => ?_)
    cases f with
    | next =>
      obtain ⟨σ3, H3, I3, n3⟩ := q3
      obtain ⟨m', hm, w3⟩ := hN σ3 H3 n3
      exact ⟨m', hm, σ3, H3, I3, w3⟩
    | cont =>
      obtain ⟨σ3, H3, I3, n3⟩ := q3
      obtain ⟨m', hm, w3⟩ := hN σ3 H3 n3
      exact ⟨m', hm, σ3, H3, I3, w3⟩
    | brk => exact q3
    | ret v => exact q3
  | false =>
    rw [if_neg Bool.false_ne_true]
    exact wpAny_execs_nil ⟨σ1, H2, I2, q2⟩
end

/-! ### what a loop or a comprehension walks -/
/-- at turn i: it yields x (the heap may grow), or it stops -/
structure It where
  go : Nat → Hp → Prop
  yld : Nat → Hp → V → Hp → Prop
  stop : Nat → Hp → Prop
/-- the iterator's own objects may turn: they are not the frame's, not pinned, younger than the entry (or a comprehension's own) -/
def FpOk (X : Cx) (pins : List (Addr × Obj)) (H : Hp) (b : Addr) : Prop :=
  H b = none ∧ b ≠ X.env.locals ∧ b ∉ X.fs ∧ (b ∈ X.ex ∨ X.s₀.heap.objs.size ≤ b) ∧ (∀ x c, X.env.cells.lookup x = some c → c ≠ b) ∧ ∀ p ∈ X.pn ++ pins, p.1 ≠ b
theorem Inv.fpOk {X : Cx} {pins : List (Addr × Obj)} {σ : St} {H H' : Hp} {s : Shared} {b : Addr} (I : Inv X pins σ H s) (hb : s.heap.objs.size ≤ b) (hn : H' b = none) : FpOk X pins H' b := by
  refine ⟨hn, Nat.ne_of_gt (Nat.lt_of_lt_of_le I.lt hb), I.nofs hb, .inr (Nat.le_trans I.sz hb), fun x c e z => ?_, fun p hp z => ?_⟩
  · obtain ⟨v, q⟩ := I.cell x c e
    exact absurd (Nat.lt_of_lt_of_le q.lt (by rw [z]; exact hb)) (Nat.lt_irrefl _)
  · exact absurd (Nat.lt_of_lt_of_le (Heap.lt_size (I.pin p hp).1) (by rw [z]; exact hb)) (Nat.lt_irrefl _)
structure Turn (P : Program) (w : World) (K : PySem.W.Frag) (tg : Expr) (J : It) (fp : List Addr) (it : Addr) (tn : Nat → Heap → Prop) : Prop where
  mem : it ∈ fp
  obj : ∀ i h, tn i h → ∀ b ∈ fp, ∃ o, h.get? b = some o ∧ ∀ v, o.data ≠ .cell v
  keep : ∀ i h h', tn i h → (∀ b ∈ fp, ∀ o, h.get? b = some o → h'.get? b = some o) → tn i h'
  item : ∀ (X : Cx), X.prog = P → X.w = w → X.K = K → X.calm = true → ∀ (i : Nat) (pins : List (Addr × Obj)) (s : Shared) (σ : St) (H : Hp) (E : Value → Shared → Prop), Inv X pins σ H s → (∀ b ∈ fp, FpOk X pins H b) → tn i s.heap → J.go i H →
    wpAny (model P w) X.A (pyNext (.ref it)) (fun r s1 => ∃ u, r = some u ∧
      wpAny (model P w) X.A (letOwnedTupleGo tg (.ref it) u) (fun _ s2 => ∃ x H', Inv X pins σ H' s2 ∧ RelV x u ∧ J.yld i H x H' ∧ tn (i + 1) s2.heap ∧ ∀ b ∈ fp, H' b = none) E s1) E s
  done : ∀ (X : Cx), X.prog = P → X.w = w → X.K = K → X.calm = true → ∀ (i : Nat) (pins : List (Addr × Obj)) (s : Shared) (σ : St) (H : Hp) (E : Value → Shared → Prop), Inv X pins σ H s → (∀ b ∈ fp, FpOk X pins H b) → tn i s.heap → J.stop i H →
    wpAny (model P w) X.A (pyNext (.ref it)) (fun r s1 => r = none ∧ Inv X pins σ H s1) E s
  self : ∀ (A : Around) (i : Nat) (s : Shared) (Q : Value → Shared → Prop) (E : Value → Shared → Prop), tn i s.heap → Q (.ref it) s → wpAny (model P w) A (pyIter (.ref it)) Q E s
abbrev TI := St → Hp → (It → Hp → Prop) → Prop
/-- an iterator has come -/
def PIE (X : Cx) (pins : List (Addr × Obj)) (σ : St) (tg : Expr) (R : It → Hp → Prop) (itv : Value) (s2 : Shared) : Prop :=
  ∃ (it : Addr) (fp : List Addr) (tn : Nat → Heap → Prop) (J : It) (H' : Hp), itv = .ref it ∧ Inv X pins σ H' s2 ∧ Turn X.prog X.w X.K tg J fp it tn ∧ tn 0 s2.heap ∧ (∀ b ∈ fp, FpOk X pins H' b) ∧ R J H'
def PI (X : Cx) (tg iter : Expr) (wi : TI) : Prop :=
  ∀ (pins : List (Addr × Obj)) (s : Shared) (σ : St) (H : Hp) (R : It → Hp → Prop), Inv X pins σ H s → wi σ H R →
    wpAny (model X.prog X.w) X.A (eval iter X.env) (fun v s1 => wpAny (model X.prog X.w) X.A (pyIter v) (PIE X pins σ tg R) X.xe s1) X.xe s

/-- the step ahead of the store is nothing for an iterator that keeps no tuple -/
theorem go_of {M : Model} {A : Around} {E : Value → Shared → Prop} {s : Shared} {tg : Expr} {it : Addr} {u : Value} {o : Obj} {n : String} {vs : Array Value} {Q : Unit → Shared → Prop} (ho : s.heap.get? it = some o) (hc : o.cls = .type n) (hd : o.data = .fields vs)
    (hn : ["enumerate", "zip", "dict_itemiterator", "dict_reverseitemiterator", "odict_iterator", "itertools.zip_longest", "itertools.pairwise"].contains n = false) (hQ : Q () s) : wpAny M A (letOwnedTupleGo tg (.ref it) u) Q E s := by
  unfold letOwnedTupleGo
  cases tg <;> first
    | exact wpAny_pure hQ
    | (cases u <;> first
        | exact wpAny_pure hQ
        | (refine wpAny_bind (wpAny_load ho ?_)
           rw [hc, hd]
           show wpAny M A (if (["enumerate", "zip", "dict_itemiterator", "dict_reverseitemiterator", "odict_iterator", "itertools.zip_longest", "itertools.pairwise"].contains n && vs[0]? == some (rawInt _)) = true then _ else _) Q E s
           rw [if_neg (by intro h; rw [hn, Bool.false_and] at h; cases h)]
           exact wpAny_pure hQ))

/-- the list at a, as it stands at each turn (a loop may append to it) -/
def Itl (K : PySem.W.Frag) (a : Addr) : It :=
  ⟨fun i H => ∃ xs x, SqL K H a xs ∧ xs[i]? = some x, fun i H x H' => H' = H ∧ ∀ xs, SqL K H a xs → xs[i]? = some x, fun i H => ∃ xs, SqL K H a xs ∧ xs.length ≤ i⟩
def Itt (K : PySem.W.Frag) (a : Addr) : It :=
  ⟨fun i H => ∃ xs x, SqT K H a xs ∧ xs[i]? = some x, fun i H x H' => H' = H ∧ ∀ xs, SqT K H a xs → xs[i]? = some x, fun i H => ∃ xs, SqT K H a xs ∧ xs.length ≤ i⟩
/-- lo, lo + 1, .. (n of them) -/
def Itr (lo : Int) (n : Nat) : It := ⟨fun i _ => i < n, fun i H x H' => H' = H ∧ x = .int (lo + i), fun i _ => n ≤ i⟩
theorem turn_list {P : Program} {w : World} {K : PySem.W.Frag} {tg : Expr} (a it : Addr) : Turn P w K tg (Itl K a) [it] it (fun i h => h.IsListIter it a i) where
  mem := by simp
  obj := fun i h st b hb => by
    have e : b = it := by simpa using hb
    subst e
    obtain ⟨o, e, c, d⟩ := st
    exact ⟨o, e, fun v z => by rw [d] at z; cases z⟩
  keep := fun i h h' st k => st.at fun o e => k it (by simp) o e
  item := by
    intro X hP hw hK hc i pins s σ H E I hf st hg
    subst hP hw hK
    obtain ⟨xs, x, hq, hx⟩ := hg
    obtain ⟨its, rv, p, hz⟩ := I.list hq
    obtain ⟨u, hu, ru⟩ := rv.get hx
    obtain ⟨f0, f1, f2, f3, f4, f5⟩ := hf it (by simp)
    refine wpAny_pyNext_list_item st p.isList (x := u) (by simpa using hu) fun h' st' sb => ?_
    have I1 : Inv X pins σ H { s with heap := h' } := I.turned (t' := s.toks) (fun b o hb e => (sb.2 b hb).trans e) f0 f1 f3 f4 f5
    obtain ⟨o, e, c, d⟩ := id st'
    exact ⟨u, rfl, go_of (s := { s with heap := h' }) e c d (by decide) ⟨x, H, I1, ru, ⟨rfl, fun ys hy => by rw [I.list_inj hy hq]; exact hx⟩, st', fun b hb => (hf b hb).1⟩⟩
  done := by
    intro X hP hw hK hc i pins s σ H E I hf st hg
    subst hP hw hK
    obtain ⟨xs, hq, hx⟩ := hg
    obtain ⟨its, rv, p, hz⟩ := I.list hq
    obtain ⟨f0, f1, f2, f3, f4, f5⟩ := hf it (by simp)
    have hl := rv.length
    exact wpAny_pyNext_list_end (I.ok.hd hc) st p.isList (by simp; omega) fun h' eb => ⟨rfl, I.turned (t' := s.toks) (fun b o hb e => eb b o hb e) f0 f1 f3 f4 f5⟩
  self := fun _ _ _ _ _ st h => wpAny_pyIter_listiter st h
theorem turn_tuple {P : Program} {w : World} {K : PySem.W.Frag} {tg : Expr} (a it : Addr) : Turn P w K tg (Itt K a) [it] it (fun i h => h.IsTupleIter it a i) where
  mem := by simp
  obj := fun i h st b hb => by
    have e : b = it := by simpa using hb
    subst e
    obtain ⟨o, e, c, d⟩ := st
    exact ⟨o, e, fun v z => by rw [d] at z; cases z⟩
  keep := fun i h h' st k => st.at fun o e => k it (by simp) o e
  item := by
    intro X hP hw hK hc i pins s σ H E I hf st hg
    subst hP hw hK
    obtain ⟨xs, x, hq, hx⟩ := hg
    obtain ⟨its, rv, p, hz⟩ := I.tuple hq
    obtain ⟨u, hu, ru⟩ := rv.get hx
    obtain ⟨f0, f1, f2, f3, f4, f5⟩ := hf it (by simp)
    refine wpAny_pyNext_tuple_item st (show s.heap.IsTuple a its.toArray from p) (x := u) (by simpa using hu) fun h' st' sb => ?_
    have I1 : Inv X pins σ H { s with heap := h' } := I.turned (t' := s.toks) (fun b o hb e => (sb.2 b hb).trans e) f0 f1 f3 f4 f5
    obtain ⟨o, e, c, d⟩ := id st'
    exact ⟨u, rfl, go_of (s := { s with heap := h' }) e c d (by decide) ⟨x, H, I1, ru, ⟨rfl, fun ys hy => by rw [I.tuple_inj hy hq]; exact hx⟩, st', fun b hb => (hf b hb).1⟩⟩
  done := by
    intro X hP hw hK hc i pins s σ H E I hf st hg
    subst hP hw hK
    obtain ⟨xs, hq, hx⟩ := hg
    obtain ⟨its, rv, p, hz⟩ := I.tuple hq
    obtain ⟨f0, f1, f2, f3, f4, f5⟩ := hf it (by simp)
    have hl := rv.length
    exact wpAny_pyNext_tuple_end (I.ok.hd hc) st (show s.heap.IsTuple a its.toArray from p) (by simp; omega) fun h' eb => ⟨rfl, I.turned (t' := s.toks) (fun b o hb e => eb b o hb e) f0 f1 f3 f4 f5⟩
  self := fun _ _ _ _ _ st h => wpAny_pyIter_tupleiter st h
theorem turn_range {P : Program} {w : World} {K : PySem.W.Frag} {tg : Expr} (it : Addr) (lo : Int) (n : Nat) : Turn P w K tg (Itr lo n) [it] it (fun i h => IsRangeIter h it (lo + (i : Nat) * 1) ((n : Int) - (i : Nat)) 1) where
  mem := by simp
  obj := fun i h st b hb => by
    have e : b = it := by simpa using hb
    subst e
    exact ⟨_, st, fun v z => by
      have z' : Data.fields _ = Data.cell v := z
      cases z'⟩
  keep := fun i h h' st k => k it (by simp) _ st
  item := by
    intro X hP hw hK hc i pins s σ H E I hf st hg
    subst hP hw hK
    obtain ⟨f0, f1, f2, f3, f4, f5⟩ := hf it (by simp)
    have W := Walks.range (prog := X.prog) (w := X.w) (I.ok.hd hc) it lo 1 n
    refine W.item i s _ _ hg st fun v h' tk hv st' kk => ?_
    obtain ⟨t, rfl⟩ := hv
    have I1 : Inv X pins σ H { s with heap := h', toks := tk } := I.turned (fun b o hb e => kk b o (by simpa using hb) e) f0 f1 f3 f4 f5
    refine ⟨_, rfl, go_of (s := { s with heap := h', toks := tk }) (n := "range_iterator") st' rfl rfl (by decide) ⟨.int (lo + i), H, I1, ⟨t, ?_⟩, ⟨rfl, rfl⟩, st', fun b hb => (hf b hb).1⟩⟩
    rw [Int.mul_one]
  done := by
    intro X hP hw hK hc i pins s σ H E I hf st hg
    subst hP hw hK
    obtain ⟨f0, f1, f2, f3, f4, f5⟩ := hf it (by simp)
    exact wpAny_pyNext_range_end (I.ok.hd hc) st (by have : n ≤ i := hg; omega) fun h' eb => ⟨rfl, I.turned (t' := s.toks) (fun b o hb e => eb b o hb e) f0 f1 f3 f4 f5⟩
  self := fun _ _ _ _ _ st h => wpAny_pyIter_rangeiter st h
end L2

namespace L2
open PySem PySem.Spec PyProof.Rows
section
variable {X : Cx} {tg : Expr}
def iList (K : PySem.W.Frag) (tl : TE) : TI := fun σ H R => tl σ H fun x H1 => ∃ a, x = .ref a ∧ (∃ xs, SqL K H1 a xs) ∧ R (Itl K a) H1
def iTup (K : PySem.W.Frag) (tl : TE) : TI := fun σ H R => tl σ H fun x H1 => ∃ a, x = .ref a ∧ (∃ xs, SqT K H1 a xs) ∧ R (Itt K a) H1
theorem pi_list {l : Expr} {tl : TE} (hl : PE X l tl) : PI X tg l (iList X.K tl) := by
  intro pins s σ H R I h
  refine thn (hl pins s σ H _ I h) fun v s1 ⟨x, H1, I1, r1, q1⟩ => ?_
  obtain ⟨a, e, ⟨xs, hq⟩, q⟩ := q1
  subst e
  cases r1
  obtain ⟨its, rv, p, hz⟩ := I1.list hq
  refine wpAny_pyIter_list p.isList ?_
  refine ⟨s1.heap.objs.size, [s1.heap.objs.size], _, _, H1, rfl, I1.kept (t' := s1.toks) fun b o e => Heap.get?_push_of_some _ e, turn_list a _, ⟨_, Heap.get?_push_size _ rfl, rfl, rfl⟩, fun b hb => ?_, q⟩
  have e : b = s1.heap.objs.size := by simpa using hb
  subst e
  exact I1.fpOk (Nat.le_refl _) (I1.hok.fresh (Nat.le_refl _))
theorem pi_tup {l : Expr} {tl : TE} (hl : PE X l tl) : PI X tg l (iTup X.K tl) := by
  intro pins s σ H R I h
  refine thn (hl pins s σ H _ I h) fun v s1 ⟨x, H1, I1, r1, q1⟩ => ?_
  obtain ⟨a, e, ⟨xs, hq⟩, q⟩ := q1
  subst e
  cases r1
  obtain ⟨its, rv, p, hz⟩ := I1.tuple hq
  refine wpAny_pyIter_tuple (show s1.heap.IsTuple a its.toArray from p) ?_
  refine ⟨s1.heap.objs.size, [s1.heap.objs.size], _, _, H1, rfl, I1.kept (t' := s1.toks) fun b o e => Heap.get?_push_of_some _ e, turn_tuple a _, ⟨_, Heap.get?_push_size _ rfl, rfl, rfl⟩, fun b hb => ?_, q⟩
  have e : b = s1.heap.objs.size := by simpa using hb
  subst e
  exact I1.fpOk (Nat.le_refl _) (I1.hok.fresh (Nat.le_refl _))
/-- a range object just made, walked -/
theorem range_it {pins : List (Addr × Obj)} {σ : St} {H : Hp} {s : Shared} {R : It → Hp → Prop} {E : Value → Shared → Prop} {lo hi : Int} {t u v : Tok} {tk : Nat} (I : Inv X pins σ H s) (h1 : -(2 ^ 62) ≤ lo) (h2 : lo < 2 ^ 62) (h3 : -(2 ^ 62) ≤ hi) (h4 : hi < 2 ^ 62)
    (q : R (Itr lo (hi - lo).toNat) H) : wpAny (model X.prog X.w) X.A (pyIter (.ref s.heap.objs.size)) (PIE X pins σ tg R) E { s with heap := s.heap.push { cls := .type "range", data := .fields #[.int lo t, .int hi u, .int 1 v] }, toks := tk } := by
  refine wpAny_pyIter_range (IsRange.new ..) (small_one h1 h2 h3 h4) ?_
  have I1 : Inv X pins σ H { s with heap := s.heap.push { cls := .type "range", data := .fields #[.int lo t, .int hi u, .int 1 v] }, toks := tk } := I.kept fun b o e => Heap.get?_push_of_some _ e
  refine ⟨(s.heap.push { cls := .type "range", data := .fields #[.int lo t, .int hi u, .int 1 v] }).objs.size, [(s.heap.push { cls := .type "range", data := .fields #[.int lo t, .int hi u, .int 1 v] }).objs.size], _, _, H, rfl,
    I1.kept (t' := tk) fun b o e => Heap.get?_push_of_some _ e, turn_range _ lo (hi - lo).toNat, ?_, fun b hb => ?_, q⟩
  · have e1 : lo + ((0 : Nat) : Int) * 1 = lo := by simp
    have e2 : (((hi - lo).toNat : Nat) : Int) - ((0 : Nat) : Int) = Builtin.Range.rangeSize lo hi 1 := by rw [rangeSize_one]; split <;> omega
    show IsRangeIter _ _ (lo + ((0 : Nat) : Int) * 1) ((((hi - lo).toNat : Nat) : Int) - ((0 : Nat) : Int)) 1
    rw [e1, e2]
    exact Heap.get?_push_size _ rfl
  · have e : b = (s.heap.push { cls := .type "range", data := .fields #[.int lo t, .int hi u, .int 1 v] }).objs.size := by simpa using hb
    subst e
    exact I1.fpOk (Nat.le_refl _) (I1.hok.fresh (Nat.le_refl _))
def iRng1 (ta : TA) : TI := fun σ H R => ta σ H fun vs H1 => ∃ j : Int, vs = [.int j] ∧ -(2 ^ 62) ≤ j ∧ j < 2 ^ 62 ∧ R (Itr 0 j.toNat) H1
def iRng2 (ta : TA) : TI := fun σ H R => ta σ H fun vs H1 => ∃ i j : Int, vs = [.int i, .int j] ∧ (-(2 ^ 62) ≤ i ∧ i < 2 ^ 62 ∧ -(2 ^ 62) ≤ j ∧ j < 2 ^ 62) ∧ R (Itr i (j - i).toNat) H1
theorem pi_range1 {a : Expr} {ta : TA} {p pos : Pos} (hg : Gl X "range") (hm : X.mg "range" = none) (ha : PA X [a] ta) (hs : starEach [a] X.env = [(false, eval a X.env)] := by rfl) : PI X tg (.Call (.Name "range" p) [a] [] pos) (iRng1 ta) := by
  intro pins s σ H R I h
  refine Call_ (ld_blt I hg hm boot_range (PyProof.Rows.callWith_type1 (thn (ha pos pins s σ H _ I h) fun us s1 ⟨vs, H1, I1, r1, q1⟩ => ?_) hs rfl))
  obtain ⟨j, e, q1, q2, q⟩ := q1
  subst e
  cases r1 with
  | cons r rr =>
    cases rr
    obtain ⟨t, rfl⟩ := r
    exact call_range_1 (range_it I1 (by omega) (by omega) q1 q2 (by simpa using q))
theorem pi_range2 {a b : Expr} {ta : TA} {p pos : Pos} (hg : Gl X "range") (hm : X.mg "range" = none) (ha : PA X [a, b] ta) (hs : starEach [a, b] X.env = [(false, eval a X.env), (false, eval b X.env)] := by rfl) (hs2 : starEach [b] X.env = [(false, eval b X.env)] := by rfl) :
    PI X tg (.Call (.Name "range" p) [a, b] [] pos) (iRng2 ta) := by
  intro pins s σ H R I h
  refine Call_ (ld_blt I hg hm boot_range (PyProof.Rows.callWith_type1 (thn (ha pos pins s σ H _ I h) fun us s1 ⟨vs, H1, I1, r1, q1⟩ => ?_) (by rw [hs, hs2]) (by rw [hs2]; rfl)))
  obtain ⟨i, j, e, ⟨q1, q2, q3, q4⟩, q⟩ := q1
  subst e
  cases r1 with
  | cons r rr =>
    cases rr with
    | cons r' rr =>
      cases rr
      obtain ⟨t, rfl⟩ := r
      obtain ⟨t', rfl⟩ := r'
      exact call_range_2 (range_it I1 q1 q2 q3 q4 q)

/-! ### for -/
/-- W: the invariant by the turn and a measure; N: what the body is to reach -/
def tFor (wi : TI) (g : TG) (tb : TS) : TS := fun D σ H => wi σ H fun J H1 => ∃ W : Nat → Nat → St → Hp → Prop, (∃ m, W 0 m σ H1) ∧ ∀ i m σ H, W i m σ H →
  (J.stop i H ∧ D.nx σ H) ∨ (J.go i H ∧ ∃ N : St → Hp → Prop, (∀ σ' H', N σ' H' → ∃ m', m' < m ∧ W (i + 1) m' σ' H') ∧ ∀ x H', J.yld i H x H' → g x σ H' fun σ2 H2 => tb { D with nx := N, ct := N, bk := D.nx } σ2 H2)
/-- the records at fp as they stand -/
def pinsAt (fp : List Addr) (h : Heap) : List (Addr × Obj) := fp.filterMap fun b => (h.get? b).map fun o => (b, o)
theorem mem_pinsAt {fp : List Addr} {h : Heap} {b : Addr} {o : Obj} (hb : b ∈ fp) (e : h.get? b = some o) : (b, o) ∈ pinsAt fp h := List.mem_filterMap.mpr ⟨b, hb, by rw [e]; rfl⟩
theorem of_pinsAt {fp : List Addr} {h : Heap} {p : Addr × Obj} (hp : p ∈ pinsAt fp h) : p.1 ∈ fp ∧ h.get? p.1 = some p.2 := by
  obtain ⟨b, hb, e⟩ := List.mem_filterMap.mp hp
  cases q : h.get? b with
  | none => rw [q] at e; cases e
  | some o =>
    rw [q] at e
    have e' : (b, o) = p := Option.some.inj e
    subst e'
    exact ⟨hb, q⟩
theorem Inv.pinned {pins : List (Addr × Obj)} {σ : St} {H : Hp} {s : Shared} {fp : List Addr} (I : Inv X pins σ H s) (hf : ∀ b ∈ fp, FpOk X pins H b) (ho : ∀ b ∈ fp, ∃ o, s.heap.get? b = some o ∧ ∀ v, o.data ≠ .cell v) : Inv X (pins ++ pinsAt fp s.heap) σ H s :=
  I.pins_of fun p hp => (List.mem_append.mp hp).elim (fun z => I.pin p (List.mem_append_right _ z)) fun z => by
    obtain ⟨hb, e⟩ := of_pinsAt z
    obtain ⟨f0, f1, f2, _⟩ := hf p.1 hb
    obtain ⟨o, e', d⟩ := ho p.1 hb
    rw [e] at e'; cases e'
    exact ⟨e, f0, f1, f2, d⟩
theorem Inv.unpinned {pins pl : List (Addr × Obj)} {σ : St} {H : Hp} {s : Shared} (I : Inv X (pins ++ pl) σ H s) : Inv X pins σ H s := I.pins_of fun p hp => I.pin p (List.mem_append_right _ (List.mem_append_left _ hp))
theorem ps_for {iter : Expr} {body : List Stmt} {wi : TI} {g : TG} {tb : TS} {pos : Pos} (hp : PassesOwn (model X.prog X.w) X.A X.env X.xe) (hc : X.calm = true) (hi : PI X tg iter wi) (hg : PG X tg g) (hb : PSs X body tb)
    (hs : ∀ x, foldedSetIterable iter X.env x = pure x := by intro _; rfl) : PS X (.For tg iter body [] pos) (tFor wi g tb) := by
  intro pins s σ H D I h
  refine wpAny_For (thn (hi pins s σ H _ I h) fun v s1 h1 => thn h1 fun itv s2 h2 => ?_) hs
  obtain ⟨it, fp, tn, J, H2, e, I2, T, st2, f2, W, ⟨m0, w0⟩, turn⟩ := h2
  subst e
  -- what stays true of the iterator's objects through the loop
  have stat : ∀ {H' : Hp}, (∀ b ∈ fp, H' b = none) → ∀ b ∈ fp, FpOk X pins H' b := fun hn b hb => ⟨hn b hb, (f2 b hb).2⟩
  refine codeAny_forLoop_any (fun n s' => ∃ i σ' H', Inv X pins σ' H' s' ∧ tn i s'.heap ∧ (∀ b ∈ fp, H' b = none) ∧ W i n σ' H') ?_ m0 ⟨0, σ, H2, I2, st2, fun b hb => (f2 b hb).1, w0⟩
  rintro n s3 ⟨i, σ3, H3, I3, st3, fr3, w3⟩
  rcases turn i n σ3 H3 w3 with ⟨stop, qn⟩ | ⟨go, N, hN, step⟩
  · refine wpAny_passesOwn hp (thn (T.done X rfl rfl rfl hc i pins s3 σ3 H3 X.xe I3 (stat fr3) st3 stop) fun r s4 ⟨hr, I4⟩ => ?_)
    subst hr
    exact wpAny_execs_nil ⟨σ3, H3, I4, qn⟩
  · refine wpAny_passesOwn hp (thn (T.item X rfl rfl rfl hc i pins s3 σ3 H3 X.xe I3 (stat fr3) st3 go) fun r s4 ⟨u, hr, h4⟩ => ?_)
    subst hr
    refine wpAny_passesOwn hp (thn h4 fun _ s5 ⟨x, H5, I5, r5, y5, st5, fr5⟩ => ?_)
    have I5' := I5.pinned (stat fr5) (T.obj _ _ st5)
    refine wpAny_passesOwn hp (thn (hg _ s5 σ3 H5 x u _ I5' r5 (step x H5 y5)) fun _ s6 ⟨σ6, H6, I6, q6⟩ => ?_)
    refine wpAny_passesOwn hp (thn (hb _ s6 σ6 H6 _ I6 q6) fun f s7 q7 => ?_)
    have again : ∀ {σ7 : St} {H7 : Hp}, Inv X (pins ++ pinsAt fp s5.heap) σ7 H7 s7 → N σ7 H7 → ∃ m, m < n ∧ ∃ i σ' H', Inv X pins σ' H' s7 ∧ tn i s7.heap ∧ (∀ b ∈ fp, H' b = none) ∧ W i m σ' H' := fun {σ7 H7} I7 n7 => by
      obtain ⟨m', hm, w7⟩ := hN σ7 H7 n7
      refine ⟨m', hm, i + 1, σ7, H7, I7.unpinned, T.keep _ _ _ st5 fun b hb o e => (I7.pin (b, o) (List.mem_append_right _ (List.mem_append_right _ (mem_pinsAt hb e)))).1, fun b hb => ?_, w7⟩
      obtain ⟨o, e, d⟩ := T.obj _ _ st5 b hb
      exact (I7.pin (b, o) (List.mem_append_right _ (List.mem_append_right _ (mem_pinsAt hb e)))).2.1
    cases f with
    | next => obtain ⟨σ7, H7, I7, n7⟩ := q7; exact again I7 n7
    | cont => obtain ⟨σ7, H7, I7, n7⟩ := q7; exact again I7 n7
    | brk => obtain ⟨σ7, H7, I7, q7⟩ := q7; exact ⟨σ7, H7, I7.unpinned, q7⟩
    | ret v => obtain ⟨x7, σ7, H7, I7, r7, q7⟩ := q7; exact ⟨x7, σ7, H7, I7.unpinned, r7, q7⟩
end

/-! ### the forms one uses -/
/-- over a list that the body leaves as it is -/
theorem for_list {K : PySem.W.Frag} {a : Addr} {xs : List V} {g : TG} {tb : TS} {D : Ends} {σ : St} {H : Hp} (Pv : Nat → St → Hp → Prop) (h0 : Pv 0 σ H) (hl : ∀ i σ H, i ≤ xs.length → Pv i σ H → SqL K H a xs)
    (hs : ∀ i x σ H, xs[i]? = some x → Pv i σ H → g x σ H fun σ2 H2 => tb { D with nx := Pv (i + 1), ct := Pv (i + 1), bk := D.nx } σ2 H2) (hd : ∀ σ H, Pv xs.length σ H → D.nx σ H) :
    ∃ W : Nat → Nat → St → Hp → Prop, (∃ m, W 0 m σ H) ∧ ∀ i m σ H, W i m σ H →
      ((Itl K a).stop i H ∧ D.nx σ H) ∨ ((Itl K a).go i H ∧ ∃ N : St → Hp → Prop, (∀ σ' H', N σ' H' → ∃ m', m' < m ∧ W (i + 1) m' σ' H') ∧ ∀ x H', (Itl K a).yld i H x H' → g x σ H' fun σ2 H2 => tb { D with nx := N, ct := N, bk := D.nx } σ2 H2) := by
  refine ⟨fun i m σ H => m = xs.length - i ∧ i ≤ xs.length ∧ Pv i σ H, ⟨xs.length, by simp, Nat.zero_le _, h0⟩, ?_⟩
  rintro i m σ H ⟨rfl, hi, p⟩
  have q := hl i σ H hi p
  by_cases hlt : i < xs.length
  · refine .inr ⟨⟨xs, xs[i], q, by simp [hlt]⟩, Pv (i + 1), fun σ' H' p' => ⟨xs.length - (i + 1), by omega, rfl, hlt, p'⟩, fun x H' y => ?_⟩
    obtain ⟨e, y⟩ := y
    subst e
    exact hs i x σ _ (y xs q) p
  · have e : i = xs.length := by omega
    subst e
    exact .inl ⟨⟨xs, q, Nat.le_refl _⟩, hd σ H p⟩
theorem for_tup {K : PySem.W.Frag} {a : Addr} {xs : List V} {g : TG} {tb : TS} {D : Ends} {σ : St} {H : Hp} (Pv : Nat → St → Hp → Prop) (h0 : Pv 0 σ H) (hl : ∀ i σ H, i ≤ xs.length → Pv i σ H → SqT K H a xs)
    (hs : ∀ i x σ H, xs[i]? = some x → Pv i σ H → g x σ H fun σ2 H2 => tb { D with nx := Pv (i + 1), ct := Pv (i + 1), bk := D.nx } σ2 H2) (hd : ∀ σ H, Pv xs.length σ H → D.nx σ H) :
    ∃ W : Nat → Nat → St → Hp → Prop, (∃ m, W 0 m σ H) ∧ ∀ i m σ H, W i m σ H →
      ((Itt K a).stop i H ∧ D.nx σ H) ∨ ((Itt K a).go i H ∧ ∃ N : St → Hp → Prop, (∀ σ' H', N σ' H' → ∃ m', m' < m ∧ W (i + 1) m' σ' H') ∧ ∀ x H', (Itt K a).yld i H x H' → g x σ H' fun σ2 H2 => tb { D with nx := N, ct := N, bk := D.nx } σ2 H2) := by
  refine ⟨fun i m σ H => m = xs.length - i ∧ i ≤ xs.length ∧ Pv i σ H, ⟨xs.length, by simp, Nat.zero_le _, h0⟩, ?_⟩
  rintro i m σ H ⟨rfl, hi, p⟩
  have q := hl i σ H hi p
  by_cases hlt : i < xs.length
  · refine .inr ⟨⟨xs, xs[i], q, by simp [hlt]⟩, Pv (i + 1), fun σ' H' p' => ⟨xs.length - (i + 1), by omega, rfl, hlt, p'⟩, fun x H' y => ?_⟩
    obtain ⟨e, y⟩ := y
    subst e
    exact hs i x σ _ (y xs q) p
  · have e : i = xs.length := by omega
    subst e
    exact .inl ⟨⟨xs, q, Nat.le_refl _⟩, hd σ H p⟩
theorem for_range {lo : Int} {n : Nat} {g : TG} {tb : TS} {D : Ends} {σ : St} {H : Hp} (Pv : Nat → St → Hp → Prop) (h0 : Pv 0 σ H)
    (hs : ∀ i σ H, i < n → Pv i σ H → g (.int (lo + i)) σ H fun σ2 H2 => tb { D with nx := Pv (i + 1), ct := Pv (i + 1), bk := D.nx } σ2 H2) (hd : ∀ σ H, Pv n σ H → D.nx σ H) :
    ∃ W : Nat → Nat → St → Hp → Prop, (∃ m, W 0 m σ H) ∧ ∀ i m σ H, W i m σ H →
      ((Itr lo n).stop i H ∧ D.nx σ H) ∨ ((Itr lo n).go i H ∧ ∃ N : St → Hp → Prop, (∀ σ' H', N σ' H' → ∃ m', m' < m ∧ W (i + 1) m' σ' H') ∧ ∀ x H', (Itr lo n).yld i H x H' → g x σ H' fun σ2 H2 => tb { D with nx := N, ct := N, bk := D.nx } σ2 H2) := by
  refine ⟨fun i m σ H => m = n - i ∧ i ≤ n ∧ Pv i σ H, ⟨n, by simp, Nat.zero_le _, h0⟩, ?_⟩
  rintro i m σ H ⟨rfl, hi, p⟩
  by_cases hlt : i < n
  · refine .inr ⟨hlt, Pv (i + 1), fun σ' H' p' => ⟨n - (i + 1), by omega, rfl, hlt, p'⟩, fun x H' y => ?_⟩
    obtain ⟨e, y⟩ := y
    subst e y
    exact hs i σ _ hlt p
  · have e : i = n := by omega
    subst e
    exact .inl ⟨Nat.le_refl _, hd σ H p⟩
/-- while, by a word and a measure of the state -/
theorem while_by {c : TT} {tb : TS} {D : Ends} {σ : St} {H : Hp} (Pv : St → Hp → Prop) (μ : St → Hp → Nat) (h0 : Pv σ H)
    (hs : ∀ σ H, Pv σ H → c σ H fun b H1 => if b = true then tb { D with nx := fun σ' H' => Pv σ' H' ∧ μ σ' H' < μ σ H, ct := fun σ' H' => Pv σ' H' ∧ μ σ' H' < μ σ H, bk := D.nx } σ H1 else D.nx σ H1)
    (mono : ∀ σ H Q Q', (∀ b H1, Q b H1 → Q' b H1) → c σ H Q → c σ H Q') : tWhile c tb D σ H := by
  refine ⟨fun m σ H => m = μ σ H ∧ Pv σ H, ⟨_, rfl, h0⟩, ?_⟩
  rintro m σ H ⟨rfl, p⟩
  refine mono σ H _ _ (fun b H1 q => ?_) (hs σ H p)
  cases b with
  | true => exact ⟨_, fun σ' H' ⟨p', l⟩ => ⟨_, l, rfl, p'⟩, q⟩
  | false => exact q
end L2

namespace L2
open PySem PySem.Spec PyProof.Rows

abbrev R2 := V → V → Hp → VK → Prop
/-- a two-place operation on values: f is binaryOp op, inplaceOp op or compareOp op -/
def OpR (X : Cx) (f : Value → Value → Sem Value) (r : R2) : Prop :=
  ∀ (pins : List (Addr × Obj)) (s : Shared) (σ : St) (H : Hp) (x y : V) (v u : Value) (Q : VK), Inv X pins σ H s → RelV x v → RelV y u → r x y H Q →
    wpAny (model X.prog X.w) X.A (f v u) (EP X pins σ Q) X.xe s
/-- a one-place operation -/
def UnR (X : Cx) (f : Value → Sem Value) (r : V → Hp → VK → Prop) : Prop :=
  ∀ (pins : List (Addr × Obj)) (s : Shared) (σ : St) (H : Hp) (x : V) (v : Value) (Q : VK), Inv X pins σ H s → RelV x v → r x H Q →
    wpAny (model X.prog X.w) X.A (f v) (EP X pins σ Q) X.xe s
/-- a call of a value that is known (a builtin, a type) with values -/
def CallR (X : Cx) (f : Value) (r : List V → Hp → VK → Prop) : Prop :=
  ∀ (pins : List (Addr × Obj)) (s : Shared) (σ : St) (H : Hp) (xs : List V) (us : List Value) (Q : VK), Inv X pins σ H s → Vals xs us → r xs H Q →
    wpAny (model X.prog X.w) X.A (call f us) (EP X pins σ Q) X.xe s
/-- a value's truth -/
def TruR (X : Cx) (r : V → Hp → (Bool → Hp → Prop) → Prop) : Prop :=
  ∀ (pins : List (Addr × Obj)) (s : Shared) (σ : St) (H : Hp) (x : V) (v : Value) (Q : Bool → Hp → Prop), Inv X pins σ H s → RelV x v → r x H Q →
    wpAny (model X.prog X.w) X.A (truthy v) (TP X pins σ Q) X.xe s

def tOp (r : R2) (ta tb : TE) : TE := fun σ H Q => ta σ H fun x H1 => tb σ H1 fun y H2 => r x y H2 Q
def tUn (r : V → Hp → VK → Prop) (ta : TE) : TE := fun σ H Q => ta σ H fun x H1 => r x H1 Q
/-- ints in, under C, and a value out -/
def rI (C : Int → Int → Prop) (g : Int → Int → V) : R2 := fun x y H Q => ∃ i j, x = .int i ∧ y = .int j ∧ C i j ∧ Q (g i j) H
def rI0 (g : Int → Int → V) : R2 := fun x y H Q => ∃ i j, x = .int i ∧ y = .int j ∧ Q (g i j) H
def rU (g : Int → V) : V → Hp → VK → Prop := fun x H Q => ∃ i, x = .int i ∧ Q (g i) H

section
variable {X : Cx} {a b c : Expr} {ta tb tc : TE} {pos : Pos}

theorem binT (ha : PE X a ta) (hb : PE X b tb) {pins : List (Addr × Obj)} {s : Shared} {σ : St} {H : Hp} {R : V → V → Hp → Prop} (I : Inv X pins σ H s)
    (h : ta σ H fun x H1 => tb σ H1 fun y H2 => R x y H2) {Q : Value → Shared → Prop} {f : Value → Value → Sem Value}
    (hf : ∀ v u s2 x y H2, Inv X pins σ H2 s2 → RelV x v → RelV y u → R x y H2 → wpAny (model X.prog X.w) X.A (f v u) Q X.xe s2) :
    wpAny (model X.prog X.w) X.A (eval a X.env) (fun v s₁ => wpAny (model X.prog X.w) X.A (eval b X.env) (fun u s₂ => wpAny (model X.prog X.w) X.A (f v u) Q X.xe s₂) X.xe s₁) X.xe s := by
  refine thn (ha pins s σ H _ I h) fun v s1 ⟨x, H1, I1, r1, q1⟩ => ?_
  refine thn (hb pins s1 σ H1 _ I1 q1) fun u s2 ⟨y, H2, I2, r2, q2⟩ => ?_
  exact hf v u s2 x y H2 I2 r1 r2 q2

theorem pe_op {op : Operator} {r : R2} (ho : OpR X (binaryOp op) r) (ha : PE X a ta) (hb : PE X b tb) : PE X (.BinOp a op b pos) (tOp r ta tb) := by
  intro pins s σ H Q I h
  exact wpAny_BinOp (binT ha hb I h fun v u s2 x y H2 I2 rx ry q => ho pins s2 σ H2 x y v u Q I2 rx ry q)
theorem pe_un {op : UnaryOp} {r : V → Hp → VK → Prop} (ho : UnR X (unaryOp op) r) (ha : PE X a ta) : PE X (.UnaryOp op a pos) (tUn r ta) := by
  intro pins s σ H Q I h
  exact UnaryOp_ (thn (ha pins s σ H _ I h) fun v s1 ⟨x, H1, I1, r1, q1⟩ => ho pins s1 σ H1 x v Q I1 r1 q1)
/-- a op= e at a name: the name's slot i -/
theorem augR {op : Operator} {r : R2} (ho : OpR X (inplaceOp op) r) {pins : List (Addr × Obj)} {s : Shared} {σ : St} {H : Hp} {x y : V} {v u : Value} {Q : VK} (I : Inv X pins σ H s)
    (rx : RelV x v) (ry : RelV y u) (q : r x y H Q) : wpAny (model X.prog X.w) X.A (inplaceOp op v u) (EP X pins σ Q) X.xe s := ho pins s σ H x y v u Q I rx ry q

/-! ### ints -/
theorem opI {f : Value → Value → Sem Value} {C : Int → Int → Prop} {g : Int → Int → Int}
    (rule : ∀ (i j : Int) (t u : Tok) (s : Shared) (Q : Value → Shared → Prop) (E : Value → Shared → Prop), C i j → Q (.int (g i j) s.toks) { s with toks := s.toks + 1 } → wpAny (model X.prog X.w) X.A (f (.int i t) (.int j u)) Q E s) :
    OpR X f (rI C fun i j => .int (g i j)) := by
  intro pins s σ H x y v u Q I rx ry h
  obtain ⟨i, j, rfl, rfl, hc, q⟩ := h
  obtain ⟨t, rfl⟩ := rx
  obtain ⟨t', rfl⟩ := ry
  exact rule i j t t' s _ _ hc ⟨.int (g i j), H, I.tok _, ⟨_, rfl⟩, q⟩
theorem opI0 {f : Value → Value → Sem Value} {g : Int → Int → Int}
    (rule : ∀ (i j : Int) (t u : Tok) (s : Shared) (Q : Value → Shared → Prop) (E : Value → Shared → Prop), Q (.int (g i j) s.toks) { s with toks := s.toks + 1 } → wpAny (model X.prog X.w) X.A (f (.int i t) (.int j u)) Q E s) :
    OpR X f (rI0 fun i j => .int (g i j)) := by
  intro pins s σ H x y v u Q I rx ry h
  obtain ⟨i, j, rfl, rfl, q⟩ := h
  obtain ⟨t, rfl⟩ := rx
  obtain ⟨t', rfl⟩ := ry
  exact rule i j t t' s _ _ ⟨.int (g i j), H, I.tok _, ⟨_, rfl⟩, q⟩
theorem opB0 {f : Value → Value → Sem Value} {g : Int → Int → Bool}
    (rule : ∀ (i j : Int) (t u : Tok) (s : Shared) (Q : Value → Shared → Prop) (E : Value → Shared → Prop), Q (.bool (g i j)) s → wpAny (model X.prog X.w) X.A (f (.int i t) (.int j u)) Q E s) :
    OpR X f (rI0 fun i j => .bl (g i j)) := by
  intro pins s σ H x y v u Q I rx ry h
  obtain ⟨i, j, rfl, rfl, q⟩ := h
  obtain ⟨t, rfl⟩ := rx
  obtain ⟨t', rfl⟩ := ry
  exact rule i j t t' s _ _ ⟨.bl (g i j), H, I, rfl, q⟩

def CDiv (i j : Int) : Prop := 0 < j ∧ j < 1073741824
def CDivN (i j : Int) : Prop := j ≠ 0 ∧ j.natAbs < 1073741824
def CPow (i j : Int) : Prop := 0 ≤ j ∧ j ≤ 1000000 ∧ i.natAbs < 2 ^ 64
def CMul (i j : Int) : Prop := (-(2 ^ 64) < i ∧ i < 2 ^ 64) ∨ (-(2 ^ 64) < j ∧ j < 2 ^ 64)
theorem CMul.ok {i j : Int} (h : CMul i j) : IntMulOk i j := by
  rcases h with ⟨h1, h2⟩ | ⟨h1, h2⟩
  · exact .of_left (intBits_le_64 h1 h2)
  · exact .of_right (intBits_le_64 h1 h2)
theorem two_pow_nn (k : Nat) : (0 : Int) ≤ 2 ^ k := by
  rw [two_pow_cast]
  exact Int.natCast_nonneg _

theorem op_add : OpR X (binaryOp .Add) (rI0 fun i j => .int (i + j)) := opI0 fun _ _ _ _ _ _ _ q => add_int q
theorem op_sub : OpR X (binaryOp .Sub) (rI0 fun i j => .int (i - j)) := opI0 fun _ _ _ _ _ _ _ q => sub_int q
theorem op_mul : OpR X (binaryOp .Mult) (rI CMul fun i j => .int (i * j)) := opI fun _ _ _ _ _ _ _ hc q => mul_int q hc.ok
/-- // by a positive divisor -/
theorem op_fdiv : OpR X (binaryOp .FloorDiv) (rI CDiv fun i j => .int (i / j)) := opI fun i j _ _ _ _ _ hc q => by
  have h1 : (0 : Int) < j := hc.1
  have h2 : j < 1073741824 := hc.2
  exact floordiv_int (by omega) (by rw [Int.fdiv_eq_ediv_of_nonneg i (by omega)]; exact q) (.inl (PyProof.noPylong_small (by omega)))
theorem op_fdivN : OpR X (binaryOp .FloorDiv) (rI CDivN fun i j => .int (i.fdiv j)) := opI fun _ _ _ _ _ _ _ hc q => floordiv_int hc.1 q (.inl (PyProof.noPylong_small hc.2))
/-- % by a positive divisor of any size -/
theorem op_mod : OpR X (binaryOp .Mod) (rI (fun _ j => 0 < j) fun i j => .int (i % j)) := opI fun i j _ _ _ _ _ hc q => by
  have h1 : (0 : Int) < j := hc
  exact mod_int' (by omega) (by rw [Int.fmod_eq_emod_of_nonneg i (by omega)]; exact q)
theorem op_modN : OpR X (binaryOp .Mod) (rI (fun _ j => j ≠ 0) fun i j => .int (i.fmod j)) := opI fun _ _ _ _ _ _ _ hc q => mod_int' hc q
theorem op_pow : OpR X (binaryOp .Pow) (rI CPow fun i j => .int (i ^ j.toNat)) := opI fun _ _ _ _ _ _ _ hc q => pow_int_small hc.1 hc.2.1 hc.2.2 q
theorem op_shl : OpR X (binaryOp .LShift) (rI CPow fun i j => .int (i * 2 ^ j.toNat)) := opI fun _ _ _ _ _ _ _ hc q => lshift_int_small hc.1 hc.2.1 hc.2.2 q
theorem op_shr : OpR X (binaryOp .RShift) (rI (fun _ j => 0 ≤ j) fun i j => .int (i / 2 ^ j.toNat)) := opI fun i j _ _ _ _ _ hc q =>
  rshift_int hc (by rw [Int.fdiv_eq_ediv_of_nonneg i (two_pow_nn _)]; exact q)
theorem op_and : OpR X (binaryOp .BitAnd) (rI0 fun i j => .int (Builtin.bitAnd i j)) := opI0 fun _ _ _ _ _ _ _ q => and_int q
theorem op_or : OpR X (binaryOp .BitOr) (rI0 fun i j => .int (Builtin.bitOr i j)) := opI0 fun _ _ _ _ _ _ _ q => or_int q
theorem op_xor : OpR X (binaryOp .BitXor) (rI0 fun i j => .int (Builtin.bitXor i j)) := opI0 fun _ _ _ _ _ _ _ q => xor_int q

theorem iop_add : OpR X (inplaceOp .Add) (rI0 fun i j => .int (i + j)) := opI0 fun _ _ _ _ _ _ _ q => iadd_int q
theorem iop_sub : OpR X (inplaceOp .Sub) (rI0 fun i j => .int (i - j)) := opI0 fun _ _ _ _ _ _ _ q => isub_int q
theorem iop_mul : OpR X (inplaceOp .Mult) (rI CMul fun i j => .int (i * j)) := opI fun _ _ _ _ _ _ _ hc q => imul_int q hc.ok
theorem iop_fdiv : OpR X (inplaceOp .FloorDiv) (rI CDiv fun i j => .int (i / j)) := opI fun i j _ _ _ _ _ hc q => by
  have h1 : (0 : Int) < j := hc.1
  have h2 : j < 1073741824 := hc.2
  exact ifloordiv_int (by omega) (by rw [Int.fdiv_eq_ediv_of_nonneg i (by omega)]; exact q) (.inl (PyProof.noPylong_small (by omega)))
theorem iop_mod : OpR X (inplaceOp .Mod) (rI (fun _ j => 0 < j) fun i j => .int (i % j)) := opI fun i j _ _ _ _ _ hc q => by
  have h1 : (0 : Int) < j := hc
  exact imod_int (by omega) (by rw [Int.fmod_eq_emod_of_nonneg i (by omega)]; exact q)
theorem iop_shl : OpR X (inplaceOp .LShift) (rI CPow fun i j => .int (i * 2 ^ j.toNat)) := opI fun _ _ _ _ _ _ _ hc q => ilshift_int_small hc.1 hc.2.1 hc.2.2 q
theorem iop_shr : OpR X (inplaceOp .RShift) (rI (fun _ j => 0 ≤ j) fun i j => .int (i / 2 ^ j.toNat)) := opI fun i j _ _ _ _ _ hc q =>
  irshift_int hc (by rw [Int.fdiv_eq_ediv_of_nonneg i (two_pow_nn _)]; exact q)
theorem iop_and : OpR X (inplaceOp .BitAnd) (rI0 fun i j => .int (Builtin.bitAnd i j)) := opI0 fun _ _ _ _ _ _ _ q => iand_int q
theorem iop_or : OpR X (inplaceOp .BitOr) (rI0 fun i j => .int (Builtin.bitOr i j)) := opI0 fun _ _ _ _ _ _ _ q => ior_int q
theorem iop_xor : OpR X (inplaceOp .BitXor) (rI0 fun i j => .int (Builtin.bitXor i j)) := opI0 fun _ _ _ _ _ _ _ q => ixor_int q

theorem unI {f : Value → Sem Value} {g : Int → Int}
    (rule : ∀ (i : Int) (t : Tok) (s : Shared) (Q : Value → Shared → Prop) (E : Value → Shared → Prop), Q (.int (g i) s.toks) { s with toks := s.toks + 1 } → wpAny (model X.prog X.w) X.A (f (.int i t)) Q E s) :
    UnR X f (rU fun i => .int (g i)) := by
  intro pins s σ H x v Q I rx h
  obtain ⟨i, rfl, q⟩ := h
  obtain ⟨t, rfl⟩ := rx
  exact rule i t s _ _ ⟨.int (g i), H, I.tok _, ⟨_, rfl⟩, q⟩
theorem un_neg : UnR X (unaryOp .USub) (rU fun i => .int (-i)) := unI fun _ _ _ _ _ q => neg_int q
theorem un_inv : UnR X (unaryOp .Invert) (rU fun i => .int (Builtin.bitNot i)) := unI fun _ _ _ _ _ q => invert_int q

/-! ### bools among ints: n += (a < b) -/
theorem op_add_ib : OpR X (binaryOp .Add) (fun x y H Q => ∃ i k, x = .int i ∧ y = .bl k ∧ Q (.int (i + b2i k)) H) := by
  intro pins s σ H x y v u Q I rx ry h
  obtain ⟨i, k, rfl, rfl, q⟩ := h
  obtain ⟨t, rfl⟩ := rx
  cases ry
  exact add_int_bool ⟨.int (i + b2i k), H, I.tok _, ⟨_, rfl⟩, q⟩
end

/-! ### comparisons -/
/-- the scalars that == tells apart as data does -/
def scal : V → V → Bool
  | .non, .non => true | .non, .int _ => true | .int _, .non => true | .non, .bl _ => true | .bl _, .non => true | .non, .str _ => true | .str _, .non => true
  | .int _, .int _ => true | .bl _, .bl _ => true | .str _, .str _ => true | .byt _, .byt _ => true
  | .int _, .str _ => true | .str _, .int _ => true | .bl _, .str _ => true | .str _, .bl _ => true
  | _, _ => false
def rEq : R2 := fun x y H Q => scal x y = true ∧ Q (.bl (decide (x = y))) H
def rNe : R2 := fun x y H Q => scal x y = true ∧ Q (.bl (!decide (x = y))) H

theorem dec_int {i j : Int} : decide (V.int i = V.int j) = (i == j) := by
  rw [Bool.eq_iff_iff]
  simp
theorem dec_bl {i j : Bool} : decide (V.bl i = V.bl j) = (i == j) := by
  rw [Bool.eq_iff_iff]
  simp
theorem dec_str {i j : Str} : decide (V.str i = V.str j) = (i == j) := by
  rw [Bool.eq_iff_iff]
  simp
theorem dec_byt {i j : Array UInt8} : decide (V.byt i = V.byt j) = (i.toList == j.toList) := by
  rw [Bool.eq_iff_iff]
  cases i
  cases j
  simp

section
variable {X : Cx} {a b c : Expr} {ta tb tc : TE} {pos : Pos}
theorem fin_bl {pins : List (Addr × Obj)} {σ : St} {H : Hp} {s : Shared} {Q : VK} {k k' : Bool} (I : Inv X pins σ H s) (q : Q (.bl k) H) (e : k = k') : EP X pins σ Q (.bool k') s := by
  subst e
  exact ⟨.bl k, H, I, rfl, q⟩
theorem op_eq : OpR X (compareOp .Eq) rEq := by
  intro pins s σ H x y v u Q I rx ry h
  obtain ⟨hs, q⟩ := h
  cases x with
  | non =>
    cases rx
    cases y with
    | non => cases ry; exact PySem.EqNone.eq_none_none (fin_bl I q (by simp))
    | bl j => cases ry; exact PySem.EqNone.eq_none_bool (fin_bl I q (by simp))
    | int j => obtain ⟨t', rfl⟩ := ry; exact PySem.EqNone.eq_none_int (fin_bl I q (by simp))
    | str j => obtain ⟨t', rfl⟩ := ry; exact PySem.EqNone.eq_none_str (fin_bl I q (by simp))
    | _ => exact absurd (show false = true from hs) Bool.false_ne_true
  | bl i =>
    cases rx
    cases y with
    | non => cases ry; exact PySem.EqNone.eq_bool_none (fin_bl I q (by simp))
    | bl j => cases ry; exact eq_bool (fin_bl I q dec_bl)
    | str j => obtain ⟨t', rfl⟩ := ry; exact PySem.EqMixed.eq_bool_str (fin_bl I q (by simp))
    | _ => exact absurd (show false = true from hs) Bool.false_ne_true
  | int i =>
    obtain ⟨t, rfl⟩ := rx
    cases y with
    | non => cases ry; exact PySem.EqNone.eq_int_none (fin_bl I q (by simp))
    | int j => obtain ⟨t', rfl⟩ := ry; exact eq_int (fin_bl I q dec_int)
    | str j => obtain ⟨t', rfl⟩ := ry; exact PySem.EqMixed.eq_int_str (fin_bl I q (by simp))
    | _ => exact absurd (show false = true from hs) Bool.false_ne_true
  | str i =>
    obtain ⟨t, rfl⟩ := rx
    cases y with
    | non => cases ry; exact PySem.EqNone.eq_str_none (fin_bl I q (by simp))
    | bl j => cases ry; exact PySem.EqMixed.eq_str_bool (fin_bl I q (by simp))
    | int j => obtain ⟨t', rfl⟩ := ry; exact PySem.EqMixed.eq_str_int (fin_bl I q (by simp))
    | str j => obtain ⟨t', rfl⟩ := ry; exact eq_str (fin_bl I q dec_str)
    | _ => exact absurd (show false = true from hs) Bool.false_ne_true
  | byt i =>
    obtain ⟨t, rfl⟩ := rx
    cases y with
    | byt j => obtain ⟨t', rfl⟩ := ry; exact PySem.W.eq_bytes (fin_bl I q dec_byt)
    | _ => exact absurd (show false = true from hs) Bool.false_ne_true
  | _ => cases y <;> exact absurd (show false = true from hs) Bool.false_ne_true
theorem op_ne : OpR X (compareOp .NotEq) rNe := by
  intro pins s σ H x y v u Q I rx ry h
  obtain ⟨hs, q⟩ := h
  cases x with
  | non =>
    cases rx
    cases y with
    | non => cases ry; exact PySem.EqNone.ne_none_none (fin_bl I q (by simp))
    | bl j => cases ry; exact PySem.EqNone.ne_none_bool (fin_bl I q (by simp))
    | int j => obtain ⟨t', rfl⟩ := ry; exact PySem.EqNone.ne_none_int (fin_bl I q (by simp))
    | str j => obtain ⟨t', rfl⟩ := ry; exact PySem.EqNone.ne_none_str (fin_bl I q (by simp))
    | _ => exact absurd (show false = true from hs) Bool.false_ne_true
  | bl i =>
    cases rx
    cases y with
    | non => cases ry; exact PySem.EqNone.ne_bool_none (fin_bl I q (by simp))
    | bl j => cases ry; exact ne_bool (fin_bl I q (congrArg not dec_bl))
    | str j => obtain ⟨t', rfl⟩ := ry; exact PySem.EqMixed.ne_bool_str (fin_bl I q (by simp))
    | _ => exact absurd (show false = true from hs) Bool.false_ne_true
  | int i =>
    obtain ⟨t, rfl⟩ := rx
    cases y with
    | non => cases ry; exact PySem.EqNone.ne_int_none (fin_bl I q (by simp))
    | int j => obtain ⟨t', rfl⟩ := ry; exact ne_int (fin_bl I q (congrArg not dec_int))
    | str j => obtain ⟨t', rfl⟩ := ry; exact PySem.EqMixed.ne_int_str (fin_bl I q (by simp))
    | _ => exact absurd (show false = true from hs) Bool.false_ne_true
  | str i =>
    obtain ⟨t, rfl⟩ := rx
    cases y with
    | non => cases ry; exact PySem.EqNone.ne_str_none (fin_bl I q (by simp))
    | bl j => cases ry; exact PySem.EqMixed.ne_str_bool (fin_bl I q (by simp))
    | int j => obtain ⟨t', rfl⟩ := ry; exact PySem.EqMixed.ne_str_int (fin_bl I q (by simp))
    | str j => obtain ⟨t', rfl⟩ := ry; exact ne_str (fin_bl I q (congrArg not dec_str))
    | _ => exact absurd (show false = true from hs) Bool.false_ne_true
  | byt i =>
    obtain ⟨t, rfl⟩ := rx
    cases y with
    | byt j => obtain ⟨t', rfl⟩ := ry; exact PySem.W.ne_bytes (fin_bl I q (congrArg not dec_byt))
    | _ => exact absurd (show false = true from hs) Bool.false_ne_true
  | _ => cases y <;> exact absurd (show false = true from hs) Bool.false_ne_true

theorem op_lt : OpR X (compareOp .Lt) (rI0 fun i j => .bl (decide (i < j))) := opB0 fun _ _ _ _ _ _ _ q => lt_int q
theorem op_le : OpR X (compareOp .LtE) (rI0 fun i j => .bl (decide (i ≤ j))) := opB0 fun _ _ _ _ _ _ _ q => le_int q
theorem op_gt : OpR X (compareOp .Gt) (rI0 fun i j => .bl (decide (j < i))) := opB0 fun _ _ _ _ _ _ _ q => gt_int q
theorem op_ge : OpR X (compareOp .GtE) (rI0 fun i j => .bl (decide (j ≤ i))) := opB0 fun _ _ _ _ _ _ _ q => ge_int q
theorem op_lt_str : OpR X (compareOp .Lt) (fun x y H Q => ∃ i j, x = .str i ∧ y = .str j ∧ Q (.bl (decide (i.cps.toList < j.cps.toList))) H) := by
  intro pins s σ H x y v u Q I rx ry h
  obtain ⟨i, j, rfl, rfl, q⟩ := h
  obtain ⟨t, rfl⟩ := rx
  obtain ⟨t', rfl⟩ := ry
  exact lt_str (fin_bl I q rfl)
/-- the one string within the other -/
theorem op_in_str : OpR X (compareOp .In) (fun x y H Q => ∃ i j, x = .str i ∧ y = .str j ∧ Q (.bl (!(Builtin.Str.occurrences j i 0 j.length 1).isEmpty)) H) := by
  intro pins s σ H x y v u Q I rx ry h
  obtain ⟨i, j, rfl, rfl, q⟩ := h
  obtain ⟨t, rfl⟩ := rx
  obtain ⟨t', rfl⟩ := ry
  exact in_str (fin_bl I q rfl)

/-- is None, is not None: the right side a value none -/
theorem op_isN : OpR X (compareOp .Is) (fun x y H Q => y = .non ∧ Q (.bl (decide (x = .non))) H) := by
  intro pins s σ H x y v u Q I rx ry h
  obtain ⟨rfl, q⟩ := h
  cases ry
  refine is_none_gen (fin_bl I q ?_)
  cases x <;> first
    | (cases rx; rfl)
    | (obtain ⟨t, rfl⟩ := rx; rfl)
theorem op_notN : OpR X (compareOp .IsNot) (fun x y H Q => y = .non ∧ Q (.bl (!decide (x = .non))) H) := by
  intro pins s σ H x y v u Q I rx ry h
  obtain ⟨rfl, q⟩ := h
  cases ry
  refine isnot_none_gen (fin_bl I q ?_)
  cases x <;> first
    | (cases rx; rfl)
    | (obtain ⟨t, rfl⟩ := rx; rfl)

theorem op_notin_str : OpR X (compareOp .NotIn) (fun x y H Q => ∃ i j, x = .str i ∧ y = .str j ∧ Q (.bl (!(!(Builtin.Str.occurrences j i 0 j.length 1).isEmpty))) H) := by
  intro pins s σ H x y v u Q I rx ry h
  obtain ⟨i, j, rfl, rfl, q⟩ := h
  obtain ⟨t, rfl⟩ := rx
  obtain ⟨t', rfl⟩ := ry
  exact notIn_str (fin_bl I q rfl)
/-- is, is not of two objects that are tracked lists or instances -/
def isObj : HO → Bool
  | .lst _ => true
  | .ins _ _ _ => true
  | _ => false
theorem obj_there {pins : List (Addr × Obj)} {s : Shared} {σ : St} {H : Hp} {a : Addr} {o : HO} (I : Inv X pins σ H s) (h : H a = some o) (p : isObj o = true) : ∃ ob, s.heap.get? a = some ob ∧ ob.cls ≠ .type "tuple" := by
  cases o with
  | lst xs =>
    obtain ⟨_, its, n, _, e⟩ : xs.length ≤ sizeLine ∧ ∃ (its : List Value) (n : Nat), Vals xs its ∧ s.heap.get? a = some { cls := .type "list", data := .seq its.toArray n } := I.hok a _ h
    exact ⟨_, e, (by show Value.type "list" ≠ .type "tuple"; decide +kernel)⟩
  | ins C dx fs =>
    have x := I.hok a _ h
    obtain ⟨_, _, _, e, _⟩ := x
    exact ⟨_, e, (by show Value.ref C ≠ .type "tuple"; exact fun z => by cases z)⟩
  | _ => exact absurd (show false = true from p) Bool.false_ne_true
theorem op_is_ref : OpR X (compareOp .Is) (fun x y H Q => ∃ a b oa ob, x = .ref a ∧ y = .ref b ∧ H a = some oa ∧ isObj oa = true ∧ H b = some ob ∧ isObj ob = true ∧ Q (.bl (decide (a = b))) H) := by
  intro pins s σ H x y v u Q I rx ry h
  obtain ⟨a, b, oa, ob, rfl, rfl, ha, pa, hb, pb, q⟩ := h
  cases rx
  cases ry
  obtain ⟨o1, e1, n1⟩ := obj_there I ha pa
  obtain ⟨o2, e2, _⟩ := obj_there I hb pb
  by_cases z : a = b
  · subst z
    exact wpAny_is_ref_self (fin_bl I q (by simp))
  · exact wpAny_is_ref_other z e1 e2 n1 (fin_bl I q (by simp [z]))
theorem op_isnot_ref : OpR X (compareOp .IsNot) (fun x y H Q => ∃ a b oa ob, x = .ref a ∧ y = .ref b ∧ H a = some oa ∧ isObj oa = true ∧ H b = some ob ∧ isObj ob = true ∧ Q (.bl (!decide (a = b))) H) := by
  intro pins s σ H x y v u Q I rx ry h
  obtain ⟨a, b, oa, ob, rfl, rfl, ha, pa, hb, pb, q⟩ := h
  cases rx
  cases ry
  obtain ⟨o1, e1, n1⟩ := obj_there I ha pa
  obtain ⟨o2, e2, _⟩ := obj_there I hb pb
  by_cases z : a = b
  · subst z
    exact wpAny_isNot_ref_self (fin_bl I q (by simp))
  · exact wpAny_isNot_ref_other z e1 e2 n1 (fin_bl I q (by simp [z]))

/-- two rules for one operation: by cases -/
theorem OpR.or {f : Value → Value → Sem Value} {r r' : R2} (h : OpR X f r) (h' : OpR X f r') : OpR X f (fun x y H Q => r x y H Q ∨ r' x y H Q) := by
  intro pins s σ H x y v u Q I rx ry q
  rcases q with q | q
  · exact h pins s σ H x y v u Q I rx ry q
  · exact h' pins s σ H x y v u Q I rx ry q

theorem nomark (b : Expr) {op : CmpOp} (h : op ≠ .In := by decide) (h2 : op ≠ .NotIn := by decide) : behindInMarks op b = false := by
  have e1 : (op == CmpOp.In) = false := by cases op <;> first | rfl | exact absurd rfl h
  have e2 : (op == CmpOp.NotIn) = false := by cases op <;> first | rfl | exact absurd rfl h2
  cases b <;> simp [behindInMarks, e1, e2]
/-- a comparison as a value; hm: nomark b, or (for in, not in) by with_unfolding_all rfl -/
theorem pe_cmpR {op : CmpOp} {r : R2} (ho : OpR X (compareOp op) r) (ha : PE X a ta) (hb : PE X b tb) (hm : behindInMarks op b = false) : PE X (.Compare a [op] [b] pos) (tOp r ta tb) := by
  intro pins s σ H Q I h
  exact wpAny_Compare1 (binT ha hb I h fun v u s2 x y H2 I2 rx ry q => ho pins s2 σ H2 x y v u Q I2 rx ry q) hm
/-- a reading of a value as a test -/
def tTest (t : TE) : TT := fun σ H Q => t σ H fun x H' => ∃ k, x = .bl k ∧ Q k H'
theorem pt_cmpR {op : CmpOp} {r : R2} (ho : OpR X (compareOp op) r) (ha : PE X a ta) (hb : PE X b tb) (hm : behindInMarks op b = false) : PT X (.Compare a [op] [b] pos) (tTest (tOp r ta tb)) := by
  intro pins s σ H Q I h
  refine wpAny_isTrue_Compare1 (thn (ha pins s σ H _ I h) fun v s1 ⟨x, H1, I1, r1, q1⟩ => thn (hb pins s1 σ H1 _ I1 q1) fun u s2 ⟨y, H2, I2, r2, q2⟩ =>
    thn (ho pins s2 σ H2 x y v u _ I2 r1 r2 q2) fun c s3 ⟨z, H3, I3, r3, k, e, q3⟩ => ?_) hm
  subst e
  cases r3
  exact wpAny_truthy_bool ⟨H3, I3, q3⟩
/-- a op1 b op2 c -/
def tChain (r r' : R2) (ta tb tc : TE) : TE := fun σ H Q => ta σ H fun x H1 => tb σ H1 fun y H2 => r x y H2 fun z H3 => ∃ k, z = .bl k ∧
  (if k = true then tc σ H3 fun w' H4 => r' y w' H4 Q else Q (.bl false) H3)
theorem pe_chain {op op' : CmpOp} {r r' : R2} (ho : OpR X (compareOp op) r) (ho' : OpR X (compareOp op') r') (ha : PE X a ta) (hb : PE X b tb) (hc : PE X c tc)
    (hm : lastMarks [op, op'] [b, c] = false := by with_unfolding_all rfl) : PE X (.Compare a [op, op'] [b, c] pos) (tChain r r' ta tb tc) := by
  intro pins s σ H Q I h
  refine Compare_chain (thn (ha pins s σ H _ I h) fun v s1 ⟨x, H1, I1, r1, q1⟩ => chain_link (thn (hb pins s1 σ H1 _ I1 q1) fun u s2 ⟨y, H2, I2, r2, q2⟩ =>
    thn (ho pins s2 σ H2 x y v u _ I2 r1 r2 q2) fun d s3 ⟨z, H3, I3, r3, k, e, q3⟩ => ?_)) hm
  subst e
  cases r3
  refine wpAny_truthy_bool ?_
  cases k with
  | false => exact ite_ff ⟨.bl false, H3, I3, rfl, q3⟩
  | true => exact ite_tt (chain_last (thn (hc pins s3 σ H3 _ I3 q3) fun w' s4 ⟨z', H4, I4, r4, q4⟩ => ho' pins s4 σ H4 y z' u w' Q I4 r2 r4 q4))
theorem pt_chain {op op' : CmpOp} {r r' : R2} (ho : OpR X (compareOp op) r) (ho' : OpR X (compareOp op') r') (ha : PE X a ta) (hb : PE X b tb) (hc : PE X c tc)
    (hm : lastMarks [op, op'] [b, c] = false := by with_unfolding_all rfl) : PT X (.Compare a [op, op'] [b, c] pos) (tTest (tChain r r' ta tb tc)) := by
  intro pins s σ H Q I h
  refine isTrue_chain (thn (ha pins s σ H _ I h) fun v s1 ⟨x, H1, I1, r1, q1⟩ => test_link (thn (hb pins s1 σ H1 _ I1 q1) fun u s2 ⟨y, H2, I2, r2, q2⟩ =>
    thn (ho pins s2 σ H2 x y v u _ I2 r1 r2 q2) fun d s3 ⟨z, H3, I3, r3, k, e, q3⟩ => ?_)) hm
  subst e
  cases r3
  refine wpAny_truthy_bool ?_
  cases k with
  | false =>
    obtain ⟨k', e', q'⟩ := q3
    cases e'
    exact ite_ff ⟨H3, I3, q'⟩
  | true =>
    refine ite_tt (test_last (thn (hc pins s3 σ H3 _ I3 q3) fun w' s4 ⟨z', H4, I4, r4, q4⟩ => thn (ho' pins s4 σ H4 y z' u w' _ I4 r2 r4 q4) fun d' s5 ⟨z2, H5, I5, r5, k2, e2, q5⟩ => ?_))
    subst e2
    cases r5
    exact wpAny_truthy_bool ⟨H5, I5, q5⟩

/-! ### truth -/
/-- a value's truth by the abstract heap -/
def TruV (K : PySem.W.Frag) (x : V) (H : Hp) (k : Bool) : Prop :=
  match x with
  | .non => k = false
  | .bl b => k = b
  | .int i => k = (i != 0)
  | .str y => y.length ≤ sizeLine ∧ k = ((y.length : Int) != 0)
  | .byt y => y.size ≤ sizeLine ∧ k = ((y.size : Int) != 0)
  | .ref p => (∃ xs, SqL K H p xs ∧ k = !xs.isEmpty) ∨ (∃ xs, SqT K H p xs ∧ k = !xs.isEmpty) ∨ ∃ kvs, H p = some (.dK kvs) ∧ k = !kvs.isEmpty
  | _ => False
theorem isEmpty_kv {κ : Type} {kvs : List (κ × V)} {vs : List (κ × Value)} (r : KV kvs vs) : (!vs.isEmpty) = !kvs.isEmpty := by
  cases r <;> rfl
theorem isEmpty_of {xs : List V} {its : List Value} (r : Vals xs its) : (!its.toArray.isEmpty) = !xs.isEmpty := by
  cases r <;> simp
theorem line63 : (sizeLine : Nat) < 2 ^ 63 := by rw [sizeLine_eq]; decide
theorem tru_ok : TruR X (fun x H Q => ∃ k, TruV X.K x H k ∧ Q k H) := by
  intro pins s σ H x v Q I rx h
  obtain ⟨k, e, q⟩ := h
  have hl := line63
  have hs : sizeLine = 16777216 := sizeLine_eq
  cases x with
  | non =>
    cases rx
    have e' : k = false := e
    subst e'
    exact truthy_none ⟨H, I, q⟩
  | bl b =>
    cases rx
    have e' : k = b := e
    subst e'
    exact wpAny_truthy_bool ⟨H, I, q⟩
  | int i =>
    obtain ⟨t, rfl⟩ := rx
    have e' : k = (i != 0) := e
    subst e'
    exact PySem.P.truthy_int ⟨H, I, q⟩
  | str y =>
    obtain ⟨t, rfl⟩ := rx
    obtain ⟨hy, e'⟩ : y.length ≤ sizeLine ∧ k = ((y.length : Int) != 0) := e
    subst e'
    exact PySem.P.truthy_str (by omega) ⟨H, I.tok _, q⟩
  | byt y =>
    obtain ⟨t, rfl⟩ := rx
    obtain ⟨hy, e'⟩ : y.size ≤ sizeLine ∧ k = ((y.size : Int) != 0) := e
    subst e'
    exact PySem.W.truthy_bytes (by omega) ⟨H, I.tok _, q⟩
  | ref p =>
    cases rx
    have e' : (∃ xs, SqL X.K H p xs ∧ k = !xs.isEmpty) ∨ (∃ xs, SqT X.K H p xs ∧ k = !xs.isEmpty) ∨ ∃ kvs, H p = some (.dK kvs) ∧ k = !kvs.isEmpty := e
    rcases e' with ⟨xs, hx, e'⟩ | ⟨xs, hx, e'⟩ | ⟨kvs, hx, e'⟩
    · subst e'
      obtain ⟨its, r, pl, hz⟩ := I.list hx
      have hlen := r.length
      exact wpAny_truthy_list pl.isList (by simp only [List.size_toArray]; omega) ⟨H, I.tok _, by rw [isEmpty_of r]; exact q⟩
    · subst e'
      obtain ⟨its, r, pl, hz⟩ := I.tuple hx
      have hlen := r.length
      exact truthy_tuple pl (by simp only [List.size_toArray]; omega) ⟨H, I.tok _, by rw [isEmpty_of r]; exact q⟩
    · subst e'
      obtain ⟨hz, hS, vs, r, m⟩ : kvs.length ≤ sizeLine ∧ (p == sysModules) = false ∧ ∃ vs, KV kvs vs ∧ s.heap.DictOf (mixKind X.prog X.w) p vs := I.hok p _ hx
      have hlen : kvs.length = vs.length := Paired.length r
      exact wpAny_truthy_dict hS m (by omega) ⟨H, I.tok _, by rw [isEmpty_kv r]; exact q⟩
  | _ => exact (show False from e).elim
/-- any expression whose test is its value's truth (a name, a call, a subscript, a field ..: he by fun _ => rfl) -/
theorem pt_truth (ha : PE X a ta) (he : ∀ whole, isTrue a X.env whole = (do let v ← whole; standAt a.pos; holding [v] (truthy v))) :
    PT X a (fun σ H Q => ta σ H fun x H' => ∃ k, TruV X.K x H' k ∧ Q k H') := by
  intro pins s σ H Q I h
  exact isTrue_plain (thn (ha pins s σ H _ I h) fun v s1 ⟨x, H1, I1, r1, q1⟩ => tru_ok pins s1 σ H1 x v Q I1 r1 q1) (he _)

/-! ### strs and bytes -/
theorem pe_byt {x : List UInt8} {k : Nat} : PE X (.Constant (.bytes x) k pos) (fun _ H Q => Q (.byt x.toArray) H) := fun _ _ _ H _ I h => PySem.W.Constant_bytes ⟨.byt x.toArray, H, I.tok _, ⟨_, rfl⟩, h⟩
theorem op_add_str : OpR X (binaryOp .Add) (fun x y H Q => ∃ i j, x = .str i ∧ y = .str j ∧ i.length + j.length ≤ sizeLine ∧ Q (.str (i ++ j)) H) := by
  intro pins s σ H x y v u Q I rx ry h
  obtain ⟨i, j, rfl, rfl, hz, q⟩ := h
  obtain ⟨t, rfl⟩ := rx
  obtain ⟨t', rfl⟩ := ry
  exact add_str (fun t' tk => ⟨.str (i ++ j), H, I.tok _, ⟨_, rfl⟩, q⟩) hz
theorem iop_add_str : OpR X (inplaceOp .Add) (fun x y H Q => ∃ i j, x = .str i ∧ y = .str j ∧ i.length + j.length ≤ sizeLine ∧ Q (.str (i ++ j)) H) := by
  intro pins s σ H x y v u Q I rx ry h
  obtain ⟨i, j, rfl, rfl, hz, q⟩ := h
  obtain ⟨t, rfl⟩ := rx
  obtain ⟨t', rfl⟩ := ry
  exact iadd_str (fun t' tk => ⟨.str (i ++ j), H, I.tok _, ⟨_, rfl⟩, q⟩) hz
theorem op_add_byt : OpR X (binaryOp .Add) (fun x y H Q => ∃ i j, x = .byt i ∧ y = .byt j ∧ i.size + j.size ≤ 16777216 ∧ Q (.byt (i ++ j)) H) := by
  intro pins s σ H x y v u Q I rx ry h
  obtain ⟨i, j, rfl, rfl, hz, q⟩ := h
  obtain ⟨t, rfl⟩ := rx
  obtain ⟨t', rfl⟩ := ry
  exact PySem.W.KBy.add_bytes hz (fun t' tk => ⟨.byt (i ++ j), H, I.tok _, ⟨_, rfl⟩, q⟩)

def PlainIxT (b : Expr) : Prop := ∀ o i, subscripted b false o i = operate [o, i] (getItem o i)
/-- s[i], 0 ≤ i < len -/
theorem pe_item_str (ha : PE X a ta) (hb : PE X b tb) (hs : PlainIxT b) :
    PE X (.Subscript a b pos) (tOp (fun x y H Q => ∃ z i c, x = .str z ∧ y = .int i ∧ 0 ≤ i ∧ i < 2 ^ 63 ∧ i < z.length ∧ z.cps[i.toNat]? = some c ∧ Q (.str ⟨#[c]⟩) H) ta tb) := by
  intro pins s σ H Q I h
  refine Subscript_ (binT ha hb I h fun v u s2 x y H2 I2 rx ry q => ?_)
  obtain ⟨z, i, c, rfl, rfl, h0, h63, h1, hc, q⟩ := q
  obtain ⟨t, rfl⟩ := rx
  obtain ⟨t', rfl⟩ := ry
  have e : seqIndex? i z.length = some i.toNat := PySem.StrLaws.seqIndex_nonneg h0 h1
  exact tail_any (typeIs_str s2 z t) slot_str_getitem.lookup (getItem_str (c := c) (by
    have e1 : decide (i < -(2 ^ 63 : Int)) = false := decide_eq_false (by omega)
    have e2 : decide (i ≥ 2 ^ 63) = false := decide_eq_false (by omega)
    rw [e1, e2] <;> rfl) (by rw [e]; exact hc) ⟨.str ⟨#[c]⟩, H2, I2.tok _, ⟨_, rfl⟩, q⟩) (hs _ _)
/-- b[i], 0 ≤ i < len -/
theorem pe_item_byt (ha : PE X a ta) (hb : PE X b tb) (hs : PlainIxT b) :
    PE X (.Subscript a b pos) (tOp (fun x y H Q => ∃ (z : List UInt8) (i : Int), x = .byt z.toArray ∧ y = .int i ∧ z.length ≤ sizeLine ∧ 0 ≤ i ∧ i < z.length ∧ Q (.int ((z.getD i.toNat 0).toNat : Nat)) H) ta tb) := by
  intro pins s σ H Q I h
  refine Subscript_ (binT ha hb I h fun v u s2 x y H2 I2 rx ry q => ?_)
  obtain ⟨z, i, rfl, rfl, hz, h0, h1, q⟩ := q
  obtain ⟨t, rfl⟩ := rx
  obtain ⟨t', rfl⟩ := ry
  have hl : sizeLine = 16777216 := sizeLine_eq
  exact tail_any (PySem.W.typeIs_bytes s2 z.toArray t) PySem.W.FB.slot_bytes_getitem.lookup (PySem.W.getItem_bytes (by omega) h0 h1 ⟨.int ((z.getD i.toNat 0).toNat : Nat), H2, I2.tok _, ⟨_, rfl⟩, q⟩) (hs _ _)

/-! ### scalar builtins, by CallR -/
theorem vals1 {x : V} {us : List Value} (r : Vals [x] us) : ∃ u, us = [u] ∧ RelV x u := by
  cases r with
  | cons r1 r2 => cases r2; exact ⟨_, rfl, r1⟩
theorem vals2 {x y : V} {us : List Value} (r : Vals [x, y] us) : ∃ u w', us = [u, w'] ∧ RelV x u ∧ RelV y w' := by
  cases r with
  | cons r1 r2 =>
    cases r2 with
    | cons r3 r4 => cases r4; exact ⟨_, _, rfl, r1, r3⟩
theorem call_abs : CallR X (.builtin "abs") (fun xs H Q => ∃ i, xs = [.int i] ∧ Q (.int (if i < 0 then -i else i)) H) := by
  intro pins s σ H xs us Q I r h
  obtain ⟨i, rfl, q⟩ := h
  obtain ⟨u, rfl, t, rfl⟩ := vals1 r
  exact call_abs_int fun u tk => ⟨.int (if i < 0 then -i else i), H, I.tok _, ⟨_, rfl⟩, q⟩
theorem call_max2 (hc : X.calm = true) : CallR X (.builtin "max") (fun xs H Q => ∃ i j, xs = [.int i, .int j] ∧ Q (.int (if j > i then j else i)) H) := by
  intro pins s σ H xs us Q I r h
  obtain ⟨i, j, rfl, q⟩ := h
  obtain ⟨u, w', rfl, ⟨t, rfl⟩, ⟨t', rfl⟩⟩ := vals2 r
  refine max_two_ints (I.ok.hd hc) fun h' tk k => ⟨_, H, I.kept k, ?_, q⟩
  by_cases hj : j > i
  · rw [if_pos hj, if_pos hj]; exact ⟨_, rfl⟩
  · rw [if_neg hj, if_neg hj]; exact ⟨_, rfl⟩
theorem call_min2 (hc : X.calm = true) : CallR X (.builtin "min") (fun xs H Q => ∃ i j, xs = [.int i, .int j] ∧ Q (.int (if j < i then j else i)) H) := by
  intro pins s σ H xs us Q I r h
  obtain ⟨i, j, rfl, q⟩ := h
  obtain ⟨u, w', rfl, ⟨t, rfl⟩, ⟨t', rfl⟩⟩ := vals2 r
  refine min_two_ints (I.ok.hd hc) fun h' tk k => ⟨_, H, I.kept k, ?_, q⟩
  by_cases hj : j < i
  · rw [if_pos hj, if_pos hj]; exact ⟨_, rfl⟩
  · rw [if_neg hj, if_neg hj]; exact ⟨_, rfl⟩
theorem call_int1 : CallR X (.type "int") (fun xs H Q => (∃ i, xs = [.int i] ∧ Q (.int i) H) ∨ ∃ k, xs = [.bl k] ∧ Q (.int (if k then 1 else 0)) H) := by
  intro pins s σ H xs us Q I r h
  rcases h with ⟨i, rfl, q⟩ | ⟨k, rfl, q⟩
  · obtain ⟨u, rfl, t, rfl⟩ := vals1 r
    exact call_int_int ⟨.int i, H, I, ⟨_, rfl⟩, q⟩
  · obtain ⟨u, rfl, r1⟩ := vals1 r
    cases r1
    exact call_int_bool ⟨.int (if k then 1 else 0), H, I.tok _, ⟨_, rfl⟩, q⟩
theorem call_bool1 : CallR X (.type "bool") (fun xs H Q => (∃ i, xs = [.int i] ∧ Q (.bl (i != 0)) H) ∨ ∃ k, xs = [.bl k] ∧ Q (.bl k) H) := by
  intro pins s σ H xs us Q I r h
  rcases h with ⟨i, rfl, q⟩ | ⟨k, rfl, q⟩
  · obtain ⟨u, rfl, t, rfl⟩ := vals1 r
    exact call_bool_int ⟨.bl (i != 0), H, I, rfl, q⟩
  · obtain ⟨u, rfl, r1⟩ := vals1 r
    cases r1
    exact call_bool_bool ⟨.bl k, H, I, rfl, q⟩
theorem call_str_int : CallR X (.type "str") (fun xs H Q => ∃ i, xs = [.int i] ∧ i.natAbs.log2 < 1920 ∧ Q (.str (toString i)) H) := by
  intro pins s σ H xs us Q I r h
  obtain ⟨i, rfl, hz, q⟩ := h
  obtain ⟨u, rfl, t, rfl⟩ := vals1 r
  exact PySem.P.str_of_int hz ⟨.str _, H, I.tok _, ⟨_, rfl⟩, q⟩
theorem call_ord : CallR X (.builtin "ord") (fun xs H Q => ∃ x, xs = [.str x] ∧ x.length = 1 ∧ Q (.int (x.cps.getD 0 0 : Nat)) H) := by
  intro pins s σ H xs us Q I r h
  obtain ⟨x, rfl, hz, q⟩ := h
  obtain ⟨u, rfl, t, rfl⟩ := vals1 r
  exact ord_of_one hz ⟨.int _, H, I.tok _, ⟨_, rfl⟩, q⟩
theorem call_chr : CallR X (.builtin "chr") (fun xs H Q => ∃ i, xs = [.int i] ∧ 0 ≤ i ∧ i ≤ 1114111 ∧ Q (.str ⟨#[i.toNat]⟩) H) := by
  intro pins s σ H xs us Q I r h
  obtain ⟨i, rfl, h0, h1, q⟩ := h
  obtain ⟨u, rfl, t, rfl⟩ := vals1 r
  exact chr_of_range h0 h1 ⟨.str _, H, I.tok _, ⟨_, rfl⟩, q⟩
/-- len of a str, a bytes, a list, a tuple -/
def LenV (K : PySem.W.Frag) (x : V) (H : Hp) (n : Nat) : Prop :=
  match x with
  | .str y => y.length ≤ sizeLine ∧ n = y.length
  | .byt y => y.size ≤ sizeLine ∧ n = y.size
  | .ref p => (∃ xs, SqL K H p xs ∧ n = xs.length) ∨ ∃ xs, SqT K H p xs ∧ n = xs.length
  | _ => False
theorem call_len : CallR X (.builtin "len") (fun xs H Q => ∃ x n, xs = [x] ∧ LenV X.K x H n ∧ Q (.int n) H) := by
  intro pins s σ H xs us Q I r h
  obtain ⟨x, n, rfl, e, q⟩ := h
  obtain ⟨u, rfl, rx⟩ := vals1 r
  have hl := line63
  have hs : sizeLine = 16777216 := sizeLine_eq
  cases x with
  | str y =>
    obtain ⟨t, rfl⟩ := rx
    obtain ⟨hy, e'⟩ : y.length ≤ sizeLine ∧ n = y.length := e
    subst e'
    exact len_str (by omega) ⟨.int _, H, I.tok _, ⟨_, rfl⟩, q⟩
  | byt y =>
    obtain ⟨t, rfl⟩ := rx
    obtain ⟨hy, e'⟩ : y.size ≤ sizeLine ∧ n = y.size := e
    subst e'
    exact PySem.W.len_bytes (by omega) ⟨.int _, H, I.tok _, ⟨_, rfl⟩, q⟩
  | ref p =>
    cases rx
    have e' : (∃ xs, SqL X.K H p xs ∧ n = xs.length) ∨ ∃ xs, SqT X.K H p xs ∧ n = xs.length := e
    rcases e' with ⟨xs, hx, e'⟩ | ⟨xs, hx, e'⟩
    · subst e'
      obtain ⟨its, r', pl, hz⟩ := I.list hx
      have hlen := r'.length
      exact Calls.call_len_list pl.isList (by simp only [List.size_toArray]; omega) ⟨.int xs.length, H, I.tok _, ⟨_, by simp only [List.size_toArray]; rw [hlen]⟩, q⟩
    · subst e'
      obtain ⟨its, r', pl, hz⟩ := I.tuple hx
      have hlen := r'.length
      exact len_tuple pl (by simp only [List.size_toArray]; omega) ⟨.int xs.length, H, I.tok _, ⟨_, by simp only [List.size_toArray]; rw [hlen]⟩, q⟩
  | _ => exact (show False from e).elim
/-- divmod: a new tuple -/
theorem call_divmod : CallR X (.builtin "divmod") (fun xs H Q => ∃ i j, xs = [.int i, .int j] ∧ CDiv i j ∧ ∀ p, H p = none → Q (.ref p) (upd H p (.tup [.int (i / j), .int (i % j)]))) := by
  intro pins s σ H xs us Q I r h
  obtain ⟨i, j, rfl, ⟨h1, h2⟩, q⟩ := h
  obtain ⟨u, w', rfl, ⟨t, rfl⟩, ⟨t', rfl⟩⟩ := vals2 r
  refine divmod_int (by omega) ?_ (.inl (PyProof.noPylong_small (by omega)))
  rw [Int.fdiv_eq_ediv_of_nonneg i (by omega), Int.fmod_eq_emod_of_nonneg i (by omega)]
  have hn : H s.heap.objs.size = none := I.hok.fresh (Nat.le_refl _)
  refine ⟨.ref s.heap.objs.size, _, ?_, rfl, q _ hn⟩
  refine I.laid (fun b o e => Heap.get?_push_of_some _ e) (Nat.le_refl _) ⟨by simp only [List.length_cons, List.length_nil]; rw [sizeLine_eq]; decide, [.int (i / j) s.toks, .int (i % j) (s.toks + 1)], .cons ⟨_, rfl⟩ (.cons ⟨_, rfl⟩ .nil), ?_⟩
  exact ⟨_, Heap.get?_push_size s.heap rfl, rfl, 0, rfl⟩
end
end L2

namespace L2
open PySem PySem.Spec PyProof.Rows

/-! ### an instance, its attributes a map -/
structure ObjM (h : Heap) (x dx C : Addr) (mA : Str → Option Value) : Prop where
  obj : h.get? x = some (PySem.W.instObj C dx)
  ns : h.Ns1 dx mA
  ne : dx ≠ x

theorem lookIn_ns {h : Heap} {dx : Addr} {mA : Str → Option Value} (n : h.Ns1 dx mA) : ∃ od, h.get? dx = some od ∧ ∀ name, PySem.W.lookIn name od = some (mA name) := by
  obtain ⟨o, es, ep, ho, hd, hk, _, hm⟩ := n
  refine ⟨o, ho, fun name => ?_⟩
  have e := hm name
  unfold nsFind findBy at e
  rw [← Array.find?_toList] at e
  unfold PySem.W.lookIn
  rw [hd]
  dsimp only
  split
  · rename_i y q
    rw [q] at e
    exact congrArg some e
  · rename_i q
    rw [q] at e
    have a : es.toList.any (·.refKey) = false := by
      rw [List.any_eq_false]
      intro y hy
      obtain ⟨z, t, hkey⟩ := hk y (Array.mem_toList_iff.mp hy)
      simp [DictEntry.refKey, hkey]
    have a' : ¬ es.toList.any (·.refKey) = true := by rw [a]; exact Bool.false_ne_true
    rw [if_neg a']
    exact congrArg some e

theorem ObjM.look {h : Heap} {x dx C : Addr} {mA : Str → Option Value} (I : ObjM h x dx C mA) : ∃ od, PySem.W.InstAt h x (PySem.W.instObj C dx) C (some od) ∧ ∀ name, PySem.W.lookIn name od = some (mA name) :=
  let ⟨od, ho, hl⟩ := lookIn_ns I.ns
  ⟨od, ⟨I.obj, rfl, rfl, ho⟩, hl⟩

section
variable {prog : Program} {w : World} {A : Around} {E : Value → Shared → Prop} {s : Shared} {K : PySem.W.Frag} {x dx C f : Addr} {mA : Str → Option Value} {name : Str} {v : Value}

theorem get_map {expr : Bool} {Q : Value → Shared → Prop} (X : K.In s.heap) (I : ObjM s.heap x dx C mA) (hg : PySem.W.plainGet K C name = true) (hh : PySem.W.hasDictIn K C = true)
    (ha : PySem.W.findIn K (.ref C) name = some none) (hv : mA name = some v) (hv' : PySem.W.handedIn v = true) (h : Q v { s with toks := s.toks + 1 }) :
    wpAny (model prog w) A (getAttr (.ref x) name expr) Q E s := by
  obtain ⟨od, J, hl⟩ := I.look
  exact PySem.W.get_value X J (PySem.W.plainGet_of hg).1 (PySem.W.findObj_own hh ha rfl (by rw [hl, hv])) hv' h

theorem get_const {expr : Bool} {a : Value} {Q : Value → Shared → Prop} (X : K.In s.heap) (I : ObjM s.heap x dx C mA) (hg : PySem.W.plainGet K C name = true) (hh : PySem.W.hasDictIn K C = true)
    (ha : PySem.W.findIn K (.ref C) name = some (some a)) (hn : PySem.W.specialIn K a "__get__" = some none) (hc : PySem.W.copiedNames.contains name = false) (hv : mA name = none) (hv' : PySem.W.handedIn a = true)
    (h : Q a { s with toks := s.toks + 1 }) : wpAny (model prog w) A (getAttr (.ref x) name expr) Q E s := by
  obtain ⟨od, J, hl⟩ := I.look
  exact PySem.W.get_value X J (PySem.W.plainGet_of hg).1 (PySem.W.findObj_cls hh ha hn hv' hc (by rw [hl, hv])) hv' h

theorem get_meth {pl : Sem Bool} {Q : Value × List Value → Shared → Prop} (X : K.In s.heap) (I : ObjM s.heap x dx C mA) (hg : PySem.W.plainGet K C name = true)
    (hf : PySem.W.findIn K (.ref C) name = some (some (.ref f))) (ht : PySem.W.isFn K (.ref f) = true) (hv : mA name = none) (h : Q (.ref f, [.ref x]) s) :
    wpAny (model prog w) A (getMethod (.ref x) name pl) Q E s := by
  obtain ⟨od, J, hl⟩ := I.look
  exact PySem.W.method_fn X J (PySem.W.plainGet_of hg).1 (PySem.W.plainGet_of hg).2 hf (beq_iff_eq.mp ht) (by show (PySem.W.lookIn name od).map (·.isSome) = some false; rw [hl, hv]; rfl) h

theorem set_map {ns : List Str} {Q : Unit → Shared → Prop} (X : K.In s.heap) (I : ObjM s.heap x dx C mA)
    (hs : PySem.W.findIn K (.ref C) "__setattr__" = some (some (.builtin "object.__setattr__"))) (hp : PySem.W.plainOver K C = true) (ht : PySem.W.takerIn K C name = some none) (hh : PySem.W.hasDictIn K C = true)
    (hw : PySem.Within mA ns) (hsz : ns.length ≤ sizeLine)
    (h : ∀ h', ObjM h' x dx C (fun y => if y = name then some v else mA y) → Heap.SameBut dx s.heap h' → Q () { s with heap := h', toks := s.toks + 2 }) :
    wpAny (model prog w) A (setAttr (.ref x) name v) Q E s := by
  obtain ⟨od, J, hl⟩ := I.look
  refine PySem.W.set_plain X J hs (PySem.W.osa_open (s := { s with toks := s.toks + 1 }) (r := none) X J hp ht fun b => ?_)
  obtain ⟨cd, hc, hd'⟩ := PySem.W.any_some hh
  have hx : s.heap.get? x = some ⟨.ref C, some dx, .plain, #[]⟩ := I.obj
  refine wpAny_bind (wpAny_pure (wpAny_bind (wpAny_bind (wpAny_loadPart hx (wpAny_bind (PySem.W.Looks.here (s := { s with toks := s.toks + 1 }) (PySem.W.looks_clsIn X hc) ?_))))))
  rw [hd']
  refine wpAny_pure (a := some dx) (wpAny_bind (wpAny_pure (wpAny_bind ?_)))
  refine wpAny_nsSet1 (s := { s with toks := s.toks + 1 }) I.ns fun h' hn2 hs2 => ?_
  obtain ⟨oD, esD, epD, hoD, hdD, hcD⟩ := hn2.count (PySem.Within.cons name v hw)
  refine wpAny_bind (wpAny_lookBehind hoD (by rw [hdD]; exact pastItsLine_dict (Nat.le_trans hcD (by rw [List.length_cons]; omega))) ?_)
  exact wpAny_pure (h _ ⟨(hs2.2 _ (Ne.symm I.ne)).trans I.obj, hn2, I.ne⟩ hs2)

/-- C(..): the dict at the heap's end, the instance behind it; then its __init__ -/
theorem make_map {R : Result → Shared → Prop} {vs : List Value} {kw : List (Str × Value)} (X : K.In s.heap) (hm : PySem.W.makesIn K C = true)
    (hi : PySem.W.findIn K (.ref C) "__init__" = some (some (.ref f))) (hf : PySem.W.typeIn K (.ref f) = some (.type "function"))
    (h : codeAny (model prog w) (A.under (.builtin "type.__call__" ⟨.ref C :: vs, kw⟩)) (.call (.ref f) ⟨.ref (s.heap.objs.size + 1) :: vs, kw⟩) (PySem.W.InitBack (s.heap.objs.size + 1) R)
      { s with heap := (s.heap.push PySem.W.emptyDict).push (PySem.W.instObj C s.heap.objs.size) }) :
    codeAny (model prog w) A (.call (.ref C) ⟨vs, kw⟩) R s := by
  obtain ⟨hh, g, d, t, os⟩ := s
  exact PySem.W.make_core (PySem.W.makes_of X hm) (PySem.W.looks_findIn X hi) (fun self => PySem.W.bind_fn X self hf) (.inl rfl) h
/-- C() where there is no __init__ but object's -/
theorem make_map0 {R : Result → Shared → Prop} (X : K.In s.heap) (hm : PySem.W.makesIn K C = true)
    (hi : PySem.W.findIn K (.ref C) "__init__" = some (some (.builtin "object.__init__")))
    (hb : ∀ self, PySem.W.Looks (model prog w) s.heap (bindSpecial (.builtin "object.__init__") self) (.builtin "object.__init__", [self]))
    (h : codeAny (model prog w) (A.under (.builtin "type.__call__" ⟨[.ref C], []⟩)) (.call (.builtin "object.__init__") ⟨[.ref (s.heap.objs.size + 1)], []⟩) (PySem.W.InitBack (s.heap.objs.size + 1) R)
      { s with heap := (s.heap.push PySem.W.emptyDict).push (PySem.W.instObj C s.heap.objs.size) }) :
    codeAny (model prog w) A (.call (.ref C) ⟨[], []⟩) R s := by
  obtain ⟨hh, g, d, t, os⟩ := s
  exact PySem.W.make_core (PySem.W.makes_of X hm) (PySem.W.looks_findIn X hi) hb (.inr ⟨rfl, rfl⟩) h
end

/-! ### the attributes as a list of pairs -/
def putF (f : Str) (v : V) : List (Str × V) → List (Str × V)
  | [] => [(f, v)]
  | (g, x) :: r => if g = f then (g, v) :: r else (g, x) :: putF f v r
theorem lookup_putF (f g : Str) (v : V) : ∀ fs : List (Str × V), (putF f v fs).lookup g = if g = f then some v else fs.lookup g
  | [] => by
    show List.lookup g [(f, v)] = _
    by_cases h : g = f
    · have hb : (g == f) = true := beq_iff_eq.mpr h
      simp only [List.lookup, hb, if_pos h]
    · have hb : (g == f) = false := beq_eq_false_iff_ne.mpr h
      simp only [List.lookup, hb, if_neg h]
  | (k, x) :: r => by
    have ih := lookup_putF f g v r
    rw [show putF f v ((k, x) :: r) = (if k = f then (k, v) :: r else (k, x) :: putF f v r) from rfl]
    by_cases hk : k = f
    · rw [if_pos hk]
      by_cases h : g = k
      · have hb : (g == k) = true := beq_iff_eq.mpr h
        simp only [List.lookup, hb, if_pos (h.trans hk)]
      · have hb : (g == k) = false := beq_eq_false_iff_ne.mpr h
        simp only [List.lookup, hb, if_neg (fun e : g = f => h (e.trans hk.symm))]
    · rw [if_neg hk]
      by_cases h : g = k
      · have hb : (g == k) = true := beq_iff_eq.mpr h
        simp only [List.lookup, hb, if_neg (fun e : g = f => hk (h.symm.trans e))]
      · have hb : (g == k) = false := beq_eq_false_iff_ne.mpr h
        simp only [List.lookup, hb]
        exact ih
theorem keys_putF (f : Str) (v : V) : ∀ fs : List (Str × V), f ∈ (putF f v fs).map (·.1) ∧ ∀ g, g ∈ fs.map (·.1) → g ∈ (putF f v fs).map (·.1)
  | [] => ⟨by simp [putF], fun g h => by simp at h⟩
  | (k, x) :: r => by
    obtain ⟨i1, i2⟩ := keys_putF f v r
    rw [show putF f v ((k, x) :: r) = (if k = f then (k, v) :: r else (k, x) :: putF f v r) from rfl]
    by_cases hk : k = f
    · rw [if_pos hk]
      subst hk
      exact ⟨by simp, fun g h => by simpa using h⟩
    · rw [if_neg hk]
      refine ⟨?_, fun g h => ?_⟩
      · rw [List.map_cons]
        exact List.mem_cons_of_mem _ i1
      · rw [List.map_cons] at h ⊢
        rcases List.mem_cons.mp h with e | e
        · exact List.mem_cons.mpr (.inl e)
        · exact List.mem_cons_of_mem _ (i2 g e)
theorem length_putF (f : Str) (v : V) : ∀ fs : List (Str × V), (putF f v fs).length ≤ fs.length + 1
  | [] => by simp [putF]
  | (k, x) :: r => by
    have ih := length_putF f v r
    rw [show putF f v ((k, x) :: r) = (if k = f then (k, v) :: r else (k, x) :: putF f v r) from rfl]
    by_cases hk : k = f
    · rw [if_pos hk, List.length_cons, List.length_cons]; omega
    · rw [if_neg hk, List.length_cons, List.length_cons]; omega

theorem RelO.some_of {v : V} {o : Option Value} (r : RelO (some v) o) : ∃ u, o = some u ∧ RelV v u := by
  cases o with
  | none => exact (show False from r).elim
  | some u => exact ⟨u, rfl, r⟩
theorem RelO.none_of {o : Option Value} (r : RelO none o) : o = none := by
  cases o with
  | none => rfl
  | some u => exact (show False from r).elim
theorem handed_of {v : V} {u : Value} (r : RelV v u) : PySem.W.handedIn u = true := by
  cases v with
  | non => cases (show u = Value.none from r); rfl
  | bl b => cases (show u = Value.bool b from r); rfl
  | int i => obtain ⟨t, e⟩ := (show ∃ t, u = Value.int i t from r); cases e; rfl
  | str x => obtain ⟨t, e⟩ := (show ∃ t, u = Value.str x t from r); cases e; rfl
  | byt b => obtain ⟨t, e⟩ := (show ∃ t, u = Value.bytes b t from r); cases e; rfl
  | flt b => obtain ⟨t, e⟩ := (show ∃ t, u = Value.float b t from r); cases e; rfl
  | ref a => cases (show u = Value.ref a from r); rfl
  | ty n => cases (show u = Value.type n from r); rfl

section
variable {P : Program} {w : World} {H H' : Hp} {h h' : Heap} {a C dx : Addr} {fs fs' : List (Str × V)}
theorem ins_get (hok : HOk P w H h) (e : H a = some (.ins C dx fs)) : ∃ mA, ObjM h a dx C mA ∧ (∀ f, RelO (fs.lookup f) (mA f)) ∧ PySem.Within mA (fs.map (·.1)) ∧ fs.length ≤ 1000 ∧ H dx = some (.own a) := by
  obtain ⟨d, z, ne, ob, mA, n, r, q⟩ := (show ObjOk P w H h a (.ins C dx fs) from hok a _ e)
  exact ⟨mA, ⟨ob, n, ne⟩, r, q, z, d⟩
end

/-! ### what of the text a class must have -/
structure Cls (K : PySem.W.Frag) (C : Addr) : Prop where
  pg : PySem.W.plainGet K C Str.empty = true
  hd : PySem.W.hasDictIn K C = true
  po : PySem.W.plainOver K C = true
  sa : PySem.W.findIn K (.ref C) "__setattr__" = some (some (.builtin "object.__setattr__"))
theorem Cls.get {K : PySem.W.Frag} {C : Addr} (c : Cls K C) (f : Str) : PySem.W.plainGet K C f = true := c.pg
/-- no class of it has the name -/
def NoAttr (K : PySem.W.Frag) (C : Addr) (f : Str) : Prop := PySem.W.findIn K (.ref C) f = some none
theorem NoAttr.taker {K : PySem.W.Frag} {C : Addr} {f : Str} (n : NoAttr K C f) : PySem.W.takerIn K C f = some none := by
  unfold PySem.W.takerIn
  rw [show PySem.W.findIn K (.ref C) f = some none from n]
  rfl
/-- a constant of the class -/
structure Con (K : PySem.W.Frag) (C : Addr) (f : Str) (v : V) (u : Value) : Prop where
  at_ : PySem.W.findIn K (.ref C) f = some (some u)
  rel : RelV v u
  get : PySem.W.specialIn K u "__get__" = some none
  cp : PySem.W.copiedNames.contains f = false
/-- a method: a plain def of the class or of one above it -/
structure Meth (K : PySem.W.Frag) (C : Addr) (m : Str) (f : Addr) : Prop where
  at_ : PySem.W.findIn K (.ref C) m = some (some (.ref f))
  fn : PySem.W.isFn K (.ref f) = true
  kp : PySem.W.keepIn K (.ref f) = true

section
variable {X : Cx} {pins : List (Addr × Obj)} {σ : St} {H : Hp} {s : Shared} {a C dx : Addr} {fs : List (Str × V)} {f : Str} {v : V} {A : Around} {E : Value → Shared → Prop}

theorem getattr_ok {b : Bool} {Q : Value → Shared → Prop} (I : Inv X pins σ H s) (e : H a = some (.ins C dx fs)) (c : Cls X.K C) (n : NoAttr X.K C f) (l : fs.lookup f = some v)
    (h : ∀ u s', Inv X pins σ H s' → RelV v u → Q u s') : wpAny (model X.prog X.w) A (getAttr (.ref a) f b) Q E s := by
  obtain ⟨mA, O, r, _, _, _⟩ := ins_get I.hok e
  obtain ⟨u, hu, ru⟩ := RelO.some_of (v := v) (o := mA f) (by rw [← l]; exact r f)
  exact get_map I.kIn O (c.get f) c.hd n hu (handed_of ru) (h u _ (I.tok _) ru)

theorem getcon_ok {b : Bool} {u : Value} {Q : Value → Shared → Prop} (I : Inv X pins σ H s) (e : H a = some (.ins C dx fs)) (c : Cls X.K C) (k : Con X.K C f v u) (l : fs.lookup f = none)
    (h : ∀ s', Inv X pins σ H s' → Q u s') : wpAny (model X.prog X.w) A (getAttr (.ref a) f b) Q E s := by
  obtain ⟨mA, O, r, _, _, _⟩ := ins_get I.hok e
  have hn : mA f = none := RelO.none_of (by rw [← l]; exact r f)
  exact get_const I.kIn O (c.get f) c.hd k.at_ k.get k.cp hn (handed_of k.rel) (h _ (I.tok _))

theorem getmeth_ok {m : Str} {g : Addr} {pl : Sem Bool} {Q : Value × List Value → Shared → Prop} (I : Inv X pins σ H s) (e : H a = some (.ins C dx fs)) (c : Cls X.K C) (k : Meth X.K C m g) (l : fs.lookup m = none)
    (h : Q (.ref g, [.ref a]) s) : wpAny (model X.prog X.w) A (getMethod (.ref a) m pl) Q E s := by
  obtain ⟨mA, O, r, _, _, _⟩ := ins_get I.hok e
  have hn : mA m = none := RelO.none_of (by rw [← l]; exact r m)
  exact get_meth I.kIn O (c.get m) k.at_ k.fn hn h

theorem setattr_ok {y : V} {u : Value} {Q : Unit → Shared → Prop} (I : Inv X pins σ H s) (e : H a = some (.ins C dx fs)) (c : Cls X.K C) (n : NoAttr X.K C f) (hl : fs.length < 1000) (ry : RelV y u)
    (h : ∀ s', Inv X pins σ (upd H a (.ins C dx (putF f y fs))) s' → Q () s') : wpAny (model X.prog X.w) A (setAttr (.ref a) f u) Q E s := by
  obtain ⟨mA, O, r, wi, _, ho⟩ := ins_get I.hok e
  have hz : (fs.map (·.1)).length ≤ sizeLine := by rw [List.length_map, sizeLine_eq]; omega
  refine set_map I.kIn O c.sa c.po n.taker c.hd wi hz fun h' O' sb => h _ ?_
  have hd : ∃ o, h'.get? dx = some o := let ⟨o, _, _, e', _⟩ := O'.ns; ⟨o, e'⟩
  refine I.write (x := a) (e := dx) (by rw [e]; exact True.intro) (.inr ho) (fun b q hb z => (sb.2 b hb).trans z) hd ?_
  refine ⟨by rw [upd_ne O.ne]; exact ho, ?_, O.ne, O'.obj, _, O'.ns, fun g => ?_, fun g hg => ?_⟩
  · have := length_putF f y fs; omega
  · show RelO ((putF f y fs).lookup g) (if g = f then some u else mA g)
    rw [lookup_putF]
    by_cases q : g = f
    · rw [if_pos q, if_pos q]; exact ry
    · rw [if_neg q, if_neg q]; exact r g
  · by_cases q : g = f
    · rw [q]; exact (keys_putF f y fs).1
    · refine (keys_putF f y fs).2 g (wi g fun z => hg ?_)
      show (if g = f then some u else mA g) = none
      rw [if_neg q]; exact z

/-- a new instance, tracked, without attributes -/
theorem Inv.made (I : Inv X pins σ H s) : Inv X pins σ (upd (upd H s.heap.objs.size (.own (s.heap.objs.size + 1))) (s.heap.objs.size + 1) (.ins C s.heap.objs.size []))
    { s with heap := (s.heap.push PySem.W.emptyDict).push (PySem.W.instObj C s.heap.objs.size) } := by
  have e1 : (s.heap.push PySem.W.emptyDict).get? s.heap.objs.size = some PySem.W.emptyDict := Heap.get?_push_size s.heap rfl
  have e2 : ((s.heap.push PySem.W.emptyDict).push (PySem.W.instObj C s.heap.objs.size)).get? (s.heap.objs.size + 1) = some (PySem.W.instObj C s.heap.objs.size) := by
    have := Heap.get?_push_size (s.heap.push PySem.W.emptyDict) (o := PySem.W.instObj C s.heap.objs.size) rfl
    rwa [Heap.size_push] at this
  have e3 : (s.heap.push PySem.W.emptyDict).Ns s.heap.objs.size (fun _ => none) := ⟨PySem.W.emptyDict, #[], _, e1, rfl, (fun e he => absurd he (by simp)), fun _ => rfl⟩
  have I1 := I.laid (a := s.heap.objs.size) (o := .own (s.heap.objs.size + 1)) (h' := s.heap.push PySem.W.emptyDict) (t' := s.toks) (fun b u q => Heap.get?_push_of_some _ q) (Nat.le_refl _) ⟨_, e1⟩
  refine I1.laid (a := s.heap.objs.size + 1) (o := .ins C s.heap.objs.size []) (t' := s.toks) (fun b u q => Heap.get?_push_of_some _ q) (Nat.le_of_eq (Heap.size_push _ _)) ?_
  have ne : s.heap.objs.size ≠ s.heap.objs.size + 1 := Nat.ne_of_lt (Nat.lt_succ_self _)
  refine ⟨by rw [upd_ne ne, upd_same], Nat.zero_le _, ne, e2, fun _ => none, (Heap.Ns1.of_empty e3).at fun o q => Heap.get?_push_of_some _ q, fun _ => True.intro, fun y hy => absurd rfl hy⟩

/-- e.f where nothing but the object is asked: through attributeBase (super) and the last hold -/
theorem attr_of {prog : Program} {w : World} {env : Env} {e : Expr} {f : Str} {pos : Pos} {s : Shared} {Q : Value → Shared → Prop} (hb : attributeBase e f env (eval e env) = eval e env)
    (h : wpAny (model prog w) A (eval e env) (fun o s₁ => wpAny (model prog w) A (getAttr o f true) Q E s₁) E s) : wpAny (model prog w) A (eval (.Attribute e f pos) env) Q E s :=
  Attribute_any_ h (by rw [arm_eval_Attribute, hb])
end

/-! ### readings and rules -/
/-- e.f, an attribute of the instance -/
def tFld (K : PySem.W.Frag) (ta : TE) (f : Str) : TE := fun σ H Q => ta σ H fun x H1 => ∃ a C dx fs v, x = .ref a ∧ H1 a = some (.ins C dx fs) ∧ Cls K C ∧ NoAttr K C f ∧ fs.lookup f = some v ∧ Q v H1
/-- e.f, a constant of the class -/
def tCon (K : PySem.W.Frag) (ta : TE) (f : Str) : TE := fun σ H Q => ta σ H fun x H1 => ∃ a C dx fs v u, x = .ref a ∧ H1 a = some (.ins C dx fs) ∧ Cls K C ∧ Con K C f v u ∧ fs.lookup f = none ∧ Q v H1
/-- e.f = value -/
def sFld (K : PySem.W.Frag) (ta tv : TE) (f : Str) : TS := fun D σ H => tv σ H fun y H1 => ta σ H1 fun x H2 => ∃ a C dx fs, x = .ref a ∧ H2 a = some (.ins C dx fs) ∧ Cls K C ∧ NoAttr K C f ∧ fs.length < 1000 ∧
  D.nx σ (upd H2 a (.ins C dx (putF f y fs)))
/-- an augmented operator on two values -/
def InOp (X : Cx) (op : Operator) (rd : V → V → Hp → VK → Prop) : Prop :=
  ∀ (pins : List (Addr × Obj)) (s : Shared) (σ : St) (H : Hp) (x y : V) (u v : Value) (Q : VK), Inv X pins σ H s → RelV x u → RelV y v → rd x y H Q → wpAny (model X.prog X.w) X.A (inplaceOp op u v) (EP X pins σ Q) X.xe s
/-- e.f op= value -/
def sFldAug (K : PySem.W.Frag) (ta tv : TE) (rd : V → V → Hp → VK → Prop) (f : Str) : TS := fun D σ H => ta σ H fun x H1 => ∃ a C dx fs v, x = .ref a ∧ H1 a = some (.ins C dx fs) ∧ Cls K C ∧ NoAttr K C f ∧ fs.lookup f = some v ∧
  tv σ H1 fun y H2 => rd v y H2 fun z H3 => ∃ dx' fs', H3 a = some (.ins C dx' fs') ∧ fs'.length < 1000 ∧ D.nx σ (upd H3 a (.ins C dx' (putF f z fs')))

section
variable {X : Cx} {o e value : Expr} {f : Str} {pos pos' tpos : Pos} {ta tv : TE}
theorem pe_fld (he : PE X e ta) (hb : attributeBase e f X.env (eval e X.env) = eval e X.env) : PE X (.Attribute e f pos) (tFld X.K ta f) := by
  intro pins s σ H Q I h
  refine attr_of hb (thn (he pins s σ H _ I h) fun u s1 ⟨x, H1, I1, rx, a, C, dx, fs, v, ex, ea, c, n, l, q⟩ => ?_)
  subst ex
  obtain rfl : u = Value.ref a := rx
  exact getattr_ok I1 ea c n l fun u' s2 I2 ru => ⟨v, H1, I2, ru, q⟩
theorem pe_con (he : PE X e ta) (hb : attributeBase e f X.env (eval e X.env) = eval e X.env) : PE X (.Attribute e f pos) (tCon X.K ta f) := by
  intro pins s σ H Q I h
  refine attr_of hb (thn (he pins s σ H _ I h) fun u s1 ⟨x, H1, I1, rx, a, C, dx, fs, v, u0, ex, ea, c, k, l, q⟩ => ?_)
  subst ex
  obtain rfl : u = Value.ref a := rx
  exact getcon_ok I1 ea c k l fun s2 I2 => ⟨v, H1, I2, k.rel, q⟩
theorem ps_fld (ha : PE X o ta) (hv : PE X value tv) (hs : swapsWith value (some (.Attribute o f pos')) pos.line X.env = pure false) : PS X (.Assign [.Attribute o f pos'] value pos) (sFld X.K ta tv f) := by
  intro pins s σ H D I h
  refine plainObj_wpAny_Assign_Attribute (thn (hv pins s σ H _ I h) fun u s1 ⟨y, H1, I1, ry, q⟩ => thn (ha pins s1 σ H1 _ I1 q) fun ov s2 ⟨x, H2, I2, rx, a, C, dx, fs, ex, ea, c, n, l, q2⟩ => ?_) hs
  subst ex
  obtain rfl : ov = Value.ref a := rx
  exact setattr_ok I2 ea c n l ry fun s3 I3 => ⟨σ, _, I3, q2⟩
theorem ps_fldaug {op : Operator} {rd : V → V → Hp → VK → Prop} (ha : PE X o ta) (hv : PE X value tv) (hop : InOp X op rd) : PS X (.AugAssign (.Attribute o f tpos) op value pos) (sFldAug X.K ta tv rd f) := by
  intro pins s σ H D I h
  refine wpAny_AugAssign_AttributeAny (thn (ha pins s σ H _ I h) fun ov s1 ⟨x, H1, I1, rx, a, C, dx, fs, v, ex, ea, c, n, l, q⟩ => ?_)
  subst ex
  obtain rfl : ov = Value.ref a := rx
  refine getattr_ok I1 ea c n l fun u s2 I2 ru => thn (hv pins s2 σ H1 _ I2 q) fun w3 s3 ⟨y, H2, I3, ry, q3⟩ => thn (hop pins s3 σ H2 v y u w3 _ I3 ru ry q3) fun w4 s4 ⟨z, H3, I4, rz, dx', fs', ea', l', q4⟩ => ?_
  exact setattr_ok I4 ea' c n l' rz fun s5 I5 => ⟨σ, _, I5, q4⟩
def rAdd : V → V → Hp → VK → Prop := fun x y H Q => ∃ i j, x = .int i ∧ y = .int j ∧ Q (.int (i + j)) H
def rSub : V → V → Hp → VK → Prop := fun x y H Q => ∃ i j, x = .int i ∧ y = .int j ∧ Q (.int (i - j)) H
theorem in_add : InOp X .Add rAdd := by
  rintro pins s σ H x y u v Q I rx ry ⟨i, j, rfl, rfl, q⟩
  obtain ⟨t, rfl⟩ := (show ∃ t, u = Value.int i t from rx)
  obtain ⟨t', rfl⟩ := (show ∃ t', v = Value.int j t' from ry)
  exact PyProof.Rows.iadd_int ⟨.int (i + j), H, I.tok _, ⟨_, rfl⟩, q⟩
theorem in_sub : InOp X .Sub rSub := by
  rintro pins s σ H x y u v Q I rx ry ⟨i, j, rfl, rfl, q⟩
  obtain ⟨t, rfl⟩ := (show ∃ t, u = Value.int i t from rx)
  obtain ⟨t', rfl⟩ := (show ∃ t', v = Value.int j t' from ry)
  exact PyProof.Rows.isub_int ⟨.int (i - j), H, I.tok _, ⟨_, rfl⟩, q⟩

/-- what is between an instance and its method: the tree of a method call -/
theorem methcall_of {pl : Sem Bool} {m : Str} {apos : Pos} {args : List Expr} {pins : List (Addr × Obj)} {s : Shared} {σ : St} {H : Hp} {Q : Value → Shared → Prop} {te : TE} (he : PE X e te) (I : Inv X pins σ H s)
    (h : te σ H fun x H1 => ∃ a C dx fs g, x = .ref a ∧ H1 a = some (.ins C dx fs) ∧ Cls X.K C ∧ Meth X.K C m g ∧ fs.lookup m = none ∧
      ∀ s1, Inv X pins σ H1 s1 → wpAny (model X.prog X.w) X.A (callWith pos (.ref g) [.ref a] (backTo pos (starEach args X.env)) (backToKw pos (keywordEach [] X.env))) Q X.xe s1)
    (ht : eval (.Call (.Attribute e m apos) args [] pos) X.env = (do
      let ov ← eval e X.env
      standAt apos.atName
      let (f, first) ← holding [ov] (getMethod ov m pl)
      callWith pos f first (backTo pos (starEach args X.env)) (backToKw pos (keywordEach [] X.env)))) :
    wpAny (model X.prog X.w) X.A (eval (.Call (.Attribute e m apos) args [] pos) X.env) Q X.xe s := by
  refine PySem.W.methodCall_KW (pl := pl) (thn (he pins s σ H _ I h) fun u s1 ⟨x, H1, I1, rx, a, C, dx, fs, g, ex, ea, c, k, l, q⟩ => ?_) ht
  subst ex
  obtain rfl : u = Value.ref a := rx
  exact getmeth_ok I1 ea c k l (q s1 I1)
end

/-! ### isinstance -/
section
variable {X : Cx} {pins : List (Addr × Obj)} {σ : St} {H : Hp} {s : Shared} {A : Around} {E : Value → Shared → Prop} {Q : Value → Shared → Prop} {c : Value} {b : Bool}
/-- the type of a value, as the fragment's deciders take it; for an instance its class -/
inductive TyOf (K : PySem.W.Frag) (H : Hp) : V → Value → Prop where
  | non : TyOf K H .non (.type "NoneType")
  | bl (x : Bool) : TyOf K H (.bl x) (.type "bool")
  | int (i : Int) : TyOf K H (.int i) (.type "int")
  | str (x : Str) : TyOf K H (.str x) (.type "str")
  | flt (x : UInt64) : TyOf K H (.flt x) (.type "float")
  | lst {a : Addr} {xs : List V} (e : H a = some (.lst xs)) : TyOf K H (.ref a) (.type "list")
  | frz {a : Addr} {o : Obj} {xs : List V} (e : H a = some (.frz o (.lst xs))) : TyOf K H (.ref a) (.type "list")
  | tup {a : Addr} {xs : List V} (e : H a = some (.tup xs)) : TyOf K H (.ref a) (.type "tuple")
  | dK {a : Addr} {kvs : List (Key × V)} (e : H a = some (.dK kvs)) : TyOf K H (.ref a) (.type "dict")
  | dT {a : Addr} {kvs : List (List Key × V)} (e : H a = some (.dT kvs)) : TyOf K H (.ref a) (.type "dict")
  | ins {a C dx : Addr} {fs : List (Str × V)} (e : H a = some (.ins C dx fs)) (cl : Cls K C) (ha : PySem.W.findIn K (.ref C) "__class__" = some (some (.builtin "object.__class__")))
      (hn : PySem.W.specialIn K (.builtin "object.__class__") "__get__" = some (some (.builtin "getset_descriptor.__get__"))) (htk : PySem.W.takesIn K (.builtin "object.__class__") = some true)
      (hm : PySem.W.mroIn K C (.type "object") = some true) : TyOf K H (.ref a) (.ref C)
/-- isinstance(x, c) for one class c, a built-in or an own one: kitOne's answer -/
theorem isinst_ok {x : V} {u t : Value} (I : Inv X pins σ H s) (rx : RelV x u) (ty : TyOf X.K H x t) (e : PySem.W.kitOne X.K t c = some b) (h : ∀ tk, Q (.bool b) { s with toks := tk }) :
    wpAny (model X.prog X.w) A (call (.builtin "isinstance") [u, c]) Q E s := by
  cases ty with
  | non => cases (show u = Value.none from rx); exact PySem.W.kia_one PySem.W.kitx_none I.kIn True.intro e (fun z => nomatch z) h
  | bl y => cases (show u = Value.bool y from rx); exact PySem.W.kia_one PySem.W.kitx_bool I.kIn True.intro e (fun z => nomatch z) h
  | int i => obtain ⟨t, q⟩ := (show ∃ t, u = Value.int i t from rx); cases q; exact PySem.W.kia_one PySem.W.kitx_int I.kIn True.intro e (fun z => nomatch z) h
  | str y => obtain ⟨t, q⟩ := (show ∃ t, u = Value.str y t from rx); cases q; exact PySem.W.kia_one PySem.W.kitx_str I.kIn True.intro e (fun z => nomatch z) h
  | flt y => obtain ⟨t, q⟩ := (show ∃ t, u = Value.float y t from rx); cases q; exact PySem.W.kia_one PySem.W.kitx_float I.kIn True.intro e (fun z => nomatch z) h
  | @lst a xs ea =>
    cases (show u = Value.ref a from rx)
    obtain ⟨_, _, n, _, h1⟩ := (show ObjOk X.prog X.w H s.heap a (.lst xs) from I.hok a _ ea)
    exact PySem.W.kia_one PySem.W.kitx_list I.kIn ⟨_, h1, rfl⟩ e (fun z => nomatch z) h
  | @frz a ob xs ea =>
    cases (show u = Value.ref a from rx)
    obtain ⟨_, _, _, n, _, h1⟩ := (show ObjOk X.prog X.w H s.heap a (.frz ob (.lst xs)) from I.hok a _ ea)
    exact PySem.W.kia_one PySem.W.kitx_list I.kIn ⟨_, h1, rfl⟩ e (fun z => nomatch z) h
  | @tup a xs ea =>
    cases (show u = Value.ref a from rx)
    obtain ⟨_, _, _, p⟩ := (show ObjOk X.prog X.w H s.heap a (.tup xs) from I.hok a _ ea)
    obtain ⟨o, h1, h2, _⟩ := p
    exact PySem.W.kia_one PySem.W.kitx_tuple I.kIn ⟨o, h1, h2⟩ e (fun z => nomatch z) h
  | @dK a kvs ea =>
    cases (show u = Value.ref a from rx)
    obtain ⟨_, _, vs, _, p⟩ := (show ObjOk X.prog X.w H s.heap a (.dK kvs) from I.hok a _ ea)
    obtain ⟨o, es, ep, h1, h2, _⟩ := p
    exact PySem.W.kia_one PySem.W.kitx_dict I.kIn ⟨o, h1, h2.1⟩ e (fun z => nomatch z) h
  | @dT a kvs ea =>
    cases (show u = Value.ref a from rx)
    obtain ⟨_, _, xs, _, o, es, ep, h1, h2, _⟩ := (show ObjOk X.prog X.w H s.heap a (.dT kvs) from I.hok a _ ea)
    exact PySem.W.kia_one PySem.W.kitx_dict I.kIn ⟨o, h1, h2.1⟩ e (fun z => nomatch z) h
  | @ins a C dx fs ea cl ha hn htk hm =>
    cases (show u = Value.ref a from rx)
    obtain ⟨mA, O, _⟩ := ins_get I.hok ea
    obtain ⟨od, J, _⟩ := O.look
    exact PySem.W.kia_one (PySem.W.kitx_own (cl.get _) cl.hd ha hn htk hm) I.kIn J e (fun z => nomatch z) h
end
end L2

namespace L2
open PySem PySem.Spec PyProof.Rows

/-! ### room -/
structure Room (k : Nat) (A : Around) : Prop where
  hd : A.handled = none
  dp : A.depth + 3 * k + 5 < recursionLimit
  un : A.units + 16 * k + 200 < cLine
theorem Room.mono {j k : Nat} {A : Around} (r : Room k A) (h : j ≤ k) : Room j A := ⟨r.hd, by have := r.dp; omega, by have := r.un; omega⟩
theorem Room.deeper {k : Nat} {A : Around} (r : Room (k + 1) A) (env : Env) : Room k (A.deeper env) :=
  ⟨r.hd, by have := r.dp; show A.depth + 1 + 3 * k + 5 < _; omega, by have := r.un; show A.units + 3 + 16 * k + 200 < _; omega⟩
theorem Room.in1 {k : Nat} {A : Around} (r : Room (k + 1) A) : Room k A.in1 :=
  ⟨r.hd, by have := r.dp; show A.depth + 3 * k + 5 < _; omega, by have := r.un; show A.units + 1 + 16 * k + 200 < _; omega⟩
theorem make_depth {A : Around} {C : Addr} {us : List Value} {kw : List (Str × Value)} : (A.under (.builtin "type.__call__" ⟨.ref C :: us, kw⟩)).depth = A.depth + 1 := by
  first | rfl | simp [Around.under, Code.weight, Code.isCreation, Code.isGuard, Code.isCaller, Code.frames, Code.isFrame, guardIds]
theorem make_units {A : Around} {C : Addr} {us : List Value} {kw : List (Str × Value)} : (A.under (.builtin "type.__call__" ⟨.ref C :: us, kw⟩)).units = A.units + 1 := by
  first | rfl | simp [Around.under, Code.cUnits, Code.frames, Code.isFrame]
theorem Room.make {k : Nat} {A : Around} (r : Room (k + 1) A) (C : Addr) (us : List Value) (kw : List (Str × Value)) : Room k (A.under (.builtin "type.__call__" ⟨.ref C :: us, kw⟩)) :=
  ⟨r.hd, by have := r.dp; rw [make_depth]; omega, by have := r.un; rw [make_units]; omega⟩
theorem Room.depth {k : Nat} {A : Around} (r : Room k A) : A.depth < recursionLimit := by have := r.dp; omega
theorem Room.units {k : Nat} {A : Around} (r : Room k A) : A.units + 64 < cLine := by have := r.un; omega
theorem Room.units0 {k : Nat} {A : Around} (r : Room k A) : A.units < cLine := by have := r.un; omega

/-! ### argument lists and displays -/
def tNil : TA := fun _ H Q => Q [] H
def tCons (ta : TE) (tr : TA) : TA := fun σ H Q => ta σ H fun x H1 => tr σ H1 fun xs H2 => Q (x :: xs) H2
section
variable {X : Cx} {e : Expr} {es : List Expr} {te : TE} {t : TA} {pos : Pos}
theorem pa_nil : PA X [] tNil := fun _ _ _ _ H Q I h => Calls.spliced_nil ⟨[], H, I, .nil, h⟩
theorem pa_cons (ha : PE X e te) (hr : PA X es t) (hs : starEach (e :: es) X.env = (false, eval e X.env) :: starEach es X.env := by rfl) : PA X (e :: es) (tCons te t) := by
  intro pos pins s σ H Q I h
  rw [hs]
  show wpAny _ _ (spliced ((false, eval e X.env) :: backTo pos (starEach es X.env))) _ _ s
  refine Calls.spliced_cons (thn (ha pins s σ H _ I h) fun u s1 ⟨x, H1, I1, r1, q1⟩ => ?_)
  exact thn (hr pos pins s1 σ H1 _ I1 q1) fun us s2 ⟨xs, H2, I2, r2, q2⟩ => ⟨x :: xs, H2, I2, .cons r1 r2, q2⟩

/-- a tuple, a list of written items -/
def tTup (t : TA) : TE := fun σ H Q => t σ H fun xs H1 => xs.length ≤ sizeLine ∧ ∀ p, H1 p = none → Q (.ref p) (upd H1 p (.tup xs))
def tLst (t : TA) : TE := fun σ H Q => t σ H fun xs H1 => xs.length ≤ sizeLine ∧ ∀ p, H1 p = none → Q (.ref p) (upd H1 p (.lst xs))
theorem pe_tup {x1} (h : PA X es t) : PE X (.Tuple es x1 pos) (tTup t) := by
  intro pins s σ H Q I hq
  refine wpAny_Tuple_spliced (thn (h pos pins s σ H _ I hq) fun us s1 ⟨xs, H1, I1, r, z, q⟩ => ⟨by rw [← r.length]; exact z, ?_⟩)
  have hf : H1 s1.heap.objs.size = none := I1.hok.fresh (Nat.le_refl _)
  refine ⟨.ref s1.heap.objs.size, upd H1 s1.heap.objs.size (.tup xs), I1.laid (t' := s1.toks) (fun b u e => Heap.get?_push_of_some _ e) (Nat.le_refl _) ?_, rfl, q _ hf⟩
  exact ⟨z, us, r, ⟨_, Heap.get?_push_size _ rfl, rfl, _, rfl⟩⟩
theorem pe_lst (h : PA X es t) : PE X (.List es pos) (tLst t) := by
  intro pins s σ H Q I hq
  refine wpAny_List_spliced (thn (h pos pins s σ H _ I hq) fun us s1 ⟨xs, H1, I1, r, z, q⟩ => ⟨by rw [← r.length]; exact z, ?_⟩)
  have hf : H1 s1.heap.objs.size = none := I1.hok.fresh (Nat.le_refl _)
  refine ⟨.ref s1.heap.objs.size, upd H1 s1.heap.objs.size (.lst xs), I1.laid (t' := s1.toks) (fun b u e => Heap.get?_push_of_some _ e) (Nat.le_refl _) ?_, rfl, q _ hf⟩
  exact ⟨z, us, 0, r, Heap.get?_push_size _ rfl⟩
end

/-! ### what a def promises -/
/-- a def's promise: the bound arguments in the parameters' order, the heap, the wanted end, the wanted exception -/
abbrev Sp := List V → Hp → VK → XK → Prop
/-- how an exception lies behind a call (file 08 gives it): the callers' frames, abstract heap and state ahead of the call, the wish, the exception, the state -/
abbrev CXT := List Env → Hp → Shared → XK → Value → Shared → Prop

/-- the state at a call -/
structure Env0 (P : Program) (w : World) (K : PySem.W.Frag) (mg : Str → Option Value) (base : Heap) (A : Around) (outer : List Env) (s : Shared) (H : Hp) : Prop where
  frames : A.frames = some outer
  mod : Mod K mg base
  bs : ∀ b o, base.get? b = some o → s.heap.get? b = some o ∧ H b = none
  bsz : base.objs.size ≤ s.heap.objs.size
  funs : s.heap.FunFrames base outer
  frf : ∀ b ∈ frs outer, H b = none
  hok : HOk P w H s.heap
  bare : AllBare s.gens
/-- a call's end -/
def CE (outer : List Env) (P : Program) (w : World) (H : Hp) (s : Shared) (Q : VK) (u : Value) (s' : Shared) : Prop :=
  ∃ v H', s'.os = s.os ∧ AllBare s'.gens ∧ Un (frs outer) [] H H' s.heap s'.heap ∧ HOk P w H' s'.heap ∧ RelV v u ∧ Q v H'
def CR (CX : CXT) (outer : List Env) (P : Program) (w : World) (H : Hp) (s : Shared) (Q : VK) (E : XK) (r : Result) (s' : Shared) : Prop :=
  match r with
  | .ok (.ret u) => CE outer P w H s Q u s'
  | .ok _ => False
  | .error e => CX outer H s E e s'
structure FnOk (P : Program) (w : World) (K : PySem.W.Frag) (mg : Str → Option Value) (base : Heap) (CX : CXT) (k : Nat) (f : Addr) (fd : FuncData) (ps : List Str) (sp : Sp) : Prop where
  len : ∀ vs H Q E, sp vs H Q E → vs.length = ps.length
  run : ∀ (A : Around) (outer : List Env) (s : Shared) (H : Hp) (args : Args) (us : List Value) (vs : List V) (Q : VK) (E : XK), Room k A → Env0 P w K mg base A outer s H → BindsTo s fd args (ps.zip us) → Vals vs us → sp vs H Q E →
    codeAny (model P w) A (.call (.ref f) args) (CR CX outer P w H s Q E) s
theorem FnOk.mono {P : Program} {w : World} {K : PySem.W.Frag} {mg : Str → Option Value} {base : Heap} {CX : CXT} {j k : Nat} {f : Addr} {fd : FuncData} {ps : List Str} {sp : Sp} (F : FnOk P w K mg base CX j f fd ps sp) (h : j ≤ k) :
    FnOk P w K mg base CX k f fd ps sp := ⟨F.len, fun A outer s H args us vs Q E hr => F.run A outer s H args us vs Q E (hr.mono h)⟩
/-- a weaker promise -/
theorem FnOk.imp {P : Program} {w : World} {K : PySem.W.Frag} {mg : Str → Option Value} {base : Heap} {CX : CXT} {k : Nat} {f : Addr} {fd : FuncData} {ps : List Str} {sp sp' : Sp} (F : FnOk P w K mg base CX k f fd ps sp)
    (h : ∀ vs H Q E, sp' vs H Q E → sp vs H Q E) : FnOk P w K mg base CX k f fd ps sp' :=
  ⟨fun vs H Q E q => F.len vs H Q E (h _ _ _ _ q), fun A outer s H args us vs Q E hr he hb hv hs => F.run A outer s H args us vs Q E hr he hb hv (h _ _ _ _ hs)⟩

theorem Env0.make {P : Program} {w : World} {K : PySem.W.Frag} {mg : Str → Option Value} {base : Heap} {A : Around} {outer : List Env} {s : Shared} {H : Hp} (e : Env0 P w K mg base A outer s H) (C : Addr) (us : List Value) (kw : List (Str × Value)) :
    Env0 P w K mg base (A.under (.builtin "type.__call__" ⟨.ref C :: us, kw⟩)) outer s H := ⟨by first | exact e.frames | (simpa [Around.under, Code.envs, Code.isFrame, pushEnvs] using e.frames), e.mod, e.bs, e.bsz, e.funs, e.frf, e.hok, e.bare⟩
theorem Env0.in1 {P : Program} {w : World} {K : PySem.W.Frag} {mg : Str → Option Value} {base : Heap} {A : Around} {outer : List Env} {s : Shared} {H : Hp} (e : Env0 P w K mg base A outer s H) :
    Env0 P w K mg base A.in1 outer s H := ⟨e.frames, e.mod, e.bs, e.bsz, e.funs, e.frf, e.hok, e.bare⟩

section
variable {X : Cx} {pins : List (Addr × Obj)} {σ : St} {H : Hp} {s s' : Shared}
/-- from a body: what a callee wants -/
theorem Inv.env0 (I : Inv X pins σ H s) : Env0 X.prog X.w X.K X.mg X.base X.A X.stack s H :=
  ⟨I.ok.frames, I.ok.mod, I.bs, Nat.le_trans I.ok.bsz I.sz, I.stack, I.stkFree, I.hok, I.bare⟩
/-- behind a call -/
theorem Inv.after {Q : VK} {u : Value} (I : Inv X pins σ H s) (h : CE X.stack X.prog X.w H s Q u s') : EP X pins σ Q u s' := by
  obtain ⟨v, H', os, bare, un, hok, r, q⟩ := h
  obtain ⟨hh, g, d, t, os'⟩ := s'
  obtain rfl : os' = s.os := os
  exact ⟨v, H', I.call (h' := hh) (g' := g) (d' := d) (t' := t) (ch := []) un hok bare (fun b z => absurd z (by simp)), r, q⟩
end

/-! ### calls -/
/-- f(..): the written arguments, then the defaults dvs; E: what is wanted of an exception -/
def tCall (sp : Sp) (dvs : List V) (E : XK) (t : TA) : TE := fun σ H Q => t σ H fun vs H1 => sp (vs ++ dvs) H1 Q E
/-- o.m(..) of an instance of the class at C -/
def tMeth (C : Addr) (m : Str) (sp : Sp) (dvs : List V) (E : XK) (ta : TE) (t : TA) : TE := fun σ H Q => ta σ H fun x H1 => ∃ a dx fs, x = .ref a ∧ H1 a = some (.ins C dx fs) ∧ fs.lookup m = none ∧
  t σ H1 fun vs H2 => sp (x :: (vs ++ dvs)) H2 Q E
/-- C(..): a new instance and its dict, then __init__ -/
def tMake (C : Addr) (sp : Sp) (dvs : List V) (E : XK) (t : TA) : TE := fun σ H Q => t σ H fun vs H1 => ∀ x dx, H1 x = none → H1 dx = none → dx ≠ x →
  sp (.ref x :: (vs ++ dvs)) (upd (upd H1 dx (.own x)) x (.ins C dx [])) (fun v H2 => v = .non ∧ Q (.ref x) H2) E

/-- how the parameters are bound: us the positional arguments, kw the keywords' values by name, ds the defaults that fill up -/
def Binds (K : PySem.W.Frag) (fd : FuncData) (ps : List Str) (ds : List Value) : Prop :=
  ∀ (s : Shared) (us : List Value), K.In s.heap → (us ++ ds).length = ps.length → BindsTo s fd ⟨us, []⟩ (ps.zip (us ++ ds))
/-- every parameter is given -/
theorem Binds.all {K : PySem.W.Frag} {fd : FuncData} {ps : List Str} (h : ∀ us : List Value, us.length = ps.length → bindArgs fd ⟨us, []⟩ = pure (ps.zip us)) : Binds K fd ps [] := fun s us _ hl => by
  rw [List.append_nil] at hl ⊢
  exact .of_eq (h us hl)

/-- an exception of a callee reaches what this body wants of exceptions -/
def Passes (CX : CXT) (X : Cx) (E : XK) : Prop := ∀ (pins : List (Addr × Obj)) (σ : St) (H : Hp) (s : Shared) (e : Value) (s' : Shared), Inv X pins σ H s → CX X.stack H s E e s' → X.xe e s'

section
variable {X : Cx} {CX : CXT} {k : Nat} {f C : Addr} {fd : FuncData} {ps : List Str} {sp : Sp} {dvs : List V} {ds : List Value} {E : XK} {x m : Str} {p pos apos : Pos} {e o : Expr} {es : List Expr} {ta : TE} {t : TA}

/-- the callee runs -/
theorem run_fn {pins : List (Addr × Obj)} {σ : St} {H : Hp} {s : Shared} {Q : VK} {us : List Value} {vs : List V} (F : FnOk X.prog X.w X.K X.mg X.base CX k f fd ps sp) (hr : Room k X.A) (hb : Binds X.K fd ps ds) (hd : Vals dvs ds) (hx : Passes CX X E)
    (I : Inv X pins σ H s) (r : Vals vs us) (h : sp (vs ++ dvs) H Q E) : wpAny (model X.prog X.w) X.A (call (.ref f) us) (EP X pins σ Q) X.xe s := by
  have r2 : Vals (vs ++ dvs) (us ++ ds) := r.append hd
  have hl : (us ++ ds).length = ps.length := by rw [← r2.length]; exact F.len _ _ _ _ h
  refine wpAny_call (codeAny_mono (F.run X.A X.stack s H ⟨us, []⟩ (us ++ ds) (vs ++ dvs) Q E hr I.env0 (hb s us I.kIn hl) r2 h) fun r s' hq => ?_)
  cases r with
  | error e => exact hx pins σ H s e s' I hq
  | ok fl =>
    cases fl with
    | ret u => exact I.after hq
    | next => exact False.elim hq
    | brk => exact False.elim hq
    | cont => exact False.elim hq

theorem pe_call (F : FnOk X.prog X.w X.K X.mg X.base CX k f fd ps sp) (hr : Room k X.A) (hg : Gl X x) (hm : X.mg x = some (.ref f)) (hk : PySem.W.keepIn X.K (.ref f) = true) (hb : Binds X.K fd ps ds) (hd : Vals dvs ds) (hx : Passes CX X E)
    (ha : PA X (e :: es) t) (hdb : (x == ("__debug__" : Str)) = false := by decide) (he : starEach (e :: es) X.env = (false, eval e X.env) :: starEach es X.env := by rfl) (hpl : (backTo pos (starEach es X.env)).any (·.1) = false := by rfl) :
    PE X (.Call (.Name x p) (e :: es) [] pos) (tCall sp dvs E t) := by
  intro pins s σ H Q I h
  refine wpAny_Call_Name_kw (ld_glob I hg hm ?_ hdb)
  refine PySem.W.callWith_K (h₀ := X.base) I.ok.mod.kin hk (thn (ha pos pins s σ H _ I h) fun us s1 ⟨vs, H1, I1, r, q⟩ => ⟨I1.kIn, ?_⟩) he hpl
  exact run_fn F hr hb hd hx I1 r q
theorem pe_call0 (F : FnOk X.prog X.w X.K X.mg X.base CX k f fd ps sp) (hr : Room k X.A) (hg : Gl X x) (hm : X.mg x = some (.ref f)) (hk : PySem.W.keepIn X.K (.ref f) = true) (hb : Binds X.K fd ps ds) (hd : Vals dvs ds) (hx : Passes CX X E)
    (hdb : (x == ("__debug__" : Str)) = false := by decide) : PE X (.Call (.Name x p) [] [] pos) (tCall sp dvs E tNil) := by
  intro pins s σ H Q I h
  refine wpAny_Call_Name_kw (ld_glob I hg hm ?_ hdb)
  exact PySem.W.callWith_K0 I.kIn hk (run_fn (us := []) F hr hb hd hx I .nil h)

/-- o.m(e, ..) -/
theorem pe_meth {pl : Sem Bool} (he : PE X o ta) (c : Cls X.K C) (hm : Meth X.K C m f) (F : FnOk X.prog X.w X.K X.mg X.base CX k f fd ps sp) (hr : Room k X.A) (hb : Binds X.K fd ps ds) (hd : Vals dvs ds) (hx : Passes CX X E) (ha : PA X (e :: es) t)
    (hst : starEach (e :: es) X.env = (false, eval e X.env) :: starEach es X.env := by rfl) (hpl : (backTo pos (starEach es X.env)).any (·.1) = false := by rfl)
    (ht : eval (.Call (.Attribute o m apos) (e :: es) [] pos) X.env = (do
      let ov ← eval o X.env
      standAt apos.atName
      let (f, first) ← holding [ov] (getMethod ov m pl)
      callWith pos f first (backTo pos (starEach (e :: es) X.env)) (backToKw pos (keywordEach [] X.env))) := by rfl) :
    PE X (.Call (.Attribute o m apos) (e :: es) [] pos) (tMeth C m sp dvs E ta t) := by
  intro pins s σ H Q I h
  refine PySem.W.methodCall_KW (pl := pl) (thn (he pins s σ H _ I h) fun u s1 ⟨x, H1, I1, rx, a, dx, fs, ex, ea, l, q⟩ => ?_) ht
  subst ex
  obtain rfl : u = Value.ref a := rx
  refine getmeth_ok I1 ea c hm l ?_
  refine PySem.W.callWith_K (first := [.ref a]) (h₀ := X.base) I.ok.mod.kin hm.kp (thn (ha pos pins s1 σ H1 _ I1 q) fun us s2 ⟨vs, H2, I2, r, q2⟩ => ⟨I2.kIn, ?_⟩) hst hpl
  exact run_fn (us := .ref a :: us) (vs := .ref a :: vs) F hr hb hd hx I2 (.cons rfl r) q2
/-- o.m() -/
theorem pe_meth0 {pl : Sem Bool} (he : PE X o ta) (c : Cls X.K C) (hm : Meth X.K C m f) (F : FnOk X.prog X.w X.K X.mg X.base CX k f fd ps sp) (hr : Room k X.A) (hb : Binds X.K fd ps ds) (hd : Vals dvs ds) (hx : Passes CX X E)
    (ht : eval (.Call (.Attribute o m apos) [] [] pos) X.env = (do
      let ov ← eval o X.env
      standAt apos.atName
      let (f, first) ← holding [ov] (getMethod ov m pl)
      callWith pos f first (backTo pos (starEach [] X.env)) (backToKw pos (keywordEach [] X.env))) := by rfl) :
    PE X (.Call (.Attribute o m apos) [] [] pos) (tMeth C m sp dvs E ta tNil) := by
  intro pins s σ H Q I h
  refine PySem.W.methodCall_KW (pl := pl) (thn (he pins s σ H _ I h) fun u s1 ⟨x, H1, I1, rx, a, dx, fs, ex, ea, l, q⟩ => ?_) ht
  subst ex
  obtain rfl : u = Value.ref a := rx
  refine getmeth_ok I1 ea c hm l ?_
  exact PySem.W.callWith_K0 (first := [.ref a]) I1.kIn hm.kp (run_fn (us := [.ref a]) (vs := [.ref a]) F hr hb hd hx I1 (.cons rfl .nil) q)

/-- what a class must have to be made -/
structure Mk (K : PySem.W.Frag) (C f : Addr) : Prop where
  makes : PySem.W.makesIn K C = true
  init : PySem.W.findIn K (.ref C) "__init__" = some (some (.ref f))
  fn : PySem.W.isFn K (.ref f) = true
  kp : PySem.W.keepIn K (.ref C) = true

theorem run_make {pins : List (Addr × Obj)} {σ : St} {H : Hp} {s : Shared} {Q : VK} {us : List Value} {vs : List V} (M : Mk X.K C f) (F : FnOk X.prog X.w X.K X.mg X.base CX k f fd ps sp) (hr : Room (k + 1) X.A) (hb : Binds X.K fd ps ds) (hd : Vals dvs ds)
    (hx : Passes CX X E) (I : Inv X pins σ H s) (r : Vals vs us)
    (h : ∀ x dx, H x = none → H dx = none → dx ≠ x → sp (.ref x :: (vs ++ dvs)) (upd (upd H dx (.own x)) x (.ins C dx [])) (fun v H2 => v = .non ∧ Q (.ref x) H2) E) :
    wpAny (model X.prog X.w) X.A (call (.ref C) us) (EP X pins σ Q) X.xe s := by
  have hq := h (s.heap.objs.size + 1) s.heap.objs.size (I.hok.fresh (Nat.le_succ _)) (I.hok.fresh (Nat.le_refl _)) (Nat.ne_of_lt (Nat.lt_succ_self _))
  have I2 := Inv.made (C := C) I
  have r2 : Vals (V.ref (s.heap.objs.size + 1) :: (vs ++ dvs)) (Value.ref (s.heap.objs.size + 1) :: (us ++ ds)) := .cons rfl (r.append hd)
  have hl : (Value.ref (s.heap.objs.size + 1) :: us ++ ds).length = ps.length := by
    have e := r2.length
    rw [F.len _ _ _ _ hq] at e
    exact e.symm
  refine wpAny_call (make_map (f := f) I.kIn M.makes M.init (beq_iff_eq.mp M.fn) (codeAny_mono (F.run _ X.stack _ _ ⟨Value.ref (s.heap.objs.size + 1) :: us, []⟩ (Value.ref (s.heap.objs.size + 1) :: (us ++ ds)) _ _ E (hr.make C us [])
    (I2.env0.make C us []) (hb _ (Value.ref (s.heap.objs.size + 1) :: us) I2.kIn hl) r2 hq) fun r s' hq' => ?_))
  cases r with
  | error e => exact hx pins σ _ _ e s' I2 hq'
  | ok fl =>
    cases fl with
    | ret u =>
      obtain ⟨v, H', I3, rv, ev, q3⟩ := I2.after hq'
      subst ev
      exact ⟨rv, ⟨V.ref (s.heap.objs.size + 1), H', I3, rfl, q3⟩⟩
    | next => exact False.elim hq'
    | brk => exact False.elim hq'
    | cont => exact False.elim hq'
theorem pe_make (M : Mk X.K C f) (F : FnOk X.prog X.w X.K X.mg X.base CX k f fd ps sp) (hr : Room (k + 1) X.A) (hg : Gl X x) (hm : X.mg x = some (.ref C)) (hb : Binds X.K fd ps ds) (hd : Vals dvs ds) (hx : Passes CX X E)
    (ha : PA X (e :: es) t) (hdb : (x == ("__debug__" : Str)) = false := by decide) (he : starEach (e :: es) X.env = (false, eval e X.env) :: starEach es X.env := by rfl) (hpl : (backTo pos (starEach es X.env)).any (·.1) = false := by rfl) :
    PE X (.Call (.Name x p) (e :: es) [] pos) (tMake C sp dvs E t) := by
  intro pins s σ H Q I h
  refine wpAny_Call_Name_kw (ld_glob I hg hm ?_ hdb)
  refine PySem.W.callWith_K (h₀ := X.base) I.ok.mod.kin M.kp (thn (ha pos pins s σ H _ I h) fun us s1 ⟨vs, H1, I1, r, q⟩ => ⟨I1.kIn, ?_⟩) he hpl
  exact run_make M F hr hb hd hx I1 r q
theorem pe_make0 (M : Mk X.K C f) (F : FnOk X.prog X.w X.K X.mg X.base CX k f fd ps sp) (hr : Room (k + 1) X.A) (hg : Gl X x) (hm : X.mg x = some (.ref C)) (hb : Binds X.K fd ps ds) (hd : Vals dvs ds) (hx : Passes CX X E)
    (hdb : (x == ("__debug__" : Str)) = false := by decide) : PE X (.Call (.Name x p) [] [] pos) (tMake C sp dvs E tNil) := by
  intro pins s σ H Q I h
  refine wpAny_Call_Name_kw (ld_glob I hg hm ?_ hdb)
  exact PySem.W.callWith_K0 I.kIn M.kp (run_make (us := []) M F hr hb hd hx I .nil h)
end

/-! ### keywords -/
/-- the values of the keywords, from the left -/
def PK (X : Cx) (kws : List Keyword) (t : TA) : Prop :=
  ∀ (pos : Pos) (pins : List (Addr × Obj)) (s : Shared) (σ : St) (H : Hp) (Q : List V → Hp → Prop), Inv X pins σ H s → t σ H Q → wpAny (model X.prog X.w) X.A (evalAll ((backToKw pos (keywordEach kws X.env)).map (·.2))) (AP X pins σ Q) X.xe s
section
variable {X : Cx} {CX : CXT} {k : Nat} {f C : Addr} {fd : FuncData} {ps ks : List Str} {sp : Sp} {E : XK} {x m : Str} {p pos apos kpos : Pos} {e o : Expr} {es : List Expr} {kws : List Keyword} {te ta : TE} {t tk : TA} {nm : Option Str}
theorem pk_nil : PK X [] tNil := fun _ _ _ _ H Q I h => wpAny_evalAll_nil ⟨[], H, I, .nil, h⟩
theorem pk_cons (ha : PE X e te) (hr : PK X kws t) : PK X (⟨nm, e, kpos⟩ :: kws) (tCons te t) := by
  intro pos pins s σ H Q I h
  show wpAny _ _ (evalAll ((do let v ← eval e X.env; standAt pos; pure v) :: (backToKw pos (keywordEach kws X.env)).map (·.2))) _ _ s
  refine wpAny_evalAll_cons (wpAny_bind (thn (ha pins s σ H _ I h) fun u s1 ⟨x, H1, I1, r1, q1⟩ => wpAny_bind (wpAny_standAt (wpAny_pure ?_))))
  exact thn (hr pos pins s1 σ H1 _ I1 q1) fun us s2 ⟨xs, H2, I2, r2, q2⟩ => ⟨x :: xs, H2, I2, .cons r1 r2, q2⟩

/-- how a call with keywords binds: g puts the positional values us and the keywords' values ws (names ks) in the parameters' order, defaults among them -/
structure KBinds (K : PySem.W.Frag) (fd : FuncData) (ps ks : List Str) (g : List Value → List Value → List Value) (gV : List V → List V → List V) : Prop where
  to : ∀ (s : Shared) (us ws : List Value), K.In s.heap → (g us ws).length = ps.length → BindsTo s fd ⟨us, ks.zip ws⟩ (ps.zip (g us ws))
  rel : ∀ {vs : List V} {us : List Value} {zs : List V} {ws : List Value}, Vals vs us → Vals zs ws → Vals (gV vs zs) (g us ws)
def tCallK (sp : Sp) (gV : List V → List V → List V) (E : XK) (t tk : TA) : TE := fun σ H Q => t σ H fun vs H1 => tk σ H1 fun zs H2 => sp (gV vs zs) H2 Q E
variable {g : List Value → List Value → List Value} {gV : List V → List V → List V}
theorem run_fnk {pins : List (Addr × Obj)} {σ : St} {H : Hp} {s : Shared} {Q : VK} {us ws : List Value} {vs zs : List V} (F : FnOk X.prog X.w X.K X.mg X.base CX k f fd ps sp) (hr : Room k X.A) (hb : KBinds X.K fd ps ks g gV) (hx : Passes CX X E)
    (I : Inv X pins σ H s) (r : Vals vs us) (rz : Vals zs ws) (h : sp (gV vs zs) H Q E) : wpAny (model X.prog X.w) X.A (call (.ref f) us (ks.zip ws)) (EP X pins σ Q) X.xe s := by
  have r2 := hb.rel r rz
  have hl : (g us ws).length = ps.length := by rw [← r2.length]; exact F.len _ _ _ _ h
  refine wpAny_call (codeAny_mono (F.run X.A X.stack s H ⟨us, ks.zip ws⟩ (g us ws) (gV vs zs) Q E hr I.env0 (hb.to s us ws I.kIn hl) r2 h) fun r s' hq => ?_)
  cases r with
  | error e => exact hx pins σ H s e s' I hq
  | ok fl =>
    cases fl with
    | ret u => exact I.after hq
    | next => exact False.elim hq
    | brk => exact False.elim hq
    | cont => exact False.elim hq
/-- f(e, .., k = v, ..) -/
theorem pe_callK (F : FnOk X.prog X.w X.K X.mg X.base CX k f fd ps sp) (hr : Room k X.A) (hg : Gl X x) (hm : X.mg x = some (.ref f)) (hk : PySem.W.keepIn X.K (.ref f) = true) (hb : KBinds X.K fd ps ks g gV) (hx : Passes CX X E)
    (ha : PA X (e :: es) t) (hkw : PK X kws tk) (hall : (backToKw pos (keywordEach kws X.env)).all (·.1.isSome) = true := by rfl) (hks : (backToKw pos (keywordEach kws X.env)).filterMap (·.1) = ks := by rfl)
    (hdb : (x == ("__debug__" : Str)) = false := by decide) (he : starEach (e :: es) X.env = (false, eval e X.env) :: starEach es X.env := by rfl)
    (hpl : ((backTo pos (starEach (e :: es) X.env)).any (·.1) || (backToKw pos (keywordEach kws X.env)).any (·.1.isNone)) = false := by rfl) :
    PE X (.Call (.Name x p) (e :: es) kws pos) (tCallK sp gV E t tk) := by
  intro pins s σ H Q I h
  refine wpAny_Call_Name_kw (ld_glob I hg hm ?_ hdb)
  refine PySem.W.callWith_KW (h₀ := X.base) I.ok.mod.kin hk hall (thn (ha pos pins s σ H _ I h) fun us s1 ⟨vs, H1, I1, r, q⟩ => ?_) hpl he
  refine thn (hkw pos pins s1 σ H1 _ I1 q) fun ws s2 ⟨zs, H2, I2, rz, q2⟩ => ⟨I2.kIn, ?_⟩
  rw [hks]
  exact run_fnk F hr hb hx I2 r rz q2
end

/-! ### a def's body keeps its promise -/
/-- names: the parameters first -/
structure FnScope (N P : List Str) (sc : Scope) : Prop where
  kind : sc.kind = .function
  co : sc.isCoroutine = false
  gen : sc.isGenerator = false
  nd : N.Nodup
  pre : N.take P.length = P
  par : ∀ x ∈ P, sc.names.lookup x = some .local ∨ sc.names.lookup x = some .cell
  nofree : ∀ y ∈ sc.names, y.2 ≠ .free

theorem bindL_out {kindOf : Str → Option NameKind} {x : Str} : ∀ {binds : List (Str × Value)} {m : Str → Option Value}, (∀ v, (x, v) ∉ binds) → bindL kindOf binds m x = m x
  | [], _, _ => rfl
  | (n, v) :: r, m, h => by
    unfold bindL
    rw [bindL_out fun w hw => h w (List.mem_cons_of_mem _ hw)]
    split
    · have : x ≠ n := by rintro rfl; exact h v List.mem_cons_self
      simp [this]
    · rfl
theorem bindC_out {kindOf : Str → Option NameKind} {x : Str} : ∀ {binds : List (Str × Value)} {m : Str → Option Value}, (∀ v, (x, v) ∉ binds) → bindC kindOf binds m x = m x
  | [], _, _ => rfl
  | (n, v) :: r, m, h => by
    unfold bindC
    rw [bindC_out fun w hw => h w (List.mem_cons_of_mem _ hw)]
    split
    · rfl
    · have : x ≠ n := by rintro rfl; exact h v List.mem_cons_self
      simp [this]
theorem bindL_get {kindOf : Str → Option NameKind} {x : Str} {v : Value} : ∀ {P : List Str} {vs : List Value} {i : Nat} {m : Str → Option Value}, P.Nodup → P[i]? = some x → vs[i]? = some v → kindOf x = some .local →
    bindL kindOf (P.zip vs) m x = some v
  | [], _, _, _, _, h, _, _ => by simp at h
  | _ :: _, [], _, _, _, _, h, _ => by simp at h
  | p :: P, w :: vs, 0, m, nd, h1, h2, hk => by
    simp at h1 h2; subst h1; subst h2
    show bindL kindOf ((p, w) :: P.zip vs) m p = _
    unfold bindL
    rw [bindL_out fun v hv => (List.nodup_cons.mp nd).1 (List.of_mem_zip hv).1, if_pos hk]
    simp
  | p :: P, w :: vs, i + 1, m, nd, h1, h2, hk => by
    show bindL kindOf ((p, w) :: P.zip vs) m x = _
    unfold bindL
    exact bindL_get (i := i) (List.nodup_cons.mp nd).2 (by simpa using h1) (by simpa using h2) hk
theorem bindC_get {kindOf : Str → Option NameKind} {x : Str} {v : Value} : ∀ {P : List Str} {vs : List Value} {i : Nat} {m : Str → Option Value}, P.Nodup → P[i]? = some x → vs[i]? = some v → kindOf x ≠ some .local →
    bindC kindOf (P.zip vs) m x = some v
  | [], _, _, _, _, h, _, _ => by simp at h
  | _ :: _, [], _, _, _, _, h, _ => by simp at h
  | p :: P, w :: vs, 0, m, nd, h1, h2, hk => by
    simp at h1 h2; subst h1; subst h2
    show bindC kindOf ((p, w) :: P.zip vs) m p = _
    unfold bindC
    rw [bindC_out fun v hv => (List.nodup_cons.mp nd).1 (List.of_mem_zip hv).1, if_neg hk]
    simp
  | p :: P, w :: vs, i + 1, m, nd, h1, h2, hk => by
    show bindC kindOf ((p, w) :: P.zip vs) m x = _
    unfold bindC
    exact bindC_get (i := i) (List.nodup_cons.mp nd).2 (by simpa using h1) (by simpa using h2) hk

/-- the names' values at the entry -/
def start (N : List Str) (vs : List V) : St := vs.map some ++ List.replicate (N.length - vs.length) none

/-- the context of a def's body, at its entry; an exception leaves the frame, then lies as CX says -/
def cxOf (CX : CXT) (P : Program) (w : World) (K : PySem.W.Frag) (mg : Str → Option Value) (base : Heap) (N : List Str) (qual : Str) (scope : Scope) (f : Addr) (cd : Value) (A : Around) (outer : List Env) (s : Shared) (H : Hp) (E : XK) : Cx where
  prog := P
  w := w
  K := K
  mg := mg
  base := base
  A := A.deeper (envOfC qual scope s.heap.objs.size f cd)
  N := N
  s₀ := s
  H₀ := H
  env := envOfC qual scope s.heap.objs.size f cd
  outer := outer
  stack := envOfC qual scope s.heap.objs.size f cd :: outer
  ex := []
  calm := true
  fn := fun _ => true
  pn := []
  xe := fun e s' => wpAny (model P w) (A.deeper (envOfC qual scope s.heap.objs.size f cd)) (leaving (envOfC qual scope s.heap.objs.size f cd) e) (fun _ s'' => CX outer H s E e s'') (fun e' s'' => CX outer H s E e' s'') s'

theorem cell_has {sc : Scope} {n : Nat} {x : Str} (h : sc.names.lookup x = some .cell) : ∃ c, (cellsFrom n sc.names []).lookup x = some c := by
  have q := PySem.W.cellsFrom_some sc.names n [] (.inl h)
  exact Option.isSome_iff_exists.mp q

theorem inv_start {CX : CXT} {P : Program} {w : World} {K : PySem.W.Frag} {mg : Str → Option Value} {base : Heap} {N ps : List Str} {qual : Str} {scope : Scope} {f : Addr} {cd : Value} {A : Around} {outer : List Env} {s s1 : Shared} {H : Hp} {E : XK} {us : List Value} {vs : List V}
    (S : FnScope N ps scope) (hd : A.handled = none) (e0 : Env0 P w K mg base A outer s H) (hl : vs.length = ps.length) (r : Vals vs us)
    (x : InCallC s s.heap.objs.size (bindL (envOfC qual scope s.heap.objs.size f cd).kindOf (ps.zip us) fun _ => none) (cellsFrom (s.heap.objs.size + 1) scope.names []) (bindC (envOfC qual scope s.heap.objs.size f cd).kindOf (ps.zip us) fun _ => none) s1) :
    Inv (cxOf CX P w K mg base N qual scope f cd A outer s H E) [] (start N vs) H s1 := by
  have hpl : ps.length ≤ N.length := by have := congrArg List.length S.pre; rw [List.length_take] at this; omega
  obtain ⟨h1, tk, rfl, hk⟩ := x.done
  have noA : ∀ b : Addr, b ∉ (cxOf CX P w K mg base N qual scope f cd A outer s H E).ex := fun b z => absurd (show b ∈ ([] : List Addr) from z) (by simp)
  refine ⟨⟨e0.mod, S.kind, rfl, rfl, Nat.le_refl _, fun y z c h1 h2 => ?_, fun y hy => ?_, fun y c _ h => ?_, fun _ => hd, Around.frames_deeper e0.frames, .inr ⟨rfl, rfl⟩, fun b z => absurd z (noA b), e0.bs, e0.bsz, fun b _ _ => noA b, fun b z => absurd z (noA b), e0.funs, e0.frf⟩,
    rfl, e0.bare, Un.kept hk, ⟨_, x.toInCall.ns, fun i y v h1 h2 h3 => ?_⟩, fun y c h => ⟨_, x.cell y c h⟩, e0.hok.fresh (Nat.le_refl _), fun y c h => ?_, fun p hp => absurd (show p ∈ ([] : List (Addr × Obj)) from hp) (by simp), e0.hok.kept hk, ?_⟩
  · exact name_of_addr x.apart (PySem.mem_of_lookup h1) (PySem.mem_of_lookup h2)
  · have hy : scope.names.lookup y = some .cell ∨ scope.names.lookup y = some .free := hy
    rcases hy with hy | hy
    · exact cell_has hy
    · exact absurd rfl (S.nofree _ (PySem.mem_of_lookup hy))
  · exact Nat.le_of_lt (x.above y c (PySem.mem_of_lookup h))
  · have hi : i < vs.length := by
      unfold start at h2
      by_cases hi : i < vs.length
      · exact hi
      · rw [List.getElem?_append_right (by simpa using hi)] at h2
        rw [List.getElem?_replicate] at h2
        split at h2 <;> cases h2
    have ha : vs[i]? = some v := by
      unfold start at h2
      rw [List.getElem?_append_left (by simpa using hi), List.getElem?_map] at h2
      cases e : vs[i]? with
      | none => rw [e] at h2; cases h2
      | some a => rw [e] at h2; cases h2; rfl
    obtain ⟨u, hu, rv⟩ := r.get ha
    have hp : ps[i]? = some y := by
      rw [← S.pre, List.getElem?_take_of_lt (by omega)]; exact h1
    have ndP : ps.Nodup := by rw [← S.pre]; exact S.nd.sublist (List.take_sublist _ _)
    refine ⟨u, rv, ?_⟩
    rcases S.par y (List.mem_of_getElem? hp) with k | k
    · exact .inl ⟨k, bindL_get ndP hp hu k⟩
    · obtain ⟨c, e⟩ := cell_has (n := s.heap.objs.size + 1) k
      refine .inr ⟨.inl k, c, e, ?_⟩
      have q := x.cell y c e
      rw [bindC_get ndP hp hu (by show scope.names.lookup y ≠ _; rw [k]; decide)] at q
      exact q
  · exact e0.hok.fresh (Nat.le_of_lt (x.above y c (PySem.mem_of_lookup h)))
  · unfold start
    show _ = N.length
    rw [List.length_append, List.length_map, List.length_replicate]
    omega

/-- THE RULE: a def (or a method) of the text, by its body. The body's reading t is chosen for each entry; it is run at the parameters' values -/
theorem fn_of {CX : CXT} {P : Program} {w : World} {K : PySem.W.Frag} {mg : Str → Option Value} {base : Heap} {k : Nat} {f : Addr} {name qual : Str} {params : Arguments} {body : List Stmt} {scope : Scope} {dV kV doc pm cdv ct oc : Value} {an od : Option Addr}
    {osl : Array (Option Value)} {N ps : List Str} {sp : Sp} (lk : K.lookup f = some ⟨oc, od, .func (PySem.W.fnOf name qual params body scope dV kV doc pm an cdv ct), osl⟩) (hcd : PySem.W.codeIn K cdv qual = true) (S : FnScope N ps scope)
    (len : ∀ vs H Q E, sp vs H Q E → vs.length = ps.length)
    (hbody : ∀ (A : Around) (outer : List Env) (s : Shared) (H : Hp) (vs : List V) (Q : VK) (E : XK), Room k (A.deeper (envOfC qual scope s.heap.objs.size f cdv)) → sp vs H Q E →
      ∃ t, PSs (cxOf CX P w K mg base N qual scope f cdv A outer s H E) body t ∧ t { nx := fun _ H' => Q .non H', rt := Q } (start N vs) H) :
    FnOk P w K mg base CX (k + 1) f (PySem.W.fnOf name qual params body scope dV kV doc pm an cdv ct) ps sp := by
  refine ⟨len, fun A outer s H args us vs Q E hr e0 hb r hsp => ?_⟩
  have hl := len _ _ _ _ hsp
  have KX : K.In s.heap := e0.mod.kin.keeps fun b o e => (e0.bs b o e).1
  have lim : s.heap.NoLimit := e0.mod.nolimit.keeps fun b o e => (e0.bs b o e).1
  have hkind : ∀ y ∈ ps.zip us, scope.names.lookup y.1 = some .local ∨ (scope.names.lookup y.1 = some .cell ∧ ((cellsFrom (s.heap.objs.size + 1) scope.names []).lookup y.1).isSome = true) := fun ⟨n, v⟩ hy => by
    rcases S.par n (List.of_mem_zip hy).1 with q | q
    · exact .inl q
    · exact .inr ⟨q, PySem.W.cellsFrom_some _ _ _ (.inl q)⟩
  refine codeAny_call_function hr.depth (KX _ _ lk) rfl S.co S.gen rfl (PySem.W.codeRec_of KX hcd) (hb _ _ _ _ ?_)
  refine wpAny_newFunctionEnv_cells S.kind hkind fun env he s1 x => ?_
  subst he
  refine ⟨lim.keeps x.toInCall.keep, codeAny_func ?_⟩
  obtain ⟨t, ht, hq⟩ := hbody A outer s H vs Q E (hr.deeper _) hsp
  have I : Inv (cxOf CX P w K mg base N qual scope f cdv A outer s H E) [] (start N vs) H s1 := inv_start S hr.hd e0 hl r x
  refine wpAny_mono (ht [] s1 (start N vs) H _ I hq) (fun fl s' hs => ?_) fun e s' hs => hs
  have fin : ∀ {σ' : St} {H' : Hp} {v : V} {u : Value}, Inv (cxOf CX P w K mg base N qual scope f cdv A outer s H E) [] σ' H' s' → RelV v u → Q v H' → CE outer P w H s Q u s' :=
    fun {σ' H' v u} J rv q => ⟨v, H', J.os, J.bare, J.base, J.hok, rv, q⟩
  cases fl with
  | ret u =>
    obtain ⟨v, σ', H', J, rv, q⟩ := hs
    exact fin J rv q
  | next =>
    obtain ⟨σ', H', J, q⟩ := hs
    exact fin (v := V.non) (u := Value.none) J rfl q
  | brk =>
    obtain ⟨_, _, _, q⟩ := hs
    exact False.elim q
  | cont =>
    obtain ⟨_, _, _, q⟩ := hs
    exact False.elim q
end L2

namespace L2
open PySem PySem.Spec PyProof.Rows
section
variable {X : Cx} {x : Str} {p pos : Pos} {e : Expr} {es : List Expr} {t : TA} {id T : String} {r : List V → Hp → VK → Prop}

def tCB (r : List V → Hp → VK → Prop) (t : TA) : TE := fun σ H Q => t σ H fun vs H1 => r vs H1 Q
/-- f(e, ..), f a built-in function -/
theorem pe_callB (hc : CallR X (.builtin id) r) (hg : Gl X x) (hm : X.mg x = none) (hv : bootBuiltins x = some (.builtin id)) (ha : PA X (e :: es) t) (hn : x ≠ "__name__" := by decide) (hdb : (x == ("__debug__" : Str)) = false := by decide)
    (he : starEach (e :: es) X.env = (false, eval e X.env) :: starEach es X.env := by rfl) (hpl : (backTo pos (starEach es X.env)).any (·.1) = false := by rfl) : PE X (.Call (.Name x p) (e :: es) [] pos) (tCB r t) := by
  intro pins s σ H Q I h
  refine wpAny_Call_Name_kw (ld_blt I hg hm hv ?_ hn hdb)
  exact PyProof.Rows.callWith_builtin1 (thn (ha pos pins s σ H _ I h) fun us s1 ⟨vs, H1, I1, r1, q1⟩ => hc pins s1 σ H1 vs us Q I1 r1 q1) he hpl
/-- T(e, ..), T a built-in type -/
theorem pe_callTy (hc : CallR X (.type T) r) (hg : Gl X x) (hm : X.mg x = none) (hv : bootBuiltins x = some (.type T)) (ha : PA X (e :: es) t) (hn : x ≠ "__name__" := by decide) (hdb : (x == ("__debug__" : Str)) = false := by decide)
    (he : starEach (e :: es) X.env = (false, eval e X.env) :: starEach es X.env := by rfl) (hpl : (backTo pos (starEach es X.env)).any (·.1) = false := by rfl) : PE X (.Call (.Name x p) (e :: es) [] pos) (tCB r t) := by
  intro pins s σ H Q I h
  refine wpAny_Call_Name_kw (ld_blt I hg hm hv ?_ hn hdb)
  exact PyProof.Rows.callWith_type1 (thn (ha pos pins s σ H _ I h) fun us s1 ⟨vs, H1, I1, r1, q1⟩ => hc pins s1 σ H1 vs us Q I1 r1 q1) he hpl
/-- T() -/
theorem pe_callTy0 (hc : CallR X (.type T) r) (hg : Gl X x) (hm : X.mg x = none) (hv : bootBuiltins x = some (.type T)) (hn : x ≠ "__name__" := by decide) (hdb : (x == ("__debug__" : Str)) = false := by decide) :
    PE X (.Call (.Name x p) [] [] pos) (tCB r tNil) := by
  intro pins s σ H Q I h
  refine wpAny_Call_Name_kw (ld_blt I hg hm hv ?_ hn hdb)
  exact PyProof.Rows.callWith_type0 (hc pins s σ H [] [] Q I .nil h)
end
end L2

namespace HT
open PySem PyProof.Rows

/-- t < u of tuples of ints -/
def lexLt : List Int → List Int → Bool
  | [], [] => false
  | [], _ :: _ => true
  | _ :: _, [] => false
  | x :: xs, y :: ys => if x = y then lexLt xs ys else decide (x < y)
theorem lexLt_cons (x y : Int) (xs ys : List Int) : lexLt (x :: xs) (y :: ys) = if x = y then lexLt xs ys else decide (x < y) := rfl
theorem lexLt_nil_nil : lexLt [] [] = false := rfl
theorem lexLt_nil_cons (y : Int) (ys : List Int) : lexLt [] (y :: ys) = true := rfl
theorem lexLt_cons_nil (x : Int) (xs : List Int) : lexLt (x :: xs) [] = false := rfl

theorem eqAt_int (A : Around) (s : Shared) (a : Int) (t : Tok) (c : Int) (u : Tok) : ∃ e, SeqAt.EqAt A s (.int a t) (.int c u) e ∧ (e = true ↔ a = c) :=
  ⟨(a == c), SeqAt.EqAt.int_int a t c u, by simp⟩
theorem rcLt_int (A : Around) (s : Shared) (a : Int) (t : Tok) (c : Int) (u : Tok) (prog : Program) (w : World) (E : Value → Shared → Prop) (Q : Value → Shared → Prop) (h : Q (.bool (decide (a < c))) s) :
    wpAny (model prog w) A (richCompare .Lt (.int a t) (.int c u)) Q E s :=
  (PyProof.Rows.lt_int h : wpAny (model prog w) A (compareOp .Lt (.int a t) (.int c u)) Q E s)

section
open PySem.SeqAt
open PySem.AutoSeq1 (wpAny_loadPart')
open PySem.MeetsSeq PySem.MeetsSeq2 PySem.MeetsSeq3

theorem tuple_lt_ints (l b : Addr) (items items2 : Array Value) (n n2 : Nat) (dd dd2 : Option Addr) (sl sl2 : Array (Option Value)) (ns ms : List Int) (hi : IntsAre items.toList ns) (hj : IntsAre items2.toList ms) :
    Meets (Builtin.«tuple.__lt__» ⟨[.ref l, .ref b], []⟩)
      (fun _ R s => s.heap.get? l = some { cls := .type "tuple", dict := dd, data := .seq items n, slots := sl } ∧ s.heap.get? b = some { cls := .type "tuple", dict := dd2, data := .seq items2 n2, slots := sl2 } ∧
        R (.ok (.ret (.bool (lexLt ns ms)))) s) :=
  .of_wp fun prog w A R s h => by
    obtain ⟨hp, g, d, tk, os⟩ := s; obtain ⟨hl, hb, h⟩ := h
    have f2 := AutoSeq1.sub_tuple_tuple
    have z1 : items.size = ns.length := by rw [← hi.length]; simp
    have z2 : items2.size = ms.length := by rw [← hj.length]; simp
    wp_walk using wpAny_loadPart' hl, wpAny_loadPart' hb, wpAny_forIn_list _ (fun rest b s' => b.1 = none ∧ s' = ⟨hp, g, d, tk, os⟩ ∧ ∃ (vs ws : List Value) (ns' ms' : List Int), rest = vs.zip ws ∧
      IntsAre vs ns' ∧ IntsAre ws ms' ∧ ns'.length + items2.size = ms'.length + items.size ∧ R (.ok (.ret (.bool (lexLt ns' ms')))) ⟨hp, g, d, tk, os⟩) _
    case turn =>
      rintro ⟨y, x⟩ rest b s' ⟨hb', rfl, vs, ws, ns', ms', hz, hvi, hwi, hlen, hR⟩
      cases hvi with
      | nil => rw [List.zip_nil_left] at hz; cases hz
      | cons a t hvi' =>
        cases hwi with
        | nil => rw [List.zip_nil_right] at hz; cases hz
        | cons c u hwi' =>
          rw [List.zip_cons_cons] at hz
          injection hz with hyx hrest
          injection hyx with hy hx
          subst hy hx
          rw [lexLt_cons] at hR
          simp only [List.length_cons] at hlen
          obtain ⟨e, he, hiff⟩ := eqAt_int A.in1 ⟨hp, g, d, tk, os⟩ a t c u
          refine wpAny_bind (he prog w _ _ ?_)
          cases e with
          | true =>
            rw [if_pos (hiff.mp rfl)] at hR
            wp_walk
            exact ⟨rfl, rfl, _, _, _, _, hrest, hvi', hwi', by omega, hR⟩
          | false =>
            rw [if_neg (fun q => absurd (hiff.mpr q) Bool.false_ne_true)] at hR
            have hri := rcLt_int A.in1 ⟨hp, g, d, tk, os⟩ a t c u prog w
            wp_walk using hri
            exact ⟨_, rfl, by simpa using hR⟩
    case fin =>
      rintro ⟨b1, b2⟩ s' ⟨hb', rfl, vs, ws, ns', ms', hz, hvi, hwi, hlen, hR⟩
      simp only at hb'
      subst hb'
      have hv : lexLt ns' ms' = decide (items.size < items2.size) := by
        cases hvi with
        | nil =>
          cases hwi with
          | nil =>
            simp only [List.length_nil] at hlen
            rw [lexLt_nil_nil]
            exact (decide_eq_false (by omega)).symm
          | cons c u hw =>
            simp only [List.length_nil, List.length_cons] at hlen
            rw [lexLt_nil_cons]
            exact (decide_eq_true (by omega)).symm
        | cons a t hv =>
          cases hwi with
          | nil =>
            simp only [List.length_nil, List.length_cons] at hlen
            rw [lexLt_cons_nil]
            exact (decide_eq_false (by omega)).symm
          | cons c u hw =>
            rw [List.zip_cons_cons] at hz
            cases hz
      rw [hv] at hR
      wp_walk
      exact ⟨_, rfl, by simpa [Builtin.Tuple.tupleCompareSizes] using hR⟩
    case h =>
      exact ⟨rfl, rfl, items.toList, items2.toList, ns, ms, rfl, hi, hj, by omega, h⟩
end

section
variable {prog : Program} {w : World} {A : Around} {E : Value → Shared → Prop} {s : Shared}

theorem lt_tupInts {l b : Addr} {items items2 : Array Value} {ns ms : List Int} {Q : Value → Shared → Prop} (hl : IsTup s.heap l items) (hb : IsTup s.heap b items2) (hi : IntsAre items.toList ns) (hj : IntsAre items2.toList ms)
    (hu : A.units < cLine) (h : Q (.bool (lexLt ns ms)) s) : wpAny (model prog w) A (compareOp .Lt (.ref l) (.ref b)) Q E s := by
  obtain ⟨⟨cls, dd, data, sl⟩, ho, hc, n, hd⟩ := id hl
  obtain ⟨⟨cls2, dd2, data2, sl2⟩, ho2, hc2, n2, hd2⟩ := id hb
  simp only at hc hd hc2 hd2
  subst hc hd hc2 hd2
  exact richCompare_meets_room (op := .Lt) ⟨_, ho, rfl⟩ ⟨_, ho2, rfl⟩ PySem.F.slot_tuple_lt PySem.F.entry_tuple_lt (PySem.F.args_tuple_lt_2 _ _) (tuple_lt_ints l b items items2 n n2 dd dd2 sl sl2 ns ms hi hj)
    ⟨ho, ho2, show Value.bool (lexLt ns ms) ≠ Value.notImplemented ∧ Q (.bool (lexLt ns ms)) s from ⟨(fun x => nomatch x), h⟩⟩ hu

/-- t + u, t not empty -/
theorem cat_tup {t b : Addr} {vs ws : List Value} {Q : Value → Shared → Prop} (ht : IsTup s.heap t vs.toArray) (hb : IsTup s.heap b ws.toArray) (hv : vs ≠ [])
    (h1 : ws = [] → Q (.ref t) s) (h2 : ws ≠ [] → Q (.ref s.heap.objs.size) { s with heap := s.heap.push { cls := .type "tuple", data := .seq (vs ++ ws).toArray } })
    (hsz : vs.length + ws.length ≤ sizeLine) : wpAny (model prog w) A (binaryOp .Add (.ref t) (.ref b)) Q E s := by
  obtain ⟨⟨cls, dd, data, sl⟩, ho, hc, n, hd⟩ := id ht
  obtain ⟨⟨cls2, dd2, data2, sl2⟩, ho2, hc2, n2, hd2⟩ := id hb
  simp only at hc hd hc2 hd2
  subst hc hd hc2 hd2
  have e : vs.toArray ++ ws.toArray = (vs ++ ws).toArray := by simp
  by_cases hw : ws = []
  · exact concat_meets ⟨_, ho, rfl⟩ ⟨_, ho2, rfl⟩ noFill_tuple_add seq_tuple_add PySem.F.slot_tuple_add PySem.F.entry_tuple_add (PySem.F.args_tuple_add_2 _ _)
      (tuple_addW1 t b vs.toArray ws.toArray n n2 dd dd2 sl sl2 (by simpa using hv) (by simp [hw])) ⟨ho, ho2, h1 hw⟩
  · refine concat_meets ⟨_, ho, rfl⟩ ⟨_, ho2, rfl⟩ noFill_tuple_add seq_tuple_add PySem.F.slot_tuple_add PySem.F.entry_tuple_add (PySem.F.args_tuple_add_2 _ _)
      (tuple_addW2 t b vs.toArray ws.toArray n n2 dd dd2 sl sl2 (by simpa using hv) (by simpa using hw) (by rw [List.size_toArray, List.size_toArray]; exact hsz)) ⟨ho, ho2, ?_⟩
    rw [e]
    exact h2 hw

/-! ### t[a:b], not the whole -/
/-- a slice's bound as a place among n (d where it is left out) -/
def sIx (n d : Nat) : Option Int → Nat
  | none => d
  | some v => if v < 0 then (v + (n : Int)).toNat else min v.toNat n
theorem sIx_none (n d : Nat) : sIx n d none = d := rfl
theorem sIx_nat (n d k : Nat) : sIx n d (some (k : Int)) = min k n := by
  show (if (k : Int) < 0 then ((k : Int) + (n : Int)).toNat else min (k : Int).toNat n) = min k n
  rw [if_neg (by omega), Int.toNat_natCast]
theorem sIx_le (n d : Nat) (hd : d ≤ n) (o : Option Int) : sIx n d o ≤ n := by
  cases o with
  | none => exact hd
  | some v =>
    show (if v < 0 then (v + (n : Int)).toNat else min v.toNat n) ≤ n
    by_cases hv : v < 0
    · rw [if_pos hv]; omega
    · rw [if_neg hv]; exact Nat.min_le_right _ _
theorem clip_eq (v : Int) (n d : Nat) : (if v < 0 then max (v + (n : Int)) 0 else min v (n : Int)) = ((sIx n d (some v) : Nat) : Int) := by
  show (if v < 0 then max (v + (n : Int)) 0 else min v (n : Int)) = (((if v < 0 then (v + (n : Int)).toNat else min v.toNat n) : Nat) : Int)
  by_cases hv : v < 0
  · simp only [if_pos hv]; omega
  · simp only [if_neg hv]; omega
theorem adjust_gen (lo hi : Option Int) (n : Nat) : Builtin.Slice.sliceAdjust lo hi 1 (n : Int) = (((sIx n 0 lo : Nat) : Int), ((sIx n n hi : Nat) : Int)) := by
  have h1 : ¬ ((1 : Int) < 0) := by omega
  unfold Builtin.Slice.sliceAdjust
  simp only [h1, if_false]
  refine Prod.ext ?_ ?_
  · cases lo with
    | none => rfl
    | some v => exact clip_eq v n 0
  · cases hi with
    | none => rfl
    | some v => exact clip_eq v n n
theorem places_gen (i j : Nat) : Builtin.Slice.slicePlaces (i : Int) (j : Int) 1 = j - i := by
  unfold Builtin.Slice.slicePlaces
  have h1 : (1 : Int) > 0 := by omega
  simp only [h1, if_true, Int.ediv_one]
  split <;> omega
theorem slicePart_ {v : Value} {o : Option Int} {Q : Option Int → Shared → Prop} (p : IsPart v o) (h : Q o s) : wpAny (model prog w) A (Builtin.Slice.slicePartIndex v) Q E s := by
  cases p with
  | none => exact slicePart_none h
  | int i t => exact slicePart_int h
theorem sliceApplied_gen {sl : Addr} {vl vu : Value} {lo hi : Option Int} {n : Nat} {Q : Int × Int × Nat → Shared → Prop} (hs : s.heap.IsSliceOf sl vl vu .none) (pl : IsPart vl lo) (pu : IsPart vu hi)
    (h : Q (((sIx n 0 lo : Nat) : Int), 1, sIx n n hi - sIx n 0 lo) s) : wpAny (model prog w) A (Builtin.Slice.sliceApplied (.ref sl) (pure (n : Int))) Q E s := by
  obtain ⟨os, hos, hcs, hds⟩ := id hs
  unfold Builtin.Slice.sliceApplied Builtin.Slice.sliceFields
  refine wpAny_bind (wpAny_bind (wpAny_field hos hds (x := vl) rfl (wpAny_bind (wpAny_field hos hds (x := vu) rfl (wpAny_bind (wpAny_field hos hds (x := .none) rfl (wpAny_pure ?_)))))))
  refine wpAny_bind (slicePart_none ?_)
  show wpAny _ _ (if ((1 : Int) == 0) = true then _ else _) _ _ s
  rw [if_neg (by decide)]
  refine wpAny_bind (slicePart_ pl (wpAny_bind (slicePart_ pu (wpAny_bind (wpAny_pure ?_)))))
  show wpAny _ _ (match Builtin.Slice.sliceAdjust lo hi 1 (n : Int) with | (lo, hi) => pure (lo, (1 : Int), Builtin.Slice.slicePlaces lo hi 1)) _ _ s
  rw [adjust_gen lo hi n]
  show wpAny _ _ (pure (((sIx n 0 lo : Nat) : Int), (1 : Int), Builtin.Slice.slicePlaces ((sIx n 0 lo : Nat) : Int) ((sIx n n hi : Nat) : Int) 1)) _ _ s
  rw [places_gen]
  exact wpAny_pure h
theorem pick_gen (xs : Array Value) (i k : Nat) : ((List.range k).filterMap fun (m : Nat) => xs[((i : Int) + (m : Int) * 1).toNat]?).toArray = ((xs.toList.drop i).take k).toArray := by
  have e : (fun (m : Nat) => xs[((i : Int) + (m : Int) * 1).toNat]?) = fun m => xs[i + m]? := by
    funext m
    have : ((i : Int) + (m : Int) * 1).toNat = i + m := by omega
    rw [this]
  rw [e]
  have := pick_run xs i k
  rw [List.filterMap_map] at this
  have e2 : ((fun x => xs[x]?) ∘ fun x => i + x) = fun m => xs[i + m]? := rfl
  rw [e2] at this
  rw [this]

theorem getItem_tuple_cut {t sl : Addr} {items : Array Value} {vl vu : Value} {lo hi : Option Int} {Q : Value → Shared → Prop} (ht : IsTup s.heap t items) (hs : s.heap.IsSliceOf sl vl vu .none) (pl : IsPart vl lo) (pu : IsPart vu hi)
    (hw : ¬ (sIx items.size 0 lo = 0 ∧ sIx items.size items.size hi = items.size))
    (h : Q (.ref s.heap.objs.size) { s with heap := s.heap.push { cls := .type "tuple", data := .seq ((items.toList.drop (sIx items.size 0 lo)).take (sIx items.size items.size hi - sIx items.size 0 lo)).toArray } })
    (hsz : items.size ≤ sizeLine) : wpAny (model prog w) A (getItem (.ref t) (.ref sl)) Q E s := by
  have htake : sizeOk (.seq ((items.toList.drop (sIx items.size 0 lo)).take (sIx items.size items.size hi - sIx items.size 0 lo)).toArray) := by
    show ((items.toList.drop (sIx items.size 0 lo)).take (sIx items.size items.size hi - sIx items.size 0 lo)).toArray.size ≤ sizeLine
    rw [List.size_toArray, List.length_take, List.length_drop, Array.length_toList]
    omega
  have hj : sIx items.size items.size hi ≤ items.size := sIx_le _ _ (Nat.le_refl _) hi
  obtain ⟨os, hos, hcs, hds⟩ := id hs
  have hTs : s.TypeIs (.ref sl) "slice" := ⟨os, hos, hcs⟩
  unfold getItem
  try with_reducible refine wpAny_holding ?_
  first | refine wpAny_bind (wpAny_pure ?_) | skip
  refine wpAny_bind (wpAny_sequenceKey ht.typeIs (by decide) ?_)
  refine wpAny_bind (wpAny_callSpecial?_slot (name := Str.ofString "__getitem__") ht.typeIs PyProof.Rows.slot_tuple_getitem
    (wpAny_call_entry PyProof.Rows.slot_tuple_getitem ht.typeIs entry_tuple_getitem ?_ (args_tuple_getitem _ _)))
  show wpAny _ _ (Builtin.Tuple.tupleItemsOf (.ref t) >>= _) _ _ s
  refine wpAny_bind (tupleItemsOf_ ht ?_)
  refine wpAny_bind (wpAny_typeOf hTs ?_)
  rw [if_pos (by decide)]
  refine wpAny_bind (sliceApplied_gen hs pl pu ?_)
  have hno : ¬ ((((sIx items.size 0 lo : Nat) : Int) == 0 && (1 : Int) == 1 && (sIx items.size items.size hi - sIx items.size 0 lo) == items.size) = true) := by
    intro q
    rw [Bool.and_eq_true, Bool.and_eq_true] at q
    have q1 : ((sIx items.size 0 lo : Nat) : Int) = 0 := eq_of_beq q.1.1
    have q2 : sIx items.size items.size hi - sIx items.size 0 lo = items.size := eq_of_beq q.2
    exact hw ⟨by omega, by omega⟩
  show wpAny _ _ (if (((sIx items.size 0 lo : Nat) : Int) == 0 && (1 : Int) == 1 && (sIx items.size items.size hi - sIx items.size 0 lo) == items.size) = true then _ else _) _ _ s
  rw [if_neg hno, pick_gen]
  first
    | exact wpAny_bind (m := Builtin.Tuple.tupleExact _) (wpAny_newObj_type (wpAny_pure ⟨_, rfl, wpAny_pure h⟩) htake)
    | exact wpAny_bind (m := Builtin.Tuple.tupleExact _) (wpAny_newObj_type (wpAny_bind (wpAny_pure (wpAny_pure ⟨_, rfl, wpAny_pure h⟩))) htake)
    | exact wpAny_bind (wpAny_bind (m := Builtin.Tuple.tupleExact _) (wpAny_newObj_type (wpAny_pure (wpAny_pure ⟨_, rfl, wpAny_pure h⟩)) htake))
    | exact wpAny_bind (wpAny_bind (m := Builtin.Tuple.tupleExact _) (wpAny_newObj_type (wpAny_pure ⟨_, rfl, wpAny_pure h⟩) htake))
end
end HT

namespace L2
open PySem PySem.Spec PyProof.Rows

/-! ### the parts of a slice -/
abbrev TO := St → Hp → (Option Int → Hp → Prop) → Prop
/-- a slice's part (left out, or an int) -/
def PO (X : Cx) (e : Option Expr) (t : TO) : Prop :=
  ∀ (pins : List (Addr × Obj)) (s : Shared) (σ : St) (H : Hp) (Q : Option Int → Hp → Prop), Inv X pins σ H s → t σ H Q →
    wpAny (model X.prog X.w) X.A (evalPart e X.env) (fun u s' => ∃ o H', Inv X pins σ H' s' ∧ IsPart u o ∧ Q o H') X.xe s
def tNoPart : TO := fun _ H Q => Q none H
def tPart (t : TE) : TO := fun σ H Q => t σ H fun x H1 => ∃ i, x = .int i ∧ Q (some i) H1

theorem intsAre_of {ns : List Int} : ∀ {us : List Value}, Vals (ns.map V.int) us → IntsAre us ns := by
  induction ns with
  | nil => intro us r; rw [List.map_nil] at r; cases r; exact .nil
  | cons n ns ih =>
    intro us r
    rw [List.map_cons] at r
    cases r with
    | cons r1 r2 =>
      obtain ⟨t, e⟩ := r1
      subst e
      exact .cons n t (ih r2)

section
variable {X : Cx} {e : Expr} {te : TE} {lo hi : Option Expr} {tl th : TO} {pos p2 : Pos}

theorem po_none : PO X none tNoPart := by
  intro pins s σ H Q I h
  rw [evalPart_none]
  exact wpAny_pure ⟨none, H, I, .none, h⟩
theorem po_some (h : PE X e te) : PO X (some e) (tPart te) := by
  intro pins s σ H Q I hw
  rw [evalPart_some]
  refine thn (h pins s σ H _ I hw) fun u s1 ⟨x, H1, I1, r1, q1⟩ => ?_
  obtain ⟨i, rfl, q⟩ := q1
  obtain ⟨t, rfl⟩ := r1
  exact ⟨some i, H1, I1, .int i t, q⟩

/-- what a slice of a value is, by values: the slice object stands at sl -/
def SlR (X : Cx) (r : V → Option Int → Option Int → Hp → VK → Prop) : Prop :=
  ∀ (pins : List (Addr × Obj)) (s : Shared) (σ : St) (H : Hp) (x : V) (v vl vu : Value) (lo hi : Option Int) (sl : Addr) (Q : VK), Inv X pins σ H s → RelV x v → s.heap.IsSliceOf sl vl vu .none → IsPart vl lo → IsPart vu hi → r x lo hi H Q →
    ∃ T id, typeLookup (.type T) "__getitem__" = pure (some (.builtin id)) ∧ s.TypeIs v T ∧ wpAny (model X.prog X.w) X.A (getItem v (.ref sl)) (EP X pins σ Q) X.xe s
theorem SlR.or {r r' : V → Option Int → Option Int → Hp → VK → Prop} (h : SlR X r) (h' : SlR X r') : SlR X (fun x lo hi H Q => r x lo hi H Q ∨ r' x lo hi H Q) := by
  intro pins s σ H x v vl vu lo hi sl Q I rx hs pl pu q
  rcases q with q | q
  · exact h pins s σ H x v vl vu lo hi sl Q I rx hs pl pu q
  · exact h' pins s σ H x v vl vu lo hi sl Q I rx hs pl pu q
def tSl (r : V → Option Int → Option Int → Hp → VK → Prop) (te : TE) (tl th : TO) : TE := fun σ H Q => te σ H fun x H1 => tl σ H1 fun l H2 => th σ H2 fun u H3 => r x l u H3 Q
/-- a[lo:hi], any a -/
theorem pe_slice {r : V → Option Int → Option Int → Hp → VK → Prop} (hr : SlR X r) (he : PE X e te) (hl : PO X lo tl) (hu : PO X hi th) : PE X (.Subscript e (.Slice lo hi none p2) pos) (tSl r te tl th) := by
  intro pins s σ H Q I h
  refine Subscript_ (thn (he pins s σ H _ I h) fun v s1 ⟨x, H1, I1, r1, q1⟩ => ?_)
  refine wpAny_Slice (thn (hl pins s1 σ H1 _ I1 q1) fun vl s2 ⟨l, H2, I2, pl, q2⟩ => thn (hu pins s2 σ H2 _ I2 q2) fun vu s3 ⟨u, H3, I3, pu, q3⟩ => ?_)
  rw [evalPart_none]
  refine wpAny_pure ?_
  have I4 : Inv X pins σ H3 { s3 with heap := s3.heap.push { cls := .type "slice", data := .fields #[vl, vu, .none] } } := I3.kept (t' := s3.toks) fun b ob q => Heap.get?_push_of_some _ q
  obtain ⟨T, id, hT, ht, hg⟩ := hr pins { s3 with heap := s3.heap.push { cls := .type "slice", data := .fields #[vl, vu, .none] } } σ H3 x v vl vu l u s3.heap.objs.size Q I4 r1 (Heap.IsSliceOf.new ..) pl pu q3
  show wpAny (model X.prog X.w) X.A (subscriptTail e (.Slice lo hi none p2) v (.ref s3.heap.objs.size)) (EP X pins σ Q) X.xe { s3 with heap := s3.heap.push { cls := .type "slice", data := .fields #[vl, vu, .none] } }
  exact tail_any (ops := [.ref s3.heap.objs.size, v]) ht hT hg (by with_unfolding_all rfl)

/-- the items of xs[lo:hi] -/
def cutV (xs : List V) (lo hi : Option Int) : List V := (xs.drop (HT.sIx xs.length 0 lo)).take (HT.sIx xs.length xs.length hi - HT.sIx xs.length 0 lo)
theorem cutV_length (xs : List V) (lo hi : Option Int) : (cutV xs lo hi).length ≤ xs.length := by
  unfold cutV
  rw [List.length_take, List.length_drop]
  omega
/-- t[lo:hi], not the whole of it (the whole would be t itself) -/
def rSlT (K : PySem.W.Frag) : V → Option Int → Option Int → Hp → VK → Prop := fun x lo hi H Q => ∃ a xs, x = .ref a ∧ SqT K H a xs ∧
  ¬ (HT.sIx xs.length 0 lo = 0 ∧ HT.sIx xs.length xs.length hi = xs.length) ∧ ∀ p, H p = none → Q (.ref p) (upd H p (.tup (cutV xs lo hi)))
theorem sl_tup : SlR X (rSlT X.K) := by
  intro pins s σ H x v vl vu lo hi sl Q I rx hs pl pu h
  obtain ⟨a, xs, rfl, hx, hw, q⟩ := h
  cases rx
  obtain ⟨its, r, ht, hz⟩ := I.tuple hx
  have hlen : its.toArray.size = xs.length := by rw [List.size_toArray]; exact r.length.symm
  refine ⟨"tuple", _, PyProof.Rows.slot_tuple_getitem.lookup, ht.typeIs, ?_⟩
  refine HT.getItem_tuple_cut ht hs pl pu (by rw [hlen]; exact hw) ?_ (by rw [hlen]; exact hz)
  rw [hlen]
  refine ⟨.ref s.heap.objs.size, _, I.laid (t' := s.toks) (o := .tup (cutV xs lo hi)) (fun b ob q => Heap.get?_push_of_some _ q) (Nat.le_refl _) ?_, rfl, q _ (I.hok.fresh (Nat.le_refl _))⟩
  exact ⟨Nat.le_trans (cutV_length xs lo hi) hz, _, (r.drop (HT.sIx xs.length 0 lo)).take (HT.sIx xs.length xs.length hi - HT.sIx xs.length 0 lo), IsTup.new _ _⟩

/-! ### t < u, t + u -/
def rLtT (K : PySem.W.Frag) : R2 := fun x y H Q => ∃ a b ns ms, x = .ref a ∧ y = .ref b ∧ SqT K H a (ns.map V.int) ∧ SqT K H b (ms.map V.int) ∧ Q (.bl (HT.lexLt ns ms)) H
theorem op_ltT (hu : X.A.units < cLine) : OpR X (compareOp .Lt) (rLtT X.K) := by
  intro pins s σ H x y v u Q I rx ry h
  obtain ⟨a, b, ns, ms, rfl, rfl, ha, hb, q⟩ := h
  cases rx
  cases ry
  obtain ⟨its, r1, p1, _⟩ := I.tuple ha
  obtain ⟨its2, r2, p2, _⟩ := I.tuple hb
  have i1 : IntsAre its.toArray.toList ns := intsAre_of r1
  have i2 : IntsAre its2.toArray.toList ms := intsAre_of r2
  exact HT.lt_tupInts p1 p2 i1 i2 hu ⟨.bl (HT.lexLt ns ms), H, I, rfl, q⟩
/-- t + u, t not empty: u empty gives t itself -/
def rCatT (K : PySem.W.Frag) : R2 := fun x y H Q => ∃ a b xs ys, x = .ref a ∧ y = .ref b ∧ SqT K H a xs ∧ SqT K H b ys ∧ xs ≠ [] ∧ xs.length + ys.length ≤ sizeLine ∧
  (ys = [] → Q (.ref a) H) ∧ (ys ≠ [] → ∀ p, H p = none → Q (.ref p) (upd H p (.tup (xs ++ ys))))
theorem Vals.nil_iff {xs : List V} {us : List Value} (r : Vals xs us) : us = [] ↔ xs = [] := by
  cases r with
  | nil => simp
  | cons _ _ => simp
theorem op_catT : OpR X (binaryOp .Add) (rCatT X.K) := by
  intro pins s σ H x y v u Q I rx ry h
  obtain ⟨a, b, xs, ys, rfl, rfl, ha, hb, hx, hz, q1, q2⟩ := h
  cases rx
  cases ry
  obtain ⟨its, r1, p1, _⟩ := I.tuple ha
  obtain ⟨its2, r2, p2, _⟩ := I.tuple hb
  refine HT.cat_tup p1 p2 (fun z => hx (r1.nil_iff.mp z)) (fun z => ⟨.ref a, H, I, rfl, q1 (r2.nil_iff.mp z)⟩) (fun z => ?_) (by rw [← r1.length, ← r2.length]; exact hz)
  refine ⟨.ref s.heap.objs.size, _, I.laid (t' := s.toks) (o := .tup (xs ++ ys)) (fun b ob q => Heap.get?_push_of_some _ q) (Nat.le_refl _) ?_, rfl, q2 (fun w => z (r2.nil_iff.mpr w)) _ (I.hok.fresh (Nat.le_refl _))⟩
  exact ⟨by rw [List.length_append]; exact hz, _, r1.append r2, IsTup.new _ _⟩
/-- tuple(t) -/
theorem call_tupleT : CallR X (.type "tuple") (fun xs H Q => ∃ a ys, xs = [.ref a] ∧ SqT X.K H a ys ∧ Q (.ref a) H) := by
  intro pins s σ H xs us Q I r h
  obtain ⟨a, ys, rfl, ha, q⟩ := h
  obtain ⟨u, rfl, ru⟩ := vals1 r
  cases ru
  obtain ⟨its, _, p1, _⟩ := I.tuple ha
  exact call_tuple_same (items := its.toArray) p1 ⟨.ref a, H, I, rfl, q⟩
end
end L2

namespace L2
open PySem PySem.Spec PyProof.Rows

/-! ### places -/
/-- the place that an index of any sign means -/
def ixN (n : Nat) (i : Int) : Option Nat := if 0 ≤ i then (if i < n then some i.toNat else none) else if -(n : Int) ≤ i then some (i + n).toNat else none
def atI {α : Type} (xs : List α) (i : Int) : Option α := (ixN xs.length i).bind fun j => xs[j]?
theorem ixN_seq {n : Nat} {i : Int} {j : Nat} (h : ixN n i = some j) : seqIndex? i n = some j ∧ j < n ∧ -(n : Int) ≤ i ∧ i < n := by
  unfold ixN at h
  by_cases h0 : 0 ≤ i
  · rw [if_pos h0] at h
    by_cases h1 : i < n
    · rw [if_pos h1] at h
      have e : i.toNat = j := Option.some.inj h
      exact ⟨by rw [seqIndex_of h0 h1, e], by omega, by omega, h1⟩
    · rw [if_neg h1] at h; cases h
  · rw [if_neg h0] at h
    by_cases h1 : -(n : Int) ≤ i
    · rw [if_pos h1] at h
      have e : (i + n).toNat = j := Option.some.inj h
      exact ⟨by rw [seqIndex_neg (by omega) h1, e], by omega, h1, by omega⟩
    · rw [if_neg h1] at h; cases h
theorem atI_get {α : Type} {xs : List α} {i : Int} {v : α} (h : atI xs i = some v) : ∃ j, seqIndex? i xs.length = some j ∧ xs[j]? = some v ∧ j < xs.length ∧ -(xs.length : Int) ≤ i ∧ i < xs.length := by
  unfold atI at h
  cases e : ixN xs.length i with
  | none => rw [e] at h; cases h
  | some j =>
    rw [e] at h
    obtain ⟨h1, h2, h3, h4⟩ := ixN_seq e
    exact ⟨j, h1, h, h2, h3, h4⟩
theorem atI_nat {α : Type} {xs : List α} {j : Nat} {v : α} (h : xs[j]? = some v) : atI xs (j : Int) = some v := by
  have hj : j < xs.length := (List.getElem?_eq_some_iff.mp h).1
  have e : ixN xs.length (j : Int) = some j := by
    unfold ixN
    rw [if_pos (by omega), if_pos (by omega)]; simp
  unfold atI; rw [e]; exact h
theorem atI_last {α : Type} (xs : List α) (v : α) : atI (xs ++ [v]) (-1) = some v := by
  have hl : (xs ++ [v]).length = xs.length + 1 := by simp
  have e : ixN (xs ++ [v]).length (-1) = some xs.length := by
    unfold ixN
    rw [hl, if_neg (by decide), if_pos (by omega)]
    congr 1
    omega
  unfold atI
  rw [e]
  show (xs ++ [v])[xs.length]? = some v
  simp

/-! ### what may be subscripted -/
/-- what stands as an index of a plain subscript -/
def PlainIx (b : Expr) : Prop := ∀ o i, subscripted b false o i = operate [o, i] (getItem o i)
/-- a subscript by values -/
def IxR (X : Cx) (r : R2) : Prop :=
  ∀ (value slice : Expr) (pins : List (Addr × Obj)) (s : Shared) (σ : St) (H : Hp) (x y : V) (v u : Value) (Q : VK), Inv X pins σ H s → RelV x v → RelV y u → r x y H Q →
    subscripted slice false v u = operate [v, u] (getItem v u) → wpAny (model X.prog X.w) X.A (subscriptTail value slice v u) (EP X pins σ Q) X.xe s
/-- a call of a builtin's method by values: the receiver, the arguments -/
def MtR (X : Cx) (id : String) (r : V → List V → Hp → VK → Prop) : Prop :=
  ∀ (pins : List (Addr × Obj)) (s : Shared) (σ : St) (H : Hp) (x : V) (xs : List V) (v : Value) (us : List Value) (Q : VK), Inv X pins σ H s → RelV x v → Vals xs us → r x xs H Q →
    wpAny (model X.prog X.w) X.A (call (.builtin id) (v :: us)) (EP X pins σ Q) X.xe s
section
variable {X : Cx} {a b : Expr} {ta tb : TE} {pos : Pos}
theorem IxR.or {r r' : R2} (h : IxR X r) (h' : IxR X r') : IxR X (fun x y H Q => r x y H Q ∨ r' x y H Q) := by
  intro value slice pins s σ H x y v u Q I rx ry q hs
  rcases q with q | q
  · exact h value slice pins s σ H x y v u Q I rx ry q hs
  · exact h' value slice pins s σ H x y v u Q I rx ry q hs
theorem MtR.or {id : String} {r r' : V → List V → Hp → VK → Prop} (h : MtR X id r) (h' : MtR X id r') : MtR X id (fun x xs H Q => r x xs H Q ∨ r' x xs H Q) := by
  intro pins s σ H x xs v us Q I rx rs q
  rcases q with q | q
  · exact h pins s σ H x xs v us Q I rx rs q
  · exact h' pins s σ H x xs v us Q I rx rs q
/-- a[b] -/
theorem pe_ix {r : R2} (hr : IxR X r) (ha : PE X a ta) (hb : PE X b tb) (hs : PlainIx b) : PE X (.Subscript a b pos) (tOp r ta tb) := by
  intro pins s σ H Q I h
  exact Subscript_ (binT ha hb I h fun v u s2 x y H2 I2 rx ry q => hr a b pins s2 σ H2 x y v u Q I2 rx ry q (hs _ _))

def rIxL (K : PySem.W.Frag) : R2 := fun x y H Q => ∃ p xs i v, x = .ref p ∧ y = .int i ∧ SqL K H p xs ∧ atI xs i = some v ∧ Q v H
def rIxT (K : PySem.W.Frag) : R2 := fun x y H Q => ∃ p xs i v, x = .ref p ∧ y = .int i ∧ SqT K H p xs ∧ atI xs i = some v ∧ Q v H
def rIxS : R2 := fun x y H Q => ∃ z i c, x = .str z ∧ y = .int i ∧ z.length ≤ sizeLine ∧ atI z.cps.toList i = some c ∧ Q (.str ⟨#[c]⟩) H
theorem ix_list : IxR X (rIxL X.K) := by
  intro value slice pins s σ H x y v u Q I rx ry h hs
  obtain ⟨p, xs, i, z, rfl, rfl, hq, he, q⟩ := h
  cases rx
  obtain ⟨t, rfl⟩ := ry
  obtain ⟨its, r, pl, hz⟩ := I.list hq
  obtain ⟨j, h1, h2, h3, h4, h5⟩ := atI_get he
  obtain ⟨w, ew, rw'⟩ := r.get h2
  have hl := r.length
  have hn := line63
  have fin : EP X pins σ Q w s := ⟨z, H, I, rw', q⟩
  by_cases h0 : 0 ≤ i
  · have hj : i.toNat = j := by
      rw [seqIndex_of h0 h5] at h1
      exact Option.some.inj h1
    exact item_listR pl.isList h0 (by omega) (by rw [hj]; simpa using ew) fin hs
  · have hj : (i + (its.toArray.size : Int)).toNat = j := by
      rw [seqIndex_neg (by omega) h4] at h1
      rw [List.size_toArray, ← hl]
      exact Option.some.inj h1
    exact subscriptTail_builtinR (x := w) pl.isList.typeIs slot_list_getitem.lookup
      (wpAny_getItem_list_neg (Q := fun r s' => r = w ∧ EP X pins σ Q r s') pl.isList (by omega) (by rw [List.size_toArray] <;> omega) (by omega) (by rw [hj]; simpa using ew) ⟨rfl, fin⟩) hs
theorem ix_tup : IxR X (rIxT X.K) := by
  intro value slice pins s σ H x y v u Q I rx ry h hs
  obtain ⟨p, xs, i, z, rfl, rfl, hq, he, q⟩ := h
  cases rx
  obtain ⟨t, rfl⟩ := ry
  obtain ⟨its, r, pl, hz⟩ := I.tuple hq
  obtain ⟨j, h1, h2, h3, h4, h5⟩ := atI_get he
  obtain ⟨w, ew, rw'⟩ := r.get h2
  have hl := r.length
  have hn := line63
  have fin : EP X pins σ Q w s := ⟨z, H, I, rw', q⟩
  exact subscriptTail_builtinR (x := w) pl.typeIs slot_tuple_getitem.lookup
    (getItem_tuple (j := j) (Q := fun r s' => r = w ∧ EP X pins σ Q r s') pl (by omega) (by omega) (by rw [List.size_toArray, ← hl]; exact h1) (by simpa using ew) ⟨rfl, fin⟩) hs
theorem ix_str : IxR X rIxS := by
  intro value slice pins s σ H x y v u Q I rx ry h hs
  obtain ⟨z, i, c, rfl, rfl, hz, he, q⟩ := h
  obtain ⟨t, rfl⟩ := rx
  obtain ⟨t', rfl⟩ := ry
  obtain ⟨j, h1, h2, h3, h4, h5⟩ := atI_get he
  have hl : z.cps.toList.length = z.length := by simp [Str.length]
  rw [hl] at h1 h4 h5
  have hn := line63
  exact tail_any (typeIs_str s z t) slot_str_getitem.lookup (getItem_str (c := c) (by
    have e1 : decide (i < -(2 ^ 63 : Int)) = false := decide_eq_false (by omega)
    have e2 : decide (i ≥ 2 ^ 63) = false := decide_eq_false (by omega)
    rw [e1, e2, Bool.or_false]) (by rw [h1]; simpa using h2) ⟨.str ⟨#[c]⟩, H, I.tok _, ⟨_, rfl⟩, q⟩) hs
/-- list, tuple or str -/
def rIx (K : PySem.W.Frag) : R2 := fun x y H Q => rIxL K x y H Q ∨ rIxT K x y H Q ∨ rIxS x y H Q
theorem ix_seq : IxR X (rIx X.K) := ix_list.or (ix_tup.or ix_str)

/-! ### xs[i] = v, any sign -/
/-- the list's object behind a store -/
theorem mapSeq_set (its : List Value) (n j : Nat) (u : Value) : Obj.mapSeq (·.setIfInBounds j u) { cls := .type "list", data := .seq its.toArray n } = { cls := .type "list", data := .seq (its.set j u).toArray n } := by
  simp [Obj.mapSeq]
theorem Inv.lst {pins : List (Addr × Obj)} {σ : St} {H : Hp} {s : Shared} {p : Addr} {xs : List V} (I : Inv X pins σ H s) (h : H p = some (.lst xs)) :
    ∃ (its : List Value) (n : Nat), Vals xs its ∧ s.heap.get? p = some { cls := .type "list", data := .seq its.toArray n } ∧ xs.length ≤ sizeLine := by
  obtain ⟨z, its, n, r, e⟩ := I.hok p _ h
  exact ⟨its, n, r, e, z⟩
/-- the list at p is written by an update of its object -/
theorem Inv.lstUpd {pins : List (Addr × Obj)} {σ : St} {H : Hp} {s : Shared} {p : Addr} {xs ys : List V} {its its' : List Value} {n n' : Nat} {f : Obj → Obj} (I : Inv X pins σ H s) (h : H p = some (.lst xs))
    (ho : s.heap.get? p = some { cls := .type "list", data := .seq its.toArray n }) (hf : f { cls := .type "list", data := .seq its.toArray n } = { cls := .type "list", data := .seq its'.toArray n' }) (r : Vals ys its') (hz : ys.length ≤ sizeLine) (t : Nat) :
    Inv X pins σ (upd H p (.lst ys)) { s with heap := s.heap.update p f, toks := t } := by
  have e : (s.heap.update p f).get? p = some { cls := .type "list", data := .seq its'.toArray n' } := by
    rw [Heap.get?_update_self f ho (by rw [hf] <;> rfl), hf]
  refine I.write (x := p) (e := p) (by rw [h]; trivial) (.inl rfl) (fun b u hb q => (Heap.get?_update_other _ _ (Ne.symm hb)).trans q) ⟨_, e⟩ ?_
  exact ⟨hz, its', n', r, e⟩
def rSetL : V → V → V → Hp → (Hp → Prop) → Prop := fun o i v H Q => ∃ p xs k j, o = .ref p ∧ i = .int k ∧ H p = some (.lst xs) ∧ ixN xs.length k = some j ∧ Q (upd H p (.lst (xs.set j v)))
theorem set_list : PSet X rSetL := by
  intro pins s σ H o i v ov iv u Q I ro ri rv h
  obtain ⟨p, xs, k, j, rfl, rfl, hp, hj, q⟩ := h
  cases ro
  obtain ⟨t, rfl⟩ := ri
  obtain ⟨its, n, r, ho, hz⟩ := I.lst hp
  obtain ⟨h1, h2, h3, h4⟩ := ixN_seq hj
  have hl := r.length
  have hn := line63
  have I' : Inv X pins σ (upd H p (.lst (xs.set j v))) { s with heap := s.heap.update p (Obj.mapSeq (·.setIfInBounds j u)) } :=
    I.lstUpd hp ho (mapSeq_set its n j u) (r.set rv j) (by rw [List.length_set]; exact hz) s.toks
  by_cases h0 : 0 ≤ k
  · have hk : k.toNat = j := by
      rw [seqIndex_of h0 h4] at h1
      exact Option.some.inj h1
    exact PySem.W.ki_setAt ho h0 (by omega) (by rw [List.size_toArray, ← hl]; exact h4) (by rw [hk]; exact ⟨_, I', q⟩)
  · have hk : (k + (its.toArray.size : Int)).toNat = j := by
      rw [seqIndex_neg (by omega) h3] at h1
      rw [List.size_toArray, ← hl]
      exact Option.some.inj h1
    exact PySem.W.ki_setBack ho (by omega) (by rw [List.size_toArray, ← hl]; exact h3) (by omega) (by rw [hk]; exact ⟨_, I', q⟩)

/-! ### slices -/
theorem slice_bounds (lo hi : Option Int) (n : Nat) : (sliceBounds lo hi none n).1 = ((HT.sIx n 0 lo : Nat) : Int) ∧ (sliceBounds lo hi none n).2.1 = ((HT.sIx n n hi : Nat) : Int) ∧ (sliceBounds lo hi none n).2.2 = 1 := by
  refine ⟨?_, ?_, rfl⟩
  · cases lo with
    | none => simp [sliceBounds, HT.sIx]
    | some i =>
      simp only [sliceBounds, HT.sIx, Option.getD_none, show (1 : Int) > 0 by decide, if_true]
      by_cases h : i < 0
      · simp only [h, if_true] <;> omega
      · simp only [h, if_false] <;> omega
  · cases hi with
    | none => simp [sliceBounds, HT.sIx]
    | some i =>
      simp only [sliceBounds, HT.sIx, Option.getD_none, show (1 : Int) > 0 by decide, if_true]
      by_cases h : i < 0
      · simp only [h, if_true] <;> omega
      · simp only [h, if_false] <;> omega
theorem slicePick_cut (its : List Value) (lo hi : Option Int) : slicePick its.toArray lo hi none = ((its.drop (HT.sIx its.length 0 lo)).take (HT.sIx its.length its.length hi - HT.sIx its.length 0 lo)).toArray := by
  obtain ⟨h1, h2, h3⟩ := slice_bounds lo hi its.toArray.size
  unfold slicePick
  rw [h1, h2, h3]
  simp only [sliceRange_one, pick_run, List.size_toArray] <;> rfl
/-- xs[lo:hi] of a list: a new list -/
def rSlL (K : PySem.W.Frag) : V → Option Int → Option Int → Hp → VK → Prop := fun x lo hi H Q => ∃ a xs, x = .ref a ∧ SqL K H a xs ∧ ∀ p, H p = none → Q (.ref p) (upd H p (.lst (cutV xs lo hi)))
theorem sl_list : SlR X (rSlL X.K) := by
  intro pins s σ H x v vl vu lo hi sl Q I rx hs pl pu h
  obtain ⟨a, xs, rfl, hx, q⟩ := h
  cases rx
  obtain ⟨its, r, ht, hz⟩ := I.list hx
  have hlen := r.length
  refine ⟨"list", _, slot_list_getitem.lookup, ht.isList.typeIs, ?_⟩
  refine wpAny_getItem_list_slice ht.isList hs pl pu .none (by simp) ?_ (by rw [List.size_toArray] <;> omega)
  rw [slicePick_cut, ← hlen]
  refine ⟨.ref s.heap.objs.size, _, I.laid (t' := s.toks) (o := .lst (cutV xs lo hi)) (fun b ob q => Heap.get?_push_of_some _ q) (Nat.le_refl _) ?_, rfl, q _ (I.hok.fresh (Nat.le_refl _))⟩
  exact ⟨Nat.le_trans (cutV_length xs lo hi) hz, _, 0, (r.drop (HT.sIx xs.length 0 lo)).take (HT.sIx xs.length xs.length hi - HT.sIx xs.length 0 lo), Heap.get?_push_size _ rfl⟩

/-! ### in, not in: flat items -/
def flatV : V → Bool
  | .non => true
  | .bl _ => true
  | .int _ => true
  | .str _ => true
  | _ => false
/-- == of flat values -/
def eqV : V → V → Bool
  | .non, .non => true
  | .bl a, .bl b => a == b
  | .bl a, .int b => (if a then 1 else 0) == b
  | .int a, .bl b => a == (if b then 1 else 0)
  | .int a, .int b => a == b
  | .str a, .str b => a == b
  | _, _ => false
theorem eqAt_V {A : Around} {s : Shared} {y x : V} {u v : Value} (ry : RelV y u) (rx : RelV x v) (fy : flatV y = true) (fx : flatV x = true) : SeqAt.EqAt A s u v (eqV y x) := by
  cases y with
  | non =>
    cases ry
    cases x with
    | non => cases rx; exact SeqAt.EqAt.same _
    | bl b => cases rx; exact SeqAt.EqAt.none_bool b
    | int b => obtain ⟨t, rfl⟩ := rx; exact SeqAt.EqAt.none_int b t
    | str b => obtain ⟨t, rfl⟩ := rx; exact SeqAt.EqAt.none_str b t
    | _ => exact absurd (show false = true from fx) Bool.false_ne_true
  | bl a =>
    cases ry
    cases x with
    | non => cases rx; exact SeqAt.EqAt.bool_none a
    | bl b => cases rx; exact SeqAt.EqAt.bool_bool a b
    | int b => obtain ⟨t, rfl⟩ := rx; exact SeqAt.EqAt.bool_int a b t
    | str b => obtain ⟨t, rfl⟩ := rx; exact SeqAt.EqAt.bool_str a b t
    | _ => exact absurd (show false = true from fx) Bool.false_ne_true
  | int a =>
    obtain ⟨t', rfl⟩ := ry
    cases x with
    | non => cases rx; exact SeqAt.EqAt.int_none a t'
    | bl b => cases rx; exact SeqAt.EqAt.int_bool a t' b
    | int b => obtain ⟨t, rfl⟩ := rx; exact SeqAt.EqAt.int_int a t' b t
    | str b => obtain ⟨t, rfl⟩ := rx; exact SeqAt.EqAt.int_str a t' b t
    | _ => exact absurd (show false = true from fx) Bool.false_ne_true
  | str a =>
    obtain ⟨t', rfl⟩ := ry
    cases x with
    | non => cases rx; exact SeqAt.EqAt.str_none a t'
    | bl b => cases rx; exact SeqAt.EqAt.str_bool a t' b
    | int b => obtain ⟨t, rfl⟩ := rx; exact SeqAt.EqAt.str_int a t' b t
    | str b => obtain ⟨t, rfl⟩ := rx; exact SeqAt.EqAt.str_str a t' b t
    | _ => exact absurd (show false = true from fx) Bool.false_ne_true
  | _ => exact absurd (show false = true from fy) Bool.false_ne_true
/-- the items' answers, read off the values (a value's own answer does not lean on its token) -/
def eqU (x : V) (u : Value) : Bool := match u with
  | .none => eqV .non x
  | .bool b => eqV (.bl b) x
  | .int i _ => eqV (.int i) x
  | .str z _ => eqV (.str z) x
  | _ => false
theorem eqU_of {x y : V} {u : Value} (r : RelV y u) (f : flatV y = true) : eqU x u = eqV y x := by
  cases y with
  | non => cases r; rfl
  | bl b => cases r; rfl
  | int i => obtain ⟨t, rfl⟩ := r; rfl
  | str z => obtain ⟨t, rfl⟩ := r; rfl
  | _ => exact absurd (show false = true from f) Bool.false_ne_true
theorem any_eqU {x : V} : ∀ {xs : List V} {us : List Value}, Vals xs us → xs.all flatV = true → us.any (eqU x) = xs.any fun y => eqV y x
  | _, _, .nil, _ => rfl
  | y :: xs, u :: us, .cons r t, f => by
    rw [List.all_cons, Bool.and_eq_true] at f
    rw [List.any_cons, List.any_cons, eqU_of r f.1, any_eqU t f.2]
theorem mem_eqAt {A : Around} {s : Shared} {x : V} {v : Value} (rx : RelV x v) (fx : flatV x = true) : ∀ {xs : List V} {us : List Value}, Vals xs us → xs.all flatV = true → ∀ u ∈ us, SeqAt.EqAt A s u v (eqU x u)
  | _, _, .nil, _ => fun u hu => by cases hu
  | y :: xs, u :: us, .cons r t, f => fun u' hu => by
    rw [List.all_cons, Bool.and_eq_true] at f
    rcases List.mem_cons.mp hu with rfl | hu
    · rw [eqU_of r f.1]; exact eqAt_V r rx f.1 fx
    · exact mem_eqAt rx fx t f.2 u' hu
def inV (x : V) (xs : List V) : Bool := xs.any fun y => eqV y x
/-- x in a list or tuple of flat items -/
def rIn (K : PySem.W.Frag) (neg : Bool) : R2 := fun x y H Q => ∃ p xs, y = .ref p ∧ (SqL K H p xs ∨ SqT K H p xs) ∧ flatV x = true ∧ xs.all flatV = true ∧ Q (.bl (if neg then !inV x xs else inV x xs)) H
theorem op_in_seq : OpR X (compareOp .In) (rIn X.K false) := by
  intro pins s σ H x y v u Q I rx ry h
  obtain ⟨p, xs, rfl, hq, fx, fs, q⟩ := h
  cases ry
  rcases hq with hq | hq
  · obtain ⟨its, r, pl, hz⟩ := I.list hq
    refine SeqAt.in_listAt (eqU x) pl.isList (fun w hw => mem_eqAt rx fx r fs w (by simpa using hw)) ⟨.bl _, H, I, rfl, ?_⟩
    rw [show its.toArray.any (eqU x) = its.any (eqU x) by simp, any_eqU r fs]
    exact q
  · obtain ⟨its, r, pl, hz⟩ := I.tuple hq
    refine SeqAt.in_tupleAt (eqU x) pl (fun w hw => mem_eqAt rx fx r fs w (by simpa using hw)) ⟨.bl _, H, I, rfl, ?_⟩
    rw [show its.toArray.any (eqU x) = its.any (eqU x) by simp, any_eqU r fs]
    exact q
theorem op_notIn_seq : OpR X (compareOp .NotIn) (rIn X.K true) := by
  intro pins s σ H x y v u Q I rx ry h
  obtain ⟨p, xs, rfl, hq, fx, fs, q⟩ := h
  cases ry
  rcases hq with hq | hq
  · obtain ⟨its, r, pl, hz⟩ := I.list hq
    refine SeqAt.notIn_listAt (eqU x) pl.isList (fun w hw => mem_eqAt rx fx r fs w (by simpa using hw)) ⟨.bl _, H, I, rfl, ?_⟩
    rw [show its.toArray.any (eqU x) = its.any (eqU x) by simp, any_eqU r fs]
    exact q
  · obtain ⟨its, r, pl, hz⟩ := I.tuple hq
    refine SeqAt.notIn_tupleAt (eqU x) pl (fun w hw => mem_eqAt rx fx r fs w (by simpa using hw)) ⟨.bl _, H, I, rfl, ?_⟩
    rw [show its.toArray.any (eqU x) = its.any (eqU x) by simp, any_eqU r fs]
    exact q
theorem op_notIn_str : OpR X (compareOp .NotIn) (fun x y H Q => ∃ i j, x = .str i ∧ y = .str j ∧ Q (.bl (!(!(Builtin.Str.occurrences j i 0 j.length 1).isEmpty))) H) := by
  intro pins s σ H x y v u Q I rx ry h
  obtain ⟨i, j, rfl, rfl, q⟩ := h
  obtain ⟨t, rfl⟩ := rx
  obtain ⟨t', rfl⟩ := ry
  exact notIn_str ⟨.bl _, H, I, rfl, q⟩

/-! ### len, list(x), tuple(x) of any list or tuple that is read -/
theorem call_len_seq : CallR X (.builtin "len") (fun xs H Q => ∃ p ys, xs = [.ref p] ∧ (SqL X.K H p ys ∨ SqT X.K H p ys) ∧ Q (.int ys.length) H) := by
  intro pins s σ H xs us Q I r h
  obtain ⟨p, ys, rfl, hq, q⟩ := h
  obtain ⟨u, rfl, rx⟩ := vals1 r
  cases rx
  have hn := line63
  rcases hq with hq | hq
  · obtain ⟨its, r', pl, hz⟩ := I.list hq
    have hlen := r'.length
    exact Calls.call_len_list pl.isList (by simp only [List.size_toArray] <;> omega) ⟨.int ys.length, H, I.tok _, ⟨s.toks + 1, by rw [List.size_toArray, hlen]⟩, q⟩
  · obtain ⟨its, r', pl, hz⟩ := I.tuple hq
    have hlen := r'.length
    exact len_tuple pl (by simp only [List.size_toArray] <;> omega) ⟨.int ys.length, H, I.tok _, ⟨s.toks + 1, by rw [List.size_toArray, hlen]⟩, q⟩
theorem call_len_str : CallR X (.builtin "len") (fun xs H Q => ∃ z, xs = [.str z] ∧ z.length ≤ sizeLine ∧ Q (.int z.length) H) := by
  intro pins s σ H xs us Q I r h
  obtain ⟨z, rfl, hz, q⟩ := h
  obtain ⟨u, rfl, t, rfl⟩ := vals1 r
  have hn := line63
  exact len_str (by omega) ⟨.int z.length, H, I.tok _, ⟨_, rfl⟩, q⟩
theorem CallR.or {f : Value} {r r' : List V → Hp → VK → Prop} (h : CallR X f r) (h' : CallR X f r') : CallR X f (fun xs H Q => r xs H Q ∨ r' xs H Q) := by
  intro pins s σ H xs us Q I rs q
  rcases q with q | q
  · exact h pins s σ H xs us Q I rs q
  · exact h' pins s σ H xs us Q I rs q
theorem call_list_of : CallR X (.type "list") (fun xs H Q => ∃ p ys, xs = [.ref p] ∧ (SqL X.K H p ys ∨ SqT X.K H p ys) ∧ ∀ l, H l = none → Q (.ref l) (upd H l (.lst ys))) := by
  intro pins s σ H xs us Q I r h
  obtain ⟨p, ys, rfl, hq, q⟩ := h
  obtain ⟨u, rfl, rx⟩ := vals1 r
  cases rx
  have fin : ∀ (its : List Value), Vals ys its → ys.length ≤ sizeLine → ∀ (h' : Heap) (c' : Nat), (∀ b o', s.heap.get? b = some o' → h'.get? b = some o') →
      h'.get? s.heap.objs.size = some { cls := .type "list", dict := none, data := .seq its.toArray c', slots := #[] } → EP X pins σ Q (.ref s.heap.objs.size) { s with heap := h' } := fun its r' hz h' c' kp e =>
    ⟨.ref s.heap.objs.size, _, I.laid (t' := s.toks) kp (Nat.le_refl _) (show ObjOk X.prog X.w _ h' _ (.lst ys) from ⟨hz, its, c', r', e⟩), rfl, q _ (I.hok.fresh (Nat.le_refl _))⟩
  rcases hq with hq | hq
  · obtain ⟨its, r', pl, hz⟩ := I.list hq
    have hlen := r'.length
    obtain ⟨o, ho, hc, n, hd⟩ := pl.isList
    exact call_list_seq p (.inl rfl) ho hc hd (fun h' c' kp e => fin its r' hz h' c' kp e) (by simp only [List.size_toArray] <;> omega)
  · obtain ⟨its, r', pl, hz⟩ := I.tuple hq
    have hlen := r'.length
    obtain ⟨o, ho, hc, n, hd⟩ := pl
    exact call_list_seq p (.inr rfl) ho hc hd (fun h' c' kp e => fin its r' hz h' c' kp e) (by simp only [List.size_toArray] <;> omega)
theorem call_tuple_of : CallR X (.type "tuple") (fun xs H Q => ∃ p ys, xs = [.ref p] ∧ ((SqL X.K H p ys ∧ ∀ l, H l = none → Q (.ref l) (upd H l (.tup ys))) ∨ (SqT X.K H p ys ∧ Q (.ref p) H))) := by
  intro pins s σ H xs us Q I r h
  obtain ⟨p, ys, rfl, h⟩ := h
  obtain ⟨u, rfl, rx⟩ := vals1 r
  cases rx
  rcases h with ⟨hq, q⟩ | ⟨hq, q⟩
  · obtain ⟨its, r', pl, hz⟩ := I.list hq
    have hlen := r'.length
    refine call_tuple_list pl.isList (fun h' kp => ?_) (by simp only [List.size_toArray] <;> omega)
    have I1 : Inv X pins σ H { s with heap := h' } := I.kept (t' := s.toks) kp
    have I2 : Inv X pins σ (upd H h'.objs.size (.tup ys)) { s with heap := h'.push { cls := .type "tuple", data := .seq its.toArray } } :=
      I1.laid (t' := s.toks) (fun b o e => Heap.get?_push_of_some _ e) (Nat.le_refl _) (show ObjOk X.prog X.w _ _ _ (.tup ys) from ⟨hz, its, r', IsTup.new _ _⟩)
    exact ⟨.ref h'.objs.size, _, I2, rfl, q _ (I1.hok.fresh (Nat.le_refl _))⟩
  · obtain ⟨its, r', pl, hz⟩ := I.tuple hq
    exact call_tuple_same pl ⟨.ref p, H, I, rfl, q⟩

/-! ### the call of a builtin's method: o.m(..) -/
/-- the value is of that builtin type -/
def tyV (K : PySem.W.Frag) (T : String) (x : V) (H : Hp) : Prop := match x with
  | .str _ => T = "str"
  | .int _ => T = "int"
  | .ref p => (T = "list" ∧ ∃ xs, SqL K H p xs) ∨ (T = "tuple" ∧ ∃ o, K.lookup p = some o ∧ o.cls = .type "tuple" ∧ o.dict = none) ∨
      (T = "dict" ∧ ((∃ kvs, H p = some (.dK kvs)) ∨ ∃ kvs, H p = some (.dT kvs))) ∨ (T = "set" ∧ ∃ S n, H p = some (.set S n))
  | _ => False
theorem tyV_is {pins : List (Addr × Obj)} {σ : St} {H : Hp} {s : Shared} {T : String} {x : V} {v : Value} (I : Inv X pins σ H s) (r : RelV x v) (ty : tyV X.K T x H) :
    s.TypeIs v T ∧ ∀ a, v = .ref a → ∃ ob, s.heap.get? a = some ob ∧ ob.dict = none := by
  cases x with
  | str z =>
    obtain ⟨t, rfl⟩ := r
    cases (show T = "str" from ty)
    exact ⟨typeIs_str s z t, fun _ e => nomatch e⟩
  | int i =>
    obtain ⟨t, rfl⟩ := r
    cases (show T = "int" from ty)
    exact ⟨typeIs_int s i t, fun _ e => nomatch e⟩
  | ref p =>
    cases r
    rcases ty with ⟨rfl, xs, hq⟩ | ⟨rfl, o, hk, hc, hd⟩ | ⟨rfl, hk⟩ | ⟨rfl, S, n, hk⟩
    · obtain ⟨its, _, pl, _⟩ := I.list hq
      refine ⟨pl.isList.typeIs, fun a e => ?_⟩
      cases e
      obtain ⟨o, n, e, c, hd, _⟩ := pl
      exact ⟨o, e, hd⟩
    · refine ⟨⟨o, I.kIn p o hk, hc⟩, fun a e => ?_⟩
      cases e
      exact ⟨o, I.kIn _ o hk, hd⟩
    · have z : ∃ o, s.heap.get? p = some o ∧ o.ExactDict := by
        rcases hk with ⟨kvs, hk⟩ | ⟨kvs, hk⟩
        · obtain ⟨_, _, _, _, o, _, _, e, ex, _⟩ := I.hok p _ hk
          exact ⟨o, e, ex⟩
        · obtain ⟨_, _, _, _, o, _, _, e, ex, _⟩ := I.hok p _ hk
          exact ⟨o, e, ex⟩
      obtain ⟨o, e, ex⟩ := z
      refine ⟨⟨o, e, ex.1⟩, fun a e2 => ?_⟩
      cases e2
      exact ⟨o, e, ex.2.1⟩
    · obtain ⟨o, _, _, _, e, ex, _⟩ := I.hok p _ hk
      refine ⟨⟨o, e, ex.1⟩, fun a e2 => ?_⟩
      cases e2
      exact ⟨o, e, ex.2.1⟩
  | _ => exact False.elim ty
def tBM0 (K : PySem.W.Frag) (T : String) (r : V → List V → Hp → VK → Prop) (to : TE) : TE := fun σ H Q => to σ H fun x H1 => tyV K T x H1 ∧ r x [] H1 Q
def tBM (K : PySem.W.Frag) (T : String) (r : V → List V → Hp → VK → Prop) (to : TE) (t : TA) : TE := fun σ H Q => to σ H fun x H1 => tyV K T x H1 ∧ t σ H1 fun xs H2 => r x xs H2 Q
variable {o e : Expr} {es : List Expr} {to : TE} {t : TA} {name : Str} {apos cpos : Pos} {T id : String} {r : V → List V → Hp → VK → Prop}
theorem pe_bm0 (pa : PlainAttrs T) (slot : Slot T name id) (hty : typeOf (.builtin id) = pure (.type "method_descriptor")) (hm : MtR X id r) (ho : PE X o to)
    (hbase : attributeBase o name X.env (eval o X.env) = eval o X.env := by rfl) (hline : (apos.endLine == cpos.line) = true := by rfl) : PE X (.Call (.Attribute o name apos) [] [] cpos) (tBM0 X.K T r to) := by
  intro pins s σ H Q I h
  refine wpAny_Call_method0_late hbase hline (thn (ho pins s σ H _ I h) fun v s1 ⟨x, H1, I1, r1, ty, q1⟩ => ?_)
  obtain ⟨h1, h2⟩ := tyV_is I1 r1 ty
  exact ⟨T, id, pa, slot, hty, h1, h2, Calls.callWith_builtin rfl (PySem.evalArgs_none (hm pins s1 σ H1 x [] v [] Q I1 r1 .nil q1))⟩
theorem pe_bm (pa : PlainAttrs T) (slot : Slot T name id) (hty : typeOf (.builtin id) = pure (.type "method_descriptor")) (hm : MtR X id r) (ho : PE X o to) (ha : PA X (e :: es) t)
    (hbase : attributeBase o name X.env (eval o X.env) = eval o X.env := by rfl)
    (hfew : ((backTo cpos (starEach (e :: es) X.env)).all (fun x => !x.1) && (backToKw cpos (keywordEach [] X.env)).all (fun x => x.1.isSome)
      && decide ((e :: es).length + ([] : List Keyword).length + (if ([] : List Keyword).isEmpty then 0 else 1) < 30)) = true := by rfl)
    (hline : (apos.endLine == cpos.line) = true := by rfl) (hs : starEach (e :: es) X.env = (false, eval e X.env) :: starEach es X.env := by rfl) (hplain : (backTo cpos (starEach es X.env)).any (·.1) = false := by rfl) :
    PE X (.Call (.Attribute o name apos) (e :: es) [] cpos) (tBM X.K T r to t) := by
  intro pins s σ H Q I h
  refine wpAny_Call_method_late hbase hfew hline rfl (thn (ho pins s σ H _ I h) fun v s1 ⟨x, H1, I1, r1, ty, q1⟩ => ?_)
  obtain ⟨h1, h2⟩ := tyV_is I1 r1 ty
  refine ⟨T, id, pa, slot, hty, h1, h2, ?_⟩
  have hA := ha cpos pins s1 σ H1 _ I1 q1
  rw [hs] at hA ⊢
  refine Calls.callWith_builtin (by show (false || (backTo cpos (starEach es X.env)).any (·.1)) = false; rw [hplain] <;> rfl) (Calls.evalArgs_plain ?_)
  exact thn hA fun us s2 ⟨vs, H2, I2, r2, q2⟩ => hm pins s2 σ H2 x vs v us Q I2 r1 r2 q2
/- xs.append(e), list.index on a module's tuple .. are MtR facts of 06m -/
end
end L2

namespace L2
open PySem PySem.Spec PyProof.Rows

def MtM (X : Cx) (id : String) (r : V → List V → Hp → VK → Prop) : Prop :=
  ∀ (pins : List (Addr × Obj)) (s : Shared) (σ : St) (H : Hp) (x : V) (xs : List V) (v : Value) (us : List Value) (Q : VK), Inv X pins σ H s → RelV x v → Vals xs us → r x xs H Q →
    wpAny (model X.prog X.w) X.A (call (.builtin id) (v :: us)) (EP X pins σ Q) X.xe s

/-! ### lists of values -/
theorem Vals.one : ∀ {x : V} {us : List Value}, Vals [x] us → ∃ u, us = [u] ∧ RelV x u
  | _, _, .cons r .nil => ⟨_, rfl, r⟩
theorem Vals.two : ∀ {x y : V} {us : List Value}, Vals [x, y] us → ∃ u v, us = [u, v] ∧ RelV x u ∧ RelV y v
  | _, _, _, .cons r (.cons q .nil) => ⟨_, _, rfl, r, q⟩
theorem Vals.zero : ∀ {us : List Value}, Vals [] us → us = []
  | _, .nil => rfl
theorem Vals.dropLast {xs : List V} {us : List Value} (h : Vals xs us) : Vals xs.dropLast us.dropLast := by
  induction h with
  | nil => exact .nil
  | cons r t ih =>
    cases t with
    | nil => exact .nil
    | cons q t' => exact .cons r ih
theorem Vals.eraseIdx : ∀ {xs : List V} {us : List Value} (i : Nat), Vals xs us → Vals (xs.eraseIdx i) (us.eraseIdx i)
  | _, _, _, .nil => .nil
  | _, _, 0, .cons _ t => t
  | _, _, i + 1, .cons r t => .cons r (Vals.eraseIdx i t)
theorem Vals.reverse {xs : List V} {us : List Value} (h : Vals xs us) : Vals xs.reverse us.reverse := by
  induction h with
  | nil => exact .nil
  | cons r t ih => rw [List.reverse_cons, List.reverse_cons]; exact Vals.append ih (.cons r .nil)
theorem Vals.rep {xs : List V} {us : List Value} (h : Vals xs us) : ∀ k : Nat, Vals (List.replicate k xs).flatten (List.replicate k us).flatten
  | 0 => .nil
  | k + 1 => by
    rw [List.replicate_succ, List.replicate_succ, List.flatten_cons, List.flatten_cons]
    exact Vals.append h (Vals.rep h k)
theorem erase_last {α : Type} (l : List α) : l.eraseIdx (l.length - 1) = l.dropLast := by
  induction l with
  | nil => rfl
  | cons a r ih =>
    cases r with
    | nil => rfl
    | cons b r =>
      have e : (a :: b :: r).length - 1 = ((b :: r).length - 1) + 1 := by
        have h1 : (a :: b :: r).length = r.length + 2 := rfl
        have h2 : (b :: r).length = r.length + 1 := rfl
        omega
      rw [e, List.eraseIdx_cons_succ, ih]
      all_goals rfl
theorem len_erase {α : Type} : ∀ (l : List α) (i : Nat), (l.eraseIdx i).length ≤ l.length
  | [], _ => Nat.le_refl _
  | _ :: _, 0 => Nat.le_succ _
  | _ :: r, i + 1 => Nat.succ_le_succ (len_erase r i)
theorem foldl_rep (its : List Value) : ∀ (k : Nat) (acc : List Value),
    List.foldl (fun x1 x2 => x1 ++ x2) acc.toArray (List.replicate k its.toArray) = (acc ++ (List.replicate k its).flatten).toArray
  | 0, acc => by simp
  | k + 1, acc => by
    have e : acc.toArray ++ its.toArray = (acc ++ its).toArray := by simp
    have e2 : (acc ++ its) ++ (List.replicate k its).flatten = acc ++ (List.replicate (k + 1) its).flatten := by
      rw [List.replicate_succ, List.flatten_cons, List.append_assoc]
    rw [← e2, ← foldl_rep its k (acc ++ its), ← e, List.replicate_succ, List.foldl_cons]

section
variable {X : Cx} {pins : List (Addr × Obj)} {σ : St} {H : Hp} {s : Shared} {l b : Addr} {xs ys zs : List V}

/-! ### the two steps: a tracked list is rewritten, a new list is laid -/
theorem Inv.lset {its its' : List Value} {n : Nat} {f : Array Value → Array Value} {t' : Nat} (I : Inv X pins σ H s) (hH : H l = some (.lst xs))
    (e : s.heap.get? l = some { cls := .type "list", data := .seq its.toArray n }) (hf : f its.toArray = its'.toArray) (hv : Vals ys its') (hz : ys.length ≤ sizeLine) :
    Inv X pins σ (upd H l (.lst ys)) { s with heap := s.heap.update l (Obj.mapSeq f), toks := t' } := by
  have q := PySem.IsL.update e f
  rw [hf] at q
  refine I.write (x := l) (e := l) (by rw [hH]; exact trivial) (.inl rfl) (fun b' u hb hu => (Heap.get?_update_other s.heap (Obj.mapSeq f) (Ne.symm hb)).trans hu) ⟨_, q⟩ ?_
  exact ⟨hz, its', _, hv, q⟩
theorem Inv.lnew {its : List Value} {t' : Nat} (I : Inv X pins σ H s) (hv : Vals ys its) (hz : ys.length ≤ sizeLine) :
    Inv X pins σ (upd H s.heap.objs.size (.lst ys)) { s with heap := s.heap.push { cls := .type "list", data := .seq its.toArray }, toks := t' } :=
  I.laid (fun _ _ q => Heap.get?_push_of_some _ q) (Nat.le_refl _) ⟨hz, its, 0, hv, Heap.get?_push_size _ rfl⟩
theorem Inv.fresh (I : Inv X pins σ H s) : H s.heap.objs.size = none := I.hok.fresh (Nat.le_refl _)
theorem Inv.lstM (I : Inv X pins σ H s) (hH : H l = some (.lst xs)) : xs.length ≤ sizeLine ∧ ∃ (its : List Value) (n : Nat), Vals xs its ∧ xs.length = its.length ∧ s.heap.get? l = some { cls := .type "list", data := .seq its.toArray n } := by
  obtain ⟨z, its, n, r, e⟩ := I.hok l _ hH
  exact ⟨z, its, n, r, r.length, e⟩

theorem notLongL {n : Nat} (h : n ≤ sizeLine) : Builtin.List.listTooLong n = false := by
  unfold Builtin.List.listTooLong
  exact decide_eq_false (by omega)
end

section
variable {X : Cx}

/-! ### methods -/
def rAppend : V → List V → Hp → VK → Prop := fun x vs H Q => ∃ l xs y, x = .ref l ∧ vs = [y] ∧ H l = some (.lst xs) ∧ xs.length < sizeLine ∧ Q .non (upd H l (.lst (xs ++ [y])))
theorem mt_append : MtM X "list.append" rAppend := by
  intro pins s σ H x vs v us Q I rx rv h
  obtain ⟨l, xs, y, rfl, rfl, hH, hz, q⟩ := h
  cases rx
  obtain ⟨u, rfl, ru⟩ := rv.one
  obtain ⟨z, its, n, r, hl, e⟩ := I.lstM hH
  refine call_meets F.slot_list_append ⟨_, e, rfl⟩ F.entry_list_append (F.args_list_append_2 _ _) (PySem.list_append l its.toArray n u (by rw [List.size_toArray]; omega)) ⟨e, ?_⟩
  refine ⟨.non, _, I.lset (its' := its ++ [u]) hH e (by simp) (r.append (.cons ru .nil)) ?_, rfl, q⟩
  rw [List.length_append, List.length_singleton]
  omega

def rExtend : V → List V → Hp → VK → Prop := fun x vs H Q => ∃ l b xs zs, x = .ref l ∧ vs = [.ref b] ∧ H l = some (.lst xs) ∧ H b = some (.lst zs) ∧ xs.length + zs.length ≤ sizeLine ∧ Q .non (upd H l (.lst (xs ++ zs)))
theorem mt_extend : MtM X "list.extend" rExtend := by
  intro pins s σ H x vs v us Q I rx rv h
  obtain ⟨l, b, xs, zs, rfl, rfl, hH, hB, hz, q⟩ := h
  cases rx
  obtain ⟨u, rfl, ru⟩ := rv.one
  cases ru
  obtain ⟨z, its, n, r, hl, e⟩ := I.lstM hH
  obtain ⟨z2, its2, n2, r2, hl2, e2⟩ := I.lstM hB
  have hsz : its.toArray.size + its2.toArray.size ≤ sizeLine := by rw [List.size_toArray, List.size_toArray]; omega
  have hlong : ¬ (!its.toArray.isEmpty && Builtin.List.listTooLong (its.toArray.size + its2.toArray.size)) = true := by
    rw [notLongL hsz, Bool.and_false]
    exact Bool.false_ne_true
  refine call_meets F.slot_list_extend ⟨_, e, rfl⟩ F.entry_list_extend (F.args_list_extend_2 _ _)
    (AutoSeq1.list_extend_list_list_0 l its.toArray n b its2.toArray n2 hlong (by rw [List.size_toArray]; omega) (by omega)) ⟨e, e2, ?_⟩
  refine ⟨.non, _, I.lset (its' := its ++ its2) hH e (by simp) (r.append r2) ?_, rfl, q⟩
  rw [List.length_append]
  omega

def rPop : V → List V → Hp → VK → Prop := fun x vs H Q => ∃ l xs y, x = .ref l ∧ vs = [] ∧ H l = some (.lst xs) ∧ xs[xs.length - 1]? = some y ∧ Q y (upd H l (.lst xs.dropLast))
theorem mt_pop : MtM X "list.pop" rPop := by
  intro pins s σ H x vs v us Q I rx rv h
  obtain ⟨l, xs, y, rfl, rfl, hH, hy, q⟩ := h
  cases rx
  have hus := rv.zero
  subst hus
  obtain ⟨z, its, n, r, hl, e⟩ := I.lstM hH
  obtain ⟨u, hu, ru⟩ := r.get hy
  have hy' : its.toArray[its.toArray.size - 1]? = some u := by
    show its.toArray[its.length - 1]? = some u
    rw [← Array.getElem?_toList, ← hl]
    exact hu
  refine call_meets F.slot_list_pop ⟨_, e, rfl⟩ F.entry_list_pop (F.args_list_pop_1 _) (MeetsSeq.list_pop_last l its.toArray n u hy' (by rw [List.size_toArray]; omega)) ⟨e, ?_⟩
  refine ⟨y, _, I.lset (its' := its.dropLast) hH e ?_ r.dropLast ?_, ru, q⟩
  · show its.toArray.eraseIdxIfInBounds (its.toArray.size - 1) = its.dropLast.toArray
    rw [List.size_toArray, List.eraseIdxIfInBounds_toArray, erase_last]
  · rw [List.length_dropLast]
    omega

def rPopAt : V → List V → Hp → VK → Prop := fun x vs H Q => ∃ l xs i k y, x = .ref l ∧ vs = [.int i] ∧ H l = some (.lst xs) ∧ -(2 ^ 63) ≤ i ∧ i < 2 ^ 63 ∧ seqIndex? i xs.length = some k ∧ xs[k]? = some y ∧ Q y (upd H l (.lst (xs.eraseIdx k)))
theorem mt_popAt : MtM X "list.pop" rPopAt := by
  intro pins s σ H x vs v us Q I rx rv h
  obtain ⟨l, xs, i, k, y, rfl, rfl, hH, h1, h2, hk, hy, q⟩ := h
  cases rx
  obtain ⟨u, rfl, ru⟩ := rv.one
  obtain ⟨t, rfl⟩ := ru
  obtain ⟨z, its, n, r, hl, e⟩ := I.lstM hH
  obtain ⟨w, hw, rw'⟩ := r.get hy
  refine call_meets F.slot_list_pop ⟨_, e, rfl⟩ F.entry_list_pop (F.args_list_pop_2 _ _)
    (MeetsSeq.list_pop_at l its.toArray n i t k w (fitsIndex_both h1 h2) (by rw [List.size_toArray, ← hl]; exact hk) (by rw [← Array.getElem?_toList]; exact hw) (by rw [List.size_toArray]; omega)) ⟨e, ?_⟩
  refine ⟨y, _, I.lset (its' := its.eraseIdx k) hH e ?_ (r.eraseIdx k) ?_, rw', q⟩
  · show its.toArray.eraseIdxIfInBounds k = (its.eraseIdx k).toArray
    rw [List.eraseIdxIfInBounds_toArray]
  · have := len_erase xs k
    omega

def rReverse : V → List V → Hp → VK → Prop := fun x vs H Q => ∃ l xs, x = .ref l ∧ vs = [] ∧ H l = some (.lst xs) ∧ Q .non (upd H l (.lst xs.reverse))
theorem mt_reverse : MtM X "list.reverse" rReverse := by
  intro pins s σ H x vs v us Q I rx rv h
  obtain ⟨l, xs, rfl, rfl, hH, q⟩ := h
  cases rx
  have hus := rv.zero
  subst hus
  obtain ⟨z, its, n, r, hl, e⟩ := I.lstM hH
  refine call_meets F.slot_list_reverse ⟨_, e, rfl⟩ F.entry_list_reverse (F.args_list_reverse_1 _) (AutoSeq1.list_reverse_list_0 l its.toArray n (by rw [List.size_toArray]; omega)) ⟨e, ?_⟩
  refine ⟨.non, _, I.lset (its' := its.reverse) hH e (by simp) r.reverse ?_, rfl, q⟩
  rw [List.length_reverse]
  omega

def rClear : V → List V → Hp → VK → Prop := fun x vs H Q => ∃ l xs, x = .ref l ∧ vs = [] ∧ H l = some (.lst xs) ∧ Q .non (upd H l (.lst []))
theorem mt_clear : MtM X "list.clear" rClear := by
  intro pins s σ H x vs v us Q I rx rv h
  obtain ⟨l, xs, rfl, rfl, hH, q⟩ := h
  cases rx
  have hus := rv.zero
  subst hus
  obtain ⟨z, its, n, r, hl, e⟩ := I.lstM hH
  refine call_meets F.slot_list_clear ⟨_, e, rfl⟩ F.entry_list_clear (F.args_list_clear_1 _) (AutoSeq1.list_clear_list_0 l its.toArray n (by rw [List.size_toArray]; omega)) ⟨e, ?_⟩
  exact ⟨.non, _, I.lset (its' := []) (ys := []) hH e rfl .nil (Nat.zero_le _), rfl, q⟩

/-! ### list + list, list += list, list * int -/
def rCat : R2 := fun x y H Q => ∃ l b xs zs, x = .ref l ∧ y = .ref b ∧ H l = some (.lst xs) ∧ H b = some (.lst zs) ∧ xs.length + zs.length ≤ sizeLine ∧ ∀ p, H p = none → Q (.ref p) (upd H p (.lst (xs ++ zs)))
theorem op_cat : OpR X (binaryOp .Add) rCat := by
  intro pins s σ H x y v u Q I rx ry h
  obtain ⟨l, b, xs, zs, rfl, rfl, hH, hB, hz, q⟩ := h
  cases rx
  cases ry
  obtain ⟨z, its, n, r, hl, e⟩ := I.lstM hH
  obtain ⟨z2, its2, n2, r2, hl2, e2⟩ := I.lstM hB
  refine PySem.P.add_list e e2 ?_ (by rw [List.size_toArray, List.size_toArray]; omega)
  have ea : its.toArray ++ its2.toArray = (its ++ its2).toArray := by simp
  rw [ea]
  exact ⟨.ref _, _, I.lnew (t' := s.toks) (r.append r2) (by rw [List.length_append]; omega), rfl, q _ I.fresh⟩
/-- a list times an int (a negative one is nothing) -/
def rRep : R2 := fun x y H Q => ∃ l k xs, x = .ref l ∧ y = .int k ∧ H l = some (.lst xs) ∧ -(2 ^ 63) ≤ k ∧ k < 2 ^ 63 ∧ xs.length * k.toNat ≤ sizeLine ∧
  ∀ p, H p = none → Q (.ref p) (upd H p (.lst (List.replicate k.toNat xs).flatten))
theorem len_rep {α : Type} (xs : List α) (k : Nat) : (List.replicate k xs).flatten.length = k * xs.length := by
  induction k with
  | zero => simp
  | succ k ih => rw [List.replicate_succ, List.flatten_cons, List.length_append, ih, Nat.succ_mul, Nat.add_comm]
theorem op_rep : OpR X (binaryOp .Mult) rRep := by
  intro pins s σ H x y v u Q I rx ry h
  obtain ⟨l, k, xs, rfl, rfl, hH, h1, h2, hz, q⟩ := h
  cases rx
  obtain ⟨t, rfl⟩ := ry
  obtain ⟨z, its, n, r, hl, e⟩ := I.lstM hH
  have hlen : its.toArray.size * k.toNat ≤ sizeLine := by rw [List.size_toArray, ← hl]; exact hz
  have hcap : ¬ its.toArray.size * k.toNat > (2 ^ 63 - 1) / 8 := by
    have : (sizeLine : Nat) ≤ (2 ^ 63 - 1) / 8 := by decide
    omega
  have hfit : ¬ (!Builtin.List.listFitsIndex k) = true := by
    rw [fitsIndex_both h1 h2]
    exact Bool.false_ne_true
  have hlong : ¬ Builtin.List.listTooLong (its.toArray.size * k.toNat) = true := by
    rw [notLongL hlen]
    exact Bool.false_ne_true
  have hnew : List.foldl (fun x1 x2 => x1 ++ x2) #[] (List.replicate (if its.toArray.isEmpty = true then 0 else k.toNat) its.toArray) = (List.replicate k.toNat its).flatten.toArray := by
    have f0 : ∀ m : Nat, List.foldl (fun x1 x2 => x1 ++ x2) #[] (List.replicate m its.toArray) = (List.replicate m its).flatten.toArray := fun m => by
      have := foldl_rep its m []
      rw [List.nil_append] at this
      exact this
    rw [f0]
    cases its with
    | nil => simp
    | cons a r' => rw [if_neg (by simp)]
  refine wpAny_binaryOp_repeat_ref (T := "list") (U := "int") (by decide) ⟨_, e, rfl⟩ (fun s' => typeIs_int s' k t) noFill_list_mul F.fills_int_mul F.slot_int_rmul repeat_list F.slot_int_index.lookup
    (call_meets F.slot_int_rmul (typeIs_int s k t) F.entry_int_rmul (F.args_int_rmul_2 _ _) (int___rmul___int_list k t l its.toArray n)
      ⟨e, rfl, ⟨_, e, rfl⟩, call_meets F.slot_list_mul ⟨_, e, rfl⟩ F.entry_list_mul (F.args_list_mul_2 _ _) (AutoListH.list___mul___list_int_3 l its.toArray n k t hfit hcap hlong) ⟨e, ?_⟩⟩)
  rw [hnew]
  exact ⟨.ref _, _, I.lnew (t' := s.toks) (r.rep k.toNat) (by rw [len_rep, Nat.mul_comm]; exact hz), rfl, q _ I.fresh⟩

/-! ### del xs[i] -/
theorem del_list {pins : List (Addr × Obj)} {s : Shared} {σ : St} {H : Hp} {l : Addr} {xs : List V} {i : Int} {t : Tok} {k : Nat} {Q : Unit → Shared → Prop} (I : Inv X pins σ H s) (hH : H l = some (.lst xs))
    (h1 : -(2 ^ 63) ≤ i) (h2 : i < 2 ^ 63) (hk : seqIndex? i xs.length = some k) (h : ∀ s', Inv X pins σ (upd H l (.lst (xs.eraseIdx k))) s' → Q () s') :
    wpAny (model X.prog X.w) X.A (delItem (.ref l) (.int i t)) Q X.xe s := by
  obtain ⟨z, its, n, r, hl, e⟩ := I.lstM hH
  refine PySem.P.delItem_list (k := k) e (fitsIndex_both h1 h2) (by rw [List.size_toArray, ← hl]; exact hk) (h _ ?_) (by rw [List.size_toArray]; omega)
  refine I.lset (its' := its.eraseIdx k) (t' := s.toks) hH e ?_ (r.eraseIdx k) ?_
  · show its.toArray.eraseIdxIfInBounds k = (its.eraseIdx k).toArray
    rw [List.eraseIdxIfInBounds_toArray]
  · have := len_erase xs k
    omega
end

/-! ### xs[a:b] = ys -/
section
variable {prog : Program} {w : World} {A : Around} {E : Value → Shared → Prop} {s : Shared}
theorem splice_eq (its its2 : List Value) (a c : Nat) : its.toArray.extract 0 a ++ its2.toArray ++ its.toArray.extract c its.toArray.size = (its.take a ++ its2 ++ its.drop c).toArray := by
  apply Array.toList_inj.mp
  first
    | (simp
       exact List.take_of_length_le (by simp))
    | simp [List.take_of_length_le]
    | simp
theorem bounds_run {a c n : Nat} (hac : a ≤ c) (hc : c ≤ n) : sliceBounds (some (a : Int)) (some (c : Int)) none n = ((a : Int), (c : Int), 1) := by
  simp only [sliceBounds, Option.getD_none]
  have h1 : ¬ ((a : Int) < 0) := by omega
  have h2 : ¬ ((c : Int) < 0) := by omega
  simp only [h1, h2, if_false, show (1 : Int) > 0 by decide, if_true]
  congr 1
  · omega
  · congr 1; omega
set_option maxRecDepth 100000 in
/-- list.__setitem__ with a slice of step one and another list -/
theorem setItem_slice {l b sl : Addr} {items new : Array Value} {n n2 : Nat} {vl vu : Value} {a c : Nat} {Q : Unit → Shared → Prop}
    (e : s.heap.get? l = some { cls := .type "list", data := .seq items n }) (e2 : s.heap.get? b = some { cls := .type "list", data := .seq new n2 }) (hne : l ≠ b)
    (hs : s.heap.IsSliceOf sl vl vu .none) (pl : IsPart vl (some (a : Int))) (pu : IsPart vu (some (c : Int))) (hac : a ≤ c) (hc : c ≤ items.size)
    (hsz : items.size + new.size ≤ sizeLine) (h : Q () { s with heap := s.heap.update l (Obj.mapSeq fun xs => xs.extract 0 a ++ new ++ xs.extract c xs.size) }) :
    wpAny (model prog w) A (setItem (.ref l) (.ref sl) (.ref b)) Q E s := by
  have hl : s.heap.IsList l items := PySem.IsL.isList e
  have hb : s.heap.IsList b new := PySem.IsL.isList e2
  obtain ⟨os, hos, hcs, hds⟩ := id hs
  have hTs : s.TypeIs (.ref sl) "slice" := ⟨os, hos, hcs⟩
  have hstep : ¬ ((rawPart none == rawInt 0) = true) := Bool.false_ne_true
  have hsame : Builtin.List.listSameRef (.ref l) (.ref b) = false := by
    unfold Builtin.List.listSameRef
    exact beq_eq_false_iff_ne.mpr hne
  have hmax : (max (a : Int) (c : Int)).toNat = c := by omega
  have hz' : ((fun xs : Array Value => xs.extract 0 a ++ new ++ xs.extract c xs.size) items).size ≤ sizeLine + 1 := by
    simp only [Array.size_append, Array.size_extract]
    omega
  unfold setItem
  try with_reducible refine wpAny_holding ?_
  first | refine wpAny_bind (wpAny_pure ?_) | skip
  refine wpAny_bind (wpAny_sequenceKey hl.typeIs (by decide) ?_)
  refine wpAny_bind (wpAny_callSpecial?_slot (name := Str.ofString "__setitem__") hl.typeIs slot_list_setitem
    (wpAny_call_entry slot_list_setitem hl.typeIs entry_list_setitem ?_ (args_list_setitem _ _ _)))
  show wpAny _ _ (Builtin.List.listSubscript? (.ref sl) >>= _) _ _ s
  refine wpAny_bind ?_
  unfold Builtin.List.listSubscript?
  refine wpAny_bind (wpAny_specialOf hTs slice_no_index ?_)
  simp only [Option.isNone_none, if_true]
  refine wpAny_pure ?_
  show wpAny _ _ (typeOf (.ref sl) >>= _) _ _ s
  refine wpAny_bind (wpAny_typeOf hTs ?_)
  first
    | rw [if_neg (by decide)]
    | refine PySem.W.KFB.if_not (by decide) ?_
  rw [listSliceParts_eq]
  refine wpAny_bind (wpAny_bind (wpAny_field hos hds (x := .none) rfl (wpAny_bind (wpAny_listPart .none ?_))))
  rw [if_neg hstep]
  refine wpAny_bind (wpAny_field hos hds (x := vl) rfl (wpAny_bind (wpAny_listPart pl ?_)))
  refine wpAny_bind (wpAny_field hos hds (x := vu) rfl (wpAny_bind (wpAny_listPart pu (wpAny_pure ?_))))
  first
    | simp only [hsame, Bool.false_eq_true, if_false]
    | refine PySem.W.KFB.if_not hsame ?_
    | (dsimp only
       rw [if_neg (by rw [hsame]; exact Bool.false_ne_true)])
  refine wpAny_bind (m := Builtin.List.listAllItems (.ref b) "must assign iterable to extended slice") ?_
  unfold Builtin.List.listAllItems
  refine wpAny_bind (wpAny_typeOf hb.typeIs ?_)
  first
    | refine PySem.W.KFB.if_so (by decide) ?_
    | rw [if_pos (by decide)]
    | simp only [beq_self_eq_true, Bool.true_or, if_true]
  unfold Builtin.List.listItems
  refine wpAny_bind (wpAny_seqItems e2 rfl (wpAny_pure ?_))
  refine wpAny_bind (wpAny_bind (wpAny_seqItems e rfl (wpAny_pure ?_)))
  refine wpAny_bind (wpAny_of_eq ((sliceIndices_raw (some (a : Int)) (some (c : Int)) none items.size (by simp)).trans (congrArg (pure : Int × Int × Int → Sem (Int × Int × Int)) (bounds_run hac hc))) ?_)
  show wpAny _ _ (if ((1 : Int) == 1) = true then _ else _) _ _ s
  rw [if_pos (by decide)]
  refine wpAny_bind (wpAny_rule ?_)
  first
    | simp only [notLongL hsz, Bool.false_eq_true, if_false]
    | refine PySem.W.KFB.if_not (notLongL hsz) ?_
  first | refine wpAny_bind (wpAny_pure ?_) | skip
  show wpAny _ _ (updateSeq l (fun xs => xs.extract 0 ((a : Int)).toNat ++ new ++ xs.extract (max (a : Int) (c : Int)).toNat xs.size) >>= _) _ _ s
  rw [hmax, Int.toNat_natCast]
  refine wpAny_bind (wpAny_updateSeq (hz := Nat.le_trans (Nat.le_add_right _ _) hsz) (_hz' := hz') e rfl ?_)
  refine wpAny_bind (wpAny_letGo ?_)
  first
    | exact wpAny_bind (wpAny_pure (wpAny_pure ⟨.none, rfl, wpAny_pure h⟩))
    | exact wpAny_pure ⟨.none, rfl, wpAny_pure h⟩
end

section
variable {X : Cx}
/-- xs[a:c] = ys of another list, at the value level: sl is the slice object that was just made -/
theorem set_slice {pins : List (Addr × Obj)} {s : Shared} {σ : St} {H : Hp} {l b sl : Addr} {xs ys : List V} {a c : Int} {vl vu : Value} {Q : Unit → Shared → Prop} (I : Inv X pins σ H s)
    (hH : H l = some (.lst xs)) (hB : H b = some (.lst ys)) (hne : l ≠ b) (hs : s.heap.IsSliceOf sl vl vu .none) (ra : RelV (.int a) vl) (rc : RelV (.int c) vu) (h0 : 0 ≤ a) (hac : a ≤ c) (hc : c ≤ xs.length)
    (hz : xs.length + ys.length ≤ sizeLine) (h : ∀ s', Inv X pins σ (upd H l (.lst (xs.take a.toNat ++ ys ++ xs.drop c.toNat))) s' → Q () s') :
    wpAny (model X.prog X.w) X.A (setItem (.ref l) (.ref sl) (.ref b)) Q X.xe s := by
  obtain ⟨ta, rfl⟩ := ra
  obtain ⟨tc, rfl⟩ := rc
  obtain ⟨z, its, n, r, hl, e⟩ := I.lstM hH
  obtain ⟨z2, its2, n2, r2, hl2, e2⟩ := I.lstM hB
  obtain ⟨a', rfl⟩ := Int.eq_ofNat_of_zero_le h0
  obtain ⟨c', rfl⟩ := Int.eq_ofNat_of_zero_le (Int.le_trans h0 hac)
  simp only [Int.toNat_natCast] at h
  refine setItem_slice (a := a') (c := c') e e2 hne hs (.int _ _) (.int _ _) (by omega) (by rw [List.size_toArray]; omega) (by rw [List.size_toArray, List.size_toArray]; omega) (h _ ?_)
  refine I.lset (its' := its.take a' ++ its2 ++ its.drop c') (t' := s.toks) hH e ?_ (Vals.append (Vals.append (r.take _) r2) (r.drop _)) ?_
  · exact splice_eq its its2 a' c'
  · rw [List.length_append, List.length_append, List.length_take, List.length_drop]
    omega
end
end L2

namespace Att
open PySem PySem.W PySem.Calls PyProof.Rows

/-! ### the script -/
theorem ints_of_wellAll {P : Params} {h : Heap} : ∀ (ns : List Int) (vs : List Value), WellAll P h vs (ns.map WData.int) → IntsAre vs ns := by
  intro ns
  induction ns with
  | nil =>
    intro vs w
    rw [List.map_nil] at w
    cases w
    exact .nil
  | cons n ns ih =>
    intro vs w
    rw [List.map_cons] at w
    cases w with
    | cons a b =>
      cases a
      exact .cons _ _ (ih _ b)

theorem script_of {l : OpenLaw} {n : Nat} (hn : l.most = some n) {P : Params} {h : Heap} {args : List WData} {vals : List Value}
    (hpre : l.row.toRowW.claim.pre args = true) (hwl : WellAll P h vals args) :
    ∃ a vs ns, vals = [Value.ref a] ∧ args = [WData.list (ns.map WData.int)] ∧ h.get? a = some { cls := .type "list", data := .seq vs.toArray } ∧ IntsAre vs ns ∧ ns.length ≤ n := by
  have hsh : WShape.hasAll [] args [.list .int] = true := (pre_splitW hpre).1
  have hc : l.pre.holds [] { args := args } = true := (pre_splitW hpre).2
  obtain ⟨d, r, rfl, h1, h2⟩ := hasAllW_cons hsh
  obtain rfl := hasAllW_nil h2
  obtain ⟨xs, rfl, h3⟩ := hasW_list h1
  obtain ⟨ns, rfl⟩ := items_int h3
  have hlen : ns.length ≤ n := by
    unfold OpenLaw.pre at hc
    have h4 : (WTm.not (.lt (.lit (.int (n : Int))) (.len (.arg 0)))).holds [] { args := [.list (ns.map .int)] } = true := by
      have h4 := (holds_andW hc).1
      rw [hn] at h4
      exact h4
    have h5 := condW_of h4 (w_not (w_lt w_lit (w_len_list (w_arg rfl))))
    rw [List.length_map] at h5
    refine Nat.le_of_not_lt fun q => ?_
    have q' : (n : Int) < ((ns.length : Nat) : Int) := by omega
    first
      | (rw [decide_eq_true q'] at h5; exact absurd h5 (by decide))
      | (simp at h5; omega)
  cases hwl with
  | cons w1 w2 =>
    cases w2
    cases w1 with
    | list ho hall => exact ⟨_, _, ns, rfl, rfl, ho, ints_of_wellAll ns _ hall, hlen⟩

theorem post_true (l : OpenLaw) (args : List WData) : l.row.toRowW.claim.post args (.bool true) args = true :=
  postW_of (r := l.row.toRowW) (X := (true == true))
    (show WShape.has [] (.bool true) .bool = true by first | rfl | decide | simp [WShape.has, WShape.arms, WShape.armsAll])
    (show (WTm.eq .res (.lit (.bool true))).value [] { args := args, res := some (.bool true), after := args } = some (.bool (true == true)) from w_eq_bool (w_res rfl) w_lit) rfl

/-! ### the attachment: holds_open's last premise (the goal 'hc' behind k_head) from a wpAny of the law's body -/
theorem attach {l : OpenLaw} {n : Nat} {q : Program} {loose : List Str} {XP : (Str → Option Value) → Heap → Prop} {YP : World → Heap → Prop} {d : DefRec} {x : Str}
    (hn : l.most = some n) (hdf : d.params.defaults = [])
    (hbind : ∀ pm cd doc v : Value, bindArgs (docDef d.name d.params d.body d.scope pm cd doc) ⟨[v], []⟩ = pure [(x, v)])
    (hx : d.scope.names.lookup x = some .local ∨ d.scope.names.lookup x = some .cell)
    (hk : d.scope.kind = .function) (hco : d.scope.isCoroutine = false) (hgen : d.scope.isGenerator = false)
    (body : ∀ (w : World) (s₀ s₁ s : Shared) (mg mb : Str → Option Value) (fa : Addr) (o : Obj) (pm cd doc : Value) (a : Addr) (vs : List Value) (ns : List Int),
      Ground q loose [] XP w s₀ mg mb s₁.heap → YP w s₁.heap →
      s₁.heap.get? fa = some o → o.data = .func (docDef d.name d.params d.body d.scope pm cd doc) → s₁.heap.CodeRec cd d.name → mg d.name = some (.ref fa) →
      s₁.heap.get? a = some { cls := .type "list", data := .seq vs.toArray } → IntsAre vs ns → ns.length ≤ n →
      s.gens = #[] → s.os = s₁.os →
      Fr s₁.heap s₁.heap.objs.size s.heap (bindL (envOfC d.name d.scope s₁.heap.objs.size fa cd).kindOf [(x, .ref a)] fun _ => none) →
      Cl s₁.heap.objs.size (cellsFrom (s₁.heap.objs.size + 1) d.scope.names []) s.heap (bindC (envOfC d.name d.scope s₁.heap.objs.size fa cd).kindOf [(x, .ref a)] fun _ => none) →
      wpAny (model l.prog w) (callerA.deeper (envOfC d.name d.scope s₁.heap.objs.size fa cd)) (execs d.body (envOfC d.name d.scope s₁.heap.objs.size fa cd))
        (fun f s' => f = .ret (.bool true) ∧ OldK s₁.heap s'.heap ∧ s'.os = s₁.os ∧ AllBare s'.gens) (fun _ _ => False) s) :
    WalkO q loose XP YP l.row.toRowW d [] (fun f vs => PySem.call f vs) := by
  intro w s₀ s₁ mg mb G Y fa o pm cd doc dV kV ho hd hcd hD hmg hg args vals as hpre hlay hrd hwl hlo
  obtain rfl : dV = .none := Dflts.none hD hdf
  obtain rfl : kV = .none := Dflts.noKw hD
  obtain ⟨a, vs, ns, rfl, rfl, hobj, hints, hlen⟩ := script_of hn hpre hwl
  refine enter_call ?_
  refine call_cells_ret (o := o) (by rw [depth_caller]; decide) ho (fd_plain hd) G.T.nolimit hcd (hbind pm cd doc (.ref a)) (fun y hy => ?_) (fun h₁ tk F X => ?_) hco hgen hk
  · obtain rfl : y = (x, Value.ref a) := List.mem_singleton.mp hy
    rcases hx with e | e
    · exact .inl e
    · exact .inr ⟨e, cellsFrom_some _ _ _ (.inl e)⟩
  · refine wpAny_mono (body w s₀ s₁ { s₁ with heap := h₁, toks := tk } mg mb fa o pm cd doc a vs ns G Y ho (fd_plain hd) hcd hmg hobj hints hlen hg rfl F X) (fun f s' hq => ?_) (fun _ _ hq => hq)
    obtain ⟨rfl, h2, h3, h4⟩ := hq
    exact ⟨.inl ⟨.bool true, .bool true, [], rfl, fun _ => rfl, .bool true, post_true l _, fun _ => ⟨List.Pairwise.nil, fun _ hm => (nomatch hm)⟩⟩, h2, h3, h4⟩

/-- the same from a codeAny of the CALL (for a layer whose function contracts speak of calls) -/
theorem attach_call {l : OpenLaw} {n : Nat} {q : Program} {loose : List Str} {XP : (Str → Option Value) → Heap → Prop} {YP : World → Heap → Prop} {d : DefRec}
    (hn : l.most = some n) (hdf : d.params.defaults = [])
    (call : ∀ (w : World) (s₀ s₁ : Shared) (mg mb : Str → Option Value) (fa : Addr) (o : Obj) (pm cd doc : Value) (a : Addr) (vs : List Value) (ns : List Int),
      Ground q loose [] XP w s₀ mg mb s₁.heap → YP w s₁.heap →
      s₁.heap.get? fa = some o → o.data = .func (docDef d.name d.params d.body d.scope pm cd doc) → s₁.heap.CodeRec cd d.name → mg d.name = some (.ref fa) →
      s₁.heap.get? a = some { cls := .type "list", data := .seq vs.toArray } → IntsAre vs ns → ns.length ≤ n → s₁.gens = #[] →
      codeAny (model l.prog w) callerA (.call (.ref fa) ⟨[.ref a], []⟩) (fun r s' => r = .ok (.ret (.bool true)) ∧ OldK s₁.heap s'.heap ∧ s'.os = s₁.os ∧ AllBare s'.gens) s₁) :
    WalkO q loose XP YP l.row.toRowW d [] (fun f vs => PySem.call f vs) := by
  intro w s₀ s₁ mg mb G Y fa o pm cd doc dV kV ho hd hcd hD hmg hg args vals as hpre hlay hrd hwl hlo
  obtain rfl : dV = .none := Dflts.none hD hdf
  obtain rfl : kV = .none := Dflts.noKw hD
  obtain ⟨a, vs, ns, rfl, rfl, hobj, hints, hlen⟩ := script_of hn hpre hwl
  refine enter_call (codeAny_mono (call w s₀ s₁ mg mb fa o pm cd doc a vs ns G Y ho (fd_plain hd) hcd hmg hobj hints hlen hg) fun r s' hq => ?_)
  obtain ⟨rfl, h2, h3, h4⟩ := hq
  exact ⟨.inl ⟨.bool true, .bool true, [], rfl, fun _ => rfl, .bool true, post_true l _, fun _ => ⟨List.Pairwise.nil, fun _ hm => (nomatch hm)⟩⟩, h2, h3, h4⟩

/-- the same where the top left finished generators (o_head chose holds_openN): nothing may have changed at all and no generator may be left -/
theorem attachN {l : OpenLaw} {n : Nat} {q : Program} {loose : List Str} {XP : (Str → Option Value) → Heap → Prop} {YP : World → Heap → Prop} {d : DefRec} {x : Str}
    (hn : l.most = some n) (hdf : d.params.defaults = [])
    (hbind : ∀ pm cd doc v : Value, bindArgs (docDef d.name d.params d.body d.scope pm cd doc) ⟨[v], []⟩ = pure [(x, v)])
    (hx : d.scope.names.lookup x = some .local ∨ d.scope.names.lookup x = some .cell)
    (hk : d.scope.kind = .function) (hco : d.scope.isCoroutine = false) (hgen : d.scope.isGenerator = false)
    (body : ∀ (w : World) (s₀ s₁ s : Shared) (mg mb : Str → Option Value) (fa : Addr) (o : Obj) (pm cd doc : Value) (a : Addr) (vs : List Value) (ns : List Int),
      Ground q loose [] XP w s₀ mg mb s₁.heap → YP w s₁.heap →
      s₁.heap.get? fa = some o → o.data = .func (docDef d.name d.params d.body d.scope pm cd doc) → s₁.heap.CodeRec cd d.name → mg d.name = some (.ref fa) →
      s₁.heap.get? a = some { cls := .type "list", data := .seq vs.toArray } → IntsAre vs ns → ns.length ≤ n →
      s.gens = #[] → s.os = s₁.os →
      Fr s₁.heap s₁.heap.objs.size s.heap (bindL (envOfC d.name d.scope s₁.heap.objs.size fa cd).kindOf [(x, .ref a)] fun _ => none) →
      Cl s₁.heap.objs.size (cellsFrom (s₁.heap.objs.size + 1) d.scope.names []) s.heap (bindC (envOfC d.name d.scope s₁.heap.objs.size fa cd).kindOf [(x, .ref a)] fun _ => none) →
      wpAny (model l.prog w) (callerA.deeper (envOfC d.name d.scope s₁.heap.objs.size fa cd)) (execs d.body (envOfC d.name d.scope s₁.heap.objs.size fa cd))
        (fun f s' => f = .ret (.bool true) ∧ (∀ b o, s₁.heap.get? b = some o → s'.heap.get? b = some o) ∧ s'.os = s₁.os ∧ s'.gens = #[]) (fun _ _ => False) s) :
    WalkN q loose XP YP l.row.toRowW d [] (fun f vs => PySem.call f vs) := by
  intro w s₀ s₁ mg mb G Y fa o pm cd doc dV kV ho hd hcd hD hmg hg args vals as hpre hlay hrd hwl hlo
  obtain rfl : dV = .none := Dflts.none hD hdf
  obtain rfl : kV = .none := Dflts.noKw hD
  obtain ⟨a, vs, ns, rfl, rfl, hobj, hints, hlen⟩ := script_of hn hpre hwl
  refine enter_callW ?_
  refine call_cells_ret (o := o) (by rw [depth_caller]; decide) ho (fd_plain hd) G.T.nolimit hcd (hbind pm cd doc (.ref a)) (fun y hy => ?_) (fun h₁ tk F X => ?_) hco hgen hk
  · obtain rfl : y = (x, Value.ref a) := List.mem_singleton.mp hy
    rcases hx with e | e
    · exact .inl e
    · exact .inr ⟨e, cellsFrom_some _ _ _ (.inl e)⟩
  · refine wpAny_mono (body w s₀ s₁ { s₁ with heap := h₁, toks := tk } mg mb fa o pm cd doc a vs ns G Y ho (fd_plain hd) hcd hmg hobj hints hlen hg rfl F X) (fun f s' hq => ?_) (fun _ _ hq => hq)
    obtain ⟨rfl, h2, h3, h4⟩ := hq
    exact ⟨.inl ⟨.bool true, .bool true, [], rfl, fun _ => rfl, .bool true, post_true l _, fun _ => ⟨List.Pairwise.nil, fun _ hm => (nomatch hm)⟩⟩, h2, h3, h4⟩

/-! ### rules over ANY heap (no ledger) from facts about the written part K: the library's own take a ledger (News) for what they write -/
section
variable {prog : Program} {w : World} {A : Around} {E : Value → Shared → Prop} {s : Shared} {K : Frag}

/-- a def of the module, or a method (qual 'C.m'), entered: the frame is the next address; cells behind it -/
theorem call_fn {R : Result → Shared → Prop} {name qual : Str} {params : Arguments} {body : List Stmt} {scope : Scope} {dV kV doc pm cdv ct oc : Value} {an od : Option Addr} {osl : Array (Option Value)} {f : Addr} {args : Args} {binds : List (Str × Value)}
    (X : K.In s.heap) (hlim : s.heap.NoLimit) (ho : K.lookup f = some ⟨oc, od, .func (fnOf name qual params body scope dV kV doc pm an cdv ct), osl⟩) (hcd : codeIn K cdv qual = true) (hroom : A.depth < recursionLimit)
    (hbind : BindsTo s (fnOf name qual params body scope dV kV doc pm an cdv ct) args binds)
    (hkind : (binds.all fun y => scope.names.lookup y.1 == some .local || scope.names.lookup y.1 == some .cell) = true)
    (h : ∀ s₁, InCallC s s.heap.objs.size (bindL (envOfC qual scope s.heap.objs.size f cdv).kindOf binds fun _ => none) (cellsFrom (s.heap.objs.size + 1) scope.names [])
        (bindC (envOfC qual scope s.heap.objs.size f cdv).kindOf binds fun _ => none) s₁ →
      wpAny (model prog w) (A.deeper (envOfC qual scope s.heap.objs.size f cdv)) (execs body (envOfC qual scope s.heap.objs.size f cdv))
        (fun fl s' => R (.ok (.ret (match fl with | .ret v => v | _ => .none))) s')
        (fun e s' => wpAny (model prog w) (A.deeper (envOfC qual scope s.heap.objs.size f cdv)) (leaving (envOfC qual scope s.heap.objs.size f cdv) e) (fun _ s'' => R (.error e) s'') (fun e' s'' => R (.error e') s'') s') s₁)
    (hco : scope.isCoroutine = false) (hgen : scope.isGenerator = false) (hk : scope.kind = .function) : codeAny (model prog w) A (.call (.ref f) args) R s := by
  refine codeAny_call_function hroom (X _ _ ho) rfl hco hgen rfl (codeRec_of X hcd) (hbind _ _ _ _ ?_)
  refine wpAny_newFunctionEnv_cells hk (kindsX hkind _) fun env he s₁ x => ?_
  subst he
  exact ⟨hlim.keeps x.toInCall.keep, codeAny_func (h s₁ x)⟩

/-- C(..): dict at size, instance at size + 1, then __init__ -/
theorem make_obj {R : Result → Shared → Prop} {C fI : Addr} {rest : List Value} {kw : List (Str × Value)}
    (X : K.In s.heap) (hm : makesIn K C = true) (hi : findIn K (.ref C) "__init__" = some (some (.ref fI))) (hf : isFn K (.ref fI) = true)
    (h : codeAny (model prog w) (A.under (.builtin "type.__call__" ⟨.ref C :: rest, kw⟩)) (.call (.ref fI) ⟨.ref (s.heap.objs.size + 1) :: rest, kw⟩) (InitBack (s.heap.objs.size + 1) R)
      { s with heap := (s.heap.push emptyDict).push (instObj C s.heap.objs.size) }) : codeAny (model prog w) A (.call (.ref C) ⟨rest, kw⟩) R s := by
  obtain ⟨hh, g, d, t, os⟩ := s
  exact make_core (makes_of X hm) (looks_findIn X hi) (fun self => bind_fn X self (beq_iff_eq.mp hf)) (.inl rfl) h

/-- x.name where the instance's dict holds the name and the class does not -/
theorem get_field {x C : Addr} {ox : Obj} {es : List DictEntry} {n : Nat} {name : Str} {expr : Bool} {v : Value} {Q : Value → Shared → Prop}
    (X : K.In s.heap) (I : PySem.W.InstAt s.heap x ox C (some (dictOf es n))) (hg : plainGet K C name = true) (hh : hasDictIn K C = true) (ha : findIn K (.ref C) name = some none)
    (hl : getL name es = some (some v)) (hv : handedIn v = true) (h : Q v { s with toks := s.toks + 1 }) : wpAny (model prog w) A (getAttr (.ref x) name expr) Q E s :=
  get_value X I (plainGet_of hg).1 (findObj_own hh ha rfl hl) hv h

/-- x.m(..): the method found in the class -/
theorem get_method {x C f : Addr} {ox : Obj} {es : List DictEntry} {n : Nat} {name : Str} {pl : Sem Bool} {Q : Value × List Value → Shared → Prop}
    (X : K.In s.heap) (I : PySem.W.InstAt s.heap x ox C (some (dictOf es n))) (hg : plainGet K C name = true) (hf : findIn K (.ref C) name = some (some (.ref f))) (ht : isFn K (.ref f) = true)
    (hl : getL name es = some none) (h : Q (.ref f, [.ref x]) s) : wpAny (model prog w) A (getMethod (.ref x) name pl) Q E s :=
  method_fn X I (plainGet_of hg).1 (plainGet_of hg).2 hf (beq_iff_eq.mp ht) (by show (lookIn name (dictOf es n)).map _ = _; rw [lookIn_dict, hl]; rfl) h

/-! the whole heap as the ledger: makes every rule that writes through a ledger a rule over any heap -/
def noObjs (h : Heap) : Heap := { h with objs := #[] }
theorem noObjs_get (h : Heap) (b : Addr) : (noObjs h).get? b = none := by
  cases e : (noObjs h).get? b with
  | none => rfl
  | some o => exact absurd (Heap.lt_size e) (Nat.not_lt_zero _)
def ledger (h : Heap) (L d : Addr) : List (Addr × Obj) := (List.range h.objs.size).filterMap fun a => if a = L ∨ a = d then none else (h.get? a).map fun o => (a, o)
theorem mem_ledger {h : Heap} {L d a : Addr} {o : Obj} : (a, o) ∈ ledger h L d ↔ a ≠ L ∧ a ≠ d ∧ h.get? a = some o := by
  unfold ledger
  rw [List.mem_filterMap]
  constructor
  · rintro ⟨b, _, e⟩
    split at e
    · cases e
    · rename_i hb
      obtain ⟨o', ho, e'⟩ := Option.map_eq_some_iff.mp e
      cases e'
      exact ⟨fun q => hb (.inl q), fun q => hb (.inr q), ho⟩
  · rintro ⟨n1, n2, ho⟩
    refine ⟨a, List.mem_range.mpr (Heap.lt_size ho), ?_⟩
    rw [if_neg (show ¬ (a = L ∨ a = d) from fun q => q.elim n1 n2), ho] <;> rfl
theorem news_ledger {h : Heap} {L d : Addr} {od : Obj} (hne : d ≠ L) (ho : h.get? d = some od) : News (noObjs h) L h ([] ++ (d, od) :: ledger h L d) := by
  rintro ⟨a, o⟩ hp
  rcases List.mem_cons.mp hp with e | hp
  · cases e
    exact ⟨ho, hne, noObjs_get _ _⟩
  · obtain ⟨n1, n2, e⟩ := mem_ledger.mp hp
    exact ⟨e, n1, noObjs_get _ _⟩
theorem fr_all {h : Heap} {L : Addr} {m : Str → Option Value} (n : h.Ns L m) : Fr (noObjs h) L h m :=
  ⟨n, fun b o e => (by rw [noObjs_get] at e; cases e), Nat.zero_le _⟩
/-- Upd of the head entry (for append_K, setItem_K ..) -/
theorem upd_ledger {h : Heap} {L d : Addr} {o o' : Obj} : Upd d o o' ((d, o) :: ledger h L d) ((d, o') :: ledger h L d) :=
  .head fun ⟨_, _⟩ hp => (mem_ledger.mp hp).2.1

/-- x.name = v over any heap: L is any namespace of the heap (the frame's, say): its map stays, its object is not told; all else but the dict stays -/
theorem set_field {x C dx L : Addr} {ox : Obj} {m : Str → Option Value} {es es' : List DictEntry} {n n' : Nat} {name : Str} {v : Value} {Q : Unit → Shared → Prop}
    (X : K.In s.heap) (I : PySem.W.InstAt s.heap x ox C (some (dictOf es n))) (hd : ox.dict = some dx) (hL : s.heap.Ns L m) (hne : dx ≠ L)
    (hs : findIn K (.ref C) "__setattr__" = some (some (.builtin "object.__setattr__"))) (hp : plainOver K C = true) (ht : takerIn K C name = some none) (hh : hasDictIn K C = true) (hl : (getL name es).isSome = true)
    (e : (putL name (PyData.keyHash w.params name) (.str name (s.toks + 1)) v es, putN name es n) = (es', n')) (hz : es'.length ≤ 1000)
    (h : ∀ h' : Heap, h'.Ns L m → h'.get? dx = some (dictOf es' n') → (∀ b o, b ≠ dx → b ≠ L → s.heap.get? b = some o → h'.get? b = some o) → Q () { s with heap := h', toks := s.toks + 2 }) :
    wpAny (model prog w) A (setAttr (.ref x) name v) Q E s := by
  obtain ⟨e1, e2⟩ := Prod.mk.inj e
  have hdx : s.heap.get? dx = some (dictOf es n) := by
    have := I.dict
    rw [hd] at this
    exact this
  refine set_plain X I hs (osa_dict (s := { s with toks := s.toks + 1 }) (h₀ := noObjs s.heap) (L := L) (m := m) (od := dictOf es n) (od' := dictOf es' n') (es := es') (n := n') (pre := []) (post := ledger s.heap L dx)
    (fr_all hL) (news_ledger hne hdx) X I hd hp ht hh hl (fun _ q => nomatch q) (fun ⟨_, _⟩ q => (mem_ledger.mp q).2.1) (by rw [putName_dict, e1, e2]) rfl hz fun h' F' N' => ?_)
  exact h h' F'.ns (N'.get (List.Mem.head _)) fun b o n1 n2 ho => N'.get (List.Mem.tail _ (mem_ledger.mpr ⟨n2, n1, ho⟩))
end
end Att

namespace L2
open PySem PySem.Spec PyProof.Rows

theorem vals_ints : ∀ {vs : List Value} {ns : List Int}, IntsAre vs ns → Vals (ns.map V.int) vs
  | _, _, .nil => .nil
  | _, _, .cons n t h => .cons ⟨t, rfl⟩ (vals_ints h)

/-- nothing is tracked but the script, known to the object (or it is an object of the module) -/
def Only (H : Hp) : Prop := ∀ b, H b = none ∨ ∃ o xs, H b = some (.frz o (.lst xs))

/-- THE HEAD: the law's promise, at the heap behind the top. F, the promise of the law's def, may use that base is part of the heap (so K.In base, base.Ns mainGlobals mg stand in Mod) -/
theorem law_call {P : Program} {w : World} {K : PySem.W.Frag} {mg mb : Str → Option Value} {CX : CXT} {k : Nat} {fa a : Addr} {fd : FuncData} {x : Str} {sp : Sp} {s₁ : Shared} {vs : List Value} {ns : List Int}
    (KX : K.In s₁.heap) (hns : s₁.heap.Ns mainGlobals mg) (hb : s₁.heap.Ns builtinsNs mb) (hbb : ∀ x : Str, x ≠ "__name__" → mb x = bootBuiltins x) (hlim : s₁.heap.NoLimit) (hg : s₁.gens = #[])
    (ha : s₁.heap.get? a = some { cls := .type "list", data := .seq vs.toArray }) (hi : IntsAre vs ns) (hl : ns.length ≤ sizeLine) (hr : Room k callerA)
    (F : ∀ base : Heap, K.In base → base.Ns mainGlobals mg → FnOk P w K mg base CX k fa fd [x] sp) (hbind : ∀ (s : Shared) (u : Value), BindsTo s fd ⟨[u], []⟩ [(x, u)])
    (hsp : ∀ H : Hp, Only H → SqL K H a (ns.map V.int) → sp [.ref a] H (fun v _ => v = .bl true) fun _ _ _ => False)
    (hCX : ∀ H e s', CX [] H s₁ (fun _ _ _ => False) e s' → False) :
    codeAny (model P w) callerA (.call (.ref fa) ⟨[.ref a], []⟩) (fun r s' => r = .ok (.ret (.bool true)) ∧ OldK s₁.heap s'.heap ∧ s'.os = s₁.os ∧ AllBare s'.gens) s₁ := by
  have rv := vals_ints hi
  have lenV := hi.length
  -- from an abstract heap in which nothing but the script may be tracked
  have core : ∀ H : Hp, Only H → SqL K H a (ns.map V.int) → HOk P w H s₁.heap → (∀ b, H b ≠ none → b = a) → (H a ≠ none → K.lookup a = none) →
      codeAny (model P w) callerA (.call (.ref fa) ⟨[.ref a], []⟩) (fun r s' => r = .ok (.ret (.bool true)) ∧ OldK s₁.heap s'.heap ∧ s'.os = s₁.os ∧ AllBare s'.gens) s₁ := by
    intro H hO hS hok hA hK
    have base_of : ∀ {b : Addr} {o : Obj}, s₁.heap.get? b = some o → H b = none → (hidT s₁.heap H).get? b = some o := fun e n => hidT_get e n
    have noA : ∀ {b : Addr} {o : Obj} {es : Array DictEntry} {ep : Nat}, s₁.heap.get? b = some o → o.data = .dict es ep → H b = none := fun {b o es ep} e d => by
      cases q : H b with
      | none => rfl
      | some u =>
        have e' : b = a := hA b (by rw [q]; simp)
        subst e'
        rw [ha] at e; cases e
        have d' : Data.seq vs.toArray _ = Data.dict es ep := d
        cases d'
    have nsK : ∀ {b : Addr} {m : Str → Option Value}, s₁.heap.Ns b m → (hidT s₁.heap H).Ns b m := fun {b m} ⟨o, es, ep, e, d, r⟩ => ⟨o, es, ep, base_of e (noA e d), d, r⟩
    have hKb : K.In (hidT s₁.heap H) := fun b o e => base_of (KX b o e) (by
      cases q : H b with
      | none => rfl
      | some u =>
        have e' : b = a := hA b (by rw [q]; simp)
        subst e'
        rw [hK (by rw [q]; simp)] at e; cases e)
    have hM : Mod K mg (hidT s₁.heap H) := ⟨hKb, nsK hns, ⟨mb, nsK hb, hbb⟩, let ⟨mc, h1, h2⟩ := hlim; ⟨mc, nsK h1, h2⟩⟩
    have e0 : Env0 P w K mg (hidT s₁.heap H) callerA [] s₁ H := ⟨rfl, hM, fun b o e => of_hidT e, Nat.le_of_eq (hidT_size _ _), trivial, fun b hb => absurd (show b ∈ ([] : List Addr) from hb) (by simp), hok, .of_eq hg⟩
    refine codeAny_mono ((F _ hKb (nsK hns)).run callerA [] s₁ H ⟨[.ref a], []⟩ [.ref a] [.ref a] _ _ hr e0 (hbind s₁ (.ref a)) (.cons rfl .nil) (hsp H hO hS)) fun r s' h => ?_
    cases r with
    | error e => exact (hCX H e s' h).elim
    | ok fl =>
      cases fl with
      | next => exact False.elim h
      | brk => exact False.elim h
      | cont => exact False.elim h
      | ret u =>
        obtain ⟨v, H', os, bare, un, hok', r', q⟩ := h
        have q' : v = .bl true := q
        subst q'
        obtain rfl : u = Value.bool true := r'
        refine ⟨rfl, OldK.of_keep fun b o e => ?_, os, bare⟩
        cases q : H b with
        | none => exact un.keep b o e q (by intro z; exact absurd (show b ∈ ([] : List Addr) from z) (by simp)) (by simp)
        | some u =>
          rcases hO b with z | ⟨ob, xs, z⟩
          · rw [q] at z; cases z
          · have z2 := un.frzs b ob _ z
            obtain ⟨e1, _⟩ := hok b _ z
            obtain ⟨e2, _⟩ := hok' b _ z2
            rw [e] at e1; cases e1
            exact e2
  cases hk : K.lookup a with
  | some o =>
    -- the script is one of the module's own objects
    have e := KX a o hk
    rw [ha] at e
    cases e
    refine core (fun _ => none) (fun _ => .inl rfl) (.inr ⟨_, vs.toArray, _, hk, rfl, rfl, rfl, by rw [List.size_toArray, lenV]; exact hl, by simpa using rv⟩) (fun b u z => by have z' : (none : Option HO) = some u := z; cases z') (fun b z => absurd rfl z) fun z => absurd rfl z
  | none =>
    refine core (fun b => if b = a then some (.frz { cls := .type "list", data := .seq vs.toArray } (.lst (ns.map V.int))) else none) (fun b => ?_) (.inl (.inr ⟨{ cls := .type "list", data := .seq vs.toArray }, if_pos rfl⟩)) (fun b u z => ?_) (fun b z => ?_) fun _ => hk
    · by_cases hb : b = a
      · exact .inr ⟨_, _, if_pos hb⟩
      · exact .inl (if_neg hb)
    · by_cases hb : b = a
      · have z' := (if_pos hb).symm.trans z
        cases z'
        subst hb
        exact ⟨ha, by rw [List.length_map]; exact hl, vs, _, rv, ha⟩
      · have z' := (if_neg hb).symm.trans z
        cases z'
    · by_cases hb : b = a
      · exact hb
      · exact absurd (if_neg hb) z
end L2

namespace L2
open PySem PySem.Spec PyProof.Rows

abbrev KOf {K : PySem.W.Frag} {h : Heap} (_ : K.In h) : PySem.W.Frag := K

/-- the goal that k_head leaves (case hc), from the law's promise. F gives the function object fd (K's own) once, then the promise over every base -/
theorem walk_of {l : PySem.W.OpenLaw} {n k : Nat} {q : Program} {loose : List Str} {XP : (Str → Option Value) → Heap → Prop} {YP : World → Heap → Prop} {d : DefRec} {K : Params → PySem.W.Frag} {CX : World → CXT} {sp : World → Sp} {x : Str}
    (hn : l.most = some n) (hn2 : n ≤ sizeLine) (hdf : d.params.defaults = []) (hr : Room k callerA)
    (hY : ∀ (w : World) (h : Heap), YP w h → (K w.params).In h)
    (F : ∀ (w : World) (mg : Str → Option Value) (fa : Addr) (h : Heap), (K w.params).In h → h.Ns mainGlobals mg → mg d.name = some (.ref fa) →
      ∃ fd : FuncData, (∀ (s : Shared) (u : Value), BindsTo s fd ⟨[u], []⟩ [(x, u)]) ∧
        ∀ base : Heap, (K w.params).In base → base.Ns mainGlobals mg → FnOk l.prog w (K w.params) mg base (CX w) k fa fd [x] (sp w))
    (hsp : ∀ (w : World) (H : Hp) (a : Addr) (ns : List Int), ns.length ≤ n → Only H → SqL (K w.params) H a (ns.map V.int) → sp w [.ref a] H (fun v _ => v = .bl true) fun _ _ _ => False)
    (hCX : ∀ (w : World) (H : Hp) (s : Shared) (e : Value) (s' : Shared), CX w [] H s (fun _ _ _ => False) e s' → False) :
    PySem.W.WalkO q loose XP YP l.row.toRowW d [] (fun f vs => PySem.call f vs) := by
  refine Att.attach_call hn hdf fun w s₀ s₁ mg mb fa o pm cd doc a vs ns G Y ho hd hcd hmg hobj hints hlen hg => ?_
  have KX := hY w _ Y
  obtain ⟨fd, hb, hF⟩ := F w mg fa _ KX G.T.g hmg
  exact law_call KX G.T.g G.T.b G.T.builtins G.T.nolimit hg hobj hints (Nat.le_trans hlen hn2) hr hF hb (fun H hO hS => hsp w H a ns hlen hO hS) fun H e s' => hCX w H s₁ e s'
/-- the same where the promise hangs on the written part alone: (sp := My.sp_law), no hole under a binder -/
theorem walk_ofK {l : PySem.W.OpenLaw} {n k : Nat} {q : Program} {loose : List Str} {XP : (Str → Option Value) → Heap → Prop} {YP : World → Heap → Prop} {d : DefRec} {K : Params → PySem.W.Frag} {CX : CXT} {sp : PySem.W.Frag → Sp} {x : Str}
    (hn : l.most = some n) (hn2 : n ≤ sizeLine) (hdf : d.params.defaults = []) (hr : Room k callerA)
    (hY : ∀ (w : World) (h : Heap), YP w h → (K w.params).In h)
    (F : ∀ (w : World) (mg : Str → Option Value) (fa : Addr) (h : Heap), (K w.params).In h → h.Ns mainGlobals mg → mg d.name = some (.ref fa) →
      ∃ fd : FuncData, (∀ (s : Shared) (u : Value), BindsTo s fd ⟨[u], []⟩ [(x, u)]) ∧
        ∀ base : Heap, (K w.params).In base → base.Ns mainGlobals mg → FnOk l.prog w (K w.params) mg base CX k fa fd [x] (sp (K w.params)))
    (hsp : ∀ (K : PySem.W.Frag) (H : Hp) (a : Addr) (ns : List Int), ns.length ≤ n → Only H → SqL K H a (ns.map V.int) → sp K [.ref a] H (fun v _ => v = .bl true) fun _ _ _ => False)
    (hCX : ∀ (H : Hp) (s : Shared) (e : Value) (s' : Shared), CX [] H s (fun _ _ _ => False) e s' → False) :
    PySem.W.WalkO q loose XP YP l.row.toRowW d [] (fun f vs => PySem.call f vs) :=
  walk_of (K := K) (CX := fun _ => CX) (sp := fun w => sp (K w.params)) hn hn2 hdf hr hY F (fun w H a ns h1 h2 h3 => hsp (K w.params) H a ns h1 h2 h3) fun _ H s e s' => hCX H s e s'
end L2

/- THE LAST THEOREM (shape; LID, My.* are yours):
   My.Adr: a structure of the addresses that your layer names (classes, functions); My.Txt K t: a structure (Prop) of the equations over K;
   My.txt_mk : {K} {implicit addresses ..} (e1 : nsIn K mainGlobals "law" = some (some (.ref f))) (e2 : K.lookup f = some ⟨oc, od, .func (fnOf "law" "law" params body scope dV kV doc pm an cdv ct), sl⟩) (e3 : codeIn K cdv "law" = true) .. : ∃ t, My.Txt K t

set_option maxRecDepth 100000 in
set_option maxHeartbeats 0 in
theorem PySem.Challenge.cw_LID_holds : PySem.Challenge.rw_LID.Holds := by
  w_on; o_law; k_head; (case hw => w_witness2)
  k_fill
  refine L2.walk_of (l := PySem.Challenge.rw_LID) (n := 63) (k := 40) (x := "script") (CX := fun w => ..) (sp := fun _ => My.sp_law) rfl (by decide) rfl ⟨rfl, by decide, by decide⟩ (fun w h Y => PySem.W.kIn_of Y) ?F ?S ?C
  case F =>
    intro w mg fa h KX G hmg
    have T : ∃ t, My.Txt (L2.KOf KX) t := by
      dsimp only [L2.KOf]                          -- K must stand as «<heap const> w.params» for k_is
      refine' My.txt_mk ?e1 ?e2 ?e3 ..
      (case e1 => PySem.W.k_is)                    -- in the order: a name -> its address -> its object -> its parts
      (case e2 => PySem.W.k_is)
      ..
    obtain ⟨t, T⟩ := T
    have e0 := hmg.symm.trans (PySem.W.mg_of KX G T.law)
    cases e0                                       -- fa is the law's own address
    exact ⟨_, fun s u => .of_eq rfl, fun base kb nb => My.law_fn T kb nb⟩     -- if «.of_eq rfl» comes too early: refine' ⟨_, ?b, fun base kb nb => My.law_fn T kb nb⟩; exact fun s u => .of_eq rfl
  case S => exact fun w H a ns hl hO hS => ..
  case C => exact ..
(the tactic k_is has no namespace: write k_is) -/

/-! SHORT WORDS over the layer: a def of the text, its body, what a loop and a test want. -/
namespace L2
open PySem PySem.Spec PyProof.Rows

/-! ### the text by places -/
/-- the j-th statement of a class's body -/
def inClass (s : Stmt) (j : Nat) : Stmt := match s with
  | .ClassDef _ _ _ body _ _ _ _ _ _ _ => body.getD j (.Pass ⟨0, 0, 0, 0⟩)
  | _ => .Pass ⟨0, 0, 0, 0⟩
def defArgs (s : Stmt) : Arguments := match s with
  | .FunctionDef _ a _ _ _ _ _ _ _ _ => a
  | _ => { posonlyargs := [], args := [], vararg := none, kwonlyargs := [], kw_defaults := [], kwarg := none, defaults := [] }
def defBody (s : Stmt) : List Stmt := match s with
  | .FunctionDef _ _ b _ _ _ _ _ _ _ => b
  | _ => []
def defScope (s : Stmt) : Scope := match s with
  | .FunctionDef _ _ _ _ _ _ sc _ _ _ => sc
  | _ => { kind := .function, names := [], isGenerator := false, isCoroutine := false }

/-! ### no exception leaves a def -/
abbrev CX0 : CXT := fun _ _ _ _ _ _ => False
abbrev E0 : XK := fun _ _ _ => False
theorem pass0 {X : Cx} : Passes CX0 X E0 := fun _ _ _ _ _ _ _ h => h.elim

/-! ### a def (or method) of the text as it stands behind the top -/
structure Fun (K : PySem.W.Frag) (x qual : Str) (st : Stmt) (f : Addr) (fd : FuncData) : Prop where
  ex : ∃ (oc : Value) (od : Option Addr) (kV doc pm : Value) (an : Option Addr) (cdv ct : Value) (osl : Array (Option Value)),
    fd = PySem.W.fnOf x qual (defArgs st) (defBody st) (defScope st) .none kV doc pm an cdv ct ∧ K.lookup f = some ⟨oc, od, .func fd, osl⟩ ∧ PySem.W.codeIn K cdv qual = true
  kp : PySem.W.keepIn K (.ref f) = true
section
variable {P : Program} {w : World} {K : PySem.W.Frag} {mg : Str → Option Value} {base : Heap}
/-- THE RULE for a def: its body as a term of rules, and the reading of that term -/
theorem Fun.ok {x qual : Str} {st : Stmt} {f : Addr} {fd : FuncData} {N ps : List Str} {k : Nat} {sp : Sp} (F : Fun K x qual st f fd) (S : FnScope N ps (defScope st)) (len : ∀ vs H Q E, sp vs H Q E → vs.length = ps.length)
    (hbody : ∀ (cdv : Value) (A : Around) (outer : List Env) (s : Shared) (H : Hp) (vs : List V) (Q : VK) (E : XK), Room k (A.deeper (envOfC qual (defScope st) s.heap.objs.size f cdv)) → sp vs H Q E →
      ∃ t, PSs (cxOf CX0 P w K mg base N qual (defScope st) f cdv A outer s H E).nox (defBody st) t ∧ t { nx := fun _ H' => Q .non H', rt := Q } (start N vs) H) : FnOk P w K mg base CX0 (k + 1) f fd ps sp := by
  obtain ⟨oc, od, kV, doc, pm, an, cdv, ct, osl, rfl, lk, hcd⟩ := F.ex
  refine fn_of lk hcd S len fun A outer s H vs Q E hr hsp => ?_
  obtain ⟨t, h, q⟩ := hbody cdv A outer s H vs Q E hr hsp
  exact ⟨t, h.nox, q⟩
/-- how its arguments bind (no defaults): h is «fun _ _ _ _ _ _ us hl => match us, hl with | [_, _], _ => rfl», one _ a parameter -/
theorem Fun.binds {x qual : Str} {st : Stmt} {f : Addr} {fd : FuncData} {ps : List Str} (F : Fun K x qual st f fd)
    (h : ∀ (kV doc pm : Value) (an : Option Addr) (cdv ct : Value) (us : List Value), us.length = ps.length → bindArgs (PySem.W.fnOf x qual (defArgs st) (defBody st) (defScope st) .none kV doc pm an cdv ct) ⟨us, []⟩ = pure (ps.zip us)) : Binds K fd ps [] := by
  obtain ⟨oc, od, kV, doc, pm, an, cdv, ct, osl, rfl, lk, hcd⟩ := F.ex
  exact .all (h kV doc pm an cdv ct)
theorem fun_mk {x qual : Str} {st : Stmt} {f : Addr} {oc : Value} {od an : Option Addr} {osl : Array (Option Value)} {kV doc pm cdv ct : Value} (l : K.lookup f = some ⟨oc, od, .func (PySem.W.fnOf x qual (defArgs st) (defBody st) (defScope st) .none kV doc pm an cdv ct), osl⟩)
    (c : PySem.W.codeIn K cdv qual = true) (k : PySem.W.keepIn K (.ref f) = true) : Fun K x qual st f (PySem.W.fnOf x qual (defArgs st) (defBody st) (defScope st) .none kV doc pm an cdv ct) := ⟨⟨oc, od, kV, doc, pm, an, cdv, ct, osl, rfl, l, c⟩, k⟩
end
theorem hu_of {A : Around} {k : Nat} (hr : Room k A) : A.units + 1 < cLine := Nat.lt_of_le_of_lt (Nat.add_le_add_left (by decide : 1 ≤ 64) _) hr.units
theorem small1000 {n : Nat} (h : n ≤ 1000) : n < sizeLine := Nat.lt_of_le_of_lt h (by decide)

/-! ### expressions in short: the name that stands in the i-th slot -/
section
variable {X : Cx}
theorem pv (i : Nat) {x : Str} {pos : Pos} (hN : X.N[i]? = some x := by rfl) (hv : Vis X.env.scope x := by first | exact Or.inl rfl | exact Or.inr (Or.inl rfl) | exact Or.inr (Or.inr rfl)) (hd : (x == ("__debug__" : Str)) = false := by decide)
    (hcd : (x == ("__classdict__" : Str)) = false := by decide) : PE X (.Name x pos) (tVar i) := pe_var hN hv hd hcd
end

/-! ### tests -/
theorem iteF {A B : Prop} (h : B) : if false = true then A else B := by
  rw [if_neg Bool.false_ne_true]
  exact h
theorem iteT {A B : Prop} (h : A) : if true = true then A else B := by
  rw [if_pos rfl]
  exact h
theorem ite2 {c A B : Prop} [Decidable c] (h1 : c → A) (h2 : ¬ c → B) : if c then A else B := by
  by_cases h : c
  · rw [if_pos h]
    exact h1 h
  · rw [if_neg h]
    exact h2 h
theorem iteNS {c A B : Prop} [Decidable c] (hc : c) (h : B) : if (!decide c) = true then A else B := by
  rw [decide_eq_true hc]
  exact iteF h

/-! ### heaps -/
/-- all that was tracked is as it was -/
def Same (H H' : Hp) : Prop := ∀ b o, H b = some o → H' b = some o
theorem Same.refl (H : Hp) : Same H H := fun _ _ h => h
theorem Same.trans {H H1 H2 : Hp} (a : Same H H1) (b : Same H1 H2) : Same H H2 := fun c o h => b c o (a c o h)
theorem Same.free {H H' : Hp} (e : Same H H') {l : Addr} (h : H' l = Option.none) : H l = Option.none := by
  cases q : H l with
  | none => rfl
  | some o =>
    rw [e l o q] at h
    cases h
theorem Same.seq {K : PySem.W.Frag} {H H' : Hp} {a : Addr} {xs : List V} (e : Same H H') (h : SqL K H a xs) : SqL K H' a xs := by
  rcases h with (h | ⟨o, h⟩) | h
  · exact .inl (.inl (e _ _ h))
  · exact .inl (.inr ⟨o, e _ _ h⟩)
  · exact .inr h

end L2

namespace Ev
open PySem PySem.Spec PyProof.Rows L2

/-! ### data without a heap -/
inductive D where
  | non | bl (b : Bool) | int (i : Int) | str (x : Str) | tup (xs : List D) | lst (xs : List D)
  deriving Inhabited

mutual
inductive Den (K : PySem.W.Frag) (H : Hp) : V → D → Prop where
  | non : Den K H .non .non
  | bl {b : Bool} : Den K H (.bl b) (.bl b)
  | int {i : Int} : Den K H (.int i) (.int i)
  | str {x : Str} : Den K H (.str x) (.str x)
  | tup {a : Addr} {vs : List V} {ds : List D} (h : SqT K H a vs) (r : DenL K H vs ds) : Den K H (.ref a) (.tup ds)
  | lst {a : Addr} {vs : List V} {ds : List D} (h : SqL K H a vs) (r : DenL K H vs ds) : Den K H (.ref a) (.lst ds)
inductive DenL (K : PySem.W.Frag) (H : Hp) : List V → List D → Prop where
  | nil : DenL K H [] []
  | cons {v : V} {d : D} {vs : List V} {ds : List D} (h : Den K H v d) (r : DenL K H vs ds) : DenL K H (v :: vs) (d :: ds)
end

section
variable {K : PySem.W.Frag} {H H' : Hp}
theorem sameT (e : Same H H') {a : Addr} {xs : List V} (h : SqT K H a xs) : SqT K H' a xs := by
  rcases h with (h | ⟨o, h⟩) | h
  · exact .inl (.inl (e _ _ h))
  · exact .inl (.inr ⟨o, e _ _ h⟩)
  · exact .inr h
theorem sameL (e : Same H H') {a : Addr} {xs : List V} (h : SqL K H a xs) : SqL K H' a xs := e.seq h
mutual
theorem Den.mono (e : Same H H') : ∀ {v : V} {d : D}, Den K H v d → Den K H' v d
  | _, _, .non => .non
  | _, _, .bl => .bl
  | _, _, .int => .int
  | _, _, .str => .str
  | _, _, .tup h r => .tup (sameT e h) (DenL.mono e r)
  | _, _, .lst h r => .lst (sameL e h) (DenL.mono e r)
theorem DenL.mono (e : Same H H') : ∀ {vs : List V} {ds : List D}, DenL K H vs ds → DenL K H' vs ds
  | _, _, .nil => .nil
  | _, _, .cons h r => .cons (Den.mono e h) (DenL.mono e r)
end
theorem DenL.length : ∀ {vs : List V} {ds : List D}, DenL K H vs ds → vs.length = ds.length
  | _, _, .nil => rfl
  | _, _, .cons _ r => congrArg (· + 1) r.length
theorem DenL.get : ∀ {vs : List V} {ds : List D} {i : Nat} {d : D}, DenL K H vs ds → ds[i]? = some d → ∃ v, vs[i]? = some v ∧ Den K H v d
  | _, _, _, _, .nil, e => by simp at e
  | _, _, 0, _, .cons h _, e => by simp at e; subst e; exact ⟨_, rfl, h⟩
  | _, _, i + 1, d, .cons _ r, e => by
    obtain ⟨v, h1, h2⟩ := DenL.get (i := i) (d := d) r (by simpa using e)
    exact ⟨v, by simpa using h1, h2⟩
theorem DenL.append : ∀ {xs ys : List V} {ds es : List D}, DenL K H xs ds → DenL K H ys es → DenL K H (xs ++ ys) (ds ++ es)
  | _, _, _, _, .nil, s => s
  | _, _, _, _, .cons h r, s => .cons h (DenL.append r s)
theorem DenL.take : ∀ {xs : List V} {ds : List D} (n : Nat), DenL K H xs ds → DenL K H (xs.take n) (ds.take n)
  | _, _, 0, _ => .nil
  | _, _, _ + 1, .nil => .nil
  | _, _, n + 1, .cons h r => .cons h (DenL.take n r)
theorem DenL.drop : ∀ {xs : List V} {ds : List D} (n : Nat), DenL K H xs ds → DenL K H (xs.drop n) (ds.drop n)
  | _, _, 0, r => r
  | _, _, _ + 1, .nil => .nil
  | _, _, n + 1, .cons _ r => DenL.drop n r
end

/-! ### the heap without what the frame owns -/
def hid (H : Hp) (A : List (Option Addr)) : Hp := fun b => if some b ∈ A then none else H b
theorem hid_some {H : Hp} {A : List (Option Addr)} {b : Addr} {o : HO} : hid H A b = some o ↔ some b ∉ A ∧ H b = some o := by
  unfold hid
  split
  · rename_i h; exact ⟨(fun z => nomatch z), fun z => absurd h z.1⟩
  · rename_i h; exact ⟨fun z => ⟨h, z⟩, fun z => z.2⟩
theorem hid_sub {H : Hp} {A : List (Option Addr)} : Same (hid H A) H := fun _ _ e => (hid_some.mp e).2
theorem hid_mono {H H' : Hp} {A : List (Option Addr)} (e : Same H H') : Same (hid H A) (hid H' A) := fun b o h => hid_some.mpr ⟨(hid_some.mp h).1, e _ _ (hid_some.mp h).2⟩
/-- a way to look at the heaps behind H: what is seen is there, is seen wherever it is there, and all that is new is seen -/
structure Vw (H : Hp) (W : Hp → Hp) : Prop where
  sub : ∀ H1, Same H H1 → Same (W H1) H1
  loc : ∀ H1 H2 b o, Same H H1 → Same H H2 → W H1 b = some o → H2 b = some o → W H2 b = some o
  new : ∀ H1 p o, Same H H1 → H p = none → H1 p = some o → W H1 p = some o
theorem Vw.mono {H : Hp} {W : Hp → Hp} (v : Vw H W) (H1 H2 : Hp) (h : Same H H1) (h' : Same H1 H2) : Same (W H1) (W H2) := fun b o e =>
  v.loc H1 H2 b o h (h.trans h') e (h' _ _ (v.sub _ h _ _ e))
theorem Vw.at {H H1 : Hp} {W : Hp → Hp} (v : Vw H W) (e : Same H H1) : Vw H1 W where
  sub := fun _ h => v.sub _ (e.trans h)
  loc := fun _ _ _ _ h h' => v.loc _ _ _ _ (e.trans h) (e.trans h')
  new := fun _ p _ h hp h' => v.new _ p _ (e.trans h) (e.free hp) h'
theorem Vw.all (H : Hp) : Vw H fun G => G := ⟨fun _ _ => Same.refl _, fun _ _ _ _ _ _ _ h => h, fun _ _ _ _ _ h => h⟩

/-! ### what comes out -/
inductive Ou (α : Type) where
  | ok (a : α) | exc (c : Nat) | bad
def Ou.bind {α β : Type} : Ou α → (α → Ou β) → Ou β
  | .ok a, f => f a
  | .exc c, _ => .exc c
  | .bad, _ => .bad
theorem Ou.bind_ok {α β : Type} (a : α) (f : α → Ou β) : (Ou.ok a).bind f = f a := rfl
theorem Ou.bind_exc {α β : Type} (c : Nat) (f : α → Ou β) : (Ou.exc c : Ou α).bind f = .exc c := rfl
theorem Ou.bind_bad {α β : Type} (f : α → Ou β) : (Ou.bad : Ou α).bind f = .bad := rfl
theorem Ou.bind_eq_ok {α β : Type} {x : Ou α} {f : α → Ou β} {b : β} (h : x.bind f = .ok b) : ∃ a, x = .ok a ∧ f a = .ok b := by
  cases x with
  | ok a => exact ⟨a, rfl, h⟩
  | exc c => cases h
  | bad => cases h

abbrev Env := List (Option D)

/-! ### the small language -/
inductive Op2 where
  | add | sub | mul | fdiv | mod | pow | shr | band
inductive Cm where
  | eq | ne | lt | le | gt | ge
inductive Ty where
  | int | bool | tuple | list | str
inductive Bi where
  | len | abs | max | min | int | list | tuple | all
inductive E where
  | var (i : Nat)
  | cN | cB (b : Bool) | cI (i : Int) | cS (x : Str)
  | op (o : Op2) (a b : E)
  | neg (a : E) | not (a : E)
  | cmp (o : Cm) (a b : E)
  | chain (o o' : Cm) (a b c : E)
  | and (a b : E) | or (a b : E)
  | ite (c a b : E)
  | tup (es : List E) | lst (es : List E)
  | ix (a i : E)
  | call (f : Nat) (es : List E)
  | bi (b : Bi) (es : List E)
  | isi (a : E) (t : Ty)
  deriving Inhabited

/-- ints of a size that the model multiplies, divides by -/
def mulOk (i j : Int) : Prop := i.natAbs.log2 < 64 ∨ j.natAbs.log2 < 64 ∨ (i.natAbs.log2 < 1000000 ∧ j.natAbs.log2 < 1000000)
instance (i j : Int) : Decidable (mulOk i j) := inferInstanceAs (Decidable (_ ∨ _ ∨ (_ ∧ _)))
def divOk (j : Int) : Prop := j ≠ 0 ∧ j.natAbs.log2 < 9000
instance (j : Int) : Decidable (divOk j) := inferInstanceAs (Decidable (_ ∧ _))
def lenMax : Nat := 1000000

def ev2 : Op2 → D → D → Ou D
  | .add, .int i, .int j => .ok (.int (i + j))
  | .add, .lst xs, .lst ys => if xs.length + ys.length < lenMax then .ok (.lst (xs ++ ys)) else .bad
  | .sub, .int i, .int j => .ok (.int (i - j))
  | .mul, .int i, .int j => if mulOk i j then .ok (.int (i * j)) else .bad
  | .fdiv, .int i, .int j => if divOk j then .ok (.int (i.fdiv j)) else .bad
  | .mod, .int i, .int j => if j ≠ 0 then .ok (.int (i.fmod j)) else .bad
  | .pow, .int i, .int j => if 0 ≤ j ∧ j ≤ 1000000 ∧ i.natAbs < 2 ^ 64 then .ok (.int (i ^ j.toNat)) else .bad
  | .shr, .int i, .int j => if 0 ≤ j then .ok (.int (i / 2 ^ j.toNat)) else .bad
  | .band, .int i, .int j => .ok (.int (Builtin.bitAnd i j))
  | _, _, _ => .bad

/-! == of data -/
mutual
def eqD : D → D → Bool
  | .non, .non => true
  | .bl a, .bl b => a == b
  | .bl a, .int j => (if a then 1 else 0) == j
  | .int i, .bl b => i == (if b then 1 else 0)
  | .int a, .int b => a == b
  | .str a, .str b => a == b
  | .tup xs, .tup ys => eqDs xs ys
  | .lst xs, .lst ys => eqDs xs ys
  | .non, .bl _ | .non, .int _ | .non, .str _ | .non, .tup _ | .non, .lst _ => false
  | .bl _, .non | .bl _, .str _ | .bl _, .tup _ | .bl _, .lst _ => false
  | .int _, .non | .int _, .str _ | .int _, .tup _ | .int _, .lst _ => false
  | .str _, .non | .str _, .bl _ | .str _, .int _ | .str _, .tup _ | .str _, .lst _ => false
  | .tup _, .non | .tup _, .bl _ | .tup _, .int _ | .tup _, .str _ | .tup _, .lst _ => false
  | .lst _, .non | .lst _, .bl _ | .lst _, .int _ | .lst _, .str _ | .lst _, .tup _ => false
def eqDs : List D → List D → Bool
  | [], [] => true
  | x :: xs, y :: ys => eqD x y && eqDs xs ys
  | [], _ :: _ => false
  | _ :: _, [] => false
end
mutual
def toP : D → PyData
  | .non => .none
  | .bl b => .bool b
  | .int i => .int i
  | .str x => .str x
  | .tup xs => .tuple (toPs xs)
  | .lst xs => .list (toPs xs)
def toPs : List D → List PyData
  | [] => []
  | x :: xs => toP x :: toPs xs
end
/-! the signs are those of texts; how deep -/
mutual
def cln : D → Bool
  | .str x => PyData.strOk x
  | .tup xs => clns xs
  | .lst xs => clns xs
  | .non | .bl _ | .int _ => true
def clns : List D → Bool
  | [] => true
  | x :: xs => cln x && clns xs
end
mutual
def dep : D → Nat
  | .tup xs => deps xs + 1
  | .lst xs => deps xs + 1
  | .non | .bl _ | .int _ | .str _ => 0
def deps : List D → Nat
  | [] => 0
  | x :: xs => max (dep x) (deps xs)
end
def eqOk (x : D) : Prop := cln x = true ∧ dep x ≤ 64
instance (x : D) : Decidable (eqOk x) := inferInstanceAs (Decidable (_ ∧ _))

def evC : Cm → D → D → Ou D
  | .eq, x, y => if eqOk x ∧ eqOk y then .ok (.bl (eqD x y)) else .bad
  | .ne, x, y => if eqOk x ∧ eqOk y then .ok (.bl (!eqD x y)) else .bad
  | .lt, .int i, .int j => .ok (.bl (decide (i < j)))
  | .le, .int i, .int j => .ok (.bl (decide (i ≤ j)))
  | .gt, .int i, .int j => .ok (.bl (decide (j < i)))
  | .ge, .int i, .int j => .ok (.bl (decide (j ≤ i)))
  | _, _, _ => .bad

def isTy : Ty → D → Bool
  | .int, .int _ => true
  | .int, .bl _ => true
  | .bool, .bl _ => true
  | .tuple, .tup _ => true
  | .list, .lst _ => true
  | .str, .str _ => true
  | _, _ => false

/-- the truths of a list -/
def allB : List D → Option Bool
  | [] => some true
  | .bl b :: r => if b then allB r else some false
  | _ => none

def evB : Bi → List D → Ou D
  | .len, [.lst xs] => .ok (.int xs.length)
  | .len, [.tup xs] => .ok (.int xs.length)
  | .abs, [.int i] => .ok (.int (if i < 0 then -i else i))
  | .max, [.int i, .int j] => .ok (.int (if j > i then j else i))
  | .min, [.int i, .int j] => .ok (.int (if j < i then j else i))
  | .int, [.int i] => .ok (.int i)
  | .int, [.bl b] => .ok (.int (if b then 1 else 0))
  | .list, [.lst xs] => .ok (.lst xs)
  | .list, [.tup xs] => .ok (.lst xs)
  | .tuple, [.lst xs] => .ok (.tup xs)
  | .tuple, [.tup xs] => .ok (.tup xs)
  | .all, [.lst xs] => match allB xs with | some b => .ok (.bl b) | none => .bad
  | _, _ => .bad

def evI : D → D → Ou D
  | .lst xs, .int i => match atI xs i with | some d => .ok d | none => .bad
  | .tup xs, .int i => match atI xs i with | some d => .ok d | none => .bad
  | _, _ => .bad

def getV (ρ : Env) (i : Nat) : Ou D := match ρ[i]? with | some (some d) => .ok d | _ => .bad

mutual
def evE (Φ : Nat → List D → Ou D) : E → Env → Ou D
  | .var i, ρ => getV ρ i
  | .cN, _ => .ok .non
  | .cB b, _ => .ok (.bl b)
  | .cI i, _ => .ok (.int i)
  | .cS x, _ => .ok (.str x)
  | .op o a b, ρ => (evE Φ a ρ).bind fun x => (evE Φ b ρ).bind fun y => ev2 o x y
  | .neg a, ρ => (evE Φ a ρ).bind fun x => match x with | .int i => .ok (.int (-i)) | _ => .bad
  | .not a, ρ => (evE Φ a ρ).bind fun x => match x with | .bl b => .ok (.bl (!b)) | _ => .bad
  | .cmp o a b, ρ => (evE Φ a ρ).bind fun x => (evE Φ b ρ).bind fun y => evC o x y
  | .chain o o' a b c, ρ => (evE Φ a ρ).bind fun x => (evE Φ b ρ).bind fun y => (evC o x y).bind fun z => match z with
    | .bl true => (evE Φ c ρ).bind fun u => evC o' y u
    | .bl false => .ok (.bl false)
    | _ => .bad
  | .and a b, ρ => (evE Φ a ρ).bind fun x => match x with | .bl true => evE Φ b ρ | .bl false => .ok (.bl false) | _ => .bad
  | .or a b, ρ => (evE Φ a ρ).bind fun x => match x with | .bl true => .ok (.bl true) | .bl false => evE Φ b ρ | _ => .bad
  | .ite c a b, ρ => (evE Φ c ρ).bind fun x => match x with | .bl true => evE Φ a ρ | .bl false => evE Φ b ρ | _ => .bad
  | .tup es, ρ => (evEs Φ es ρ).bind fun xs => if xs.length < lenMax then .ok (.tup xs) else .bad
  | .lst es, ρ => (evEs Φ es ρ).bind fun xs => if xs.length < lenMax then .ok (.lst xs) else .bad
  | .ix a i, ρ => (evE Φ a ρ).bind fun x => (evE Φ i ρ).bind fun y => evI x y
  | .call f es, ρ => (evEs Φ es ρ).bind fun xs => Φ f xs
  | .bi b es, ρ => (evEs Φ es ρ).bind fun xs => evB b xs
  | .isi a t, ρ => (evE Φ a ρ).bind fun x => .ok (.bl (isTy t x))
def evEs (Φ : Nat → List D → Ou D) : List E → Env → Ou (List D)
  | [], _ => .ok []
  | e :: es, ρ => (evE Φ e ρ).bind fun x => (evEs Φ es ρ).bind fun xs => .ok (x :: xs)
end

/-! ### statements -/
inductive Tg where
  | nm (i : Nat) | tp (i j : Nat)
inductive It where
  | seq (e : E) | rng (e : E) | rng2 (a b : E) | enu (e : E)
inductive S where
  | set (t : Tg) (e : E)
  | acc (i : Nat) (es : List E)
  | app (i : Nat) (e : E)
  | ret (e : E) | retA (i : Nat)
  | ite (c : E) (a b : List S)
  | for (t : Tg) (it : It) (body : List S)
  | while (c : E) (body : List S)
  | expr (e : E)
  deriving Inhabited

inductive Fl where
  | nx (ρ : Env) | rt (d : D)

def setT : Tg → D → Env → Ou Env
  | .nm i, d, ρ => .ok (ρ.set i (some d))
  | .tp i j, .tup [x, y], ρ => .ok ((ρ.set i (some x)).set j (some y))
  | _, _, _ => .bad

def rangeD (lo : Int) (n : Nat) : List D := (List.range n).map fun k => D.int (lo + (k : Nat))
def enumD (k : Nat) : List D → List D
  | [] => []
  | x :: xs => .tup [.int (k : Nat), x] :: enumD (k + 1) xs

def evIt (Φ : Nat → List D → Ou D) : It → Env → Ou (List D)
  | .seq e, ρ => (evE Φ e ρ).bind fun x => match x with | .lst xs => .ok xs | .tup xs => .ok xs | _ => .bad
  | .rng e, ρ => (evE Φ e ρ).bind fun x => match x with | .int j => if -(2 ^ 62) ≤ j ∧ j < 2 ^ 62 then .ok (rangeD 0 j.toNat) else .bad | _ => .bad
  | .rng2 a b, ρ => (evE Φ a ρ).bind fun x => (evE Φ b ρ).bind fun y => match x, y with
    | .int i, .int j => if (-(2 ^ 62) ≤ i ∧ i < 2 ^ 62) ∧ -(2 ^ 62) ≤ j ∧ j < 2 ^ 62 then .ok (rangeD i (j - i).toNat) else .bad
    | _, _ => .bad
  | .enu e, ρ => (evE Φ e ρ).bind fun x => match x with | .lst xs => .ok (enumD 0 xs) | _ => .bad

/-- the turns of a for; a while by fuel -/
def loop (f : D → Env → Ou Fl) : List D → Env → Ou Fl
  | [], ρ => .ok (.nx ρ)
  | x :: xs, ρ => (f x ρ).bind fun r => match r with | .nx ρ' => loop f xs ρ' | .rt d => .ok (.rt d)
def wloop (c : Env → Ou D) (f : Env → Ou Fl) : Nat → Env → Ou Fl
  | 0, _ => .bad
  | n + 1, ρ => (c ρ).bind fun x => match x with
    | .bl true => (f ρ).bind fun r => match r with | .nx ρ' => wloop c f n ρ' | .rt d => .ok (.rt d)
    | .bl false => .ok (.nx ρ)
    | _ => .bad

mutual
def evS (Φ : Nat → List D → Ou D) (n : Nat) : S → Env → Ou Fl
  | .set t e, ρ => (evE Φ e ρ).bind fun x => (setT t x ρ).bind fun ρ' => .ok (.nx ρ')
  | .acc i es, ρ => (evEs Φ es ρ).bind fun xs => if xs.length < lenMax then .ok (.nx (ρ.set i (some (.lst xs)))) else .bad
  | .app i e, ρ => (evE Φ e ρ).bind fun x => (getV ρ i).bind fun d => match d with
    | .lst xs => if xs.length < lenMax then .ok (.nx (ρ.set i (some (.lst (xs ++ [x]))))) else .bad
    | _ => .bad
  | .ret e, ρ => (evE Φ e ρ).bind fun x => .ok (.rt x)
  | .retA i, ρ => (getV ρ i).bind fun d => .ok (.rt d)
  | .ite c a b, ρ => (evE Φ c ρ).bind fun x => match x with | .bl true => evSs Φ n a ρ | .bl false => evSs Φ n b ρ | _ => .bad
  | .for t it body, ρ => (evIt Φ it ρ).bind fun xs => loop (fun x ρ' => (setT t x ρ').bind fun ρ2 => evSs Φ n body ρ2) xs ρ
  | .while c body, ρ => wloop (fun ρ' => evE Φ c ρ') (fun ρ' => evSs Φ n body ρ') n ρ
  | .expr e, ρ => (evE Φ e ρ).bind fun _ => .ok (.nx ρ)
def evSs (Φ : Nat → List D → Ou D) (n : Nat) : List S → Env → Ou Fl
  | [], ρ => .ok (.nx ρ)
  | s :: ss, ρ => (evS Φ n s ρ).bind fun r => match r with | .nx ρ' => evSs Φ n ss ρ' | .rt d => .ok (.rt d)
end
end Ev

namespace Ev
open PySem PySem.Spec PyProof.Rows L2

/-! ### data that a heap holds, read as the model reads data -/
mutual
theorem eqv_toP : ∀ x y : D, PyData.eqv (toP x) (toP y) = eqD x y
  | .non, y => by cases y <;> simp [toP, PyData.eqv, eqD]
  | .bl a, y => by cases y <;> simp [toP, PyData.eqv, eqD]
  | .int a, y => by cases y <;> simp [toP, PyData.eqv, eqD]
  | .str a, y => by cases y <;> simp [toP, PyData.eqv, eqD]
  | .tup xs, .tup ys => by simp only [toP, PyData.eqv, eqD]; exact eqvs_toP xs ys
  | .lst xs, .lst ys => by simp only [toP, PyData.eqv, eqD]; exact eqvs_toP xs ys
  | .tup xs, .non => by simp [toP, PyData.eqv, eqD]
  | .tup xs, .bl _ => by simp [toP, PyData.eqv, eqD]
  | .tup xs, .int _ => by simp [toP, PyData.eqv, eqD]
  | .tup xs, .str _ => by simp [toP, PyData.eqv, eqD]
  | .tup xs, .lst _ => by simp [toP, PyData.eqv, eqD]
  | .lst xs, .non => by simp [toP, PyData.eqv, eqD]
  | .lst xs, .bl _ => by simp [toP, PyData.eqv, eqD]
  | .lst xs, .int _ => by simp [toP, PyData.eqv, eqD]
  | .lst xs, .str _ => by simp [toP, PyData.eqv, eqD]
  | .lst xs, .tup _ => by simp [toP, PyData.eqv, eqD]
theorem eqvs_toP : ∀ xs ys : List D, PyData.eqvAll (toPs xs) (toPs ys) = eqDs xs ys
  | [], [] => by simp [toPs, PyData.eqvAll, eqDs]
  | [], _ :: _ => by simp [toPs, PyData.eqvAll, eqDs]
  | _ :: _, [] => by simp [toPs, PyData.eqvAll, eqDs]
  | x :: xs, y :: ys => by simp only [toPs, PyData.eqvAll, eqDs]; rw [eqv_toP x y, eqvs_toP xs ys]
end
mutual
theorem cln_toP : ∀ x : D, (toP x).canLay0 = cln x
  | .non => by simp [toP, PyData.canLay0, cln]
  | .bl _ => by simp [toP, PyData.canLay0, cln]
  | .int _ => by simp [toP, PyData.canLay0, cln]
  | .str _ => by simp [toP, PyData.canLay0, cln]
  | .tup xs => by simp only [toP, PyData.canLay0, cln]; exact clns_toP xs
  | .lst xs => by simp only [toP, PyData.canLay0, cln]; exact clns_toP xs
theorem clns_toP : ∀ xs : List D, PyData.canLayAll0 (toPs xs) = clns xs
  | [] => by simp [toPs, PyData.canLayAll0, clns]
  | x :: xs => by simp only [toPs, PyData.canLayAll0, clns]; rw [cln_toP x, clns_toP xs]
end
mutual
theorem dep_toP : ∀ x : D, (toP x).depth = dep x
  | .non => by simp [toP, PyData.depth, dep]
  | .bl _ => by simp [toP, PyData.depth, dep]
  | .int _ => by simp [toP, PyData.depth, dep]
  | .str _ => by simp [toP, PyData.depth, dep]
  | .tup xs => by simp only [toP, PyData.depth, dep]; rw [deps_toP xs]
  | .lst xs => by simp only [toP, PyData.depth, dep]; rw [deps_toP xs]
theorem deps_toP : ∀ xs : List D, PyData.depthAll (toPs xs) = deps xs
  | [] => by simp [toPs, PyData.depthAll, deps]
  | x :: xs => by simp only [toPs, PyData.depthAll, deps]; rw [dep_toP x, deps_toP xs]
end
theorem shaped_toP {x : D} (h : eqOk x) : SeqAt.shaped (toP x) = true := by
  unfold SeqAt.shaped
  rw [cln_toP, dep_toP, h.1, Bool.true_and]
  exact decide_eq_true h.2

section
variable {X : Cx} {pins : List (Addr × Obj)} {σ : L2.St} {H G : Hp} {s : Shared}
mutual
theorem reads_of (I : Inv X pins σ H s) (e : Same G H) : ∀ {v : V} {d : D} {u : Value}, Den X.K G v d → RelV v u → ∃ as, Reads s.heap u (toP d) as
  | _, _, _, .non, r => by cases r; exact ⟨_, .none⟩
  | _, _, _, .bl, r => by cases r; exact ⟨_, .bool _⟩
  | _, _, _, .int, r => by obtain ⟨t, rfl⟩ := r; exact ⟨_, .int _ _⟩
  | _, _, _, .str, r => by obtain ⟨t, rfl⟩ := r; exact ⟨_, .str _ _⟩
  | _, _, _, .tup h q, r => by
    cases r
    obtain ⟨its, rv, ⟨o, h1, h2, n, h3⟩, _⟩ := I.tuple (sameT e h)
    obtain ⟨as, z⟩ := reads_ofs I e q rv
    exact ⟨_, .tuple h1 h2 h3 (by simpa using z)⟩
  | _, _, _, .lst h q, r => by
    cases r
    obtain ⟨its, rv, ⟨o, n, h1, h2, _, h3⟩, _⟩ := I.list (sameL e h)
    obtain ⟨as, z⟩ := reads_ofs I e q rv
    exact ⟨_, .list h1 h2 h3 (by simpa using z)⟩
theorem reads_ofs (I : Inv X pins σ H s) (e : Same G H) : ∀ {vs : List V} {ds : List D} {us : List Value}, DenL X.K G vs ds → Vals vs us → ∃ as, ReadsAll s.heap us (toPs ds) as
  | _, _, _, .nil, .nil => ⟨_, .nil⟩
  | _, _, _, .cons h q, .cons r rs => by
    obtain ⟨as, z⟩ := reads_of I e h r
    obtain ⟨bs, z'⟩ := reads_ofs I e q rs
    exact ⟨_, .cons z z'⟩
end
end

/-! ### the frame's data -/
structure EnvOk (K : PySem.W.Frag) (H₀ : Hp) (W : Hp → Hp) (acc : List Nat) (A : List (Option Addr)) (H : Hp) (σ : L2.St) (ρ : Env) : Prop where
  vw : Vw H₀ W
  old : Same H₀ H
  len : σ.length = ρ.length
  alen : A.length = ρ.length
  acl : ∀ i ∈ acc, i < ρ.length
  nrm : ∀ (i : Nat) (d : D), i ∉ acc → ρ[i]? = some (some d) → ∃ v, σ[i]? = some (some v) ∧ Den K (hid (W H) A) v d
  own : ∀ (i : Nat) (d : D), i ∈ acc → ρ[i]? = some (some d) → ∃ a vs ds, A[i]? = some (some a) ∧ d = .lst ds ∧ σ[i]? = some (some (.ref a)) ∧ H a = some (.lst vs) ∧ DenL K (hid (W H) A) vs ds
  msk : ∀ (i : Nat) (a : Addr), A[i]? = some (some a) → i ∈ acc ∧ (∃ d, ρ[i]? = some (some d)) ∧ H₀ a = none
  inj : ∀ (i j : Nat) (a : Addr), A[i]? = some (some a) → A[j]? = some (some a) → i = j

section
variable {K : PySem.W.Frag} {H₀ H H' : Hp} {W : Hp → Hp} {acc : List Nat} {A : List (Option Addr)} {σ : L2.St} {ρ : Env}
theorem mem_A {A : List (Option Addr)} {a : Addr} (h : some a ∈ A) : ∃ i : Nat, A[i]? = some (some a) := List.getElem?_of_mem h
theorem EnvOk.dom (e : EnvOk K H₀ W acc A H σ ρ) {a : Addr} (h : some a ∈ A) : ∃ vs, H a = some (.lst vs) := by
  obtain ⟨i, hi⟩ := mem_A h
  obtain ⟨hm, ⟨d, hd⟩, _⟩ := e.msk i a hi
  obtain ⟨b, vs, ds, h1, _, _, h2, _⟩ := e.own i d hm hd
  rw [hi] at h1; cases h1
  exact ⟨vs, h2⟩
theorem EnvOk.off (e : EnvOk K H₀ W acc A H σ ρ) : ∀ p, H p = none → some p ∉ A := fun p hp z => by
  obtain ⟨vs, h⟩ := e.dom z
  rw [hp] at h; cases h
/-- how the frame looks at heaps -/
theorem EnvOk.view (e : EnvOk K H₀ W acc A H σ ρ) : Vw H fun G => hid (W G) A where
  sub := fun H1 h => hid_sub.trans (e.vw.sub _ (e.old.trans h))
  loc := fun _ _ _ _ h h' q z => hid_some.mpr ⟨(hid_some.mp q).1, e.vw.loc _ _ _ _ (e.old.trans h) (e.old.trans h') (hid_some.mp q).2 z⟩
  new := fun _ p _ h hp h' => hid_some.mpr ⟨e.off p hp, e.vw.new _ p _ (e.old.trans h) (e.old.free hp) h'⟩
theorem EnvOk.mono (e : EnvOk K H₀ W acc A H σ ρ) (m : Same H H') : EnvOk K H₀ W acc A H' σ ρ where
  vw := e.vw
  old := e.old.trans m
  len := e.len
  alen := e.alen
  acl := e.acl
  nrm := fun i d hi hd => let ⟨v, h1, h2⟩ := e.nrm i d hi hd; ⟨v, h1, h2.mono (e.view.mono _ _ (Same.refl H) m)⟩
  own := fun i d hi hd => let ⟨a, vs, ds, h1, h2, h3, h4, h5⟩ := e.own i d hi hd; ⟨a, vs, ds, h1, h2, h3, m _ _ h4, h5.mono (e.view.mono _ _ (Same.refl H) m)⟩
  msk := e.msk
  inj := e.inj
theorem same_new {H : Hp} {p : Addr} (h : H p = none) (o : HO) : Same H (upd H p o) := fun b u q => by rw [upd_ne (ne_of_none q h)]; exact q
theorem EnvOk.set (e : EnvOk K H₀ W acc A H σ ρ) {i : Nat} {v : V} {d : D} (hi : i ∉ acc) (hv : Den K (hid (W H) A) v d) : EnvOk K H₀ W acc A H (σ.set i (some v)) (ρ.set i (some d)) where
  vw := e.vw
  old := e.old
  len := by rw [List.length_set, List.length_set]; exact e.len
  alen := by rw [List.length_set]; exact e.alen
  acl := fun j hj => by rw [List.length_set]; exact e.acl j hj
  nrm := fun j x hj hx => by
    by_cases q : i = j
    · subst q
      have hl : i < ρ.length := by
        have := (List.getElem?_eq_some_iff.mp hx).1
        rwa [List.length_set] at this
      rw [List.getElem?_set_self hl] at hx
      cases hx
      exact ⟨v, List.getElem?_set_self (by rw [e.len]; exact hl), hv⟩
    · rw [List.getElem?_set_ne q] at hx
      rw [List.getElem?_set_ne q]
      exact e.nrm j x hj hx
  own := fun j x hj hx => by
    have q : i ≠ j := fun z => hi (z ▸ hj)
    rw [List.getElem?_set_ne q] at hx
    rw [List.getElem?_set_ne q]
    exact e.own j x hj hx
  msk := fun j a ha => by
    obtain ⟨h1, ⟨x, h2⟩, h3⟩ := e.msk j a ha
    have q : i ≠ j := fun z => hi (z ▸ h1)
    exact ⟨h1, ⟨x, by rw [List.getElem?_set_ne q]; exact h2⟩, h3⟩
  inj := e.inj
/-- an accumulator is made anew -/
theorem EnvOk.make (e : EnvOk K H₀ W acc A H σ ρ) {i : Nat} {p : Addr} {vs : List V} {ds : List D} (hi : i ∈ acc) (hp : H p = none) (hv : DenL K (hid (W H) A) vs ds) :
    EnvOk K H₀ W acc (A.set i (some p)) (upd H p (.lst vs)) (σ.set i (some (.ref p))) (ρ.set i (some (.lst ds))) ∧ Same (hid (W H) A) (hid (W (upd H p (.lst vs))) (A.set i (some p))) := by
  have hl := e.acl i hi
  have sn := same_new hp (.lst vs)
  have sm : Same (hid (W H) A) (hid (W (upd H p (.lst vs))) (A.set i (some p))) := fun b o h => by
    obtain ⟨h1, h2⟩ := hid_some.mp h
    have nb : b ≠ p := ne_of_none (e.vw.sub _ e.old _ _ h2) hp
    refine hid_some.mpr ⟨fun z => ?_, e.vw.mono _ _ e.old sn _ _ h2⟩
    rcases List.mem_or_eq_of_mem_set z with z | z
    · exact h1 z
    · exact nb (Option.some.inj z)
  have np : ∀ (j : Nat) (a : Addr), A[j]? = some (some a) → a ≠ p := fun j a ha z => by
    obtain ⟨us, h⟩ := e.dom (List.mem_of_getElem? ha)
    rw [z, hp] at h; cases h
  refine ⟨⟨e.vw, e.old.trans sn, ?_, ?_, fun j hj => by rw [List.length_set]; exact e.acl j hj, fun j x hj hx => ?_, fun j x hj hx => ?_, fun j a ha => ?_, fun j k a ha hb => ?_⟩, sm⟩
  · rw [List.length_set, List.length_set]; exact e.len
  · rw [List.length_set, List.length_set]; exact e.alen
  · have q : i ≠ j := fun z => hj (z ▸ hi)
    rw [List.getElem?_set_ne q] at hx
    obtain ⟨v, h1, h2⟩ := e.nrm j x hj hx
    exact ⟨v, by rw [List.getElem?_set_ne q]; exact h1, h2.mono sm⟩
  · by_cases q : i = j
    · subst q
      rw [List.getElem?_set_self hl] at hx
      cases hx
      exact ⟨p, vs, ds, List.getElem?_set_self (by rw [e.alen]; exact hl), rfl, List.getElem?_set_self (by rw [e.len]; exact hl), upd_same, hv.mono sm⟩
    · rw [List.getElem?_set_ne q] at hx
      obtain ⟨a, us, xs, h1, h2, h3, h4, h5⟩ := e.own j x hj hx
      exact ⟨a, us, xs, by rw [List.getElem?_set_ne q]; exact h1, h2, by rw [List.getElem?_set_ne q]; exact h3, by rw [upd_ne (np j a h1)]; exact h4, h5.mono sm⟩
  · by_cases q : i = j
    · subst q
      rw [List.getElem?_set_self (by rw [e.alen]; exact hl)] at ha
      cases ha
      exact ⟨hi, ⟨_, List.getElem?_set_self hl⟩, e.old.free hp⟩
    · rw [List.getElem?_set_ne q] at ha
      obtain ⟨h1, ⟨x, h2⟩, h3⟩ := e.msk j a ha
      exact ⟨h1, ⟨x, by rw [List.getElem?_set_ne q]; exact h2⟩, h3⟩
  · by_cases q : i = j
    · by_cases q' : i = k
      · exact q.symm.trans q'
      · subst q
        rw [List.getElem?_set_self (by rw [e.alen]; exact hl)] at ha
        rw [List.getElem?_set_ne q'] at hb
        cases ha
        exact absurd rfl (np k _ hb)
    · rw [List.getElem?_set_ne q] at ha
      by_cases q' : i = k
      · subst q'
        rw [List.getElem?_set_self (by rw [e.alen]; exact hl)] at hb
        cases hb
        exact absurd rfl (np j _ ha)
      · rw [List.getElem?_set_ne q'] at hb
        exact e.inj j k a ha hb
/-- an accumulator grows -/
theorem EnvOk.grow (e : EnvOk K H₀ W acc A H σ ρ) {i : Nat} {a : Addr} {us vs : List V} {ds es : List D} (hi : i ∈ acc) (ha : A[i]? = some (some a)) (hr : ρ[i]? = some (some (.lst ds))) (hH : H a = some (.lst us)) (hv : DenL K (hid (W H) A) vs es) :
    EnvOk K H₀ W acc A (upd H a (.lst vs)) σ (ρ.set i (some (.lst es))) ∧ Same (hid (W H) A) (hid (W (upd H a (.lst vs))) A) := by
  have ia : some a ∈ A := List.mem_of_getElem? ha
  have hl : i < ρ.length := (List.getElem?_eq_some_iff.mp hr).1
  have h0 := (e.msk i a ha).2.2
  have so : Same H₀ (upd H a (.lst vs)) := fun b o h => by rw [upd_ne (ne_of_none h h0)]; exact e.old _ _ h
  have sm : Same (hid (W H) A) (hid (W (upd H a (.lst vs))) A) := fun b o h => by
    obtain ⟨h1, h2⟩ := hid_some.mp h
    have nb : b ≠ a := fun z => h1 (z ▸ ia)
    exact hid_some.mpr ⟨h1, e.vw.loc _ _ _ _ e.old so h2 (by rw [upd_ne nb]; exact e.vw.sub _ e.old _ _ h2)⟩
  refine ⟨⟨e.vw, so, ?_, ?_, fun j hj => by rw [List.length_set]; exact e.acl j hj, fun j x hj hx => ?_, fun j x hj hx => ?_, fun j b hb => ?_, e.inj⟩, sm⟩
  · rw [List.length_set]; exact e.len
  · rw [List.length_set]; exact e.alen
  · have q : i ≠ j := fun z => hj (z ▸ hi)
    rw [List.getElem?_set_ne q] at hx
    obtain ⟨v, h1, h2⟩ := e.nrm j x hj hx
    exact ⟨v, h1, h2.mono sm⟩
  · by_cases q : i = j
    · subst q
      rw [List.getElem?_set_self hl] at hx
      cases hx
      obtain ⟨b, us', xs, h1, h2, h3, h4, h5⟩ := e.own i _ hj hr
      rw [ha] at h1; cases h1
      exact ⟨a, vs, es, ha, rfl, h3, upd_same, hv.mono sm⟩
    · rw [List.getElem?_set_ne q] at hx
      obtain ⟨b, us', xs, h1, h2, h3, h4, h5⟩ := e.own j x hj hx
      have nb : b ≠ a := fun z => q (e.inj i j a ha (z ▸ h1))
      exact ⟨b, us', xs, h1, h2, h3, by rw [upd_ne nb]; exact h4, h5.mono sm⟩
  · obtain ⟨h1, ⟨x, h2⟩, h3⟩ := e.msk j b hb
    by_cases q : i = j
    · subst q; exact ⟨h1, ⟨_, List.getElem?_set_self hl⟩, h3⟩
    · exact ⟨h1, ⟨x, by rw [List.getElem?_set_ne q]; exact h2⟩, h3⟩
end
end Ev

namespace Ev
open PySem PySem.Spec PyProof.Rows L2

/-! ### from the text to the small language -/
structure Tr where
  sc : Scope
  N : List Str
  acc : List Nat
  F : List Str
def slot : List Str → Str → Option Nat
  | [], _ => none
  | y :: r, x => if y = x then some 0 else (slot r x).map (· + 1)
theorem slot_get : ∀ {N : List Str} {x : Str} {i : Nat}, slot N x = some i → N[i]? = some x
  | [], _, _, h => by cases h
  | y :: r, x, i, h => by
    unfold slot at h
    split at h
    · rename_i e; cases h; rw [e]; rfl
    · cases q : slot r x with
      | none => rw [q] at h; cases h
      | some j =>
        rw [q] at h; cases h
        show (y :: r)[j + 1]? = some x
        rw [List.getElem?_cons_succ]; exact slot_get q
def isLoc (sc : Scope) (x : Str) : Bool := match sc.names.lookup x with
  | some .local => true
  | _ => false
def isGl (sc : Scope) (x : Str) : Bool := match sc.names.lookup x with
  | some .globalImplicit => true
  | _ => false
theorem isLoc_of {sc : Scope} {x : Str} (h : isLoc sc x = true) : sc.names.lookup x = some .local := by
  unfold isLoc at h
  split at h
  · assumption
  · cases h
theorem isGl_of {sc : Scope} {x : Str} (h : isGl sc x = true) : sc.names.lookup x = some .globalImplicit := by
  unfold isGl at h
  split at h
  · assumption
  · cases h
def trO : Operator → Option Op2
  | .Add => some .add
  | .Sub => some .sub
  | .Mult => some .mul
  | .FloorDiv => some .fdiv
  | .Mod => some .mod
  | .Pow => some .pow
  | .RShift => some .shr
  | .BitAnd => some .band
  | _ => none
def trC : CmpOp → Option Cm
  | .Eq => some .eq
  | .NotEq => some .ne
  | .Lt => some .lt
  | .LtE => some .le
  | .Gt => some .gt
  | .GtE => some .ge
  | _ => none
def trT (x : Str) : Option Ty :=
  if x = "int" then some .int else if x = "bool" then some .bool else if x = "tuple" then some .tuple else if x = "list" then some .list else if x = "str" then some .str else none
def trB (x : Str) : Option Bi :=
  if x = "len" then some .len else if x = "abs" then some .abs else if x = "max" then some .max else if x = "min" then some .min else if x = "int" then some .int else
  if x = "list" then some .list else if x = "tuple" then some .tuple else none
/-- a local name's slot -/
def trV (T : Tr) (x : Str) : Option Nat :=
  if isLoc T.sc x = true ∧ (x == ("__debug__" : Str)) = false ∧ (x == ("__classdict__" : Str)) = false then slot T.N x else none

mutual
def trE (T : Tr) : Nat → Expr → Option E
  | 0, _ => none
  | _ + 1, .Name x _ => (trV T x).bind fun i => if i ∈ T.acc then none else some (.var i)
  | _ + 1, .Constant (.int i) _ _ => some (.cI i)
  | _ + 1, .Constant (.bool b) _ _ => some (.cB b)
  | _ + 1, .Constant .none _ _ => some .cN
  | _ + 1, .Constant (.str x) _ _ => some (.cS x)
  | n + 1, .BinOp a o b _ => (trO o).bind fun o' => (trE T n a).bind fun a' => (trE T n b).bind fun b' => some (.op o' a' b')
  | n + 1, .UnaryOp .USub a _ => (trE T n a).bind fun a' => some (.neg a')
  | n + 1, .UnaryOp .Not a _ => (trE T n a).bind fun a' => some (.not a')
  | n + 1, .Compare a [o] [b] _ => (trC o).bind fun o' => (trE T n a).bind fun a' => (trE T n b).bind fun b' => some (.cmp o' a' b')
  | n + 1, .Compare a [o, p] [b, c] _ => (trC o).bind fun o' => (trC p).bind fun p' => (trE T n a).bind fun a' => (trE T n b).bind fun b' => (trE T n c).bind fun c' => some (.chain o' p' a' b' c')
  | n + 1, .BoolOp _ [a] _ => trE T n a
  | n + 1, .BoolOp .And (a :: b :: r) pos => (trE T n a).bind fun a' => (trE T n (.BoolOp .And (b :: r) pos)).bind fun b' => some (.and a' b')
  | n + 1, .BoolOp .Or (a :: b :: r) pos => (trE T n a).bind fun a' => (trE T n (.BoolOp .Or (b :: r) pos)).bind fun b' => some (.or a' b')
  | n + 1, .IfExp c a b _ => (trE T n c).bind fun c' => (trE T n a).bind fun a' => (trE T n b).bind fun b' => some (.ite c' a' b')
  | n + 1, .Tuple es _ _ => (trEs T n es).bind fun es' => some (.tup es')
  | n + 1, .List es _ => (trEs T n es).bind fun es' => some (.lst es')
  | _ + 1, .Subscript _ (.Slice _ _ _ _) _ => none
  | n + 1, .Subscript a i _ => (trE T n a).bind fun a' => (trE T n i).bind fun i' => some (.ix a' i')
  | n + 1, .Call (.Name x _) (e :: es) [] _ =>
    if isGl T.sc x = true ∧ (x == ("__debug__" : Str)) = false then
      match slot T.F x with
      | some k => (trEs T n (e :: es)).bind fun es' => some (.call k es')
      | none =>
        if x = "isinstance" then
          match es with
          | [.Name t _] => if isGl T.sc t = true then (trT t).bind fun ty => (trE T n e).bind fun a' => some (.isi a' ty) else none
          | _ => none
        else (trB x).bind fun b => (trEs T n (e :: es)).bind fun es' => some (.bi b es')
    else none
  | _ + 1, _ => none
def trEs (T : Tr) : Nat → List Expr → Option (List E)
  | 0, _ => none
  | _ + 1, [] => some []
  | n + 1, e :: es => (trE T n e).bind fun e' => (trEs T n es).bind fun es' => some (e' :: es')
end
theorem trE_star {T : Tr} {n : Nat} {e : Expr} {e' : E} (h : trE T n e = some e') (es : List Expr) (env : PySem.Env) : starEach (e :: es) env = (false, eval e env) :: starEach es env := by
  cases n with
  | zero => rw [trE] at h; cases h
  | succ n =>
    cases e with
    | Starred v p => simp [trE] at h
    | _ => rfl
theorem trEs_plain {T : Tr} : ∀ {n : Nat} {es : List Expr} {es' : List E}, trEs T n es = some es' → ∀ (env : PySem.Env) (pos : Pos), (backTo pos (starEach es env)).any (·.1) = false
  | 0, _, _, h, _, _ => by rw [trEs] at h; cases h
  | _ + 1, [], _, _, _, _ => rfl
  | n + 1, e :: es, _, h, env, pos => by
    simp only [trEs, Option.bind_eq_some_iff] at h
    obtain ⟨e', h1, es', h2, _⟩ := h
    rw [trE_star h1]
    have q := trEs_plain h2 env pos
    unfold backTo at q ⊢
    rw [List.map_cons, List.any_cons]
    exact q

theorem trEs_head {T : Tr} {n : Nat} {e : Expr} {es : List Expr} {es' : List E} (h : trEs T n (e :: es) = some es') (env : PySem.Env) : starEach (e :: es) env = (false, eval e env) :: starEach es env := by
  cases n with
  | zero => rw [trEs] at h; cases h
  | succ n =>
    simp only [trEs, Option.bind_eq_some_iff, Option.some.injEq] at h
    obtain ⟨z1, z2, _⟩ := h
    exact trE_star z2 es env
theorem trEs_tail {T : Tr} {n : Nat} {e : Expr} {es : List Expr} {es' : List E} (h : trEs T n (e :: es) = some es') (env : PySem.Env) (pos : Pos) : (backTo pos (starEach es env)).any (·.1) = false := by
  cases n with
  | zero => rw [trEs] at h; cases h
  | succ n =>
    simp only [trEs, Option.bind_eq_some_iff, Option.some.injEq] at h
    obtain ⟨z1, z2, z3, z4, _⟩ := h
    exact trEs_plain z4 env pos

/-! ### what the rules want, by data -/
def lE (K : PySem.W.Frag) (H₀ : Hp) (W : Hp → Hp) (acc : List Nat) (Φ : Nat → List D → Ou D) (e : E) : TE := fun σ H Q =>
  ∃ ρ A, EnvOk K H₀ W acc A H σ ρ ∧ ∃ d, evE Φ e ρ = .ok d ∧ ∀ v H', Same H H' → Den K (hid (W H') A) v d → Q v H'
def lT (K : PySem.W.Frag) (H₀ : Hp) (W : Hp → Hp) (acc : List Nat) (Φ : Nat → List D → Ou D) (e : E) : TT := fun σ H Q =>
  ∃ ρ A, EnvOk K H₀ W acc A H σ ρ ∧ ∃ b, evE Φ e ρ = .ok (.bl b) ∧ ∀ H', Same H H' → Q b H'
def lEs (K : PySem.W.Frag) (H₀ : Hp) (W : Hp → Hp) (acc : List Nat) (Φ : Nat → List D → Ou D) (es : List E) : TA := fun σ H Q =>
  ∃ ρ A, EnvOk K H₀ W acc A H σ ρ ∧ ∃ ds, evEs Φ es ρ = .ok ds ∧ ∀ vs H', Same H H' → DenL K (hid (W H') A) vs ds → Q vs H'

/-- what a def promises, by data -/
def spF (K : PySem.W.Frag) (F : List D → Ou D) : Sp := fun vs H Q _ => ∃ W ds d, Vw H W ∧ DenL K (W H) vs ds ∧ F ds = .ok d ∧ ∀ v H', Same H H' → Den K (W H') v d → Q v H'

/-- a def that may be called by its name; ds: its defaults -/
structure Cal (P : Program) (w : World) (K : PySem.W.Frag) (mg : Str → Option Value) (base : Heap) (k : Nat) (x : Str) (F : List D → Ou D) : Prop where
  ex : ∃ (f : Addr) (fd : FuncData) (ps : List Str) (dvs : List V) (dus : List Value) (dds : List D) (G : List D → Ou D),
    FnOk P w K mg base CX0 k f fd ps (spF K G) ∧ mg x = some (.ref f) ∧ PySem.W.keepIn K (.ref f) = true ∧ Binds K fd ps dus ∧ Vals dvs dus ∧ (∀ H, DenL K H dvs dds) ∧ ∀ ds, F ds = G (ds ++ dds)

def bltNames : List Str := ["len", "abs", "max", "min", "int", "bool", "list", "tuple", "str", "isinstance", "range", "enumerate"]
structure Bg (X : Cx) (T : Tr) (Φ : Nat → List D → Ou D) (k : Nat) : Prop where
  sc : X.env.scope = T.sc
  nm : X.N = T.N
  nd : T.N.Nodup
  calm : X.calm = true
  room : Room k X.A
  blt : ∀ x ∈ bltNames, X.mg x = none
  cal : ∀ i x, T.F[i]? = some x → Cal X.prog X.w X.K X.mg X.base k x (Φ i)

section
variable {X : Cx} {T : Tr} {Φ : Nat → List D → Ou D} {k : Nat} {H₀ : Hp}
theorem PE.weak {e : Expr} {t t' : TE} (h : PE X e t) (f : ∀ σ H Q, t' σ H Q → t σ H Q) : PE X e t' := fun pins s σ H Q I q => h pins s σ H Q I (f σ H Q q)
theorem PT.weak {e : Expr} {t t' : TT} (h : PT X e t) (f : ∀ σ H Q, t' σ H Q → t σ H Q) : PT X e t' := fun pins s σ H Q I q => h pins s σ H Q I (f σ H Q q)
theorem PW.weak {e : Expr} {t t' : TT} (h : PW X e t) (f : ∀ σ H Q, t' σ H Q → t σ H Q) : PW X e t' := fun wh pins s σ H Q I q => h wh pins s σ H Q I (f σ H Q q)
theorem PA.weak {e : List Expr} {t t' : TA} (h : PA X e t) (f : ∀ σ H Q, t' σ H Q → t σ H Q) : PA X e t' := fun p pins s σ H Q I q => h p pins s σ H Q I (f σ H Q q)

theorem Bg.gl (B : Bg X T Φ k) {x : Str} (h : isGl T.sc x = true) : Gl X x := by
  show X.env.scope.names.lookup x = _
  rw [B.sc]; exact isGl_of h
theorem Bg.vis (B : Bg X T Φ k) {x : Str} {i : Nat} (h : trV T x = some i) : X.N[i]? = some x ∧ X.env.scope.names.lookup x = some .local ∧ (x == ("__debug__" : Str)) = false ∧ (x == ("__classdict__" : Str)) = false := by
  unfold trV at h
  split at h
  · rename_i c
    exact ⟨by rw [B.nm]; exact slot_get h, by rw [B.sc]; exact isLoc_of c.1, c.2.1, c.2.2⟩
  · cases h

theorem mulOk.ok {i j : Int} (h : mulOk i j) : IntMulOk i j := by
  have b : ∀ {k : Int} {n : Nat}, k.natAbs.log2 < n → Builtin.Int.intBits k ≤ n := fun {k n} q => by
    unfold Builtin.Int.intBits
    split
    · exact Nat.zero_le _
    · exact q
  rcases h with h | h | ⟨h1, h2⟩
  · exact .of_left (b h)
  · exact .of_right (b h)
  · exact .of_bits (Nat.le_trans (b h1) (by decide)) (Nat.le_trans (b h2) (by decide))

/-- a two-place operation by data -/
def rD (K : PySem.W.Frag) (g : D → D → Ou D) : R2 := fun x y H Q => ∃ W a b d, Vw H W ∧ Den K (W H) x a ∧ Den K (W H) y b ∧ g a b = .ok d ∧ ∀ v H', Same H H' → Den K (W H') v d → Q v H'
theorem den_int {K : PySem.W.Frag} {H : Hp} {v : V} {i : Int} (h : Den K H v (.int i)) : v = .int i := by cases h; rfl
theorem den_bl {K : PySem.W.Frag} {H : Hp} {v : V} {b : Bool} (h : Den K H v (.bl b)) : v = .bl b := by cases h; rfl
theorem fresh_lst {K : PySem.W.Frag} {H : Hp} {W : Hp → Hp} {p : Addr} {vs : List V} {ds : List D} (ha : Vw H W) (hp : H p = none) (hv : DenL K (W H) vs ds) :
    Same H (upd H p (.lst vs)) ∧ Den K (W (upd H p (.lst vs))) (.ref p) (.lst ds) := by
  have sm := same_new hp (.lst vs)
  exact ⟨sm, .lst (.inl (.inl (ha.new _ p _ sm hp upd_same))) (hv.mono (ha.mono _ _ (Same.refl H) sm))⟩
theorem fresh_tup {K : PySem.W.Frag} {H : Hp} {W : Hp → Hp} {p : Addr} {vs : List V} {ds : List D} (ha : Vw H W) (hp : H p = none) (hv : DenL K (W H) vs ds) :
    Same H (upd H p (.tup vs)) ∧ Den K (W (upd H p (.tup vs))) (.ref p) (.tup ds) := by
  have sm := same_new hp (.tup vs)
  exact ⟨sm, .tup (.inl (.inl (ha.new _ p _ sm hp upd_same))) (hv.mono (ha.mono _ _ (Same.refl H) sm))⟩

theorem op_int {f : Value → Value → Sem Value} {C : Int → Int → Prop} {g : Int → Int → V} {h : D → D → Ou D} {h' : Int → Int → D} (o : OpR X f (rI C g))
    (sh : ∀ a b d, h a b = .ok d → ∃ i j, a = .int i ∧ b = .int j ∧ C i j ∧ d = h' i j) (sd : ∀ K H i j, Den K H (g i j) (h' i j)) : OpR X f (rD X.K h) := by
  intro pins s σ H x y v u Q I rx ry q
  obtain ⟨A, a, b, d, _, dx, dy, e, q⟩ := q
  obtain ⟨i, j, rfl, rfl, c, rfl⟩ := sh a b d e
  have e1 := den_int dx
  have e2 := den_int dy
  subst e1 e2
  exact o pins s σ H _ _ v u Q I rx ry ⟨i, j, rfl, rfl, c, q _ H (Same.refl H) (sd _ _ _ _)⟩
theorem op_fdivB : OpR X (binaryOp .FloorDiv) (rI (fun _ j => divOk j) fun i j => .int (i.fdiv j)) := opI fun _ _ _ _ _ _ _ hc q => floordiv_int hc.1 q (.inl (PyProof.noPylong_of_log2 hc.2))
theorem op_mulB : OpR X (binaryOp .Mult) (rI mulOk fun i j => .int (i * j)) := opI fun _ _ _ _ _ _ _ hc q => mul_int q hc.ok
theorem op_addB : OpR X (binaryOp .Add) (rI (fun _ _ => True) fun i j => .int (i + j)) := opI fun _ _ _ _ _ _ _ _ q => add_int q
theorem op_subB : OpR X (binaryOp .Sub) (rI (fun _ _ => True) fun i j => .int (i - j)) := opI fun _ _ _ _ _ _ _ _ q => sub_int q
theorem op_andB : OpR X (binaryOp .BitAnd) (rI (fun _ _ => True) fun i j => .int (Builtin.bitAnd i j)) := opI fun _ _ _ _ _ _ _ _ q => and_int q
theorem op_catB : OpR X (binaryOp .Add) (fun x y H Q => ∃ l b xs zs, x = .ref l ∧ y = .ref b ∧ SqL X.K H l xs ∧ SqL X.K H b zs ∧ xs.length + zs.length ≤ sizeLine ∧ ∀ p, H p = none → Q (.ref p) (upd H p (.lst (xs ++ zs)))) := by
  intro pins s σ H x y v u Q I rx ry h
  obtain ⟨l, b, xs, zs, rfl, rfl, hH, hB, hz, q⟩ := h
  cases rx
  cases ry
  obtain ⟨its, r, pl, _⟩ := I.list hH
  obtain ⟨its2, r2, pl2, _⟩ := I.list hB
  have hl := r.length
  have hl2 := r2.length
  obtain ⟨⟨cls, dd, data, sl⟩, ho, hc, n, hd⟩ := pl.isList
  obtain ⟨⟨cls2, dd2, data2, sl2⟩, ho2, hc2, n2, hd2⟩ := pl2.isList
  simp only at hc hd hc2 hd2
  subst hc hd hc2 hd2
  have e : its.toArray ++ its2.toArray = (its ++ its2).toArray := by simp
  refine concat_meets ⟨_, ho, rfl⟩ ⟨_, ho2, rfl⟩ noFill_list_add seq_list_add PySem.F.slot_list_add PySem.F.entry_list_add (PySem.F.args_list_add_2 _ _) (list_addW l b its.toArray its2.toArray n n2 dd dd2 sl sl2 (by rw [List.size_toArray, List.size_toArray]; omega)) ⟨ho, ho2, ?_⟩
  rw [e]
  exact ⟨.ref _, _, I.lnew (t' := s.toks) (r.append r2) (by rw [List.length_append]; omega), rfl, q _ I.fresh⟩
theorem lenMax_lt : lenMax < sizeLine := by decide
theorem Vw.here {H : Hp} {W : Hp → Hp} (v : Vw H W) : Same (W H) H := v.sub H (Same.refl H)

theorem op_ev2 : ∀ {op : Operator} {o : Op2}, trO op = some o → OpR X (binaryOp op) (rD X.K (ev2 o)) := by
  intro op o h
  cases op <;> simp only [trO, Option.some.injEq, reduceCtorEq] at h <;> subst h
  case Add =>
    intro pins s σ H x y v u Q I rx ry q
    obtain ⟨A, a, b, d, ha, dx, dy, e, q⟩ := q
    cases dx <;> cases dy <;> simp only [ev2, reduceCtorEq] at e
    case int.int i j =>
      cases e
      exact op_addB pins s σ H _ _ v u Q I rx ry ⟨i, j, rfl, rfl, trivial, q _ H (Same.refl H) .int⟩
    case lst.lst p vs xs h1 r1 p2 vs2 ys h2 r2 =>
      split at e
      · rename_i hl
        cases e
        have l1 := r1.length
        have l2 := r2.length
        refine op_catB pins s σ H _ _ v u Q I rx ry ⟨p, p2, vs, vs2, rfl, rfl, sameL ha.here h1, sameL ha.here h2, ?_, fun z hz => ?_⟩
        · have := lenMax_lt
          omega
        · obtain ⟨sm, dn⟩ := fresh_lst (K := X.K) ha hz (r1.append r2)
          exact q _ _ sm dn
      · cases e
  case Sub => exact op_int op_subB (fun a b d e => by cases a <;> cases b <;> simp only [ev2, reduceCtorEq] at e; cases e; exact ⟨_, _, rfl, rfl, trivial, rfl⟩) fun _ _ _ _ => .int
  case Mult =>
    refine op_int op_mulB (fun a b d e => ?_) fun _ _ _ _ => .int
    cases a <;> cases b <;> simp only [ev2, reduceCtorEq] at e
    split at e
    · cases e; exact ⟨_, _, rfl, rfl, by assumption, rfl⟩
    · cases e
  case FloorDiv =>
    refine op_int op_fdivB (fun a b d e => ?_) fun _ _ _ _ => .int
    cases a <;> cases b <;> simp only [ev2, reduceCtorEq] at e
    split at e
    · cases e; exact ⟨_, _, rfl, rfl, by assumption, rfl⟩
    · cases e
  case Mod =>
    refine op_int op_modN (fun a b d e => ?_) fun _ _ _ _ => .int
    cases a <;> cases b <;> simp only [ev2, reduceCtorEq] at e
    split at e
    · cases e; exact ⟨_, _, rfl, rfl, by assumption, rfl⟩
    · cases e
  case Pow =>
    refine op_int op_pow (fun a b d e => ?_) fun _ _ _ _ => .int
    cases a <;> cases b <;> simp only [ev2, reduceCtorEq] at e
    split at e
    · cases e; exact ⟨_, _, rfl, rfl, by assumption, rfl⟩
    · cases e
  case RShift =>
    refine op_int op_shr (fun a b d e => ?_) fun _ _ _ _ => .int
    cases a <;> cases b <;> simp only [ev2, reduceCtorEq] at e
    split at e
    · cases e; exact ⟨_, _, rfl, rfl, by assumption, rfl⟩
    · cases e
  case BitAnd => exact op_int op_andB (fun a b d e => by cases a <;> cases b <;> simp only [ev2, reduceCtorEq] at e; cases e; exact ⟨_, _, rfl, rfl, trivial, rfl⟩) fun _ _ _ _ => .int

theorem op_evC (hu : X.A.units + 64 < cLine) : ∀ {op : CmpOp} {o : Cm}, trC op = some o → OpR X (compareOp op) (rD X.K (evC o)) := by
  intro op o h
  have ltB : OpR X (compareOp .Lt) (rI (fun _ _ => True) fun i j => .bl (decide (i < j))) := fun pins s σ H x y v u Q I rx ry ⟨i, j, h1, h2, _, q⟩ => op_lt pins s σ H x y v u Q I rx ry ⟨i, j, h1, h2, q⟩
  have leB : OpR X (compareOp .LtE) (rI (fun _ _ => True) fun i j => .bl (decide (i ≤ j))) := fun pins s σ H x y v u Q I rx ry ⟨i, j, h1, h2, _, q⟩ => op_le pins s σ H x y v u Q I rx ry ⟨i, j, h1, h2, q⟩
  have gtB : OpR X (compareOp .Gt) (rI (fun _ _ => True) fun i j => .bl (decide (j < i))) := fun pins s σ H x y v u Q I rx ry ⟨i, j, h1, h2, _, q⟩ => op_gt pins s σ H x y v u Q I rx ry ⟨i, j, h1, h2, q⟩
  have geB : OpR X (compareOp .GtE) (rI (fun _ _ => True) fun i j => .bl (decide (j ≤ i))) := fun pins s σ H x y v u Q I rx ry ⟨i, j, h1, h2, _, q⟩ => op_ge pins s σ H x y v u Q I rx ry ⟨i, j, h1, h2, q⟩
  cases op <;> simp only [trC, Option.some.injEq, reduceCtorEq] at h <;> subst h
  case Eq =>
    intro pins s σ H x y v u Q I rx ry q
    obtain ⟨A, a, b, d, ha, dx, dy, e, q⟩ := q
    simp only [evC] at e
    split at e
    · rename_i c
      cases e
      obtain ⟨as, r1⟩ := reads_of I ha.here dx rx
      obtain ⟨bs, r2⟩ := reads_of I ha.here dy ry
      exact eq_dataH r1 r2 (shaped_toP c.1) (shaped_toP c.2) hu ⟨.bl _, H, I, by rw [eqv_toP]; rfl, q _ H (Same.refl H) .bl⟩
    · cases e
  case NotEq =>
    intro pins s σ H x y v u Q I rx ry q
    obtain ⟨A, a, b, d, ha, dx, dy, e, q⟩ := q
    simp only [evC] at e
    split at e
    · rename_i c
      cases e
      obtain ⟨as, r1⟩ := reads_of I ha.here dx rx
      obtain ⟨bs, r2⟩ := reads_of I ha.here dy ry
      exact ne_dataH r1 r2 (shaped_toP c.1) (shaped_toP c.2) hu ⟨.bl _, H, I, by rw [eqv_toP]; rfl, q _ H (Same.refl H) .bl⟩
    · cases e
  case Lt => exact op_int ltB (fun a b d e => by cases a <;> cases b <;> simp only [evC, reduceCtorEq] at e; cases e; exact ⟨_, _, rfl, rfl, trivial, rfl⟩) fun _ _ _ _ => .bl
  case LtE => exact op_int leB (fun a b d e => by cases a <;> cases b <;> simp only [evC, reduceCtorEq] at e; cases e; exact ⟨_, _, rfl, rfl, trivial, rfl⟩) fun _ _ _ _ => .bl
  case Gt => exact op_int gtB (fun a b d e => by cases a <;> cases b <;> simp only [evC, reduceCtorEq] at e; cases e; exact ⟨_, _, rfl, rfl, trivial, rfl⟩) fun _ _ _ _ => .bl
  case GtE => exact op_int geB (fun a b d e => by cases a <;> cases b <;> simp only [evC, reduceCtorEq] at e; cases e; exact ⟨_, _, rfl, rfl, trivial, rfl⟩) fun _ _ _ _ => .bl

/-! ### builtin calls by data -/
def rB (K : PySem.W.Frag) (g : List D → Ou D) : List V → Hp → VK → Prop := fun xs H Q => ∃ W ds d, Vw H W ∧ DenL K (W H) xs ds ∧ g ds = .ok d ∧ ∀ v H', Same H H' → Den K (W H') v d → Q v H'
theorem denl1 {K : PySem.W.Frag} {H : Hp} {xs : List V} {d : D} (h : DenL K H xs [d]) : ∃ x, xs = [x] ∧ Den K H x d := by
  cases h with
  | cons a r => cases r; exact ⟨_, rfl, a⟩
theorem denl2 {K : PySem.W.Frag} {H : Hp} {xs : List V} {d e : D} (h : DenL K H xs [d, e]) : ∃ x y, xs = [x, y] ∧ Den K H x d ∧ Den K H y e := by
  cases h with
  | cons a r =>
    obtain ⟨y, rfl, b⟩ := denl1 r
    exact ⟨_, _, rfl, a, b⟩
end
end Ev

namespace Ev
open PySem PySem.Spec PyProof.Rows L2
section
variable {X : Cx} {T : Tr} {Φ : Nat → List D → Ou D} {k : Nat} {H₀ : Hp} {W : Hp → Hp}

theorem cb_len : CallR X (.builtin "len") (rB X.K (evB .len)) := by
  intro pins s σ H xs us Q I r q
  obtain ⟨A, ds, d, ha, dn, e, q⟩ := q
  match ds, e with
  | [.lst ys], e =>
    obtain ⟨x, rfl, dx⟩ := denl1 dn
    cases dx with
    | lst h1 r1 =>
      rw [evB] at e; cases e
      have hl := r1.length
      exact call_len_seq pins s σ H _ us Q I r ⟨_, _, rfl, .inl (sameL ha.here h1), by rw [hl]; exact q _ H (Same.refl H) .int⟩
  | [.tup ys], e =>
    obtain ⟨x, rfl, dx⟩ := denl1 dn
    cases dx with
    | tup h1 r1 =>
      rw [evB] at e; cases e
      have hl := r1.length
      exact call_len_seq pins s σ H _ us Q I r ⟨_, _, rfl, .inr (sameT ha.here h1), by rw [hl]; exact q _ H (Same.refl H) .int⟩
theorem cb_abs : CallR X (.builtin "abs") (rB X.K (evB .abs)) := by
  intro pins s σ H xs us Q I r q
  obtain ⟨A, ds, d, ha, dn, e, q⟩ := q
  match ds, e with
  | [.int i], e =>
    obtain ⟨x, rfl, dx⟩ := denl1 dn
    cases dx
    rw [evB] at e; cases e
    exact call_abs pins s σ H _ us Q I r ⟨i, rfl, q _ H (Same.refl H) .int⟩
theorem cb_max (hc : X.calm = true) : CallR X (.builtin "max") (rB X.K (evB .max)) := by
  intro pins s σ H xs us Q I r q
  obtain ⟨A, ds, d, ha, dn, e, q⟩ := q
  match ds, e with
  | [.int i, .int j], e =>
    obtain ⟨x, y, rfl, dx, dy⟩ := denl2 dn
    cases dx; cases dy
    rw [evB] at e; cases e
    exact call_max2 hc pins s σ H _ us Q I r ⟨i, j, rfl, q _ H (Same.refl H) .int⟩
theorem cb_min (hc : X.calm = true) : CallR X (.builtin "min") (rB X.K (evB .min)) := by
  intro pins s σ H xs us Q I r q
  obtain ⟨A, ds, d, ha, dn, e, q⟩ := q
  match ds, e with
  | [.int i, .int j], e =>
    obtain ⟨x, y, rfl, dx, dy⟩ := denl2 dn
    cases dx; cases dy
    rw [evB] at e; cases e
    exact call_min2 hc pins s σ H _ us Q I r ⟨i, j, rfl, q _ H (Same.refl H) .int⟩
theorem cb_int : CallR X (.type "int") (rB X.K (evB .int)) := by
  intro pins s σ H xs us Q I r q
  obtain ⟨A, ds, d, ha, dn, e, q⟩ := q
  match ds, e with
  | [.int i], e =>
    obtain ⟨x, rfl, dx⟩ := denl1 dn
    cases dx
    rw [evB] at e; cases e
    exact call_int1 pins s σ H _ us Q I r (.inl ⟨i, rfl, q _ H (Same.refl H) .int⟩)
  | [.bl b], e =>
    obtain ⟨x, rfl, dx⟩ := denl1 dn
    cases dx
    rw [evB] at e; cases e
    exact call_int1 pins s σ H _ us Q I r (.inr ⟨b, rfl, q _ H (Same.refl H) .int⟩)
theorem cb_list : CallR X (.type "list") (rB X.K (evB .list)) := by
  intro pins s σ H xs us Q I r q
  obtain ⟨A, ds, d, ha, dn, e, q⟩ := q
  match ds, e with
  | [.lst ys], e =>
    obtain ⟨x, rfl, dx⟩ := denl1 dn
    cases dx with
    | lst h1 r1 =>
      rw [evB] at e; cases e
      exact call_list_of pins s σ H _ us Q I r ⟨_, _, rfl, .inl (sameL ha.here h1), fun p hp => let ⟨a, b⟩ := fresh_lst (K := X.K) ha hp r1; q _ _ a b⟩
  | [.tup ys], e =>
    obtain ⟨x, rfl, dx⟩ := denl1 dn
    cases dx with
    | tup h1 r1 =>
      rw [evB] at e; cases e
      exact call_list_of pins s σ H _ us Q I r ⟨_, _, rfl, .inr (sameT ha.here h1), fun p hp => let ⟨a, b⟩ := fresh_lst (K := X.K) ha hp r1; q _ _ a b⟩
theorem cb_tuple : CallR X (.type "tuple") (rB X.K (evB .tuple)) := by
  intro pins s σ H xs us Q I r q
  obtain ⟨A, ds, d, ha, dn, e, q⟩ := q
  match ds, e with
  | [.lst ys], e =>
    obtain ⟨x, rfl, dx⟩ := denl1 dn
    cases dx with
    | lst h1 r1 =>
      rw [evB] at e; cases e
      exact call_tuple_of pins s σ H _ us Q I r ⟨_, _, rfl, .inl ⟨sameL ha.here h1, fun p hp => let ⟨a, b⟩ := fresh_tup (K := X.K) ha hp r1; q _ _ a b⟩⟩
  | [.tup ys], e =>
    obtain ⟨x, rfl, dx⟩ := denl1 dn
    cases dx with
    | tup h1 r1 =>
      rw [evB] at e; cases e
      exact call_tuple_of pins s σ H _ us Q I r ⟨_, _, rfl, .inr ⟨sameT ha.here h1, q _ H (Same.refl H) (.tup h1 r1)⟩⟩

theorem pe_bi (hc : X.calm = true) (hb : ∀ x ∈ bltNames, X.mg x = none) {x : Str} {b : Bi} {p pos : Pos} {e : Expr} {es : List Expr} {t : TA} (h : trB x = some b) (hg : Gl X x) (ha : PA X (e :: es) t)
    (he : starEach (e :: es) X.env = (false, eval e X.env) :: starEach es X.env) (hpl : (backTo pos (starEach es X.env)).any (·.1) = false) : PE X (.Call (.Name x p) (e :: es) [] pos) (tCB (rB X.K (evB b)) t) := by
  unfold trB at h
  split at h
  · rename_i q; subst q; cases h
    exact pe_callB cb_len hg (hb _ (by simp [bltNames])) (by decide +kernel) ha (by decide) (by decide) he hpl
  split at h
  · rename_i q; subst q; cases h
    exact pe_callB cb_abs hg (hb _ (by simp [bltNames])) (by decide +kernel) ha (by decide) (by decide) he hpl
  split at h
  · rename_i q; subst q; cases h
    exact pe_callB (cb_max hc) hg (hb _ (by simp [bltNames])) (by decide +kernel) ha (by decide) (by decide) he hpl
  split at h
  · rename_i q; subst q; cases h
    exact pe_callB (cb_min hc) hg (hb _ (by simp [bltNames])) (by decide +kernel) ha (by decide) (by decide) he hpl
  split at h
  · rename_i q; subst q; cases h
    exact pe_callTy cb_int hg (hb _ (by simp [bltNames])) (by decide +kernel) ha (by decide) (by decide) he hpl
  split at h
  · rename_i q; subst q; cases h
    exact pe_callTy cb_list hg (hb _ (by simp [bltNames])) (by decide +kernel) ha (by decide) (by decide) he hpl
  split at h
  · rename_i q; subst q; cases h
    exact pe_callTy cb_tuple hg (hb _ (by simp [bltNames])) (by decide +kernel) ha (by decide) (by decide) he hpl
  cases h

/-! ### isinstance -/
def tyN : Ty → String
  | .int => "int" | .bool => "bool" | .tuple => "tuple" | .list => "list" | .str => "str"
def kindN : D → String
  | .non => "NoneType" | .bl _ => "bool" | .int _ => "int" | .str _ => "str" | .tup _ => "tuple" | .lst _ => "list"
theorem kit_ty (K : PySem.W.Frag) (d : D) (t : Ty) : PySem.W.kitOne K (.type (kindN d)) (.type (tyN t)) = some (isTy t d) := by
  cases d <;> cases t <;> (show PySem.W.kitOne K (.type _) (.type _) = some _) <;> with_unfolding_all rfl
theorem cb_isi (t : Ty) : CallR X (.builtin "isinstance") (fun xs H Q => ∃ G x d, Same G H ∧ xs = [x, .ty (tyN t)] ∧ Den X.K G x d ∧ Q (.bl (isTy t d)) H) := by
  intro pins s σ H xs us Q I r q
  obtain ⟨G, x, d, sg, rfl, dx, q⟩ := q
  obtain ⟨u, w, rfl, rx, rt⟩ := vals2 r
  cases (show w = Value.type (tyN t) from rt)
  have kt := kit_ty X.K d t
  have fin : ∀ tk, EP X pins σ Q (.bool (isTy t d)) { s with toks := tk } := fun tk => ⟨.bl _, H, I.tok _, rfl, q⟩
  cases dx with
  | non => cases (show u = Value.none from rx); exact PySem.W.kia_one PySem.W.kitx_none I.kIn True.intro kt (fun z => nomatch z) fin
  | bl => cases (show u = Value.bool _ from rx); exact PySem.W.kia_one PySem.W.kitx_bool I.kIn True.intro kt (fun z => nomatch z) fin
  | int => obtain ⟨t', z⟩ := (show ∃ t, u = Value.int _ t from rx); cases z; exact PySem.W.kia_one PySem.W.kitx_int I.kIn True.intro kt (fun z => nomatch z) fin
  | str => obtain ⟨t', z⟩ := (show ∃ t, u = Value.str _ t from rx); cases z; exact PySem.W.kia_one PySem.W.kitx_str I.kIn True.intro kt (fun z => nomatch z) fin
  | tup h r1 =>
    cases (show u = Value.ref _ from rx)
    obtain ⟨its, _, ⟨o, h1, h2, _⟩, _⟩ := I.tuple (sameT sg h)
    exact PySem.W.kia_one PySem.W.kitx_tuple I.kIn ⟨o, h1, h2⟩ kt (fun z => nomatch z) fin
  | lst h r1 =>
    cases (show u = Value.ref _ from rx)
    obtain ⟨its, _, ⟨o, n, h1, h2, _⟩, _⟩ := I.list (sameL sg h)
    exact PySem.W.kia_one PySem.W.kitx_list I.kIn ⟨o, h1, h2⟩ kt (fun z => nomatch z) fin
theorem pe_ty (hb : ∀ x ∈ bltNames, X.mg x = none) {x : Str} {t : Ty} {p : Pos} (h : trT x = some t) (hg : Gl X x) : PE X (.Name x p) (tC (.ty (tyN t))) := by
  unfold trT at h
  split at h
  · rename_i q; subst q; cases h
    exact pe_bltn (u := .type "int") hg (hb _ (by simp [bltNames])) (by decide +kernel) rfl (by decide) (by decide)
  split at h
  · rename_i q; subst q; cases h
    exact pe_bltn (u := .type "bool") hg (hb _ (by simp [bltNames])) (by decide +kernel) rfl (by decide) (by decide)
  split at h
  · rename_i q; subst q; cases h
    exact pe_bltn (u := .type "tuple") hg (hb _ (by simp [bltNames])) (by decide +kernel) rfl (by decide) (by decide)
  split at h
  · rename_i q; subst q; cases h
    exact pe_bltn (u := .type "list") hg (hb _ (by simp [bltNames])) (by decide +kernel) rfl (by decide) (by decide)
  split at h
  · rename_i q; subst q; cases h
    exact pe_bltn (u := .type "str") hg (hb _ (by simp [bltNames])) (by decide +kernel) rfl (by decide) (by decide)
  cases h

/-! ### an item -/
theorem atI_den {K : PySem.W.Frag} {H : Hp} {vs : List V} {ds : List D} {i : Int} {d : D} (r : DenL K H vs ds) (h : atI ds i = some d) : ∃ v, atI vs i = some v ∧ Den K H v d := by
  unfold atI at h ⊢
  rw [r.length]
  cases e : ixN ds.length i with
  | none => rw [e] at h; cases h
  | some j =>
    rw [e] at h
    obtain ⟨v, h1, h2⟩ := r.get (show ds[j]? = some d from h)
    exact ⟨v, h1, h2⟩
theorem ix_evI : IxR X (rD X.K evI) := by
  intro value slice pins s σ H x y v u Q I rx ry q hs
  obtain ⟨A, a, b, d, ha, dx, dy, e, q⟩ := q
  cases dx <;> cases dy <;> simp only [evI, reduceCtorEq] at e
  case tup.int p vs ds h1 r1 i =>
    split at e
    · rename_i z hz
      cases e
      obtain ⟨w, h2, h3⟩ := atI_den r1 hz
      exact ix_tup value slice pins s σ H _ _ v u Q I rx ry ⟨p, vs, i, w, rfl, rfl, sameT ha.here h1, h2, q _ H (Same.refl H) h3⟩ hs
    · cases e
  case lst.int p vs ds h1 r1 i =>
    split at e
    · rename_i z hz
      cases e
      obtain ⟨w, h2, h3⟩ := atI_den r1 hz
      exact ix_list value slice pins s σ H _ _ v u Q I rx ry ⟨p, vs, i, w, rfl, rfl, sameL ha.here h1, h2, q _ H (Same.refl H) h3⟩ hs
    · cases e

/-! ### expressions, all at once -/
theorem two_ok {K : PySem.W.Frag} {acc : List Nat} {a b : E} {g : D → D → Ou D} {r : R2} (hr : ∀ x y H Q, rD K g x y H Q → r x y H Q) :
    ∀ σ H Q, (∃ ρ A, EnvOk K H₀ W acc A H σ ρ ∧ ∃ d, ((evE Φ a ρ).bind fun x => (evE Φ b ρ).bind fun y => g x y) = .ok d ∧ ∀ v H', Same H H' → Den K (hid (W H') A) v d → Q v H') →
      tOp r (lE K H₀ W acc Φ a) (lE K H₀ W acc Φ b) σ H Q := by
  intro σ H Q ⟨ρ, A, ok, d, e, q⟩
  obtain ⟨x, e1, e⟩ := Ou.bind_eq_ok e
  obtain ⟨y, e2, e⟩ := Ou.bind_eq_ok e
  refine ⟨ρ, A, ok, x, e1, fun v H1 s1 dv => ⟨ρ, A, ok.mono s1, y, e2, fun u H2 s2 du => hr _ _ _ _ ?_⟩⟩
  exact ⟨_, x, y, d, ((ok.mono s1).mono s2).view, dv.mono ((ok.mono s1).view.mono _ _ (Same.refl H1) s2), du, e, fun w H3 s3 dw => q w H3 (s1.trans (s2.trans s3)) dw⟩
theorem pt_of {K : PySem.W.Frag} {acc : List Nat} {a : E} : ∀ σ H Q, lT K H₀ W acc Φ a σ H Q → tB (lE K H₀ W acc Φ a) σ H Q := by
  intro σ H Q ⟨ρ, A, ok, b, e, q⟩
  exact ⟨ρ, A, ok, _, e, fun v H1 s1 dv => ⟨b, den_bl dv, q H1 s1⟩⟩

structure Snd (X : Cx) (T : Tr) (Φ : Nat → List D → Ou D) (H₀ : Hp) (W : Hp → Hp) (n : Nat) : Prop where
  e : ∀ pe e, trE T n pe = some e → PE X pe (lE X.K H₀ W T.acc Φ e) ∧ PT X pe (lT X.K H₀ W T.acc Φ e)
  w : ∀ op vs pos e, trE T n (.BoolOp op vs pos) = some e → PW X (.BoolOp op vs pos) (lT X.K H₀ W T.acc Φ e)
  a : ∀ es es', trEs T n es = some es' → PA X es (lEs X.K H₀ W T.acc Φ es')

theorem snd_args {n : Nat} (S : Snd X T Φ H₀ W n) : ∀ es es', trEs T (n + 1) es = some es' → PA X es (lEs X.K H₀ W T.acc Φ es') := by
  intro es es' h
  cases es with
  | nil =>
    simp only [trEs, Option.some.injEq] at h
    subst h
    refine PA.weak pa_nil ?_
    intro σ H Q ⟨ρ, A, ok, ds, e, q⟩
    simp only [evEs] at e
    cases e
    exact q [] H (Same.refl H) .nil
  | cons e es =>
    simp only [trEs, Option.bind_eq_some_iff, Option.some.injEq] at h
    obtain ⟨e', h1, es', h2, rfl⟩ := h
    refine PA.weak (pa_cons (S.e _ _ h1).1 (S.a _ _ h2) (trE_star h1 _ _)) ?_
    intro σ H Q ⟨ρ, A, ok, ds, z, q⟩
    simp only [evEs] at z
    obtain ⟨x, e1, z⟩ := Ou.bind_eq_ok z
    obtain ⟨xs, e2, z⟩ := Ou.bind_eq_ok z
    cases z
    exact ⟨ρ, A, ok, x, e1, fun v H1 s1 dv => ⟨ρ, A, ok.mono s1, xs, e2, fun vs H2 s2 dvs => q _ H2 (s1.trans s2) (.cons (dv.mono ((ok.mono s1).view.mono _ _ (Same.refl H1) s2)) dvs)⟩⟩

theorem pe_calD (B : Bg X T Φ k) {i : Nat} {x : Str} {e : Expr} {es : List Expr} {es' : List E} {p pos : Pos} (hi : slot T.F x = some i) (hg : Gl X x) (hdb : (x == ("__debug__" : Str)) = false) (ha : PA X (e :: es) (lEs X.K H₀ W T.acc Φ es'))
    (he : starEach (e :: es) X.env = (false, eval e X.env) :: starEach es X.env) (hpl : (backTo pos (starEach es X.env)).any (·.1) = false) : PE X (.Call (.Name x p) (e :: es) [] pos) (lE X.K H₀ W T.acc Φ (.call i es')) := by
  obtain ⟨f, fd, ps, dvs, dus, dds, G, F, hm, hk, hb, hd, hdd, hF⟩ := (B.cal i x (slot_get hi)).ex
  refine PE.weak (pe_call F B.room hg hm hk hb hd pass0 ha hdb he hpl) ?_
  intro σ H Q ⟨ρ, A, ok, d, z, q⟩
  simp only [evE] at z
  obtain ⟨xs, e2, z⟩ := Ou.bind_eq_ok z
  refine ⟨ρ, A, ok, xs, e2, fun vs H1 s1 dv => ?_⟩
  exact ⟨_, xs ++ dds, d, (ok.mono s1).view, dv.append (hdd _), by rw [← hF]; exact z, fun v H2 s2 d2 => q v H2 (s1.trans s2) d2⟩

theorem snd_all (B : Bg X T Φ k) : ∀ n, Snd X T Φ H₀ W n
  | 0 => ⟨(fun _ _ h => by simp [trE] at h), (fun _ _ _ _ h => by simp [trE] at h), (fun _ _ h => by simp [trEs] at h)⟩
  | n + 1 => by
    have S := snd_all B n
    have val : ∀ pe e, PE X pe (lE X.K H₀ W T.acc Φ e) → (∀ whole, isTrue pe X.env whole = (do let v ← whole; standAt pe.pos; holding [v] (truthy v))) → PE X pe (lE X.K H₀ W T.acc Φ e) ∧ PT X pe (lT X.K H₀ W T.acc Φ e) :=
      fun pe e h he => ⟨h, PT.weak (pt_val h he) pt_of⟩
    have W1 : ∀ op vs pos e, trE T (n + 1) (.BoolOp op vs pos) = some e → PE X (.BoolOp op vs pos) (lE X.K H₀ W T.acc Φ e) ∧ PW X (.BoolOp op vs pos) (lT X.K H₀ W T.acc Φ e) := by
      intro op vs pos e h
      match op, vs with
      | op, [] => cases op <;> simp [trE] at h
      | op, [a] =>
        have h' : trE T n a = some e := by cases op <;> simpa only [trE] using h
        obtain ⟨h1, h2⟩ := S.e a e h'
        refine ⟨pe_one h1, ?_⟩
        cases op with
        | And => exact pw_and1 h2
        | Or => exact pw_or1 h2
      | .And, a :: b :: r =>
        simp only [trE, Option.bind_eq_some_iff, Option.some.injEq] at h
        obtain ⟨a', h1, b', h2, rfl⟩ := h
        obtain ⟨p1, p2⟩ := S.e a a' h1
        obtain ⟨q1, q2⟩ := S.e _ b' h2
        refine ⟨PE.weak (pe_and p1 q1) ?_, PW.weak (pw_and p2 (S.w _ _ _ _ h2)) ?_⟩
        · intro σ H Q ⟨ρ, A, ok, d, z, q⟩
          simp only [evE] at z
          obtain ⟨x, e1, z⟩ := Ou.bind_eq_ok z
          refine ⟨ρ, A, ok, x, e1, fun v H1 s1 dv => ?_⟩
          match x, z with
          | .bl true, z => exact ⟨true, den_bl dv, iteT ⟨ρ, A, ok.mono s1, d, z, fun v' H2 s2 d2 => q v' H2 (s1.trans s2) d2⟩⟩
          | .bl false, z => cases z; exact ⟨false, den_bl dv, iteF (q _ H1 s1 .bl)⟩
        · intro σ H Q ⟨ρ, A, ok, d, z, q⟩
          simp only [evE] at z
          obtain ⟨x, e1, z⟩ := Ou.bind_eq_ok z
          match x, z with
          | .bl true, z => exact ⟨ρ, A, ok, true, e1, fun H1 s1 => iteT ⟨ρ, A, ok.mono s1, d, z, fun H2 s2 => q H2 (s1.trans s2)⟩⟩
          | .bl false, z => cases z; exact ⟨ρ, A, ok, false, e1, fun H1 s1 => iteF (q H1 s1)⟩
      | .Or, a :: b :: r =>
        simp only [trE, Option.bind_eq_some_iff, Option.some.injEq] at h
        obtain ⟨a', h1, b', h2, rfl⟩ := h
        obtain ⟨p1, p2⟩ := S.e a a' h1
        obtain ⟨q1, q2⟩ := S.e _ b' h2
        refine ⟨PE.weak (pe_or p1 q1) ?_, PW.weak (pw_or p2 (S.w _ _ _ _ h2)) ?_⟩
        · intro σ H Q ⟨ρ, A, ok, d, z, q⟩
          simp only [evE] at z
          obtain ⟨x, e1, z⟩ := Ou.bind_eq_ok z
          refine ⟨ρ, A, ok, x, e1, fun v H1 s1 dv => ?_⟩
          match x, z with
          | .bl false, z => exact ⟨false, den_bl dv, iteF ⟨ρ, A, ok.mono s1, d, z, fun v' H2 s2 d2 => q v' H2 (s1.trans s2) d2⟩⟩
          | .bl true, z => cases z; exact ⟨true, den_bl dv, iteT (q _ H1 s1 .bl)⟩
        · intro σ H Q ⟨ρ, A, ok, d, z, q⟩
          simp only [evE] at z
          obtain ⟨x, e1, z⟩ := Ou.bind_eq_ok z
          match x, z with
          | .bl false, z => exact ⟨ρ, A, ok, false, e1, fun H1 s1 => iteF ⟨ρ, A, ok.mono s1, d, z, fun H2 s2 => q H2 (s1.trans s2)⟩⟩
          | .bl true, z => cases z; exact ⟨ρ, A, ok, true, e1, fun H1 s1 => iteT (q H1 s1)⟩
    refine ⟨?_, fun op vs pos e h => (W1 op vs pos e h).2, snd_args S⟩
    intro pe e h
    cases pe with
    | BoolOp op vs pos => exact ⟨(W1 op vs pos e h).1, (W1 op vs pos e h).2.pt⟩
    | Name x pos =>
      simp only [trE, Option.bind_eq_some_iff] at h
      obtain ⟨i, h1, h2⟩ := h
      split at h2
      · cases h2
      · rename_i na
        cases h2
        obtain ⟨v1, v2, v3, v4⟩ := B.vis h1
        refine val _ _ (PE.weak (pe_var v1 (.inl v2) v3 v4) ?_) (fun _ => rfl)
        intro σ H Q ⟨ρ, A, ok, d, z, q⟩
        simp only [evE, getV] at z
        split at z
        · rename_i hz
          cases z
          obtain ⟨v, g1, g2⟩ := ok.nrm i _ na hz
          exact ⟨v, g1, q v H (Same.refl H) g2⟩
        · cases z
    | Constant c kk pos =>
      have cst : ∀ (v : V) (e : E) (d : D), (∀ ρ, evE Φ e ρ = .ok d) → (∀ H, Den X.K H v d) → ∀ σ H Q, lE X.K H₀ W T.acc Φ e σ H Q → tC v σ H Q := fun v e d h1 h2 σ H Q ⟨ρ, A, ok, d', z, q⟩ => by
        rw [h1] at z; cases z
        exact q v H (Same.refl H) (h2 _)
      cases c <;> simp only [trE, Option.some.injEq, reduceCtorEq] at h <;> subst h
      case none => exact val _ _ (PE.weak pe_non (cst _ _ .non (fun _ => by simp only [evE]) fun _ => .non)) (fun _ => rfl)
      case bool b => exact val _ _ (PE.weak pe_bl (cst _ _ (.bl b) (fun _ => by simp only [evE]) fun _ => .bl)) (fun _ => rfl)
      case int i => exact val _ _ (PE.weak pe_int (cst _ _ (.int i) (fun _ => by simp only [evE]) fun _ => .int)) (fun _ => rfl)
      case str x => exact val _ _ (PE.weak pe_str (cst _ _ (.str x) (fun _ => by simp only [evE]) fun _ => .str)) (fun _ => rfl)
    | BinOp a o b pos =>
      simp only [trE, Option.bind_eq_some_iff, Option.some.injEq] at h
      obtain ⟨o', h0, a', h1, b', h2, rfl⟩ := h
      refine val _ _ (PE.weak (pe_op (op_ev2 h0) (S.e _ _ h1).1 (S.e _ _ h2).1) ?_) (fun _ => rfl)
      intro σ H Q hq
      exact two_ok (fun _ _ _ _ z => z) σ H Q (by simpa only [lE, evE] using hq)
    | UnaryOp o a pos =>
      cases o <;> simp only [trE, Option.bind_eq_some_iff, Option.some.injEq, reduceCtorEq] at h
      case USub =>
        obtain ⟨a', h1, rfl⟩ := h
        refine val _ _ (PE.weak (pe_un un_neg (S.e _ _ h1).1) ?_) (fun _ => rfl)
        intro σ H Q ⟨ρ, A, ok, d, z, q⟩
        simp only [evE] at z
        obtain ⟨x, e1, z⟩ := Ou.bind_eq_ok z
        match x, z with
        | .int i, z =>
          cases z
          exact ⟨ρ, A, ok, _, e1, fun v H1 s1 dv => ⟨i, den_int dv, q _ H1 s1 .int⟩⟩
      case Not =>
        obtain ⟨a', h1, rfl⟩ := h
        refine ⟨PE.weak (pe_not (S.e _ _ h1).1) ?_, PT.weak (pt_not (S.e _ _ h1).2) ?_⟩
        · intro σ H Q ⟨ρ, A, ok, d, z, q⟩
          simp only [evE] at z
          obtain ⟨x, e1, z⟩ := Ou.bind_eq_ok z
          match x, z with
          | .bl b, z =>
            cases z
            exact ⟨ρ, A, ok, _, e1, fun v H1 s1 dv => ⟨b, den_bl dv, q _ H1 s1 .bl⟩⟩
        · intro σ H Q ⟨ρ, A, ok, d, z, q⟩
          simp only [evE] at z
          obtain ⟨x, e1, z⟩ := Ou.bind_eq_ok z
          match x, z with
          | .bl b, z =>
            cases z
            exact ⟨ρ, A, ok, _, e1, fun H1 s1 => q H1 s1⟩
    | Compare a os bs pos =>
      match os, bs with
      | [o], [b] =>
        simp only [trE, Option.bind_eq_some_iff, Option.some.injEq] at h
        obtain ⟨o', h0, a', h1, b', h2, rfl⟩ := h
        have hm : behindInMarks o b = false := nobehind b (by rintro rfl; cases h0) (by rintro rfl; cases h0)
        refine ⟨PE.weak (pe_cmpR (op_evC B.room.units h0) (S.e _ _ h1).1 (S.e _ _ h2).1 hm) ?_, PT.weak (pt_cmpR (op_evC B.room.units h0) (S.e _ _ h1).1 (S.e _ _ h2).1 hm) ?_⟩
        · intro σ H Q hq
          exact two_ok (fun _ _ _ _ z => z) σ H Q (by simpa only [lE, evE] using hq)
        · intro σ H Q ⟨ρ, A, ok, d, z, q⟩
          exact two_ok (fun _ _ _ _ z => z) σ H _ ⟨ρ, A, ok, _, by simpa only [evE] using z, fun v H1 s1 dv => ⟨d, den_bl dv, q H1 s1⟩⟩
      | [o, p], [b, c] =>
        simp only [trE, Option.bind_eq_some_iff, Option.some.injEq] at h
        obtain ⟨o', h0, p', h0', a', h1, b', h2, c', h3, rfl⟩ := h
        have hm : lastMarks [o, p] [b, c] = false := nobehind c (by rintro rfl; cases h0') (by rintro rfl; cases h0')
        have core : ∀ σ H Q, lE X.K H₀ W T.acc Φ (.chain o' p' a' b' c') σ H Q → tChain (rD X.K (evC o')) (rD X.K (evC p')) (lE X.K H₀ W T.acc Φ a') (lE X.K H₀ W T.acc Φ b') (lE X.K H₀ W T.acc Φ c') σ H Q := by
          intro σ H Q ⟨ρ, A, ok, d, z, q⟩
          simp only [evE] at z
          obtain ⟨x, e1, z⟩ := Ou.bind_eq_ok z
          obtain ⟨y, e2, z⟩ := Ou.bind_eq_ok z
          obtain ⟨t, e3, z⟩ := Ou.bind_eq_ok z
          refine ⟨ρ, A, ok, x, e1, fun v H1 s1 dv => ⟨ρ, A, ok.mono s1, y, e2, fun u H2 s2 du => ?_⟩⟩
          have ok2 := (ok.mono s1).mono s2
          refine ⟨_, x, y, t, ok2.view, dv.mono ((ok.mono s1).view.mono _ _ (Same.refl H1) s2), du, e3, fun w H3 s3 dw => ?_⟩
          match t, z with
          | .bl true, z =>
            obtain ⟨r, e4, z⟩ := Ou.bind_eq_ok z
            refine ⟨true, den_bl dw, iteT ⟨ρ, A, ok2.mono s3, r, e4, fun w' H4 s4 dw' => ?_⟩⟩
            exact ⟨_, y, r, d, ((ok2.mono s3).mono s4).view, (du.mono (ok2.view.mono _ _ (Same.refl H2) s3)).mono ((ok2.mono s3).view.mono _ _ (Same.refl H3) s4), dw', z, fun w2 H5 s5 d5 => q w2 H5 (s1.trans (s2.trans (s3.trans (s4.trans s5)))) d5⟩
          | .bl false, z =>
            cases z
            exact ⟨false, den_bl dw, iteF (q _ H3 (s1.trans (s2.trans s3)) .bl)⟩
        refine ⟨PE.weak (pe_chain (op_evC B.room.units h0) (op_evC B.room.units h0') (S.e _ _ h1).1 (S.e _ _ h2).1 (S.e _ _ h3).1 hm) core, PT.weak (pt_chain (op_evC B.room.units h0) (op_evC B.room.units h0') (S.e _ _ h1).1 (S.e _ _ h2).1 (S.e _ _ h3).1 hm) ?_⟩
        intro σ H Q ⟨ρ, A, ok, d, z, q⟩
        exact core σ H _ ⟨ρ, A, ok, _, z, fun v H1 s1 dv => ⟨d, den_bl dv, q H1 s1⟩⟩
      | [], _ => simp [trE] at h
      | [_], [] => simp [trE] at h
      | [_], _ :: _ :: _ => simp [trE] at h
      | [_, _], [] => simp [trE] at h
      | [_, _], [_] => simp [trE] at h
      | [_, _], _ :: _ :: _ :: _ => simp [trE] at h
      | _ :: _ :: _ :: _, _ => simp [trE] at h
    | IfExp c a b pos =>
      simp only [trE, Option.bind_eq_some_iff, Option.some.injEq] at h
      obtain ⟨c', h0, a', h1, b', h2, rfl⟩ := h
      have core : ∀ σ H Q, lE X.K H₀ W T.acc Φ (.ite c' a' b') σ H Q → tIf (lT X.K H₀ W T.acc Φ c') (lE X.K H₀ W T.acc Φ a') (lE X.K H₀ W T.acc Φ b') σ H Q := by
        intro σ H Q ⟨ρ, A, ok, d, z, q⟩
        simp only [evE] at z
        obtain ⟨x, e1, z⟩ := Ou.bind_eq_ok z
        match x, z with
        | .bl true, z => exact ⟨ρ, A, ok, true, e1, fun H1 s1 => iteT ⟨ρ, A, ok.mono s1, d, z, fun v H2 s2 dv => q v H2 (s1.trans s2) dv⟩⟩
        | .bl false, z => exact ⟨ρ, A, ok, false, e1, fun H1 s1 => iteF ⟨ρ, A, ok.mono s1, d, z, fun v H2 s2 dv => q v H2 (s1.trans s2) dv⟩⟩
      refine ⟨PE.weak (pe_ifExp (S.e _ _ h0).2 (S.e _ _ h1).1 (S.e _ _ h2).1) core, ?_⟩
      intro pins s σ H Q I ⟨ρ, A, ok, d, z, q⟩
      simp only [evE] at z
      obtain ⟨x, e1, z⟩ := Ou.bind_eq_ok z
      show wpAny _ _ (do if ← isTrue c X.env (eval c X.env) then isTrue a X.env (eval a X.env) else isTrue b X.env (eval b X.env)) _ _ _
      match x, z with
      | .bl true, z =>
        refine wpAny_bind (thn ((S.e _ _ h0).2 pins s σ H (fun bb H1 => bb = true ∧ lT X.K H₀ W T.acc Φ a' σ H1 Q) I ⟨ρ, A, ok, true, e1, fun H1 s1 => ⟨rfl, ρ, A, ok.mono s1, d, z, fun H2 s2 => q H2 (s1.trans s2)⟩⟩) ?_)
        intro bb s1 ⟨H1, I1, hb, hq⟩
        subst hb
        exact (S.e _ _ h1).2 pins s1 σ H1 Q I1 hq
      | .bl false, z =>
        refine wpAny_bind (thn ((S.e _ _ h0).2 pins s σ H (fun bb H1 => bb = false ∧ lT X.K H₀ W T.acc Φ b' σ H1 Q) I ⟨ρ, A, ok, false, e1, fun H1 s1 => ⟨rfl, ρ, A, ok.mono s1, d, z, fun H2 s2 => q H2 (s1.trans s2)⟩⟩) ?_)
        intro bb s1 ⟨H1, I1, hb, hq⟩
        subst hb
        exact (S.e _ _ h2).2 pins s1 σ H1 Q I1 hq
    | Tuple es kk pos =>
      simp only [trE, Option.bind_eq_some_iff, Option.some.injEq] at h
      obtain ⟨es', h1, rfl⟩ := h
      refine val _ _ (PE.weak (pe_tup (S.a _ _ h1)) ?_) (fun _ => rfl)
      intro σ H Q ⟨ρ, A, ok, d, z, q⟩
      simp only [evE] at z
      obtain ⟨xs, e1, z⟩ := Ou.bind_eq_ok z
      split at z
      · rename_i hz
        cases z
        refine ⟨ρ, A, ok, xs, e1, fun vs H1 s1 dv => ⟨?_, fun p hp => ?_⟩⟩
        · have := dv.length; have := lenMax_lt; omega
        · obtain ⟨sm, dn⟩ := fresh_tup (K := X.K) (ok.mono s1).view hp dv
          exact q _ _ (s1.trans sm) dn
      · cases z
    | List es pos =>
      simp only [trE, Option.bind_eq_some_iff, Option.some.injEq] at h
      obtain ⟨es', h1, rfl⟩ := h
      refine val _ _ (PE.weak (pe_lst (S.a _ _ h1)) ?_) (fun _ => rfl)
      intro σ H Q ⟨ρ, A, ok, d, z, q⟩
      simp only [evE] at z
      obtain ⟨xs, e1, z⟩ := Ou.bind_eq_ok z
      split at z
      · rename_i hz
        cases z
        refine ⟨ρ, A, ok, xs, e1, fun vs H1 s1 dv => ⟨?_, fun p hp => ?_⟩⟩
        · have := dv.length; have := lenMax_lt; omega
        · obtain ⟨sm, dn⟩ := fresh_lst (K := X.K) (ok.mono s1).view hp dv
          exact q _ _ (s1.trans sm) dn
      · cases z
    | Subscript a i pos =>
      have hi : ∀ l u st p, i ≠ .Slice l u st p := fun l u st p z => by subst z; simp [trE] at h
      have hps : PlainIx i := fun o v => by cases i <;> first | rfl | exact absurd rfl (hi _ _ _ _)
      have h' : ((trE T n a).bind fun a' => (trE T n i).bind fun i' => some (.ix a' i')) = some e := by
        cases i <;> first | (simpa only [trE] using h) | exact absurd rfl (hi _ _ _ _)
      simp only [Option.bind_eq_some_iff, Option.some.injEq] at h'
      obtain ⟨a', h1, i', h2, rfl⟩ := h'
      refine val _ _ (PE.weak (pe_ix ix_evI (S.e _ _ h1).1 (S.e _ _ h2).1 hps) ?_) (fun _ => rfl)
      intro σ H Q hq
      exact two_ok (fun _ _ _ _ z => z) σ H Q (by simpa only [lE, evE] using hq)
    | Call f es ks pos =>
      obtain ⟨x, p, e0, es0, rfl, rfl, rfl⟩ : ∃ x p e0 es0, f = .Name x p ∧ es = e0 :: es0 ∧ ks = [] := by
        cases f <;> cases es <;> cases ks <;> first | exact ⟨_, _, _, _, rfl, rfl, rfl⟩ | (simp [trE] at h)
      simp only [trE] at h
      split at h
      · rename_i hg
        have gl := B.gl hg.1
        split at h
        · rename_i i hi
          simp only [Option.bind_eq_some_iff, Option.some.injEq] at h
          obtain ⟨es', h1, rfl⟩ := h
          exact val _ _ (pe_calD B hi gl hg.2 (S.a _ _ h1) (trEs_head h1 _) (trEs_tail h1 _ _)) (fun _ => rfl)
        · split at h
          · rename_i hx
            subst hx
            split at h
            · rename_i t q
              split at h
              · rename_i hgt
                simp only [Option.bind_eq_some_iff, Option.some.injEq] at h
                obtain ⟨ty, h0, a', h1, rfl⟩ := h
                refine val _ _ (PE.weak (pe_callB (cb_isi ty) gl (B.blt _ (by simp [bltNames])) (by decide +kernel) (pa_cons (S.e _ _ h1).1 (pa_cons (pe_ty B.blt h0 (B.gl hgt)) pa_nil rfl) (trE_star h1 _ _)) (by decide) hg.2 (trE_star h1 _ _) rfl) ?_) (fun _ => rfl)
                intro σ H Q ⟨ρ, A, ok, d, z, q⟩
                simp only [evE] at z
                obtain ⟨x, e1, z⟩ := Ou.bind_eq_ok z
                cases z
                refine ⟨ρ, A, ok, x, e1, fun v H1 s1 dv => ?_⟩
                exact ⟨_, v, x, (ok.mono s1).view.sub _ (Same.refl H1), rfl, dv, q _ H1 s1 .bl⟩
              · cases h
            · cases h
          · simp only [Option.bind_eq_some_iff, Option.some.injEq] at h
            obtain ⟨b, h0, es', h1, rfl⟩ := h
            refine val _ _ (PE.weak (pe_bi B.calm B.blt h0 gl (S.a _ _ h1) (trEs_head h1 _) (trEs_tail h1 _ _)) ?_) (fun _ => rfl)
            intro σ H Q ⟨ρ, A, ok, d, z, q⟩
            simp only [evE] at z
            obtain ⟨xs, e1, z⟩ := Ou.bind_eq_ok z
            refine ⟨ρ, A, ok, xs, e1, fun vs H1 s1 dv => ?_⟩
            exact ⟨_, xs, d, (ok.mono s1).view, dv, z, fun v H2 s2 d2 => q v H2 (s1.trans s2) d2⟩
      · cases h
    | _ => simp [trE] at h
end
end Ev

namespace Ev
open PySem PySem.Spec PyProof.Rows L2

/-! ### statements of the text -/
def trTg (T : Tr) : Expr → Option Tg
  | .Name x _ => (trV T x).bind fun i => if i ∈ T.acc then none else some (.nm i)
  | .Tuple [.Name x _, .Name y _] _ _ => (trV T x).bind fun i => (trV T y).bind fun j => if i ∈ T.acc ∨ j ∈ T.acc then none else some (.tp i j)
  | _ => none
def notTup : Expr → Bool
  | .Tuple _ _ _ => false
  | _ => true
def trI (T : Tr) (n : Nat) : Expr → Option It
  | .Call (.Name x p) (a :: r) [] pos =>
    if x = "range" ∧ isGl T.sc x = true ∧ slot T.F x = none then
      match r with
      | [] => (trEs T n [a]).bind fun es => match es with | [e] => some (.rng e) | _ => none
      | [b] => (trEs T n [a, b]).bind fun es => match es with | [e, e2] => some (.rng2 e e2) | _ => none
      | _ => none
    else if x = "enumerate" ∧ isGl T.sc x = true ∧ slot T.F x = none then
      match r with
      | [] => (trEs T n [a]).bind fun es => match es with | [e] => some (.enu e) | _ => none
      | _ => none
    else (trE T n (.Call (.Name x p) (a :: r) [] pos)).bind fun e => some (.seq e)
  | it => (trE T n it).bind fun e => some (.seq e)

def okFor : Tg → It → Bool
  | .nm _, .enu _ => false
  | _, _ => true
mutual
def trS (T : Tr) : Nat → Stmt → Option S
  | 0, _ => none
  | n + 1, .Assign [.Name x p] e _ => (trV T x).bind fun i =>
    if i ∈ T.acc then
      match e with
      | .List es _ => (trEs T n es).bind fun es' => some (.acc i es')
      | _ => none
    else (trE T n e).bind fun e' => some (.set (.nm i) e')
  | n + 1, .Assign [.Tuple ts q r] e _ => if notTup e = true then (trTg T (.Tuple ts q r)).bind fun t => (trE T n e).bind fun e' => some (.set t e') else none
  | n + 1, .Return (some (.Name x p)) _ => (trV T x).bind fun i => if i ∈ T.acc then some (.retA i) else (trE T n (.Name x p)).bind fun e' => some (.ret e')
  | n + 1, .Return (some e) _ => (trE T n e).bind fun e' => some (.ret e')
  | n + 1, .If c a b _ => (trE T n c).bind fun c' => (trSs T n a).bind fun a' => (trSs T n b).bind fun b' => some (.ite c' a' b')
  | n + 1, .For tg it body [] _ => (trTg T tg).bind fun t => (trI T n it).bind fun it' => (trSs T n body).bind fun b' => if okFor t it' = true then some (.for t it' b') else none
  | n + 1, .While c body [] _ => (trE T n c).bind fun c' => (trSs T n body).bind fun b' => some (.while c' b')
  | n + 1, .Expr (.Call (.Attribute (.Name x p) m apos) [e] [] cpos) _ =>
    if m = "append" ∧ (apos.endLine == cpos.line) = true then (trV T x).bind fun i => if i ∈ T.acc then (trE T n e).bind fun e' => some (.app i e') else none else none
  | _ + 1, _ => none
def trSs (T : Tr) : Nat → List Stmt → Option (List S)
  | 0, _ => none
  | _ + 1, [] => some []
  | n + 1, s :: ss => (trS T n s).bind fun s' => (trSs T n ss).bind fun ss' => some (s' :: ss')
end

section
variable {X : Cx} {T : Tr} {Φ : Nat → List D → Ou D} {k : Nat} {H₀ : Hp} {W : Hp → Hp}

/-- what is wanted behind statements, by data -/
def Fin (K : PySem.W.Frag) (H₀ : Hp) (W : Hp → Hp) (acc : List Nat) (E : Ends) (H : Hp) (A : List (Option Addr)) : Ou Fl → Prop
  | .ok (.nx ρ) => ∀ σ' A' H', EnvOk K H₀ W acc A' H' σ' ρ → Same (hid (W H) A) (hid (W H') A') → E.nx σ' H'
  | .ok (.rt d) => ∀ v H', Same H₀ H' → Den K (W H') v d → E.rt v H'
  | _ => False
theorem Fin.mono {K : PySem.W.Frag} {acc : List Nat} {E : Ends} {H H1 : Hp} {A A1 : List (Option Addr)} (m : Same (hid (W H) A) (hid (W H1) A1)) : ∀ {r : Ou Fl}, Fin K H₀ W acc E H A r → Fin K H₀ W acc E H1 A1 r
  | .ok (.nx _), h => fun σ' A' H' e s => h σ' A' H' e (m.trans s)
  | .ok (.rt _), h => h
def lS (K : PySem.W.Frag) (H₀ : Hp) (W : Hp → Hp) (acc : List Nat) (Φ : Nat → List D → Ou D) (n : Nat) (s : S) : TS := fun E σ H => ∃ ρ A, EnvOk K H₀ W acc A H σ ρ ∧ Fin K H₀ W acc E H A (evS Φ n s ρ)
def lSs (K : PySem.W.Frag) (H₀ : Hp) (W : Hp → Hp) (acc : List Nat) (Φ : Nat → List D → Ou D) (n : Nat) (s : List S) : TS := fun E σ H => ∃ ρ A, EnvOk K H₀ W acc A H σ ρ ∧ Fin K H₀ W acc E H A (evSs Φ n s ρ)
def lG (K : PySem.W.Frag) (H₀ : Hp) (W : Hp → Hp) (acc : List Nat) (t : Tg) : TG := fun v σ H Q => ∃ ρ A d ρ', EnvOk K H₀ W acc A H σ ρ ∧ Den K (hid (W H) A) v d ∧ setT t d ρ = .ok ρ' ∧ ∀ σ', EnvOk K H₀ W acc A H σ' ρ' → Q σ' H

theorem PS.weak {e : Stmt} {t t' : TS} (h : PS X e t) (f : ∀ E σ H, t' E σ H → t E σ H) : PS X e t' := fun pins s σ H E I q => h pins s σ H E I (f E σ H q)
theorem PSs.weak {e : List Stmt} {t t' : TS} (h : PSs X e t) (f : ∀ E σ H, t' E σ H → t E σ H) : PSs X e t' := fun pins s σ H E I q => h pins s σ H E I (f E σ H q)
theorem PG.weak {e : Expr} {t t' : TG} (h : PG X e t) (f : ∀ v σ H Q, t' v σ H Q → t v σ H Q) : PG X e t' := fun pins s σ H v u Q I r q => h pins s σ H v u Q I r (f v σ H Q q)

theorem Fin.bind {K : PySem.W.Frag} {acc : List Nat} {E : Ends} {H : Hp} {A : List (Option Addr)} {α : Type} {x : Ou α} {f : α → Ou Fl} (h : Fin K H₀ W acc E H A (x.bind f)) : ∃ a, x = .ok a ∧ Fin K H₀ W acc E H A (f a) := by
  cases x with
  | ok a => exact ⟨a, rfl, h⟩
  | exc c => exact h.elim
  | bad => exact h.elim

theorem snd_tg (B : Bg X T Φ k) {tg : Expr} {t : Tg} (h : trTg T tg = some t) : PG X tg (lG X.K H₀ W T.acc t) := by
  match tg, h with
  | .Name x p, h =>
    simp only [trTg, Option.bind_eq_some_iff] at h
    obtain ⟨i, h1, h2⟩ := h
    split at h2
    · cases h2
    · rename_i na
      cases h2
      obtain ⟨v1, v2, v3, v4⟩ := B.vis h1
      refine PG.weak (pg_name (by rw [B.nm]; exact B.nd) v1 (.inl v2) (.inr v2)) ?_
      intro v σ H Q ⟨ρ, A, d, ρ', ok, dv, e, q⟩
      rw [setT] at e; cases e
      exact q _ (ok.set na dv)
  | .Tuple [.Name x p, .Name y p'] a b, h =>
    simp only [trTg, Option.bind_eq_some_iff] at h
    obtain ⟨i, h1, j, h2, h3⟩ := h
    split at h3
    · cases h3
    · rename_i na
      cases h3
      obtain ⟨v1, v2, v3, v4⟩ := B.vis h1
      obtain ⟨w1, w2, w3, w4⟩ := B.vis h2
      have nd : X.N.Nodup := by rw [B.nm]; exact B.nd
      refine PG.weak (pg_tup B.calm (pgs_cons (pg_name nd v1 (.inl v2) (.inr v2)) (pgs_cons (pg_name nd w1 (.inl w2) (.inr w2)) pgs_nil))) ?_
      intro v σ H Q ⟨ρ, A, d, ρ', ok, dv, e, q⟩
      match d, e with
      | .tup [d1, d2], e =>
        rw [setT] at e; cases e
        cases dv with
        | tup h r =>
          obtain ⟨u1, u2, rfl, e1, e2⟩ := denl2 r
          exact ⟨_, _, rfl, sameT (ok.view.sub _ (Same.refl H)) h, rfl, u1, [u2], rfl, u2, [], rfl, rfl, q _ ((ok.set (fun z => na (.inl z)) e1).set (fun z => na (.inr z)) e2)⟩

theorem snd_range1 (B : Bg X T Φ k) {tg a : Expr} {p pos : Pos} {e : E} {n : Nat} (hg : isGl T.sc "range" = true) (h : trEs T n [a] = some [e]) :
    PI X tg (.Call (.Name "range" p) [a] [] pos) (iRng1 (lEs X.K H₀ W T.acc Φ [e])) := by
  have st : starEach [a] X.env = [(false, eval a X.env)] := by
    cases n with
    | zero => rw [trEs] at h; cases h
    | succ n =>
      simp only [trEs, Option.bind_eq_some_iff, Option.some.injEq] at h
      obtain ⟨z1, z2, _⟩ := h
      exact trE_star z2 [] _
  exact pi_range1 (B.gl hg) (B.blt _ (by simp [bltNames])) ((snd_all B n).a _ _ h) st
theorem snd_range2 (B : Bg X T Φ k) {tg a b : Expr} {p pos : Pos} {e e2 : E} {n : Nat} (hg : isGl T.sc "range" = true) (h : trEs T n [a, b] = some [e, e2]) :
    PI X tg (.Call (.Name "range" p) [a, b] [] pos) (iRng2 (lEs X.K H₀ W T.acc Φ [e, e2])) := by
  obtain ⟨st, st2⟩ : starEach [a, b] X.env = [(false, eval a X.env), (false, eval b X.env)] ∧ starEach [b] X.env = [(false, eval b X.env)] := by
    cases n with
    | zero => rw [trEs] at h; cases h
    | succ n =>
      simp only [trEs, Option.bind_eq_some_iff, Option.some.injEq] at h
      obtain ⟨z1, z2, z3, z4, _⟩ := h
      cases n with
      | zero => rw [trEs] at z4; cases z4
      | succ n =>
        simp only [trEs, Option.bind_eq_some_iff, Option.some.injEq] at z4
        obtain ⟨y1, y2, _⟩ := z4
        have s2 := trE_star y2 [] X.env
        exact ⟨by rw [trE_star z2, s2]; rfl, s2⟩
  exact pi_range2 (B.gl hg) (B.blt _ (by simp [bltNames])) ((snd_all B n).a _ _ h) st st2

/-! ### a for by data -/
theorem forL_ok {K : PySem.W.Frag} {acc : List Nat} {t : Tg} {g : TG} {tb : TS} {body : List S} {n : Nat} {E : Ends} {σ : L2.St} {H : Hp} {ρ : Env} {A : List (Option Addr)} {a : Addr} {vs : List V} {xs : List D}
    (hg : ∀ v σ H Q, lG K H₀ W acc t v σ H Q → g v σ H Q) (hb : ∀ E σ H, lSs K H₀ W acc Φ n body E σ H → tb E σ H)
    (ok : EnvOk K H₀ W acc A H σ ρ) (ha : SqL K (hid (W H) A) a vs) (dn : DenL K (hid (W H) A) vs xs)
    (f : Fin K H₀ W acc E H A (loop (fun x ρ' => (setT t x ρ').bind fun ρ2 => evSs Φ n body ρ2) xs ρ)) :
    ∃ J : Nat → Nat → L2.St → Hp → Prop, (∃ m, J 0 m σ H) ∧ ∀ i m σ H, J i m σ H →
      ((Itl K a).stop i H ∧ E.nx σ H) ∨ ((Itl K a).go i H ∧ ∃ N : L2.St → Hp → Prop, (∀ σ' H', N σ' H' → ∃ m', m' < m ∧ J (i + 1) m' σ' H') ∧
        ∀ x H', (Itl K a).yld i H x H' → g x σ H' fun σ2 H2 => tb { E with nx := N, ct := N, bk := E.nx } σ2 H2) := by
  refine ⟨fun i m σ H => ∃ ρ A, EnvOk K H₀ W acc A H σ ρ ∧ SqL K (hid (W H) A) a vs ∧ DenL K (hid (W H) A) vs xs ∧ m = xs.length - i ∧ Fin K H₀ W acc E H A (loop (fun x ρ' => (setT t x ρ').bind fun ρ2 => evSs Φ n body ρ2) (xs.drop i) ρ), ⟨_, ρ, A, ok, ha, dn, rfl, f⟩, ?_⟩
  intro i m σ H ⟨ρ, A, ok, ha, dn, hm, f⟩
  have sv := ok.view.sub _ (Same.refl H)
  have hl := dn.length
  have sq : SqL K H a vs := sameL sv ha
  by_cases hi : xs.length ≤ i
  · rw [List.drop_eq_nil_of_le hi] at f
    exact .inl ⟨⟨vs, sq, by omega⟩, f σ A H ok (Same.refl _)⟩
  · have hi' : i < xs.length := by omega
    rw [List.drop_eq_getElem_cons hi', loop] at f
    obtain ⟨r, e1, f⟩ := f.bind
    obtain ⟨ρ2, e2, e1⟩ := Ou.bind_eq_ok e1
    obtain ⟨v, hv, dv⟩ := dn.get (List.getElem?_eq_getElem hi')
    refine .inr ⟨⟨vs, v, sq, hv⟩, fun σ' H' => ∃ m', m' < m ∧ ∃ ρ A, EnvOk K H₀ W acc A H' σ' ρ ∧ SqL K (hid (W H') A) a vs ∧ DenL K (hid (W H') A) vs xs ∧ m' = xs.length - (i + 1) ∧ Fin K H₀ W acc E H' A (loop (fun x ρ' => (setT t x ρ').bind fun ρ2 => evSs Φ n body ρ2) (xs.drop (i + 1)) ρ), fun σ' H' z => z, ?_⟩
    intro x H' ⟨hH, hx⟩
    subst hH
    have ex : x = v := by have := hx vs sq; rw [hv] at this; exact (Option.some.inj this).symm
    subst ex
    refine hg _ _ _ _ ⟨ρ, A, _, ρ2, ok, dv, e2, fun σ2 ok2 => hb _ _ _ ⟨ρ2, A, ok2, ?_⟩⟩
    rw [e1]
    match r, f with
    | .nx ρ', f => exact fun σ' A' H' ok' sm => ⟨xs.length - (i + 1), by omega, ρ', A', ok', sameL sm ha, dn.mono sm, rfl, f.mono sm⟩
    | .rt d, f => exact f
theorem forT_ok {K : PySem.W.Frag} {acc : List Nat} {t : Tg} {g : TG} {tb : TS} {body : List S} {n : Nat} {E : Ends} {σ : L2.St} {H : Hp} {ρ : Env} {A : List (Option Addr)} {a : Addr} {vs : List V} {xs : List D}
    (hg : ∀ v σ H Q, lG K H₀ W acc t v σ H Q → g v σ H Q) (hb : ∀ E σ H, lSs K H₀ W acc Φ n body E σ H → tb E σ H)
    (ok : EnvOk K H₀ W acc A H σ ρ) (ha : SqT K (hid (W H) A) a vs) (dn : DenL K (hid (W H) A) vs xs)
    (f : Fin K H₀ W acc E H A (loop (fun x ρ' => (setT t x ρ').bind fun ρ2 => evSs Φ n body ρ2) xs ρ)) :
    ∃ J : Nat → Nat → L2.St → Hp → Prop, (∃ m, J 0 m σ H) ∧ ∀ i m σ H, J i m σ H →
      ((Itt K a).stop i H ∧ E.nx σ H) ∨ ((Itt K a).go i H ∧ ∃ N : L2.St → Hp → Prop, (∀ σ' H', N σ' H' → ∃ m', m' < m ∧ J (i + 1) m' σ' H') ∧
        ∀ x H', (Itt K a).yld i H x H' → g x σ H' fun σ2 H2 => tb { E with nx := N, ct := N, bk := E.nx } σ2 H2) := by
  refine ⟨fun i m σ H => ∃ ρ A, EnvOk K H₀ W acc A H σ ρ ∧ SqT K (hid (W H) A) a vs ∧ DenL K (hid (W H) A) vs xs ∧ m = xs.length - i ∧ Fin K H₀ W acc E H A (loop (fun x ρ' => (setT t x ρ').bind fun ρ2 => evSs Φ n body ρ2) (xs.drop i) ρ), ⟨_, ρ, A, ok, ha, dn, rfl, f⟩, ?_⟩
  intro i m σ H ⟨ρ, A, ok, ha, dn, hm, f⟩
  have sv := ok.view.sub _ (Same.refl H)
  have hl := dn.length
  have sq : SqT K H a vs := sameT sv ha
  by_cases hi : xs.length ≤ i
  · rw [List.drop_eq_nil_of_le hi] at f
    exact .inl ⟨⟨vs, sq, by omega⟩, f σ A H ok (Same.refl _)⟩
  · have hi' : i < xs.length := by omega
    rw [List.drop_eq_getElem_cons hi', loop] at f
    obtain ⟨r, e1, f⟩ := f.bind
    obtain ⟨ρ2, e2, e1⟩ := Ou.bind_eq_ok e1
    obtain ⟨v, hv, dv⟩ := dn.get (List.getElem?_eq_getElem hi')
    refine .inr ⟨⟨vs, v, sq, hv⟩, fun σ' H' => ∃ m', m' < m ∧ ∃ ρ A, EnvOk K H₀ W acc A H' σ' ρ ∧ SqT K (hid (W H') A) a vs ∧ DenL K (hid (W H') A) vs xs ∧ m' = xs.length - (i + 1) ∧ Fin K H₀ W acc E H' A (loop (fun x ρ' => (setT t x ρ').bind fun ρ2 => evSs Φ n body ρ2) (xs.drop (i + 1)) ρ), fun σ' H' z => z, ?_⟩
    intro x H' ⟨hH, hx⟩
    subst hH
    have ex : x = v := by have := hx vs sq; rw [hv] at this; exact (Option.some.inj this).symm
    subst ex
    refine hg _ _ _ _ ⟨ρ, A, _, ρ2, ok, dv, e2, fun σ2 ok2 => hb _ _ _ ⟨ρ2, A, ok2, ?_⟩⟩
    rw [e1]
    match r, f with
    | .nx ρ', f => exact fun σ' A' H' ok' sm => ⟨xs.length - (i + 1), by omega, ρ', A', ok', sameT sm ha, dn.mono sm, rfl, f.mono sm⟩
    | .rt d, f => exact f
theorem rangeD_length (lo : Int) (n : Nat) : (rangeD lo n).length = n := by simp [rangeD]
theorem rangeD_get (lo : Int) (n i : Nat) (h : i < n) : (rangeD lo n)[i]'(by rw [rangeD_length]; exact h) = .int (lo + (i : Nat)) := by simp [rangeD]
theorem forR_ok {K : PySem.W.Frag} {acc : List Nat} {t : Tg} {g : TG} {tb : TS} {body : List S} {n : Nat} {E : Ends} {σ : L2.St} {H : Hp} {ρ : Env} {A : List (Option Addr)} {lo : Int} {N : Nat}
    (hg : ∀ v σ H Q, lG K H₀ W acc t v σ H Q → g v σ H Q) (hb : ∀ E σ H, lSs K H₀ W acc Φ n body E σ H → tb E σ H)
    (ok : EnvOk K H₀ W acc A H σ ρ) (f : Fin K H₀ W acc E H A (loop (fun x ρ' => (setT t x ρ').bind fun ρ2 => evSs Φ n body ρ2) (rangeD lo N) ρ)) :
    ∃ J : Nat → Nat → L2.St → Hp → Prop, (∃ m, J 0 m σ H) ∧ ∀ i m σ H, J i m σ H →
      ((Itr lo N).stop i H ∧ E.nx σ H) ∨ ((Itr lo N).go i H ∧ ∃ N' : L2.St → Hp → Prop, (∀ σ' H', N' σ' H' → ∃ m', m' < m ∧ J (i + 1) m' σ' H') ∧
        ∀ x H', (Itr lo N).yld i H x H' → g x σ H' fun σ2 H2 => tb { E with nx := N', ct := N', bk := E.nx } σ2 H2) := by
  refine ⟨fun i m σ H => ∃ ρ A, EnvOk K H₀ W acc A H σ ρ ∧ m = N - i ∧ Fin K H₀ W acc E H A (loop (fun x ρ' => (setT t x ρ').bind fun ρ2 => evSs Φ n body ρ2) ((rangeD lo N).drop i) ρ), ⟨_, ρ, A, ok, rfl, f⟩, ?_⟩
  intro i m σ H ⟨ρ, A, ok, hm, f⟩
  by_cases hi : N ≤ i
  · rw [List.drop_eq_nil_of_le (by rw [rangeD_length]; exact hi)] at f
    exact .inl ⟨hi, f σ A H ok (Same.refl _)⟩
  · have hi' : i < N := by omega
    rw [List.drop_eq_getElem_cons (by rw [rangeD_length]; exact hi'), rangeD_get lo N i hi', loop] at f
    obtain ⟨r, e1, f⟩ := f.bind
    obtain ⟨ρ2, e2, e1⟩ := Ou.bind_eq_ok e1
    refine .inr ⟨hi', fun σ' H' => ∃ m', m' < m ∧ ∃ ρ A, EnvOk K H₀ W acc A H' σ' ρ ∧ m' = N - (i + 1) ∧ Fin K H₀ W acc E H' A (loop (fun x ρ' => (setT t x ρ').bind fun ρ2 => evSs Φ n body ρ2) ((rangeD lo N).drop (i + 1)) ρ), fun σ' H' z => z, ?_⟩
    intro x H' ⟨hH, hx⟩
    subst hH hx
    refine hg _ _ _ _ ⟨ρ, A, _, ρ2, ok, .int, e2, fun σ2 ok2 => hb _ _ _ ⟨ρ2, A, ok2, ?_⟩⟩
    rw [e1]
    match r, f with
    | .nx ρ', f => exact fun σ' A' H' ok' sm => ⟨N - (i + 1), by omega, ρ', A', ok', rfl, f.mono sm⟩
    | .rt d, f => exact f
end
end Ev

namespace Ev
open PySem PySem.Spec PyProof.Rows L2

/-! ### enumerate(list), walked into two names -/
def Ite (K : PySem.W.Frag) (a : Addr) : L2.It :=
  ⟨fun i H => ∃ xs x, SqL K H a xs ∧ xs[i]? = some x, fun i H v H' => ∃ p x, H p = none ∧ v = .ref p ∧ H' = upd H p (.tup [.int (i : Nat), x]) ∧ ∀ xs, SqL K H a xs → xs[i]? = some x, fun i H => ∃ xs, SqL K H a xs ∧ xs.length ≤ i⟩
theorem turn_enum {P : Program} {w : World} {K : PySem.W.Frag} {ts : List Expr} {q : Nat} {tp : Pos} (a e it : Addr) (hne : e ≠ it) :
    Turn P w K (.Tuple ts q tp) (Ite K a) [e, it] e (fun i h => (∃ old, IsEnum h e it (i : Nat) old) ∧ h.IsListIter it a i) where
  mem := by simp
  obj := fun i h st b hb => by
    obtain ⟨⟨old, h1⟩, o, h2, h3, h4⟩ := st
    rcases List.mem_cons.mp hb with rfl | hb
    · exact ⟨_, h1, fun v z => nomatch z⟩
    · have z : b = it := by simpa using hb
      subst z
      exact ⟨o, h2, fun v z => by rw [h4] at z; cases z⟩
  keep := fun i h h' st k => by
    obtain ⟨⟨old, h1⟩, o, h2, h3, h4⟩ := st
    exact ⟨⟨old, k e (by simp) _ h1⟩, o, k it (by simp) o h2, h3, h4⟩
  item := by
    intro X hP hw hK hc i pins s σ H E I hf st hg
    subst hP hw hK
    obtain ⟨xs, x, hq, hx⟩ := hg
    obtain ⟨its, rv, p, hz⟩ := I.list hq
    obtain ⟨u, hu, ru⟩ := rv.get hx
    obtain ⟨⟨old, h1⟩, h2⟩ := st
    have fe := hf e (by simp)
    have fi := hf it (by simp)
    refine wpAny_pyNext_enum_item h1 h2 p.isList (x := u) (by simpa using hu) hne fun h' g1 g2 g3 g4 g5 => ⟨_, rfl, ?_⟩
    refine wpAny_letOwnedTupleGo_enum (s := { s with heap := h', toks := s.toks + 1 }) g1 fun h2' k1 k2 => ?_
    have hn : H s.heap.objs.size = none := I.hok.fresh (Nat.le_refl _)
    have le1 : e < s.heap.objs.size := Heap.lt_size h1
    have le2 : it < s.heap.objs.size := by obtain ⟨o, z, _⟩ := h2; exact Heap.lt_size z
    have kp : ∀ b o, b ≠ e → b ≠ it → s.heap.get? b = some o → h2'.get? b = some o := fun b o b1 b2 z => (k2.2 b b1).trans (g5 b o b1 b2 z)
    have nt : h2'.get? s.heap.objs.size = some { cls := .type "tuple", data := .seq #[.int (i : Nat) s.toks, u] } := (k2.2 _ (Nat.ne_of_gt le1)).trans g3
    have ne1 : ∀ b v, H b = some v → b ≠ e := fun b v z q => by rw [q, fe.1] at z; cases z
    have ne2 : ∀ b v, H b = some v → b ≠ it := fun b v z q => by rw [q, fi.1] at z; cases z
    have hok0 : HOk X.prog X.w H h2' := fun b v z => (I.hok b v z).stay (fun c v' hc' q => kp c v' (by
        rcases hc' with hc' | hc'
        · rw [hc']; exact ne1 b v z
        · exact ne1 c _ hc') (by
        rcases hc' with hc' | hc'
        · rw [hc']; exact ne2 b v z
        · exact ne2 c _ hc') q) (fun _ q => q) fun _ _ q => q
    have hok1 : HOk X.prog X.w (upd H s.heap.objs.size (.tup [.int (i : Nat), x])) h2' := fun b v z => by
      by_cases hb : b = s.heap.objs.size
      · subst hb
        rw [upd_same] at z; cases z
        exact ⟨(by show 2 ≤ sizeLine; decide), [.int (i : Nat) s.toks, u], .cons ⟨_, rfl⟩ (.cons ru .nil), _, nt, rfl, _, rfl⟩
      · rw [upd_ne hb] at z
        exact (hok0 b v z).stay (fun c v' _ q => q) (fun c q => by rw [upd_ne (ne_of_none q hn)]; exact q) fun c ys q => by rw [upd_ne (ne_of_none q hn)]; exact q
    have I1 : Inv X pins σ (upd H s.heap.objs.size (.tup [.int (i : Nat), x])) { s with heap := h2', toks := s.toks + 1 } := by
      refine I.step (g' := s.gens) (d' := s.drawn) (ch := [e, it]) (fun b hb => ?_) (fun b o _ _ hc' z _ => kp b o (fun q => hc' (by simp [q])) (fun q => hc' (by simp [q])) z)
        (fun b o _ _ hc' z _ => ⟨o.slots, kp b o (fun q => hc' (by simp [q])) (fun q => hc' (by simp [q])) z⟩)
        (fun b o hc' z n => by rw [upd_ne (Nat.ne_of_lt (Heap.lt_size z))]; exact n) (fun b o hc' z => ⟨o, kp b o (fun q => hc' (by simp [q])) (fun q => hc' (by simp [q])) z⟩)
        (fun b ys z => by rw [upd_ne (ne_of_none z hn)]; exact z) (fun b o u z => by rw [upd_ne (ne_of_none z hn)]; exact z) (fun b ps z => ⟨#[], by rw [upd_ne (ne_of_none z hn), z]; simp⟩) (fun m hm => ?_) hok1 I.bare
      · rcases List.mem_cons.mp hb with rfl | hb
        · exact ⟨fe.2.2.2.1, fe.2.1, fe.2.2.2.2.1, fe.2.2.2.2.2⟩
        · have z : b = it := by simpa using hb
          subst z
          exact ⟨fi.2.2.2.1, fi.2.1, fi.2.2.2.2.1, fi.2.2.2.2.2⟩
      · obtain ⟨o, es, ep, ho, r⟩ := hm
        exact ⟨o, es, ep, kp _ o (Ne.symm fe.2.1) (Ne.symm fi.2.1) ho, r⟩
    refine ⟨.ref s.heap.objs.size, _, I1, rfl, ⟨s.heap.objs.size, x, hn, rfl, rfl, fun ys hy => by rw [I.list_inj hy hq]; exact hx⟩, ⟨⟨_, k1⟩, ?_⟩, fun b hb => ?_⟩
    · obtain ⟨o, z1, z2, z3⟩ := g2
      exact ⟨o, (k2.2 it (Ne.symm hne)).trans z1, z2, z3⟩
    · rcases List.mem_cons.mp hb with rfl | hb
      · rw [upd_ne (Nat.ne_of_lt le1)]; exact fe.1
      · have z : b = it := by simpa using hb
        subst z
        rw [upd_ne (Nat.ne_of_lt le2)]; exact fi.1
  done := by
    intro X hP hw hK hc i pins s σ H E I hf st hg
    subst hP hw hK
    obtain ⟨xs, hq, hx⟩ := hg
    obtain ⟨its, rv, p, hz⟩ := I.list hq
    obtain ⟨⟨old, h1⟩, h2⟩ := st
    obtain ⟨f0, f1, f2, f3, f4, f5⟩ := hf it (by simp)
    have hl := rv.length
    exact wpAny_pyNext_enum_end (I.ok.hd hc) h1 h2 p.isList (by simp; omega) fun h' eb => ⟨rfl, I.turned (t' := s.toks) (fun b o hb z => eb b o hb z) f0 f1 f3 f4 f5⟩
  self := fun _ _ _ _ _ st h => by
    obtain ⟨⟨old, h1⟩, _⟩ := st
    exact wpAny_pyIter_enum h1 h

section
variable {X : Cx} {T : Tr} {Φ : Nat → List D → Ou D} {k : Nat} {H₀ : Hp} {W : Hp → Hp}
def iEnu (K : PySem.W.Frag) (ta : TA) : TI := fun σ H R => ta σ H fun vs H1 => ∃ a, vs = [.ref a] ∧ (∃ xs, SqL K H1 a xs) ∧ R (Ite K a) H1
theorem boot_enum : bootBuiltins "enumerate" = some (.type "enumerate") := by decide +kernel
theorem pi_enum {ts : List Expr} {q : Nat} {tp : Pos} {a : Expr} {ta : TA} {p pos : Pos} (hg : Gl X "enumerate") (hm : X.mg "enumerate" = none) (ha : PA X [a] ta) (hs : starEach [a] X.env = [(false, eval a X.env)]) :
    PI X (.Tuple ts q tp) (.Call (.Name "enumerate" p) [a] [] pos) (iEnu X.K ta) := by
  intro pins s σ H R I h
  refine Call_ (ld_blt I hg hm boot_enum (PyProof.Rows.callWith_type1 (thn (ha pos pins s σ H _ I h) fun us s1 ⟨vs, H1, I1, r1, q1⟩ => ?_) hs rfl))
  obtain ⟨l, e, ⟨xs, hq⟩, q⟩ := q1
  subst e
  obtain ⟨u, rfl, ru⟩ := vals1 r1
  cases ru
  obtain ⟨its, rv, pl, hz⟩ := I1.list hq
  refine call_enumerate_list pl.isList fun h' g1 g2 g3 g4 => ?_
  refine wpAny_pyIter_enum (s := { s1 with heap := h' }) g1 ?_
  have I2 : Inv X pins σ H1 { s1 with heap := h' } := I1.kept (t' := s1.toks) g4
  have n1 : H1 (s1.heap.objs.size + 1) = none := I1.hok.fresh (by omega)
  have n2 : H1 s1.heap.objs.size = none := I1.hok.fresh (Nat.le_refl _)
  refine ⟨s1.heap.objs.size + 1, [s1.heap.objs.size + 1, s1.heap.objs.size], _, _, H1, rfl, I2, turn_enum l (s1.heap.objs.size + 1) s1.heap.objs.size (Nat.succ_ne_self _), ⟨⟨_, g1⟩, g2⟩, fun b hb => ?_, q⟩
  rcases List.mem_cons.mp hb with rfl | hb
  · exact I1.fpOk (by omega) n1
  · have z : b = s1.heap.objs.size := by simpa using hb
    subst z
    exact I1.fpOk (Nat.le_refl _) n2

theorem enumD_get : ∀ (xs : List D) (k i : Nat) (h : i < xs.length), (enumD k xs)[i]? = some (.tup [.int ((k + i : Nat) : Int), xs[i]])
  | x :: xs, k, 0, _ => by simp [enumD]
  | x :: xs, k, i + 1, h => by
    have := enumD_get xs (k + 1) i (by simpa using h)
    simp only [enumD, List.getElem?_cons_succ, this, List.getElem_cons_succ]
    congr 4
    omega
theorem enumD_length : ∀ (xs : List D) (k : Nat), (enumD k xs).length = xs.length
  | [], _ => rfl
  | _ :: xs, k => congrArg (· + 1) (enumD_length xs (k + 1))
theorem forE_ok {K : PySem.W.Frag} {acc : List Nat} {t : Tg} {g : TG} {tb : TS} {body : List S} {n : Nat} {E : Ends} {σ : L2.St} {H : Hp} {ρ : Env} {A : List (Option Addr)} {a : Addr} {vs : List V} {xs : List D}
    (hg : ∀ v σ H Q, lG K H₀ W acc t v σ H Q → g v σ H Q) (hb : ∀ E σ H, lSs K H₀ W acc Φ n body E σ H → tb E σ H)
    (ok : EnvOk K H₀ W acc A H σ ρ) (ha : SqL K (hid (W H) A) a vs) (dn : DenL K (hid (W H) A) vs xs)
    (f : Fin K H₀ W acc E H A (loop (fun x ρ' => (setT t x ρ').bind fun ρ2 => evSs Φ n body ρ2) (enumD 0 xs) ρ)) :
    ∃ J : Nat → Nat → L2.St → Hp → Prop, (∃ m, J 0 m σ H) ∧ ∀ i m σ H, J i m σ H →
      ((Ite K a).stop i H ∧ E.nx σ H) ∨ ((Ite K a).go i H ∧ ∃ N : L2.St → Hp → Prop, (∀ σ' H', N σ' H' → ∃ m', m' < m ∧ J (i + 1) m' σ' H') ∧
        ∀ x H', (Ite K a).yld i H x H' → g x σ H' fun σ2 H2 => tb { E with nx := N, ct := N, bk := E.nx } σ2 H2) := by
  refine ⟨fun i m σ H => ∃ ρ A, EnvOk K H₀ W acc A H σ ρ ∧ SqL K (hid (W H) A) a vs ∧ DenL K (hid (W H) A) vs xs ∧ m = xs.length - i ∧ Fin K H₀ W acc E H A (loop (fun x ρ' => (setT t x ρ').bind fun ρ2 => evSs Φ n body ρ2) ((enumD 0 xs).drop i) ρ), ⟨_, ρ, A, ok, ha, dn, rfl, f⟩, ?_⟩
  intro i m σ H ⟨ρ, A, ok, ha, dn, hm, f⟩
  have sv := ok.view.sub _ (Same.refl H)
  have hl := dn.length
  have sq : SqL K H a vs := sameL sv ha
  have el := enumD_length xs 0
  by_cases hi : xs.length ≤ i
  · rw [List.drop_eq_nil_of_le (by omega)] at f
    exact .inl ⟨⟨vs, sq, by omega⟩, f σ A H ok (Same.refl _)⟩
  · have hi' : i < xs.length := by omega
    have hie : i < (enumD 0 xs).length := by omega
    have ge : (enumD 0 xs)[i] = .tup [.int (i : Nat), xs[i]] := by
      have := enumD_get xs 0 i hi'
      rw [List.getElem?_eq_getElem hie] at this
      rw [Option.some.inj this]
      simp
    rw [List.drop_eq_getElem_cons hie, ge, loop] at f
    obtain ⟨r, e1, f⟩ := f.bind
    obtain ⟨ρ2, e2, e1⟩ := Ou.bind_eq_ok e1
    obtain ⟨v, hv, dv⟩ := dn.get (List.getElem?_eq_getElem hi')
    refine .inr ⟨⟨vs, v, sq, hv⟩, fun σ' H' => ∃ m', m' < m ∧ ∃ ρ A, EnvOk K H₀ W acc A H' σ' ρ ∧ SqL K (hid (W H') A) a vs ∧ DenL K (hid (W H') A) vs xs ∧ m' = xs.length - (i + 1) ∧ Fin K H₀ W acc E H' A (loop (fun x ρ' => (setT t x ρ').bind fun ρ2 => evSs Φ n body ρ2) ((enumD 0 xs).drop (i + 1)) ρ), fun σ' H' z => z, ?_⟩
    intro y H' ⟨p, x, hp, hy, hH, hx⟩
    subst hy hH
    have ex : x = v := by have := hx vs sq; rw [hv] at this; exact (Option.some.inj this).symm
    subst ex
    obtain ⟨sm, dt⟩ := fresh_tup (K := K) ok.view hp (DenL.cons (Den.int (i := ((i : Nat) : Int))) (.cons dv .nil))
    have sm' := ok.view.mono _ _ (Same.refl H) sm
    refine hg _ _ _ _ ⟨ρ, A, _, ρ2, ok.mono sm, dt, e2, fun σ2 ok2 => hb _ _ _ ⟨ρ2, A, ok2, ?_⟩⟩
    rw [e1]
    match r, f with
    | .nx ρ', f => exact fun σ' A' H' ok' sm2 => ⟨xs.length - (i + 1), by omega, ρ', A', ok', sameL (sm'.trans sm2) ha, dn.mono (sm'.trans sm2), rfl, f.mono (sm'.trans sm2)⟩
    | .rt d, f => exact f
end
end Ev

namespace Ev
open PySem PySem.Spec PyProof.Rows L2
section
variable {X : Cx} {T : Tr} {Φ : Nat → List D → Ou D} {k : Nat} {H₀ : Hp} {W : Hp → Hp}

theorem swap_of {T : Tr} {n : Nat} {e : Expr} {e' : E} (h : trE T n e = some e') (t : Option Expr) (l : Nat) (env : PySem.Env) : swapsWith e t l env = pure false := by
  cases n with
  | zero => rw [trE] at h; cases h
  | succ n =>
    cases e with
    | ListComp a b c d => simp [trE] at h
    | SetComp a b c d => simp [trE] at h
    | DictComp a b c d e => simp [trE] at h
    | _ => rfl
theorem swap_sole {T : Tr} {n : Nat} {t e : Expr} {e' : E} (h : trE T n e = some e') (l : Nat) (env : PySem.Env) : swapsWithSole [t] e l env = pure false := swap_of h (some t) l env
theorem store_of {tg e : Expr} (h : notTup e = true) (env : PySem.Env) : swappedStores [tg] e env = pure none := by
  cases e with
  | Tuple a b c => cases h
  | _ => cases tg <;> rfl
theorem store_nm {x : Str} {p : Pos} {e : Expr} (env : PySem.Env) : swappedStores [.Name x p] e env = pure none := by
  cases e <;> rfl
theorem set_of {T : Tr} {n : Nat} {e : Expr} {e' : E} (h : trE T n e = some e') (env : PySem.Env) (x : Value) : foldedSetIterable e env x = pure x := by
  cases n with
  | zero => rw [trE] at h; cases h
  | succ n =>
    cases e with
    | Set a b c => simp [trE] at h
    | _ => rfl

theorem pi_or {tg it : Expr} {w1 w2 : TI} (h1 : PI X tg it w1) (h2 : PI X tg it w2) : PI X tg it (fun σ H R => w1 σ H R ∨ w2 σ H R) := by
  intro pins s σ H R I h
  rcases h with h | h
  · exact h1 pins s σ H R I h
  · exact h2 pins s σ H R I h

structure SndS (X : Cx) (T : Tr) (Φ : Nat → List D → Ou D) (H₀ : Hp) (W : Hp → Hp) (m n : Nat) : Prop where
  s : ∀ ps s, trS T n ps = some s → PS X ps (lS X.K H₀ W T.acc Φ m s)
  ss : ∀ ps s, trSs T n ps = some s → PSs X ps (lSs X.K H₀ W T.acc Φ m s)

theorem snd_for (B : Bg X T Φ k) (hp : PassesOwn (model X.prog X.w) X.A X.env X.xe) {n m : Nat} {tg it : Expr} {t : Tg} {it' : It} {body : List Stmt} {b' : List S} {pos : Pos} (h1 : trTg T tg = some t) (h2 : trI T n it = some it') (ho : okFor t it' = true) (hb : PSs X body (lSs X.K H₀ W T.acc Φ m b')) :
    PS X (.For tg it body [] pos) (lS X.K H₀ W T.acc Φ m (.for t it' b')) := by
  have hg : PG X tg (lG X.K H₀ W T.acc t) := snd_tg B h1
  have seq : ∀ e, trE T n it = some e → it' = .seq e → PS X (.For tg it body [] pos) (lS X.K H₀ W T.acc Φ m (.for t it' b')) := by
    intro e he hi
    subst hi
    have pe := ((snd_all (H₀ := H₀) (W := W) B n).e _ _ he).1
    refine PS.weak (ps_for hp B.calm (pi_or (pi_list pe) (pi_tup pe)) hg hb (fun x => set_of he _ _)) ?_
    intro E σ H ⟨ρ, A, ok, f⟩
    simp only [evS, evIt] at f
    obtain ⟨xs, e1, f⟩ := f.bind
    obtain ⟨d, e0, e1⟩ := Ou.bind_eq_ok e1
    match d, e1 with
    | .lst ys, e1 =>
      cases e1
      refine .inl ⟨ρ, A, ok, _, e0, fun v H1 s1 dv => ?_⟩
      cases dv with
      | lst h r =>
        have ok1 := ok.mono s1
        exact ⟨_, rfl, ⟨_, sameL (ok1.view.sub _ (Same.refl H1)) h⟩, forL_ok (fun _ _ _ _ z => z) (fun _ _ _ z => z) ok1 h r (f.mono (ok.view.mono _ _ (Same.refl H) s1))⟩
    | .tup ys, e1 =>
      cases e1
      refine .inr ⟨ρ, A, ok, _, e0, fun v H1 s1 dv => ?_⟩
      cases dv with
      | tup h r =>
        have ok1 := ok.mono s1
        exact ⟨_, rfl, ⟨_, sameT (ok1.view.sub _ (Same.refl H1)) h⟩, forT_ok (fun _ _ _ _ z => z) (fun _ _ _ z => z) ok1 h r (f.mono (ok.view.mono _ _ (Same.refl H) s1))⟩
  unfold trI at h2
  split at h2
  · rename_i x p a r pos'
    split at h2
    · rename_i c
      obtain ⟨rfl, c2, _⟩ := c
      split at h2
      · simp only [Option.bind_eq_some_iff] at h2
        obtain ⟨es, h3, h4⟩ := h2
        split at h4
        · rename_i e
          cases h4
          refine PS.weak (ps_for hp B.calm (snd_range1 (H₀ := H₀) (W := W) B c2 h3) hg hb (fun x => rfl)) ?_
          intro E σ H ⟨ρ, A, ok, f⟩
          simp only [evS, evIt] at f
          obtain ⟨xs, e1, f⟩ := f.bind
          obtain ⟨d, e0, e1⟩ := Ou.bind_eq_ok e1
          match d, e1 with
          | .int j, e1 =>
            simp only at e1
            split at e1
            · rename_i hj
              cases e1
              refine ⟨ρ, A, ok, [.int j], by simp only [evEs, e0, Ou.bind], fun vs H1 s1 dv => ?_⟩
              obtain ⟨v, rfl, dv1⟩ := denl1 dv
              cases dv1
              exact ⟨j, rfl, hj.1, hj.2, forR_ok (fun _ _ _ _ z => z) (fun _ _ _ z => z) (ok.mono s1) (f.mono (ok.view.mono _ _ (Same.refl H) s1))⟩
            · cases e1
        · cases h4
      · simp only [Option.bind_eq_some_iff] at h2
        obtain ⟨es, h3, h4⟩ := h2
        split at h4
        · rename_i e e2
          cases h4
          refine PS.weak (ps_for hp B.calm (snd_range2 (H₀ := H₀) (W := W) B c2 h3) hg hb (fun x => rfl)) ?_
          intro E σ H ⟨ρ, A, ok, f⟩
          simp only [evS, evIt] at f
          obtain ⟨xs, e1, f⟩ := f.bind
          obtain ⟨d, e0, e1⟩ := Ou.bind_eq_ok e1
          obtain ⟨d2, e02, e1⟩ := Ou.bind_eq_ok e1
          match d, d2, e1 with
          | .int i, .int j, e1 =>
            simp only at e1
            split at e1
            · rename_i hj
              cases e1
              refine ⟨ρ, A, ok, [.int i, .int j], by simp only [evEs, e0, e02, Ou.bind], fun vs H1 s1 dv => ?_⟩
              obtain ⟨v, v2, rfl, dv, dv2⟩ := denl2 dv
              cases dv; cases dv2
              exact ⟨i, j, rfl, ⟨hj.1.1, hj.1.2, hj.2.1, hj.2.2⟩, forR_ok (fun _ _ _ _ z => z) (fun _ _ _ z => z) (ok.mono s1) (f.mono (ok.view.mono _ _ (Same.refl H) s1))⟩
            · cases e1
        · cases h4
      · cases h2
    · split at h2
      · rename_i c
        obtain ⟨rfl, c2, _⟩ := c
        split at h2
        · simp only [Option.bind_eq_some_iff] at h2
          obtain ⟨es, h3, h4⟩ := h2
          split at h4
          · rename_i e
            cases h4
            have st : starEach [a] X.env = [(false, eval a X.env)] := by
              cases n with
              | zero => rw [trEs] at h3; cases h3
              | succ n =>
                simp only [trEs, Option.bind_eq_some_iff, Option.some.injEq] at h3
                obtain ⟨z1, z2, _⟩ := h3
                exact trE_star z2 [] _
            match tg, h1, hg with
            | .Tuple ts q tp, h1, hg =>
              refine PS.weak (ps_for hp B.calm (pi_enum (B.gl c2) (B.blt _ (by simp [bltNames])) ((snd_all (H₀ := H₀) (W := W) B n).a _ _ h3) st) hg hb (fun x => rfl)) ?_
              intro E σ H ⟨ρ, A, ok, f⟩
              simp only [evS, evIt] at f
              obtain ⟨xs, e1, f⟩ := f.bind
              obtain ⟨d, e0, e1⟩ := Ou.bind_eq_ok e1
              match d, e1 with
              | .lst ys, e1 =>
                cases e1
                refine ⟨ρ, A, ok, [.lst ys], by simp only [evEs, e0, Ou.bind], fun vs H1 s1 dv => ?_⟩
                obtain ⟨v, rfl, dv1⟩ := denl1 dv
                cases dv1 with
                | lst h r =>
                  have ok1 := ok.mono s1
                  exact ⟨_, rfl, ⟨_, sameL (ok1.view.sub _ (Same.refl H1)) h⟩, forE_ok (fun _ _ _ _ z => z) (fun _ _ _ z => z) ok1 h r (f.mono (ok.view.mono _ _ (Same.refl H) s1))⟩
            | .Name x p, h1, hg =>
              simp only [trTg, Option.bind_eq_some_iff] at h1
              obtain ⟨i, _, h5⟩ := h1
              split at h5
              · cases h5
              · cases h5; cases ho
          · cases h4
        · cases h2
      · simp only [Option.bind_eq_some_iff, Option.some.injEq] at h2
        obtain ⟨e, h3, rfl⟩ := h2
        exact seq e h3 rfl
  · simp only [Option.bind_eq_some_iff, Option.some.injEq] at h2
    obtain ⟨e, h3, rfl⟩ := h2
    exact seq e h3 rfl

theorem snd_st (B : Bg X T Φ k) (hp : PassesOwn (model X.prog X.w) X.A X.env X.xe) (m : Nat) : ∀ n, SndS X T Φ H₀ W m n
  | 0 => ⟨(fun _ _ h => by simp [trS] at h), (fun _ _ h => by simp [trSs] at h)⟩
  | n + 1 => by
    have S := snd_st B hp m n
    have Z := snd_all (H₀ := H₀) (W := W) B n
    refine ⟨?_, ?_⟩
    case refine_2 =>
      intro ps s h
      cases ps with
      | nil =>
        simp only [trSs, Option.some.injEq] at h
        subst h
        refine PSs.weak pss_nil ?_
        intro E σ H ⟨ρ, A, ok, f⟩
        simp only [evSs] at f
        exact f σ A H ok (Same.refl _)
      | cons p ps =>
        simp only [trSs, Option.bind_eq_some_iff, Option.some.injEq] at h
        obtain ⟨s', h1, ss', h2, rfl⟩ := h
        refine PSs.weak (pss_cons (S.s _ _ h1) (S.ss _ _ h2)) ?_
        intro E σ H ⟨ρ, A, ok, f⟩
        simp only [evSs] at f
        obtain ⟨r, e1, f⟩ := f.bind
        refine ⟨ρ, A, ok, ?_⟩
        rw [e1]
        match r, f with
        | .nx ρ', f => exact fun σ' A' H' ok' sm => ⟨ρ', A', ok', f.mono sm⟩
        | .rt d, f => exact f
    case refine_1 =>
      intro ps s h
      cases ps with
      | Assign ts e pos =>
        match ts with
        | [.Name x p] =>
          simp only [trS, Option.bind_eq_some_iff] at h
          obtain ⟨i, h1, h2⟩ := h
          obtain ⟨v1, v2, v3, v4⟩ := B.vis h1
          have nd : X.N.Nodup := by rw [B.nm]; exact B.nd
          split at h2
          · rename_i ia
            split at h2
            · rename_i es q
              simp only [Option.bind_eq_some_iff, Option.some.injEq] at h2
              obtain ⟨es', h3, rfl⟩ := h2
              refine PS.weak (ps_set nd v1 (.inl v2) (pe_lst (Z.a _ _ h3)) rfl (.inr v2)) ?_
              intro E σ H ⟨ρ, A, ok, f⟩
              simp only [evS] at f
              obtain ⟨xs, e1, f⟩ := f.bind
              split at f
              · rename_i hl
                refine ⟨ρ, A, ok, xs, e1, fun vs H1 s1 dv => ⟨?_, fun a ha => ?_⟩⟩
                · have := dv.length; have := lenMax_lt; omega
                · have ok1 := ok.mono s1
                  obtain ⟨ok2, sm⟩ := ok1.make ia ha dv
                  exact f _ _ _ ok2 ((ok.view.mono _ _ (Same.refl H) s1).trans sm)
              · exact f.elim
            · cases h2
          · rename_i ia
            simp only [Option.bind_eq_some_iff, Option.some.injEq] at h2
            obtain ⟨e', h3, rfl⟩ := h2
            refine PS.weak (ps_asg (Z.e _ _ h3).1 (snd_tg (H₀ := H₀) (W := W) (t := .nm i) B (by simp only [trTg, h1, Option.bind_some]; rw [if_neg ia])) (swap_sole h3 _ _) (store_nm _) rfl) ?_
            intro E σ H ⟨ρ, A, ok, f⟩
            simp only [evS] at f
            obtain ⟨d, e1, f⟩ := f.bind
            obtain ⟨ρ', e2, f⟩ := f.bind
            exact ⟨ρ, A, ok, d, e1, fun v H1 s1 dv => ⟨ρ, A, d, ρ', ok.mono s1, dv, e2, fun σ' ok' => f σ' A H1 ok' (ok.view.mono _ _ (Same.refl H) s1)⟩⟩
        | [.Tuple ts q r] =>
          simp only [trS] at h
          split at h
          · rename_i nt
            simp only [Option.bind_eq_some_iff, Option.some.injEq] at h
            obtain ⟨t, h1, e', h3, rfl⟩ := h
            refine PS.weak (ps_asg (Z.e _ _ h3).1 (snd_tg (H₀ := H₀) (W := W) B h1) (swap_sole h3 _ _) (store_of nt _) rfl) ?_
            intro E σ H ⟨ρ, A, ok, f⟩
            simp only [evS] at f
            obtain ⟨d, e1, f⟩ := f.bind
            obtain ⟨ρ', e2, f⟩ := f.bind
            exact ⟨ρ, A, ok, d, e1, fun v H1 s1 dv => ⟨ρ, A, d, ρ', ok.mono s1, dv, e2, fun σ' ok' => f σ' A H1 ok' (ok.view.mono _ _ (Same.refl H) s1)⟩⟩
          · cases h
        | [] => simp [trS] at h
        | t :: t2 :: r => cases t <;> simp [trS] at h
        | [.BoolOp _ _ _] => simp [trS] at h
        | [.NamedExpr _ _ _] => simp [trS] at h
        | [.BinOp _ _ _ _] => simp [trS] at h
        | [.UnaryOp _ _ _] => simp [trS] at h
        | [.Lambda _ _ _ _] => simp [trS] at h
        | [.IfExp _ _ _ _] => simp [trS] at h
        | [.Dict _ _ _] => simp [trS] at h
        | [.Set _ _ _] => simp [trS] at h
        | [.ListComp _ _ _ _] => simp [trS] at h
        | [.SetComp _ _ _ _] => simp [trS] at h
        | [.DictComp _ _ _ _ _] => simp [trS] at h
        | [.GeneratorExp _ _ _ _] => simp [trS] at h
        | [.Await _ _] => simp [trS] at h
        | [.Yield _ _] => simp [trS] at h
        | [.YieldFrom _ _] => simp [trS] at h
        | [.Compare _ _ _ _] => simp [trS] at h
        | [.Call _ _ _ _] => simp [trS] at h
        | [.FormattedValue _ _ _ _] => simp [trS] at h
        | [.JoinedStr _ _] => simp [trS] at h
        | [.Constant _ _ _] => simp [trS] at h
        | [.Attribute _ _ _] => simp [trS] at h
        | [.Subscript _ _ _] => simp [trS] at h
        | [.Starred _ _] => simp [trS] at h
        | [.List _ _] => simp [trS] at h
        | [.Slice _ _ _ _] => simp [trS] at h
      | Return v pos =>
        cases v with
        | none => simp [trS] at h
        | some e =>
          have ret : ∀ e', trE T n e = some e' → PS X (.Return (some e) pos) (lS X.K H₀ W T.acc Φ m (.ret e')) := by
            intro e' he
            refine PS.weak (ps_ret (Z.e _ _ he).1) ?_
            intro E σ H ⟨ρ, A, ok, f⟩
            simp only [evS] at f
            obtain ⟨d, e1, f⟩ := f.bind
            exact ⟨ρ, A, ok, d, e1, fun v H1 s1 dv => f v H1 (ok.old.trans s1) (dv.mono hid_sub)⟩
          cases e with
          | Name x p =>
            simp only [trS, Option.bind_eq_some_iff] at h
            obtain ⟨i, h1, h2⟩ := h
            split at h2
            · rename_i ia
              cases h2
              obtain ⟨v1, v2, v3, v4⟩ := B.vis h1
              refine PS.weak (ps_ret (pe_var v1 (.inl v2) v3 v4)) ?_
              intro E σ H ⟨ρ, A, ok, f⟩
              simp only [evS] at f
              obtain ⟨d, e1, f⟩ := f.bind
              unfold getV at e1
              split at e1
              · rename_i hz
                cases e1
                obtain ⟨a, vs, ds, g1, rfl, g3, g4, g5⟩ := ok.own i _ ia hz
                exact ⟨_, g3, f _ H ok.old (.lst (.inl (.inl (ok.vw.new _ a _ ok.old (ok.msk i a g1).2.2 g4))) (g5.mono hid_sub))⟩
              · cases e1
            · simp only [Option.bind_eq_some_iff, Option.some.injEq] at h2
              obtain ⟨e', h3, rfl⟩ := h2
              exact ret e' h3
          | _ =>
            simp only [trS, Option.bind_eq_some_iff, Option.some.injEq] at h
            obtain ⟨e', h3, rfl⟩ := h
            exact ret e' h3
      | If c a b pos =>
        simp only [trS, Option.bind_eq_some_iff, Option.some.injEq] at h
        obtain ⟨c', h1, a', h2, b', h3, rfl⟩ := h
        refine PS.weak (ps_if (Z.e _ _ h1).2 (S.ss _ _ h2) (S.ss _ _ h3)) ?_
        intro E σ H ⟨ρ, A, ok, f⟩
        simp only [evS] at f
        obtain ⟨d, e1, f⟩ := f.bind
        match d, f with
        | .bl true, f => exact ⟨ρ, A, ok, true, e1, fun H1 s1 => iteT ⟨ρ, A, ok.mono s1, f.mono (ok.view.mono _ _ (Same.refl H) s1)⟩⟩
        | .bl false, f => exact ⟨ρ, A, ok, false, e1, fun H1 s1 => iteF ⟨ρ, A, ok.mono s1, f.mono (ok.view.mono _ _ (Same.refl H) s1)⟩⟩
      | For tg it body orelse pos =>
        cases orelse with
        | nil =>
          simp only [trS, Option.bind_eq_some_iff] at h
          obtain ⟨t, h1, it', h2, b', h3, h4⟩ := h
          split at h4
          · rename_i ho
            cases h4
            exact snd_for B hp h1 h2 ho (S.ss _ _ h3)
          · cases h4
        | cons a r => simp [trS] at h
      | While c body orelse pos =>
        cases orelse with
        | nil =>
          simp only [trS, Option.bind_eq_some_iff, Option.some.injEq] at h
          obtain ⟨c', h1, b', h3, rfl⟩ := h
          refine PS.weak (ps_while hp (Z.e _ _ h1).2 (S.ss _ _ h3)) ?_
          intro E σ H ⟨ρ, A, ok, f⟩
          simp only [evS] at f
          refine ⟨fun j σ H => ∃ ρ A, EnvOk X.K H₀ W T.acc A H σ ρ ∧ Fin X.K H₀ W T.acc E H A (wloop (fun ρ' => evE Φ c' ρ') (fun ρ' => evSs Φ m b' ρ') j ρ), ⟨m, ρ, A, ok, f⟩, ?_⟩
          intro j σ H ⟨ρ, A, ok, f⟩
          cases j with
          | zero => exact f.elim
          | succ j =>
            rw [wloop] at f
            obtain ⟨d, e1, f⟩ := f.bind
            match d, f with
            | .bl true, f =>
              obtain ⟨r, e2, f⟩ := f.bind
              refine ⟨ρ, A, ok, true, e1, fun H1 s1 => iteT ⟨fun σ' H' => ∃ m', m' < j + 1 ∧ ∃ ρ A, EnvOk X.K H₀ W T.acc A H' σ' ρ ∧ Fin X.K H₀ W T.acc E H' A (wloop (fun ρ' => evE Φ c' ρ') (fun ρ' => evSs Φ m b' ρ') m' ρ), fun _ _ z => z, ρ, A, ok.mono s1, ?_⟩⟩
              rw [e2]
              have sv := ok.view.mono _ _ (Same.refl H) s1
              match r, f with
              | .nx ρ', f => exact fun σ' A' H' ok' sm => ⟨j, by omega, ρ', A', ok', f.mono (sv.trans sm)⟩
              | .rt d, f => exact f
            | .bl false, f =>
              exact ⟨ρ, A, ok, false, e1, fun H1 s1 => iteF (f σ A H1 (ok.mono s1) (ok.view.mono _ _ (Same.refl H) s1))⟩
        | cons a r => simp [trS] at h
      | Expr v pos =>
        obtain ⟨x, p, mm, apos, e, cpos, rfl⟩ : ∃ x p mm apos e cpos, v = .Call (.Attribute (.Name x p) mm apos) [e] [] cpos := by
          cases v with
          | Call f es ks cp =>
            cases f with
            | Attribute o mm ap =>
              cases o with
              | Name x p =>
                match es, ks with
                | [e], [] => exact ⟨_, _, _, _, _, _, rfl⟩
                | [], _ => simp [trS] at h
                | _ :: _ :: _, _ => simp [trS] at h
                | [_], _ :: _ => simp [trS] at h
              | _ => simp [trS] at h
            | _ => simp [trS] at h
          | _ => simp [trS] at h
        simp only [trS] at h
        split at h
        · rename_i c
          obtain ⟨rfl, hline⟩ := c
          simp only [Option.bind_eq_some_iff] at h
          obtain ⟨i, h1, h2⟩ := h
          split at h2
          · rename_i ia
            simp only [Option.bind_eq_some_iff, Option.some.injEq] at h2
            obtain ⟨e', h3, rfl⟩ := h2
            obtain ⟨v1, v2, v3, v4⟩ := B.vis h1
            have st := trE_star h3 [] X.env
            refine PS.weak (ps_expr (pe_bm PySem.F.plainAttrs_list PySem.F.slot_list_append PySem.F.type_list_append mt_append (pe_var v1 (.inl v2) v3 v4) (pa_cons (Z.e _ _ h3).1 pa_nil st) rfl (by rw [st]; rfl) hline st rfl) rfl) ?_
            intro E σ H ⟨ρ, A, ok, f⟩
            simp only [evS] at f
            obtain ⟨d, e1, f⟩ := f.bind
            obtain ⟨dl, e2, f⟩ := f.bind
            unfold getV at e2
            split at e2
            · rename_i hz
              cases e2
              obtain ⟨a, vs, ds, g1, rfl, g3, g4, g5⟩ := ok.own i _ ia hz
              simp only at f
              split at f
              · rename_i hl
                refine ⟨_, g3, .inl ⟨rfl, _, SqL.of g4⟩, ρ, A, ok, d, e1, fun v H1 s1 dv => ?_⟩
                have ok1 := ok.mono s1
                have sv := ok.view.mono _ _ (Same.refl H) s1
                obtain ⟨ok2, sm⟩ := ok1.grow ia g1 hz (s1 _ _ g4) ((g5.mono sv).append (.cons dv .nil))
                have l5 := g5.length
                refine ⟨a, vs, v, rfl, rfl, s1 _ _ g4, ?_, f _ _ _ ok2 (sv.trans sm)⟩
                have := lenMax_lt
                omega
              · exact f.elim
            · cases e2
          · cases h2
        · cases h
      | _ => simp [trS] at h
end
end Ev

namespace Ev
open PySem PySem.Spec PyProof.Rows L2

/-! ### a def by its small text -/
def run : Ou Fl → Ou D
  | .ok (.rt d) => .ok d
  | .ok (.nx _) => .ok .non
  | .exc c => .exc c
  | .bad => .bad
def sizD : D → Nat
  | .int i => i.natAbs
  | _ => 0
def fuel : List D → Nat
  | [] => 1
  | d :: r => sizD d + fuel r
/-- np parameters, nl names in all -/
def mk (Φ : Nat → List D → Ou D) (ir : List S) (np nl : Nat) (ds : List D) : Ou D :=
  if ds.length = np then run (evSs Φ (fuel ds) ir (ds.map some ++ List.replicate (nl - np) none)) else .bad
def tab (fs : List (List D → Ou D)) (i : Nat) : List D → Ou D := fs.getD i fun _ => .bad

theorem env_start {K : PySem.W.Frag} {H : Hp} {W : Hp → Hp} {acc : List Nat} {N : List Str} {vs : List V} {ds : List D} (vw : Vw H W) (dn : DenL K (W H) vs ds) (hl : ds.length ≤ N.length) (ha : ∀ i ∈ acc, ds.length ≤ i ∧ i < N.length) :
    EnvOk K H W acc (List.replicate N.length none) H (L2.start N vs) (ds.map some ++ List.replicate (N.length - ds.length) none) := by
  have lv := dn.length
  have hx : ∀ (i : Nat) (d : D), (ds.map some ++ List.replicate (N.length - ds.length) none)[i]? = some (some d) → i < ds.length ∧ ds[i]? = some d := fun i d e => by
    by_cases q : i < ds.length
    · rw [List.getElem?_append_left (by rw [List.length_map]; exact q), List.getElem?_map] at e
      cases z : ds[i]? with
      | none => rw [z] at e; cases e
      | some y => rw [z] at e; cases e; exact ⟨q, rfl⟩
    · rw [List.getElem?_append_right (by rw [List.length_map]; omega)] at e
      have := List.mem_of_getElem? e
      rw [List.mem_replicate] at this
      cases this.2
  have no : ∀ (i : Nat) (a : Addr), (List.replicate N.length (none : Option Addr))[i]? = some (some a) → False := fun i a e => by
    have := List.mem_of_getElem? e
    rw [List.mem_replicate] at this
    cases this.2
  have hid0 : Same (W H) (hid (W H) (List.replicate N.length none)) := fun b o e => hid_some.mpr ⟨(fun z => by rw [List.mem_replicate] at z; cases z.2), e⟩
  refine ⟨vw, Same.refl H, ?_, ?_, ?_, fun i d hi e => ?_, fun i d hi e => ?_, fun i a e => (no i a e).elim, fun i j a e => (no i a e).elim⟩
  · unfold L2.start
    simp only [List.length_append, List.length_map, List.length_replicate]
    omega
  · simp only [List.length_append, List.length_map, List.length_replicate]
    omega
  · intro i hi
    simp only [List.length_append, List.length_map, List.length_replicate]
    have := (ha i hi).2
    omega
  · obtain ⟨q, z⟩ := hx i d e
    obtain ⟨v, h1, h2⟩ := dn.get z
    refine ⟨v, ?_, h2.mono hid0⟩
    unfold L2.start
    rw [List.getElem?_append_left (by rw [List.length_map]; omega), List.getElem?_map, h1]
    rfl
  · obtain ⟨q, _⟩ := hx i d e
    have := (ha i hi).1
    omega

theorem fnD {P : Program} {w : World} {K : PySem.W.Frag} {mg : Str → Option Value} {base : Heap} {x qual : Str} {st : Stmt} {f : Addr} {fd : FuncData} {N ps : List Str} {k n : Nat} {acc : List Nat} {Fs : List Str} {Φ : Nat → List D → Ou D} {ir : List S}
    (F : Fun K x qual st f fd) (S : FnScope N ps (defScope st)) (tr : trSs ⟨defScope st, N, acc, Fs⟩ n (defBody st) = some ir) (ha : ∀ i ∈ acc, ps.length ≤ i ∧ i < N.length) (hb : ∀ x ∈ bltNames, mg x = none)
    (hc : ∀ i x, Fs[i]? = some x → Cal P w K mg base k x (Φ i)) : FnOk P w K mg base CX0 (k + 1) f fd ps (spF K (mk Φ ir ps.length N.length)) := by
  have hpl : ps.length ≤ N.length := by
    have := congrArg List.length S.pre
    rw [List.length_take] at this
    omega
  refine F.ok S (fun vs H Q E h => ?_) (fun cdv A outer s H vs Q E hr h => ?_)
  · obtain ⟨W, ds, d, vw, dn, e, q⟩ := h
    rw [dn.length]
    unfold mk at e
    split at e
    · assumption
    · cases e
  · obtain ⟨W, ds, d, vw, dn, e, q⟩ := h
    unfold mk at e
    split at e
    · rename_i hl
      have B : Bg (cxOf CX0 P w K mg base N qual (defScope st) f cdv A outer s H E).nox ⟨defScope st, N, acc, Fs⟩ Φ k :=
        ⟨rfl, rfl, S.nd, rfl, hr, hb, hc⟩
      refine ⟨_, (snd_st (H₀ := H) (W := W) B PassesOwn.never (fuel ds) n).ss _ _ tr, ?_⟩
      refine ⟨_, _, env_start vw dn (by omega) (fun i hi => by rw [hl]; exact ha i hi), ?_⟩
      rw [← hl] at e
      generalize hr' : evSs Φ (fuel ds) ir (ds.map some ++ List.replicate (N.length - ds.length) none) = r at e
      match r, e with
      | .ok (.rt d'), e =>
        cases e
        exact fun v H' s' dv => q v H' s' dv
      | .ok (.nx ρ), e =>
        cases e
        exact fun σ' A' H' ok' sm => q .non H' ok'.old .non
    · cases e

theorem Cal.mono {P : Program} {w : World} {K : PySem.W.Frag} {mg : Str → Option Value} {base : Heap} {j k : Nat} {x : Str} {F : List D → Ou D} (c : Cal P w K mg base j x F) (h : j ≤ k) : Cal P w K mg base k x F := by
  obtain ⟨f, fd, ps, dvs, dus, dds, G, F, r⟩ := c.ex
  exact ⟨⟨f, fd, ps, dvs, dus, dds, G, F.mono h, r⟩⟩
/-- the defs so far -/
def Cals (P : Program) (w : World) (K : PySem.W.Frag) (mg : Str → Option Value) (base : Heap) (k : Nat) (Fs : List Str) (fs : List (List D → Ou D)) : Prop := ∀ i x, Fs[i]? = some x → Cal P w K mg base k x (tab fs i)
theorem Cals.nil {P : Program} {w : World} {K : PySem.W.Frag} {mg : Str → Option Value} {base : Heap} {k : Nat} : Cals P w K mg base k [] [] := fun i x h => by simp at h
theorem Cals.snoc {P : Program} {w : World} {K : PySem.W.Frag} {mg : Str → Option Value} {base : Heap} {k : Nat} {Fs : List Str} {fs : List (List D → Ou D)} {x : Str} {F : List D → Ou D} (c : Cals P w K mg base k Fs fs) (hl : Fs.length = fs.length) (n : Cal P w K mg base (k + 1) x F) :
    Cals P w K mg base (k + 1) (Fs ++ [x]) (fs ++ [F]) := fun i y h => by
  by_cases q : i < Fs.length
  · rw [List.getElem?_append_left q] at h
    have := (c i y h).mono (Nat.le_succ k)
    have e : tab (fs ++ [F]) i = tab fs i := by
      unfold tab
      rw [List.getD_eq_getElem?_getD, List.getD_eq_getElem?_getD, List.getElem?_append_left (by omega)]
    rw [e]; exact this
  · rw [List.getElem?_append_right (by omega)] at h
    have e0 : i - Fs.length = 0 := by
      have := (List.getElem?_eq_some_iff.mp h).1
      simp at this
      omega
    rw [e0] at h
    cases h
    have e : tab (fs ++ [F]) i = F := by
      unfold tab
      rw [List.getD_eq_getElem?_getD, List.getElem?_append_right (by omega), show i - fs.length = 0 by omega]
      rfl
    rw [e]; exact n
theorem cal_of {P : Program} {w : World} {K : PySem.W.Frag} {mg : Str → Option Value} {base : Heap} {k : Nat} {x : Str} {f : Addr} {fd : FuncData} {ps : List Str} {F : List D → Ou D} (h : FnOk P w K mg base CX0 k f fd ps (spF K F)) (hm : mg x = some (.ref f)) (hk : PySem.W.keepIn K (.ref f) = true) (hb : Binds K fd ps []) :
    Cal P w K mg base k x F := ⟨⟨f, fd, ps, [], [], [], F, h, hm, hk, hb, .nil, fun _ => .nil, fun ds => by rw [List.append_nil]⟩⟩
end Ev

namespace Ev
open PySem PySem.Spec PyProof.Rows L2

/-! ### statements, in short; loops stay folded -/
section
variable (Φ : Nat → List D → Ou D) (n : Nat) (ρ : Env)
def cnd (c : E) : Env → Ou D := fun ρ => evE Φ c ρ
def bod (body : List S) : Env → Ou Fl := fun ρ => evSs Φ n body ρ
theorem cnd_at (c : E) : cnd Φ c ρ = evE Φ c ρ := rfl
theorem bod_at (body : List S) : bod Φ n body ρ = evSs Φ n body ρ := rfl
def turn (t : Tg) (body : List S) : D → Env → Ou Fl := fun x ρ' => (setT t x ρ').bind fun ρ2 => evSs Φ n body ρ2
theorem evS_set (t : Tg) (e : E) : evS Φ n (.set t e) ρ = (evE Φ e ρ).bind fun x => (setT t x ρ).bind fun ρ' => .ok (.nx ρ') := by rw [evS]
theorem evS_acc (i : Nat) (es : List E) : evS Φ n (.acc i es) ρ = (evEs Φ es ρ).bind fun xs => if xs.length < lenMax then .ok (.nx (ρ.set i (some (.lst xs)))) else .bad := by rw [evS]
theorem evS_app (i : Nat) (e : E) : evS Φ n (.app i e) ρ = (evE Φ e ρ).bind fun x => (getV ρ i).bind fun d => match d with
    | .lst xs => if xs.length < lenMax then .ok (.nx (ρ.set i (some (.lst (xs ++ [x]))))) else .bad
    | _ => .bad := by
  rw [evS]
  all_goals rfl
theorem evS_ret (e : E) : evS Φ n (.ret e) ρ = (evE Φ e ρ).bind fun x => .ok (.rt x) := by rw [evS]
theorem evS_retA (i : Nat) : evS Φ n (.retA i) ρ = (getV ρ i).bind fun d => .ok (.rt d) := by rw [evS]
theorem evS_ite (c : E) (a b : List S) : evS Φ n (.ite c a b) ρ = (evE Φ c ρ).bind fun x => match x with | .bl true => evSs Φ n a ρ | .bl false => evSs Φ n b ρ | _ => .bad := by
  rw [evS]
  all_goals rfl
theorem evS_for (t : Tg) (it : It) (body : List S) : evS Φ n (.for t it body) ρ = (evIt Φ it ρ).bind fun xs => loop (turn Φ n t body) xs ρ := by
  rw [evS]
  all_goals rfl
theorem evS_while (c : E) (body : List S) : evS Φ n (.while c body) ρ = wloop (cnd Φ c) (bod Φ n body) n ρ := by
  rw [evS]
  all_goals rfl
theorem turn_at (t : Tg) (body : List S) (x : D) : turn Φ n t body x ρ = (setT t x ρ).bind fun ρ2 => evSs Φ n body ρ2 := rfl
theorem run_rt (d : D) : Ev.run (.ok (.rt d)) = .ok d := rfl
theorem run_nx : Ev.run (.ok (.nx ρ)) = .ok .non := rfl
theorem evS_expr (e : E) : evS Φ n (.expr e) ρ = (evE Φ e ρ).bind fun _ => .ok (.nx ρ) := by rw [evS]
end

/-! ### values, in short -/
theorem eqOk_int (i : Int) : eqOk (.int i) := ⟨rfl, Nat.zero_le _⟩
theorem eqOk_bl (b : Bool) : eqOk (.bl b) := ⟨rfl, Nat.zero_le _⟩
theorem eqOk_non : eqOk .non := ⟨rfl, Nat.zero_le _⟩
theorem eqOk_pair (i j : Int) : eqOk (.tup [.int i, .int j]) := by
  refine ⟨by simp [cln, clns], ?_⟩
  simp [dep, deps]
theorem evC_eq_int (i j : Int) : evC .eq (.int i) (.int j) = .ok (.bl (decide (i = j))) := by
  rw [evC, if_pos ⟨eqOk_int i, eqOk_int j⟩, eqD, Bool.beq_eq_decide_eq]
theorem evC_ne_int (i j : Int) : evC .ne (.int i) (.int j) = .ok (.bl (!decide (i = j))) := by
  rw [evC, if_pos ⟨eqOk_int i, eqOk_int j⟩, eqD, Bool.beq_eq_decide_eq]
theorem evC_ne_pair (i j k l : Int) : evC .ne (.tup [.int i, .int j]) (.tup [.int k, .int l]) = .ok (.bl (!(decide (i = k) && decide (j = l)))) := by
  rw [evC, if_pos ⟨eqOk_pair i j, eqOk_pair k l⟩]
  simp only [eqD, eqDs, Bool.beq_eq_decide_eq, Bool.and_true]
theorem evC_eq_pair (i j k l : Int) : evC .eq (.tup [.int i, .int j]) (.tup [.int k, .int l]) = .ok (.bl (decide (i = k) && decide (j = l))) := by
  rw [evC, if_pos ⟨eqOk_pair i j, eqOk_pair k l⟩]
  simp only [eqD, eqDs, Bool.beq_eq_decide_eq, Bool.and_true]
theorem evC_eq_bl (i j : Bool) : evC .eq (.bl i) (.bl j) = .ok (.bl (i == j)) := by
  rw [evC, if_pos ⟨eqOk_bl i, eqOk_bl j⟩, eqD]
theorem evC_lt_int (i j : Int) : evC .lt (.int i) (.int j) = .ok (.bl (decide (i < j))) := rfl
theorem evC_le_int (i j : Int) : evC .le (.int i) (.int j) = .ok (.bl (decide (i ≤ j))) := rfl
theorem evC_gt_int (i j : Int) : evC .gt (.int i) (.int j) = .ok (.bl (decide (j < i))) := rfl
theorem evC_ge_int (i j : Int) : evC .ge (.int i) (.int j) = .ok (.bl (decide (j ≤ i))) := rfl
theorem ev2_add (i j : Int) : ev2 .add (.int i) (.int j) = .ok (.int (i + j)) := rfl
theorem ev2_sub (i j : Int) : ev2 .sub (.int i) (.int j) = .ok (.int (i - j)) := rfl
theorem ev2_band (i j : Int) : ev2 .band (.int i) (.int j) = .ok (.int (Builtin.bitAnd i j)) := rfl
theorem ev2_mod {i j : Int} (h : 0 < j) : ev2 .mod (.int i) (.int j) = .ok (.int (i % j)) := by
  rw [ev2, if_pos (by omega), Int.fmod_eq_emod_of_nonneg i (by omega)]

theorem evI_lat {xs : List D} {k : Nat} {d : D} (h : xs[k]? = some d) : evI (.lst xs) (.int (k : Nat)) = .ok d := by
  rw [evI, atI_nat h]
theorem evI_tat {xs : List D} {k : Nat} {d : D} (h : xs[k]? = some d) : evI (.tup xs) (.int (k : Nat)) = .ok d := by
  rw [evI, atI_nat h]
theorem evI_l0 (x0 : D) (xs : List D) : evI (.lst (x0 :: xs)) (.int 0) = .ok x0 := evI_lat (k := 0) rfl
theorem evI_t0 (x0 : D) (xs : List D) : evI (.tup (x0 :: xs)) (.int 0) = .ok x0 := evI_tat (k := 0) rfl
theorem evI_l1 (x0 x1 : D) (xs : List D) : evI (.lst (x0 :: x1 :: xs)) (.int 1) = .ok x1 := evI_lat (k := 1) rfl
theorem evI_t1 (x0 x1 : D) (xs : List D) : evI (.tup (x0 :: x1 :: xs)) (.int 1) = .ok x1 := evI_tat (k := 1) rfl
theorem evI_l2 (x0 x1 x2 : D) (xs : List D) : evI (.lst (x0 :: x1 :: x2 :: xs)) (.int 2) = .ok x2 := evI_lat (k := 2) rfl
theorem evI_t2 (x0 x1 x2 : D) (xs : List D) : evI (.tup (x0 :: x1 :: x2 :: xs)) (.int 2) = .ok x2 := evI_tat (k := 2) rfl
theorem evI_l3 (x0 x1 x2 x3 : D) (xs : List D) : evI (.lst (x0 :: x1 :: x2 :: x3 :: xs)) (.int 3) = .ok x3 := evI_lat (k := 3) rfl
theorem evI_t3 (x0 x1 x2 x3 : D) (xs : List D) : evI (.tup (x0 :: x1 :: x2 :: x3 :: xs)) (.int 3) = .ok x3 := evI_tat (k := 3) rfl
theorem evI_l4 (x0 x1 x2 x3 x4 : D) (xs : List D) : evI (.lst (x0 :: x1 :: x2 :: x3 :: x4 :: xs)) (.int 4) = .ok x4 := evI_lat (k := 4) rfl
theorem evI_l5 (x0 x1 x2 x3 x4 x5 : D) (xs : List D) : evI (.lst (x0 :: x1 :: x2 :: x3 :: x4 :: x5 :: xs)) (.int 5) = .ok x5 := evI_lat (k := 5) rfl
theorem evI_l6 (x0 x1 x2 x3 x4 x5 x6 : D) (xs : List D) : evI (.lst (x0 :: x1 :: x2 :: x3 :: x4 :: x5 :: x6 :: xs)) (.int 6) = .ok x6 := evI_lat (k := 6) rfl
theorem evI_l7 (x0 x1 x2 x3 x4 x5 x6 x7 : D) (xs : List D) : evI (.lst (x0 :: x1 :: x2 :: x3 :: x4 :: x5 :: x6 :: x7 :: xs)) (.int 7) = .ok x7 := evI_lat (k := 7) rfl
theorem evI_l8 (x0 x1 x2 x3 x4 x5 x6 x7 x8 : D) (xs : List D) : evI (.lst (x0 :: x1 :: x2 :: x3 :: x4 :: x5 :: x6 :: x7 :: x8 :: xs)) (.int 8) = .ok x8 := evI_lat (k := 8) rfl
theorem evI_l9 (x0 x1 x2 x3 x4 x5 x6 x7 x8 x9 : D) (xs : List D) : evI (.lst (x0 :: x1 :: x2 :: x3 :: x4 :: x5 :: x6 :: x7 :: x8 :: x9 :: xs)) (.int 9) = .ok x9 := evI_lat (k := 9) rfl
/-- a bound for all numbers that are divided by or multiplied -/
def big : Nat := 10 ^ 1000
theorem log2_big {n : Nat} (h : n < big) : n.log2 < 9000 := by
  rcases Nat.eq_zero_or_pos n with h0 | hp
  · subst h0; decide
  · refine (Nat.log2_lt (by omega)).mpr (Nat.lt_of_lt_of_le h ?_)
    unfold big
    exact Nat.le_of_ble_eq_true (by decide +kernel)
theorem big_200 {n : Nat} (h : n < 10 ^ 200) : n < big := Nat.lt_of_lt_of_le h (Nat.pow_le_pow_right (by decide) (by decide))
theorem divOk_of {j : Int} (h0 : j ≠ 0) (h : j.natAbs < big) : divOk j := ⟨h0, log2_big h⟩
theorem mulOk_of {i j : Int} (h : i.natAbs < big) (h' : j.natAbs < big) : mulOk i j := .inr (.inr ⟨Nat.lt_of_lt_of_le (log2_big h) (by decide), Nat.lt_of_lt_of_le (log2_big h') (by decide)⟩)
theorem mulOk_right {i j : Int} (h : j.natAbs < 2 ^ 64) : mulOk i j := .inr (.inl (by
  rcases Nat.eq_zero_or_pos j.natAbs with h0 | hp
  · rw [h0]; decide
  · exact (Nat.log2_lt (by omega)).mpr h))
theorem mulOk_left {i j : Int} (h : i.natAbs < 2 ^ 64) : mulOk i j := .inl (by
  rcases Nat.eq_zero_or_pos i.natAbs with h0 | hp
  · rw [h0]; decide
  · exact (Nat.log2_lt (by omega)).mpr h)
theorem ev2_fdiv {i j : Int} (h : 0 < j) (h' : j.natAbs < big) : ev2 .fdiv (.int i) (.int j) = .ok (.int (i / j)) := by
  rw [ev2, if_pos (divOk_of (by omega) h'), Int.fdiv_eq_ediv_of_nonneg i (by omega)]
theorem ev2_fdivN {i j : Int} (h : j ≠ 0) (h' : j.natAbs < big) : ev2 .fdiv (.int i) (.int j) = .ok (.int (i.fdiv j)) := by
  rw [ev2, if_pos (divOk_of h h')]
theorem ev2_mul {i j : Int} (h : mulOk i j) : ev2 .mul (.int i) (.int j) = .ok (.int (i * j)) := by
  rw [ev2, if_pos h]
theorem ev2_pow {i : Int} {n : Nat} (h : n ≤ 1000000) (h' : i.natAbs < 2 ^ 64) : ev2 .pow (.int i) (.int (n : Int)) = .ok (.int (i ^ n)) := by
  rw [ev2, if_pos ⟨by omega, by omega, h'⟩]
  rfl
theorem ev_abs (i : Int) : evB .abs [.int i] = .ok (.int (i.natAbs : Int)) := by
  rw [evB]
  congr 2
  split <;> omega
theorem ev_len_l (xs : List D) : evB .len [.lst xs] = .ok (.int (xs.length : Nat)) := rfl
theorem ev_len_t (xs : List D) : evB .len [.tup xs] = .ok (.int (xs.length : Nat)) := rfl
theorem ev_len_t0 : evB .len [.tup []] = .ok (.int 0) := rfl
theorem ev_len_t1 (x0 : D) : evB .len [.tup [x0]] = .ok (.int 1) := rfl
theorem ev_len_t2 (x0 x1 : D) : evB .len [.tup [x0, x1]] = .ok (.int 2) := rfl
theorem ev_len_t3 (x0 x1 x2 : D) : evB .len [.tup [x0, x1, x2]] = .ok (.int 3) := rfl
theorem ev_max (i j : Int) : evB .max [.int i, .int j] = .ok (.int (max i j)) := by
  rw [evB]; congr 2; rw [Int.max_def]; split <;> split <;> omega
theorem ev_min (i j : Int) : evB .min [.int i, .int j] = .ok (.int (min i j)) := by
  rw [evB]; congr 2; rw [Int.min_def]; split <;> split <;> omega
theorem ev_intI (i : Int) : evB .int [.int i] = .ok (.int i) := rfl
theorem ev_intB (b : Bool) : evB .int [.bl b] = .ok (.int (if b then 1 else 0)) := rfl
theorem ev_list_l (xs : List D) : evB .list [.lst xs] = .ok (.lst xs) := rfl
theorem ev_list_t (xs : List D) : evB .list [.tup xs] = .ok (.lst xs) := rfl
theorem allB_true {ds : List D} (h : ∀ d ∈ ds, d = .bl true) : allB ds = some true := by
  induction ds with
  | nil => rfl
  | cons d r ih =>
    rw [h d (by simp), allB, if_pos rfl]
    exact ih fun x hx => h x (by simp [hx])

/-! ### the common divisor by its loop -/
theorem gcd_step (a b : Nat) (h : b ≠ 0) : Nat.gcd b (a % b) = Nat.gcd a b := by
  rw [Nat.gcd_comm a b, Nat.gcd_rec b a, Nat.gcd_comm]
theorem fmod_nat (a b : Nat) : ((a : Nat) : Int).fmod ((b : Nat) : Int) = ((a % b : Nat) : Int) := by
  rw [Int.fmod_eq_emod_of_nonneg _ (by omega)]; rfl

/-! ### fractions -/
structure Low (t b : Int) : Prop where
  pos : 1 ≤ b
  cop : Int.gcd t b = 1
theorem low_div {t b : Int} (hb : 0 < b) : Low (t / (Int.gcd t b : Int)) (b / (Int.gcd t b : Int)) ∧ t / (Int.gcd t b : Int) * b = t * (b / (Int.gcd t b : Int)) := by
  have hg : 0 < Int.gcd t b := Int.gcd_pos_of_ne_zero_right _ (by omega)
  obtain ⟨t', ht⟩ := Int.gcd_dvd_left t b
  obtain ⟨b', hb'⟩ := Int.gcd_dvd_right t b
  have g0 : (Int.gcd t b : Int) ≠ 0 := by omega
  have e1 : t / (Int.gcd t b : Int) = t' := by rw [Int.ediv_eq_iff_eq_mul_right g0 (Int.gcd_dvd_left t b)]; exact ht
  have e2 : b / (Int.gcd t b : Int) = b' := by rw [Int.ediv_eq_iff_eq_mul_right g0 (Int.gcd_dvd_right t b)]; exact hb'
  rw [e1, e2]
  refine ⟨⟨?_, ?_⟩, ?_⟩
  · have : 0 < (Int.gcd t b : Int) * b' := by rw [← hb']; exact hb
    have : 0 < b' := by
      rcases Int.lt_or_le 0 b' with h | h
      · exact h
      · have := Int.mul_nonpos_of_nonneg_of_nonpos (show (0 : Int) ≤ (Int.gcd t b : Int) by omega) h
        omega
    omega
  · have := Int.gcd_mul_left (Int.gcd t b : Int) t' b'
    rw [← ht, ← hb'] at this
    simp only [Int.natAbs_natCast] at this
    have h2 : Int.gcd t b * 1 = Int.gcd t b * Int.gcd t' b' := by omega
    exact (Nat.eq_of_mul_eq_mul_left hg h2).symm
  · generalize hG : (Int.gcd t b : Int) = G at *
    calc t' * b = t' * (G * b') := by rw [← hb']
      _ = (G * t') * b' := by rw [← Int.mul_assoc, Int.mul_comm t' G]
      _ = t * b' := by rw [← ht]
theorem Low.div {t b : Int} (h : Low t b) : t / (Int.gcd t b : Int) = t ∧ b / (Int.gcd t b : Int) = b := by
  rw [h.cop]
  exact ⟨Int.ediv_one t, Int.ediv_one b⟩
end Ev

namespace Ev
open PySem PySem.Spec PyProof.Rows L2

/-! ### the draws of the laws -/
def ir_numbers : List S := [.acc 2 [], .ite (.cmp .ge (.bi .abs [(.var 0)]) (.op .pow (.cI 10) (.cI 18))) [.for (.nm 3) (.seq (.var 1)) [.app 2 (.op .mod (.var 0) (.var 3)), .set (.nm 0) (.op .fdiv (.var 0) (.var 3))], .retA 2] [], .for (.tp 4 3) (.enu (.var 1)) [.set (.nm 5) (.op .mod (.op .add (.op .add (.op .add (.op .mul (.var 0) (.cI 48271)) (.op .mul (.op .mul (.var 4) (.var 4)) (.cI 69621))) (.op .mul (.var 4) (.cI 16807))) (.cI 11)) (.cI 2147483647)), .app 2 (.op .mod (.op .fdiv (.op .mod (.op .add (.op .add (.op .mul (.var 5) (.cI 40692)) (.var 0)) (.op .mul (.cI 31) (.var 4))) (.cI 2147483399)) (.cI 7)) (.var 3))], .retA 2]
/-- each draw lies below its base -/
def Dig : List Int → List Int → Prop
  | [], [] => True
  | r :: rs, b :: bs => (0 ≤ r ∧ r < b) ∧ Dig rs bs
  | _, _ => False
theorem Dig.length : ∀ {rs bs : List Int}, Dig rs bs → rs.length = bs.length
  | [], [], _ => rfl
  | _ :: _, _ :: _, h => congrArg (· + 1) h.2.length
theorem Dig.append : ∀ {rs bs rs' bs' : List Int}, Dig rs bs → Dig rs' bs' → Dig (rs ++ rs') (bs ++ bs')
  | [], [], _, _, _, h => h
  | _ :: _, _ :: _, _, _, h, h' => ⟨h.1, h.2.append h'⟩
theorem getLast_len (l : List D) (d : D) : (l ++ [d]).length = l.length + 1 := by rw [List.length_append, List.length_singleton]
theorem numbers_a (Φ : Nat → List D → Ou D) (n : Nat) : ∀ (bs : List Int) (c : Int) (x r3 r4 r5 : Option D) (row : List D), (∀ b ∈ bs, 0 < b ∧ b.natAbs < big) → row.length + bs.length < lenMax →
    ∃ (rs : List Int) (c' : Int) (r3' : Option D), Dig rs bs ∧ loop (turn Φ n (.nm 3) [.app 2 (.op .mod (.var 0) (.var 3)), .set (.nm 0) (.op .fdiv (.var 0) (.var 3))]) (bs.map D.int) [some (.int c), x, some (.lst row), r3, r4, r5]
      = .ok (.nx [some (.int c'), x, some (.lst (row ++ rs.map D.int)), r3', r4, r5])
  | [], c, x, r3, r4, r5, row, _, _ => ⟨[], c, r3, trivial, by simp only [List.map_nil, loop, List.append_nil]⟩
  | b :: bs, c, x, r3, r4, r5, row, hb, hl => by
    obtain ⟨h0, h1⟩ := hb b (by simp)
    simp only [List.length_cons] at hl
    obtain ⟨rs, c', r3', dg, e⟩ := numbers_a Φ n bs (c / b) x (some (.int b)) r4 r5 (row ++ [.int (c % b)]) (fun y hy => hb y (by simp [hy])) (by rw [getLast_len]; omega)
    refine ⟨(c % b) :: rs, c', r3', ⟨⟨Int.emod_nonneg _ (by omega), Int.emod_lt_of_pos _ h0⟩, dg⟩, ?_⟩
    have hlt : row.length < lenMax := by omega
    simp only [List.map_cons, loop, evSs, evS_set, evS_acc, evS_app, evS_ret, evS_retA, evS_ite, evS_for, evS_while, evS_expr, evE, evEs, evIt, getV, setT, evI_l0, evI_l1, evI_l2, evI_l3, evI_l4, evI_l5, evI_l6, evI_l7, evI_l8, evI_l9, evI_t0, evI_t1, evI_t2, evI_t3, ev_len_t0, ev_len_t1, ev_len_t2, ev_len_t3, ev_max, ev_min, ev_intI, ev_intB, ev_list_l, ev_list_t, isTy, evC_eq_int, evC_ne_int, evC_lt_int, evC_le_int, evC_gt_int, evC_ge_int, evC_ne_pair, evC_eq_pair, evC_eq_bl, ev2_add, ev2_sub, ev_abs, Ou.bind_ok, Ou.bind_exc, Ou.bind_bad, run_rt, run_nx, cnd_at, bod_at, turn_at, List.getElem?_cons_zero, List.getElem?_cons_succ, List.set_cons_zero, List.set_cons_succ, ev2_mod h0, ev2_fdiv h0 h1, if_pos hlt]
    rw [e]
    simp only [List.append_assoc, List.cons_append, List.nil_append]
theorem enumD_map (k : Nat) : ∀ bs : List Int, enumD k (bs.map D.int) = (bs.zipIdx k).map fun p => D.tup [.int (p.2 : Nat), .int p.1]
  | [] => rfl
  | b :: bs => by simp only [List.map_cons, enumD, List.zipIdx_cons, enumD_map (k + 1) bs]
theorem numbers_b (Φ : Nat → List D → Ou D) (n : Nat) : ∀ (bs : List Int) (k : Nat) (c : Int) (x r3 r4 r5 : Option D) (row : List D), (∀ b ∈ bs, 0 < b ∧ b.natAbs < big) → row.length + bs.length < lenMax → k + bs.length < lenMax →
    ∃ (rs : List Int) (r3' r4' r5' : Option D), Dig rs bs ∧ loop (turn Φ n (.tp 4 3) [.set (.nm 5) (.op .mod (.op .add (.op .add (.op .add (.op .mul (.var 0) (.cI 48271)) (.op .mul (.op .mul (.var 4) (.var 4)) (.cI 69621))) (.op .mul (.var 4) (.cI 16807))) (.cI 11)) (.cI 2147483647)), .app 2 (.op .mod (.op .fdiv (.op .mod (.op .add (.op .add (.op .mul (.var 5) (.cI 40692)) (.var 0)) (.op .mul (.cI 31) (.var 4))) (.cI 2147483399)) (.cI 7)) (.var 3))]) (enumD k (bs.map D.int)) [some (.int c), x, some (.lst row), r3, r4, r5]
      = .ok (.nx [some (.int c), x, some (.lst (row ++ rs.map D.int)), r3', r4', r5'])
  | [], k, c, x, r3, r4, r5, row, _, _, _ => ⟨[], r3, r4, r5, trivial, by simp only [List.map_nil, enumD, loop, List.append_nil]⟩
  | b :: bs, k, c, x, r3, r4, r5, row, hb, hl, hk => by
    obtain ⟨h0, h1⟩ := hb b (by simp)
    simp only [List.length_cons] at hl hk
    have hlt : row.length < lenMax := by omega
    have lm : lenMax = 1000000 := rfl
    have kk : (k : Int) < 1000000 := by omega
    have k2 : (k : Int) * (k : Int) < 1000000 * 1000000 := by
      rcases Nat.eq_zero_or_pos k with z | z
      · subst z; decide
      · exact Int.mul_lt_mul kk (by omega) (by omega) (by decide)
    have k3 : (0 : Int) ≤ (k : Int) * (k : Int) := Int.mul_nonneg (by omega) (by omega)
    have m1 : ev2 .mul (.int c) (.int 48271) = .ok (.int (c * 48271)) := ev2_mul (mulOk_right (by decide))
    have m2 : ev2 .mul (.int (k : Int)) (.int (k : Int)) = .ok (.int ((k : Int) * (k : Int))) := ev2_mul (mulOk_right (by omega))
    have m3 : ev2 .mul (.int ((k : Int) * (k : Int))) (.int 69621) = .ok (.int ((k : Int) * (k : Int) * 69621)) := ev2_mul (mulOk_right (by decide))
    have m4 : ev2 .mul (.int (k : Int)) (.int 16807) = .ok (.int ((k : Int) * 16807)) := ev2_mul (mulOk_right (by decide))
    have m5 : ∀ z : Int, ev2 .mul (.int z) (.int 40692) = .ok (.int (z * 40692)) := fun z => ev2_mul (mulOk_right (by decide))
    have m6 : ev2 .mul (.int 31) (.int (k : Int)) = .ok (.int (31 * (k : Int))) := ev2_mul (mulOk_left (by decide))
    have m7 : ∀ z : Int, ev2 .mod (.int z) (.int 2147483647) = .ok (.int (z % 2147483647)) := fun z => ev2_mod (by decide)
    have m8 : ∀ z : Int, ev2 .mod (.int z) (.int 2147483399) = .ok (.int (z % 2147483399)) := fun z => ev2_mod (by decide)
    have m9 : ∀ z : Int, ev2 .fdiv (.int z) (.int 7) = .ok (.int (z / 7)) := fun z => ev2_fdiv (by decide) (big_200 (by decide))
    generalize hv : ((((c * 48271 + (k : Int) * (k : Int) * 69621 + (k : Int) * 16807 + 11) % 2147483647 * 40692 + c + 31 * (k : Int)) % 2147483399 / 7) % b) = v
    obtain ⟨rs, r3', r4', r5', dg, e⟩ := numbers_b Φ n bs (k + 1) c x (some (.int b)) (some (.int (k : Int))) (some (.int ((c * 48271 + (k : Int) * (k : Int) * 69621 + (k : Int) * 16807 + 11) % 2147483647))) (row ++ [.int v]) (fun y hy => hb y (by simp [hy])) (by rw [getLast_len]; omega) (by omega)
    refine ⟨v :: rs, r3', r4', r5', ⟨⟨by rw [← hv]; exact Int.emod_nonneg _ (by omega), by rw [← hv]; exact Int.emod_lt_of_pos _ h0⟩, dg⟩, ?_⟩
    simp only [List.map_cons, enumD, loop, evSs, evS_set, evS_acc, evS_app, evS_ret, evS_retA, evS_ite, evS_for, evS_while, evS_expr, evE, evEs, evIt, getV, setT, evI_l0, evI_l1, evI_l2, evI_l3, evI_l4, evI_l5, evI_l6, evI_l7, evI_l8, evI_l9, evI_t0, evI_t1, evI_t2, evI_t3, ev_len_t0, ev_len_t1, ev_len_t2, ev_len_t3, ev_max, ev_min, ev_intI, ev_intB, ev_list_l, ev_list_t, isTy, evC_eq_int, evC_ne_int, evC_lt_int, evC_le_int, evC_gt_int, evC_ge_int, evC_ne_pair, evC_eq_pair, evC_eq_bl, ev2_add, ev2_sub, ev_abs, Ou.bind_ok, Ou.bind_exc, Ou.bind_bad, run_rt, run_nx, cnd_at, bod_at, turn_at, List.getElem?_cons_zero, List.getElem?_cons_succ, List.set_cons_zero, List.set_cons_succ, m1, m2, m3, m4, m5, m6, m7, m8, m9, ev2_mod h0, if_pos hlt, hv]
    rw [e]
    simp only [List.append_assoc, List.cons_append, List.nil_append]
theorem numbers_ok (Φ : Nat → List D → Ou D) (n : Nat) (c : Int) (bs : List Int) (hb : ∀ b ∈ bs, 0 < b ∧ b.natAbs < big) (hl : bs.length < lenMax) :
    ∃ rs : List Int, Dig rs bs ∧ Ev.run (evSs Φ n ir_numbers [some (.int c), some (.lst (bs.map D.int)), none, none, none, none]) = .ok (.lst (rs.map D.int)) := by
  have p1 : ev2 .pow (.int 10) (.int 18) = .ok (.int (10 ^ 18)) := ev2_pow (n := 18) (by decide) (by decide)
  have l0 : (0 : Nat) < lenMax := by decide
  by_cases h : (10 : Int) ^ 18 ≤ (c.natAbs : Int)
  · obtain ⟨rs, c', r3', dg, e⟩ := numbers_a Φ n bs c (some (.lst (bs.map D.int))) none none none [] hb (by simpa using hl)
    refine ⟨rs, dg, ?_⟩
    simp only [ir_numbers, evSs, evS_set, evS_acc, evS_app, evS_ret, evS_retA, evS_ite, evS_for, evS_while, evS_expr, evE, evEs, evIt, getV, setT, evI_l0, evI_l1, evI_l2, evI_l3, evI_l4, evI_l5, evI_l6, evI_l7, evI_l8, evI_l9, evI_t0, evI_t1, evI_t2, evI_t3, ev_len_t0, ev_len_t1, ev_len_t2, ev_len_t3, ev_max, ev_min, ev_intI, ev_intB, ev_list_l, ev_list_t, isTy, evC_eq_int, evC_ne_int, evC_lt_int, evC_le_int, evC_gt_int, evC_ge_int, evC_ne_pair, evC_eq_pair, evC_eq_bl, ev2_add, ev2_sub, ev_abs, Ou.bind_ok, Ou.bind_exc, Ou.bind_bad, run_rt, run_nx, cnd_at, bod_at, turn_at, List.getElem?_cons_zero, List.getElem?_cons_succ, List.set_cons_zero, List.set_cons_succ, List.length_nil, if_pos l0, p1, h, decide_true]
    simp only [e, evSs, evS_set, evS_acc, evS_app, evS_ret, evS_retA, evS_ite, evS_for, evS_while, evS_expr, evE, evEs, evIt, getV, setT, evI_l0, evI_l1, evI_l2, evI_l3, evI_l4, evI_l5, evI_l6, evI_l7, evI_l8, evI_l9, evI_t0, evI_t1, evI_t2, evI_t3, ev_len_t0, ev_len_t1, ev_len_t2, ev_len_t3, ev_max, ev_min, ev_intI, ev_intB, ev_list_l, ev_list_t, isTy, evC_eq_int, evC_ne_int, evC_lt_int, evC_le_int, evC_gt_int, evC_ge_int, evC_ne_pair, evC_eq_pair, evC_eq_bl, ev2_add, ev2_sub, ev_abs, Ou.bind_ok, Ou.bind_exc, Ou.bind_bad, run_rt, run_nx, cnd_at, bod_at, turn_at, List.getElem?_cons_zero, List.getElem?_cons_succ, List.set_cons_zero, List.set_cons_succ, List.nil_append]
  · obtain ⟨rs, r3', r4', r5', dg, e⟩ := numbers_b Φ n bs 0 c (some (.lst (bs.map D.int))) none none none [] hb (by simpa using hl) (by simpa using hl)
    refine ⟨rs, dg, ?_⟩
    simp only [ir_numbers, evSs, evS_set, evS_acc, evS_app, evS_ret, evS_retA, evS_ite, evS_for, evS_while, evS_expr, evE, evEs, evIt, getV, setT, evI_l0, evI_l1, evI_l2, evI_l3, evI_l4, evI_l5, evI_l6, evI_l7, evI_l8, evI_l9, evI_t0, evI_t1, evI_t2, evI_t3, ev_len_t0, ev_len_t1, ev_len_t2, ev_len_t3, ev_max, ev_min, ev_intI, ev_intB, ev_list_l, ev_list_t, isTy, evC_eq_int, evC_ne_int, evC_lt_int, evC_le_int, evC_gt_int, evC_ge_int, evC_ne_pair, evC_eq_pair, evC_eq_bl, ev2_add, ev2_sub, ev_abs, Ou.bind_ok, Ou.bind_exc, Ou.bind_bad, run_rt, run_nx, cnd_at, bod_at, turn_at, List.getElem?_cons_zero, List.getElem?_cons_succ, List.set_cons_zero, List.set_cons_succ, List.length_nil, if_pos l0, p1, h, decide_false]
    simp only [e, evSs, evS_set, evS_acc, evS_app, evS_ret, evS_retA, evS_ite, evS_for, evS_while, evS_expr, evE, evEs, evIt, getV, setT, evI_l0, evI_l1, evI_l2, evI_l3, evI_l4, evI_l5, evI_l6, evI_l7, evI_l8, evI_l9, evI_t0, evI_t1, evI_t2, evI_t3, ev_len_t0, ev_len_t1, ev_len_t2, ev_len_t3, ev_max, ev_min, ev_intI, ev_intB, ev_list_l, ev_list_t, isTy, evC_eq_int, evC_ne_int, evC_lt_int, evC_le_int, evC_gt_int, evC_ge_int, evC_ne_pair, evC_eq_pair, evC_eq_bl, ev2_add, ev2_sub, ev_abs, Ou.bind_ok, Ou.bind_exc, Ou.bind_bad, run_rt, run_nx, cnd_at, bod_at, turn_at, List.getElem?_cons_zero, List.getElem?_cons_succ, List.set_cons_zero, List.set_cons_succ, List.nil_append]
end Ev

namespace K02
open PySem PySem.Spec PyProof.Rows L2 Ev
def top (i : Nat) : Stmt := PySem.Challenge.pw_signsmooth_k02_sums_products.main.body.getD i (.Pass ⟨0, 0, 0, 0⟩)
/-! _law_numbers -/
abbrev s_l_numbers : Stmt := top 7
def ir_l_numbers : List S := [.acc 2 [], .ite (.cmp .ge (.bi .abs [(.var 0)]) (.op .pow (.cI 10) (.cI 18))) [.for (.nm 3) (.seq (.var 1)) [.app 2 (.op .mod (.var 0) (.var 3)), .set (.nm 0) (.op .fdiv (.var 0) (.var 3))], .retA 2] [], .for (.tp 4 3) (.enu (.var 1)) [.set (.nm 5) (.op .mod (.op .add (.op .add (.op .add (.op .mul (.var 0) (.cI 48271)) (.op .mul (.op .mul (.var 4) (.var 4)) (.cI 69621))) (.op .mul (.var 4) (.cI 16807))) (.cI 11)) (.cI 2147483647)), .app 2 (.op .mod (.op .fdiv (.op .mod (.op .add (.op .add (.op .mul (.var 5) (.cI 40692)) (.var 0)) (.op .mul (.cI 31) (.var 4))) (.cI 2147483399)) (.cI 7)) (.var 3))], .retA 2]
theorem sc_l_numbers : FnScope ["_law_cell_here", "_law_bases", "_law_row", "_law_base", "_law_k", "_law_mixed"] ["_law_cell_here", "_law_bases"] (defScope s_l_numbers) := ⟨rfl, rfl, rfl, by decide +kernel, rfl, by decide +kernel, by decide +kernel⟩
theorem tr_l_numbers : trSs ⟨defScope s_l_numbers, ["_law_cell_here", "_law_bases", "_law_row", "_law_base", "_law_k", "_law_mixed"], [2], []⟩ 60 (defBody s_l_numbers) = some ir_l_numbers := by with_unfolding_all rfl
def T_l_numbers : Nat → List D → Ou D := tab []
def F_l_numbers : List D → Ou D := mk T_l_numbers ir_l_numbers 2 6
theorem F_l_numbers_eq (d0 d1 : D) : F_l_numbers [d0, d1] = Ev.run (evSs T_l_numbers (fuel [d0, d1]) ir_l_numbers [some d0, some d1, none, none, none, none]) := rfl
/-! _law_divisor -/
abbrev s_l_divisor : Stmt := top 8
def ir_l_divisor : List S := [.set (.nm 0) (.bi .abs [(.var 0)]), .set (.nm 1) (.bi .abs [(.var 1)]), .while (.cmp .gt (.var 1) (.cI 0)) [.set (.nm 2) (.op .mod (.var 0) (.var 1)), .set (.nm 0) (.var 1), .set (.nm 1) (.var 2)], .ret (.var 0)]
theorem sc_l_divisor : FnScope ["_law_one", "_law_other", "_law_rest"] ["_law_one", "_law_other"] (defScope s_l_divisor) := ⟨rfl, rfl, rfl, by decide +kernel, rfl, by decide +kernel, by decide +kernel⟩
theorem tr_l_divisor : trSs ⟨defScope s_l_divisor, ["_law_one", "_law_other", "_law_rest"], [], ["_law_numbers"]⟩ 60 (defBody s_l_divisor) = some ir_l_divisor := by with_unfolding_all rfl
def T_l_divisor : Nat → List D → Ou D := tab [F_l_numbers]
def F_l_divisor : List D → Ou D := mk T_l_divisor ir_l_divisor 2 3
theorem F_l_divisor_eq (d0 d1 : D) : F_l_divisor [d0, d1] = Ev.run (evSs T_l_divisor (fuel [d0, d1]) ir_l_divisor [some d0, some d1, none]) := rfl
/-! _law_made -/
abbrev s_l_made : Stmt := top 9
def ir_l_made : List S := [.set (.nm 2) (.call 1 [(.var 0), (.var 1)]), .ret (.tup [(.op .fdiv (.var 0) (.var 2)), (.op .fdiv (.var 1) (.var 2))])]
theorem sc_l_made : FnScope ["_law_top", "_law_bottom", "_law_common"] ["_law_top", "_law_bottom"] (defScope s_l_made) := ⟨rfl, rfl, rfl, by decide +kernel, rfl, by decide +kernel, by decide +kernel⟩
theorem tr_l_made : trSs ⟨defScope s_l_made, ["_law_top", "_law_bottom", "_law_common"], [], ["_law_numbers", "_law_divisor"]⟩ 60 (defBody s_l_made) = some ir_l_made := by with_unfolding_all rfl
def T_l_made : Nat → List D → Ou D := tab [F_l_numbers, F_l_divisor]
def F_l_made : List D → Ou D := mk T_l_made ir_l_made 2 3
theorem F_l_made_eq (d0 d1 : D) : F_l_made [d0, d1] = Ev.run (evSs T_l_made (fuel [d0, d1]) ir_l_made [some d0, some d1, none]) := rfl
theorem c_l_made_l_divisor : T_l_made 1 = F_l_divisor := rfl
/-! _law_number -/
abbrev s_l_number : Stmt := top 10
def ir_l_number : List S := [.ite (.cmp .eq (.var 0) (.cI 1)) [.ret (.tup [(.op .sub (.op .mod (.var 1) (.cI 5)) (.cI 2)), (.cI 1)])] [], .ite (.cmp .eq (.var 0) (.cI 3)) [.set (.nm 2) (.op .mul (.op .mod (.op .fdiv (.var 1) (.cI 2)) (.op .pow (.cI 10) (.cI 40))) (.op .sub (.cI 1) (.op .mul (.cI 2) (.op .mod (.var 1) (.cI 2))))), .ret (.call 2 [(.var 2), (.op .add (.cI 1) (.op .mod (.op .fdiv (.var 1) (.op .mul (.cI 2) (.op .pow (.cI 10) (.cI 40)))) (.op .sub (.op .pow (.cI 10) (.cI 40)) (.cI 1))))])] [], .ite (.cmp .eq (.var 0) (.cI 2)) [.ret (.call 2 [(.op .mod (.var 1) (.cI 10)), (.op .add (.cI 1) (.op .mod (.op .fdiv (.var 1) (.cI 10)) (.cI 6)))])] [], .ret (.call 2 [(.op .sub (.op .mod (.var 1) (.cI 19)) (.cI 9)), (.op .add (.cI 1) (.op .mod (.op .fdiv (.var 1) (.cI 19)) (.cI 6)))])]
theorem sc_l_number : FnScope ["_law_kind", "_law_part", "_law_top"] ["_law_kind", "_law_part"] (defScope s_l_number) := ⟨rfl, rfl, rfl, by decide +kernel, rfl, by decide +kernel, by decide +kernel⟩
theorem tr_l_number : trSs ⟨defScope s_l_number, ["_law_kind", "_law_part", "_law_top"], [], ["_law_numbers", "_law_divisor", "_law_made"]⟩ 60 (defBody s_l_number) = some ir_l_number := by with_unfolding_all rfl
def T_l_number : Nat → List D → Ou D := tab [F_l_numbers, F_l_divisor, F_l_made]
def F_l_number : List D → Ou D := mk T_l_number ir_l_number 2 3
theorem F_l_number_eq (d0 d1 : D) : F_l_number [d0, d1] = Ev.run (evSs T_l_number (fuel [d0, d1]) ir_l_number [some d0, some d1, none]) := rfl
theorem c_l_number_l_made : T_l_number 2 = F_l_made := rfl
/-! _law_two -/
abbrev s_l_two : Stmt := top 13
def ir_l_two : List S := [.set (.nm 1) (.call 0 [(.var 0), (.lst [(.cI 4), (.cI 4), (.op .mul (.op .mul (.cI 2) (.op .pow (.cI 10) (.cI 40))) (.op .pow (.cI 10) (.cI 40))), (.op .mul (.op .mul (.cI 2) (.op .pow (.cI 10) (.cI 40))) (.op .pow (.cI 10) (.cI 40)))])]), .ret (.tup [(.call 3 [(.ix (.var 1) (.cI 0)), (.ix (.var 1) (.cI 2))]), (.call 3 [(.ix (.var 1) (.cI 1)), (.ix (.var 1) (.cI 3))])])]
theorem sc_l_two : FnScope ["_law_cell_here", "_law_parts"] ["_law_cell_here"] (defScope s_l_two) := ⟨rfl, rfl, rfl, by decide +kernel, rfl, by decide +kernel, by decide +kernel⟩
theorem tr_l_two : trSs ⟨defScope s_l_two, ["_law_cell_here", "_law_parts"], [], ["_law_numbers", "_law_divisor", "_law_made", "_law_number"]⟩ 60 (defBody s_l_two) = some ir_l_two := by with_unfolding_all rfl
def T_l_two : Nat → List D → Ou D := tab [F_l_numbers, F_l_divisor, F_l_made, F_l_number]
def F_l_two : List D → Ou D := mk T_l_two ir_l_two 1 2
theorem F_l_two_eq (d0 : D) : F_l_two [d0] = Ev.run (evSs T_l_two (fuel [d0]) ir_l_two [some d0, none]) := rfl
theorem c_l_two_l_numbers : T_l_two 0 = F_l_numbers := rfl
theorem c_l_two_l_number : T_l_two 3 = F_l_number := rfl
/-! _law_cell -/
abbrev s_l_cell : Stmt := top 6
def ir_l_cell : List S := [.ite (.cmp .lt (.var 1) (.bi .len [(.var 0)])) [.ret (.ix (.var 0) (.var 1))] [], .ret (.cI 0)]
theorem sc_l_cell : FnScope ["_law_script", "_law_k"] ["_law_script", "_law_k"] (defScope s_l_cell) := ⟨rfl, rfl, rfl, by decide +kernel, rfl, by decide +kernel, by decide +kernel⟩
theorem tr_l_cell : trSs ⟨defScope s_l_cell, ["_law_script", "_law_k"], [], ["_law_numbers", "_law_divisor", "_law_made", "_law_number", "_law_two"]⟩ 60 (defBody s_l_cell) = some ir_l_cell := by with_unfolding_all rfl
def T_l_cell : Nat → List D → Ou D := tab [F_l_numbers, F_l_divisor, F_l_made, F_l_number, F_l_two]
def F_l_cell : List D → Ou D := mk T_l_cell ir_l_cell 2 2
theorem F_l_cell_eq (d0 d1 : D) : F_l_cell [d0, d1] = Ev.run (evSs T_l_cell (fuel [d0, d1]) ir_l_cell [some d0, some d1]) := rfl
/-! _law_whole -/
abbrev s_l_whole : Stmt := top 11
def ir_l_whole : List S := [.ret (.and (.isi (.var 0) .int) (.not (.isi (.var 0) .bool)))]
theorem sc_l_whole : FnScope ["_law_thing"] ["_law_thing"] (defScope s_l_whole) := ⟨rfl, rfl, rfl, by decide +kernel, rfl, by decide +kernel, by decide +kernel⟩
theorem tr_l_whole : trSs ⟨defScope s_l_whole, ["_law_thing"], [], ["_law_numbers", "_law_divisor", "_law_made", "_law_number", "_law_two", "_law_cell"]⟩ 60 (defBody s_l_whole) = some ir_l_whole := by with_unfolding_all rfl
def T_l_whole : Nat → List D → Ou D := tab [F_l_numbers, F_l_divisor, F_l_made, F_l_number, F_l_two, F_l_cell]
def F_l_whole : List D → Ou D := mk T_l_whole ir_l_whole 1 1
theorem F_l_whole_eq (d0 : D) : F_l_whole [d0] = Ev.run (evSs T_l_whole (fuel [d0]) ir_l_whole [some d0]) := rfl
/-! _law_is_number -/
abbrev s_l_is_number : Stmt := top 12
def ir_l_is_number : List S := [.ite (.or (.not (.isi (.var 0) .tuple)) (.or (.cmp .ne (.bi .len [(.var 0)]) (.cI 2)) (.or (.not (.call 6 [(.ix (.var 0) (.cI 0))])) (.not (.call 6 [(.ix (.var 0) (.cI 1))]))))) [.ret (.cB false)] [], .ite (.or (.cmp .lt (.ix (.var 0) (.cI 1)) (.cI 1)) (.cmp .ne (.call 1 [(.ix (.var 0) (.cI 0)), (.ix (.var 0) (.cI 1))]) (.cI 1))) [.ret (.cB false)] [], .ret (.cmp .eq (.op .mul (.ix (.var 0) (.cI 0)) (.var 2)) (.op .mul (.var 1) (.ix (.var 0) (.cI 1))))]
theorem sc_l_is_number : FnScope ["_law_found", "_law_top", "_law_bottom"] ["_law_found", "_law_top", "_law_bottom"] (defScope s_l_is_number) := ⟨rfl, rfl, rfl, by decide +kernel, rfl, by decide +kernel, by decide +kernel⟩
theorem tr_l_is_number : trSs ⟨defScope s_l_is_number, ["_law_found", "_law_top", "_law_bottom"], [], ["_law_numbers", "_law_divisor", "_law_made", "_law_number", "_law_two", "_law_cell", "_law_whole"]⟩ 60 (defBody s_l_is_number) = some ir_l_is_number := by with_unfolding_all rfl
def T_l_is_number : Nat → List D → Ou D := tab [F_l_numbers, F_l_divisor, F_l_made, F_l_number, F_l_two, F_l_cell, F_l_whole]
def F_l_is_number : List D → Ou D := mk T_l_is_number ir_l_is_number 3 3
theorem F_l_is_number_eq (d0 d1 d2 : D) : F_l_is_number [d0, d1, d2] = Ev.run (evSs T_l_is_number (fuel [d0, d1, d2]) ir_l_is_number [some d0, some d1, some d2]) := rfl
theorem c_l_is_number_l_whole : T_l_is_number 6 = F_l_whole := rfl
theorem c_l_is_number_l_divisor : T_l_is_number 1 = F_l_divisor := rfl
/-! common_divisor -/
abbrev s_common_divisor : Stmt := top 1
def ir_common_divisor : List S := [.set (.nm 2) (.bi .abs [(.var 0)]), .set (.nm 3) (.bi .abs [(.var 1)]), .while (.cmp .ne (.var 3) (.cI 0)) [.set (.nm 4) (.op .mod (.var 2) (.var 3)), .set (.nm 2) (.var 3), .set (.nm 3) (.var 4)], .ret (.var 2)]
theorem sc_common_divisor : FnScope ["one", "other", "greater", "lesser", "rest"] ["one", "other"] (defScope s_common_divisor) := ⟨rfl, rfl, rfl, by decide +kernel, rfl, by decide +kernel, by decide +kernel⟩
theorem tr_common_divisor : trSs ⟨defScope s_common_divisor, ["one", "other", "greater", "lesser", "rest"], [], ["_law_numbers", "_law_divisor", "_law_made", "_law_number", "_law_two", "_law_cell", "_law_whole", "_law_is_number"]⟩ 60 (defBody s_common_divisor) = some ir_common_divisor := by with_unfolding_all rfl
def T_common_divisor : Nat → List D → Ou D := tab [F_l_numbers, F_l_divisor, F_l_made, F_l_number, F_l_two, F_l_cell, F_l_whole, F_l_is_number]
def F_common_divisor : List D → Ou D := mk T_common_divisor ir_common_divisor 2 5
theorem F_common_divisor_eq (d0 d1 : D) : F_common_divisor [d0, d1] = Ev.run (evSs T_common_divisor (fuel [d0, d1]) ir_common_divisor [some d0, some d1, none, none, none]) := rfl
/-! sum_of -/
abbrev s_sum_of : Stmt := top 2
def ir_sum_of : List S := [.set (.nm 2) (.call 8 [(.ix (.var 0) (.cI 1)), (.ix (.var 1) (.cI 1))]), .set (.nm 3) (.op .add (.op .mul (.ix (.var 0) (.cI 0)) (.op .fdiv (.ix (.var 1) (.cI 1)) (.var 2))) (.op .mul (.ix (.var 1) (.cI 0)) (.op .fdiv (.ix (.var 0) (.cI 1)) (.var 2)))), .set (.nm 4) (.call 8 [(.var 3), (.var 2)]), .ret (.tup [(.op .fdiv (.var 3) (.var 4)), (.op .mul (.op .fdiv (.ix (.var 0) (.cI 1)) (.var 2)) (.op .fdiv (.ix (.var 1) (.cI 1)) (.var 4)))])]
theorem sc_sum_of : FnScope ["one", "other", "shared", "top", "divisor"] ["one", "other"] (defScope s_sum_of) := ⟨rfl, rfl, rfl, by decide +kernel, rfl, by decide +kernel, by decide +kernel⟩
theorem tr_sum_of : trSs ⟨defScope s_sum_of, ["one", "other", "shared", "top", "divisor"], [], ["_law_numbers", "_law_divisor", "_law_made", "_law_number", "_law_two", "_law_cell", "_law_whole", "_law_is_number", "common_divisor"]⟩ 60 (defBody s_sum_of) = some ir_sum_of := by with_unfolding_all rfl
def T_sum_of : Nat → List D → Ou D := tab [F_l_numbers, F_l_divisor, F_l_made, F_l_number, F_l_two, F_l_cell, F_l_whole, F_l_is_number, F_common_divisor]
def F_sum_of : List D → Ou D := mk T_sum_of ir_sum_of 2 5
theorem F_sum_of_eq (d0 d1 : D) : F_sum_of [d0, d1] = Ev.run (evSs T_sum_of (fuel [d0, d1]) ir_sum_of [some d0, some d1, none, none, none]) := rfl
theorem c_sum_of_common_divisor : T_sum_of 8 = F_common_divisor := rfl
/-! rest_of -/
abbrev s_rest_of : Stmt := top 3
def ir_rest_of : List S := [.ret (.call 9 [(.var 0), (.tup [(.neg (.ix (.var 1) (.cI 0))), (.ix (.var 1) (.cI 1))])])]
theorem sc_rest_of : FnScope ["one", "other"] ["one", "other"] (defScope s_rest_of) := ⟨rfl, rfl, rfl, by decide +kernel, rfl, by decide +kernel, by decide +kernel⟩
theorem tr_rest_of : trSs ⟨defScope s_rest_of, ["one", "other"], [], ["_law_numbers", "_law_divisor", "_law_made", "_law_number", "_law_two", "_law_cell", "_law_whole", "_law_is_number", "common_divisor", "sum_of"]⟩ 60 (defBody s_rest_of) = some ir_rest_of := by with_unfolding_all rfl
def T_rest_of : Nat → List D → Ou D := tab [F_l_numbers, F_l_divisor, F_l_made, F_l_number, F_l_two, F_l_cell, F_l_whole, F_l_is_number, F_common_divisor, F_sum_of]
def F_rest_of : List D → Ou D := mk T_rest_of ir_rest_of 2 2
theorem F_rest_of_eq (d0 d1 : D) : F_rest_of [d0, d1] = Ev.run (evSs T_rest_of (fuel [d0, d1]) ir_rest_of [some d0, some d1]) := rfl
theorem c_rest_of_sum_of : T_rest_of 9 = F_sum_of := rfl
/-! product_of -/
abbrev s_product_of : Stmt := top 4
def ir_product_of : List S := [.set (.nm 2) (.call 8 [(.ix (.var 0) (.cI 0)), (.ix (.var 1) (.cI 1))]), .set (.nm 3) (.call 8 [(.ix (.var 1) (.cI 0)), (.ix (.var 0) (.cI 1))]), .ret (.tup [(.op .mul (.op .fdiv (.ix (.var 0) (.cI 0)) (.var 2)) (.op .fdiv (.ix (.var 1) (.cI 0)) (.var 3))), (.op .mul (.op .fdiv (.ix (.var 0) (.cI 1)) (.var 3)) (.op .fdiv (.ix (.var 1) (.cI 1)) (.var 2)))])]
theorem sc_product_of : FnScope ["one", "other", "first", "second"] ["one", "other"] (defScope s_product_of) := ⟨rfl, rfl, rfl, by decide +kernel, rfl, by decide +kernel, by decide +kernel⟩
theorem tr_product_of : trSs ⟨defScope s_product_of, ["one", "other", "first", "second"], [], ["_law_numbers", "_law_divisor", "_law_made", "_law_number", "_law_two", "_law_cell", "_law_whole", "_law_is_number", "common_divisor", "sum_of", "rest_of"]⟩ 60 (defBody s_product_of) = some ir_product_of := by with_unfolding_all rfl
def T_product_of : Nat → List D → Ou D := tab [F_l_numbers, F_l_divisor, F_l_made, F_l_number, F_l_two, F_l_cell, F_l_whole, F_l_is_number, F_common_divisor, F_sum_of, F_rest_of]
def F_product_of : List D → Ou D := mk T_product_of ir_product_of 2 4
theorem F_product_of_eq (d0 d1 : D) : F_product_of [d0, d1] = Ev.run (evSs T_product_of (fuel [d0, d1]) ir_product_of [some d0, some d1, none, none]) := rfl
theorem c_product_of_common_divisor : T_product_of 8 = F_common_divisor := rfl
/-! _law_asked -/
abbrev s_l_asked : Stmt := top 14
def ir_l_asked : List S := [.set (.nm 2) (.op .mul (.ix (.var 0) (.cI 1)) (.ix (.var 1) (.cI 1))), .ite (.not (.call 7 [(.call 9 [(.var 0), (.var 1)]), (.op .add (.op .mul (.ix (.var 0) (.cI 0)) (.ix (.var 1) (.cI 1))) (.op .mul (.ix (.var 1) (.cI 0)) (.ix (.var 0) (.cI 1)))), (.var 2)])) [.ret (.cB false)] [], .ite (.not (.call 7 [(.call 10 [(.var 0), (.var 1)]), (.op .sub (.op .mul (.ix (.var 0) (.cI 0)) (.ix (.var 1) (.cI 1))) (.op .mul (.ix (.var 1) (.cI 0)) (.ix (.var 0) (.cI 1)))), (.var 2)])) [.ret (.cB false)] [], .ret (.call 7 [(.call 11 [(.var 0), (.var 1)]), (.op .mul (.ix (.var 0) (.cI 0)) (.ix (.var 1) (.cI 0))), (.var 2)])]
theorem sc_l_asked : FnScope ["_law_one", "_law_other", "_law_bottom"] ["_law_one", "_law_other"] (defScope s_l_asked) := ⟨rfl, rfl, rfl, by decide +kernel, rfl, by decide +kernel, by decide +kernel⟩
theorem tr_l_asked : trSs ⟨defScope s_l_asked, ["_law_one", "_law_other", "_law_bottom"], [], ["_law_numbers", "_law_divisor", "_law_made", "_law_number", "_law_two", "_law_cell", "_law_whole", "_law_is_number", "common_divisor", "sum_of", "rest_of", "product_of"]⟩ 60 (defBody s_l_asked) = some ir_l_asked := by with_unfolding_all rfl
def T_l_asked : Nat → List D → Ou D := tab [F_l_numbers, F_l_divisor, F_l_made, F_l_number, F_l_two, F_l_cell, F_l_whole, F_l_is_number, F_common_divisor, F_sum_of, F_rest_of, F_product_of]
def F_l_asked : List D → Ou D := mk T_l_asked ir_l_asked 2 3
theorem F_l_asked_eq (d0 d1 : D) : F_l_asked [d0, d1] = Ev.run (evSs T_l_asked (fuel [d0, d1]) ir_l_asked [some d0, some d1, none]) := rfl
theorem c_l_asked_l_is_number : T_l_asked 7 = F_l_is_number := rfl
theorem c_l_asked_sum_of : T_l_asked 9 = F_sum_of := rfl
theorem c_l_asked_rest_of : T_l_asked 10 = F_rest_of := rfl
theorem c_l_asked_product_of : T_l_asked 11 = F_product_of := rfl
/-! law -/
abbrev s_law : Stmt := top 15
def ir_law : List S := [.for (.nm 1) (.rng (.bi .max [(.cI 1), (.bi .min [(.cI 40), (.bi .len [(.var 0)])])])) [.set (.tp 2 3) (.call 4 [(.call 5 [(.var 0), (.var 1)])]), .ite (.or (.not (.call 12 [(.var 2), (.var 3)])) (.not (.call 12 [(.var 3), (.var 2)]))) [.ret (.cB false)] [], .ite (.or (.cmp .ne (.call 10 [(.var 2), (.var 2)]) (.tup [(.cI 0), (.cI 1)])) (.or (.cmp .ne (.call 9 [(.var 2), (.tup [(.cI 0), (.cI 1)])]) (.var 2)) (.cmp .ne (.call 11 [(.tup [(.cI 1), (.cI 1)]), (.var 2)]) (.var 2)))) [.ret (.cB false)] [], .ite (.or (.cmp .ne (.call 11 [(.var 3), (.tup [(.cI 0), (.cI 1)])]) (.tup [(.cI 0), (.cI 1)])) (.cmp .ne (.call 10 [(.tup [(.cI 0), (.cI 1)]), (.var 3)]) (.tup [(.neg (.ix (.var 3) (.cI 0))), (.ix (.var 3) (.cI 1))]))) [.ret (.cB false)] []], .ret (.cB true)]
theorem sc_law : FnScope ["_law_script", "_law_k", "_law_one", "_law_other"] ["_law_script"] (defScope s_law) := ⟨rfl, rfl, rfl, by decide +kernel, rfl, by decide +kernel, by decide +kernel⟩
theorem tr_law : trSs ⟨defScope s_law, ["_law_script", "_law_k", "_law_one", "_law_other"], [], ["_law_numbers", "_law_divisor", "_law_made", "_law_number", "_law_two", "_law_cell", "_law_whole", "_law_is_number", "common_divisor", "sum_of", "rest_of", "product_of", "_law_asked"]⟩ 60 (defBody s_law) = some ir_law := by with_unfolding_all rfl
def T_law : Nat → List D → Ou D := tab [F_l_numbers, F_l_divisor, F_l_made, F_l_number, F_l_two, F_l_cell, F_l_whole, F_l_is_number, F_common_divisor, F_sum_of, F_rest_of, F_product_of, F_l_asked]
def F_law : List D → Ou D := mk T_law ir_law 1 4
theorem F_law_eq (d0 : D) : F_law [d0] = Ev.run (evSs T_law (fuel [d0]) ir_law [some d0, none, none, none]) := rfl
theorem c_law_l_two : T_law 4 = F_l_two := rfl
theorem c_law_l_cell : T_law 5 = F_l_cell := rfl
theorem c_law_l_asked : T_law 12 = F_l_asked := rfl
theorem c_law_product_of : T_law 11 = F_product_of := rfl
theorem c_law_sum_of : T_law 9 = F_sum_of := rfl
theorem c_law_rest_of : T_law 10 = F_rest_of := rfl
end K02

namespace K02
open PySem PySem.Spec PyProof.Rows L2 Ev

theorem ndvd {k : Nat} {t : Int} : (k : Int) ∣ t ↔ k ∣ t.natAbs := by
  rw [← Int.natAbs_dvd_natAbs, Int.natAbs_natCast]
theorem cop_of {u v : Nat} (h : ∀ k, k ∣ u → k ∣ v → k ∣ 1) : Nat.gcd u v = 1 := Nat.dvd_one.mp (h _ (Nat.gcd_dvd_left u v) (Nat.gcd_dvd_right u v))
theorem cop_dvd {a b c d : Nat} (h : Nat.gcd a b = 1) (hc : c ∣ a) (hd : d ∣ b) : Nat.gcd c d = 1 :=
  cop_of fun k h1 h2 => by rw [← h]; exact Nat.dvd_gcd (Nat.dvd_trans h1 hc) (Nat.dvd_trans h2 hd)
theorem cop_mulR {a b c : Nat} (h1 : Nat.gcd a b = 1) (h2 : Nat.gcd a c = 1) : Nat.gcd a (b * c) = 1 := Nat.Coprime.mul_right h1 h2
theorem cop_mulL {a b c : Nat} (h1 : Nat.gcd a c = 1) (h2 : Nat.gcd b c = 1) : Nat.gcd (a * b) c = 1 := Nat.Coprime.mul_left h1 h2
theorem iv_nat {t : Int} {g : Nat} (h : (g : Int) ∣ t) : (t / (g : Int)).natAbs = t.natAbs / g := by
  rcases Nat.eq_zero_or_pos g with z | z
  · subst z; simp
  · obtain ⟨q, rfl⟩ := h
    rw [Int.mul_ediv_cancel_left _ (by omega), Int.natAbs_mul, Int.natAbs_natCast, Nat.mul_div_cancel_left _ z]
/-- the product, crosswise -/
theorem prod_low {a b x y : Int} (h1 : Low a b) (h2 : Low x y) :
    Low (a / (Int.gcd a y : Int) * (x / (Int.gcd x b : Int))) (b / (Int.gcd x b : Int) * (y / (Int.gcd a y : Int))) ∧
      a / (Int.gcd a y : Int) * (x / (Int.gcd x b : Int)) * (b * y) = a * x * (b / (Int.gcd x b : Int) * (y / (Int.gcd a y : Int))) := by
  have pb := h1.pos
  have py := h2.pos
  have g1p : 0 < Int.gcd a y := Int.gcd_pos_of_ne_zero_right _ (by omega)
  have g2p : 0 < Int.gcd x b := Int.gcd_pos_of_ne_zero_right _ (by omega)
  obtain ⟨a', ha⟩ := Int.gcd_dvd_left a y
  obtain ⟨y', hy⟩ := Int.gcd_dvd_right a y
  obtain ⟨x', hx⟩ := Int.gcd_dvd_left x b
  obtain ⟨b', hb⟩ := Int.gcd_dvd_right x b
  generalize e1 : Int.gcd a y = g1 at *
  generalize e2 : Int.gcd x b = g2 at *
  have da : a / (g1 : Int) = a' := by rw [ha, Int.mul_ediv_cancel_left _ (by omega)]
  have dy : y / (g1 : Int) = y' := by rw [hy, Int.mul_ediv_cancel_left _ (by omega)]
  have dx : x / (g2 : Int) = x' := by rw [hx, Int.mul_ediv_cancel_left _ (by omega)]
  have db : b / (g2 : Int) = b' := by rw [hb, Int.mul_ediv_cancel_left _ (by omega)]
  rw [da, dy, dx, db]
  have b'p : 0 < b' := by
    refine Int.pos_of_mul_pos_left ?_ (show (0 : Int) < g2 by omega) 
    rw [Int.mul_comm, ← hb]; omega
  have y'p : 0 < y' := by
    refine Int.pos_of_mul_pos_left ?_ (show (0 : Int) < g1 by omega)
    rw [Int.mul_comm, ← hy]; omega
  have dva : a'.natAbs ∣ a.natAbs := Int.natAbs_dvd_natAbs.mpr ⟨g1, by rw [ha, Int.mul_comm]⟩
  have dvy : y'.natAbs ∣ y.natAbs := Int.natAbs_dvd_natAbs.mpr ⟨g1, by rw [hy, Int.mul_comm]⟩
  have dvx : x'.natAbs ∣ x.natAbs := Int.natAbs_dvd_natAbs.mpr ⟨g2, by rw [hx, Int.mul_comm]⟩
  have dvb : b'.natAbs ∣ b.natAbs := Int.natAbs_dvd_natAbs.mpr ⟨g2, by rw [hb, Int.mul_comm]⟩
  have c1 : Nat.gcd a'.natAbs b'.natAbs = 1 := cop_dvd h1.cop dva dvb
  have c2 : Nat.gcd x'.natAbs y'.natAbs = 1 := cop_dvd h2.cop dvx dvy
  have c3 : Nat.gcd a'.natAbs y'.natAbs = 1 := by
    have : Nat.gcd (g1 * a'.natAbs) (g1 * y'.natAbs) = g1 := by
      have e : Int.gcd a y = g1 := e1
      change Nat.gcd _ _ = _ at e
      rw [ha, hy, Int.natAbs_mul, Int.natAbs_mul, Int.natAbs_natCast] at e
      exact e
    rw [Nat.gcd_mul_left] at this
    exact Nat.eq_of_mul_eq_mul_left g1p (by omega)
  have c4 : Nat.gcd x'.natAbs b'.natAbs = 1 := by
    have : Nat.gcd (g2 * x'.natAbs) (g2 * b'.natAbs) = g2 := by
      have e : Int.gcd x b = g2 := e2
      change Nat.gcd _ _ = _ at e
      rw [hx, hb, Int.natAbs_mul, Int.natAbs_mul, Int.natAbs_natCast] at e
      exact e
    rw [Nat.gcd_mul_left] at this
    exact Nat.eq_of_mul_eq_mul_left g2p (by omega)
  refine ⟨⟨Int.mul_pos b'p y'p, ?_⟩, ?_⟩
  · show Nat.gcd _ _ = 1
    rw [Int.natAbs_mul, Int.natAbs_mul]
    exact cop_mulL (cop_mulR c1 c3) (cop_mulR c4 c2)
  · rw [ha, hy, hx, hb]
    simp only [Int.mul_assoc, Int.mul_comm, Int.mul_left_comm]
theorem sum_low {a b x y : Int} (h1 : Low a b) (h2 : Low x y) {s d : Nat} {t : Int} (es : Int.gcd b y = s) (et : t = a * (y / (s : Int)) + x * (b / (s : Int))) (ed : Int.gcd t s = d) :
    Low (t / (d : Int)) (b / (s : Int) * (y / (d : Int))) ∧ t / (d : Int) * (b * y) = (a * y + x * b) * (b / (s : Int) * (y / (d : Int))) := by
  have pb := h1.pos
  have py := h2.pos
  have sp : 0 < s := by rw [← es]; exact Int.gcd_pos_of_ne_zero_right _ (by omega)
  have dp : 0 < d := by rw [← ed]; exact Int.gcd_pos_of_ne_zero_right _ (by omega)
  have sb : (s : Int) ∣ b := by rw [← es]; exact Int.gcd_dvd_left b y
  have sy : (s : Int) ∣ y := by rw [← es]; exact Int.gcd_dvd_right b y
  have dt : (d : Int) ∣ t := by rw [← ed]; exact Int.gcd_dvd_left t s
  have ds : (d : Int) ∣ s := by rw [← ed]; exact Int.gcd_dvd_right t s
  obtain ⟨b', hb⟩ := sb
  obtain ⟨y', hy⟩ := sy
  obtain ⟨t', ht⟩ := dt
  obtain ⟨s', hs⟩ := ds
  have db : b / (s : Int) = b' := by rw [hb, Int.mul_ediv_cancel_left _ (by omega)]
  have dy : y / (s : Int) = y' := by rw [hy, Int.mul_ediv_cancel_left _ (by omega)]
  have dt' : t / (d : Int) = t' := by rw [ht, Int.mul_ediv_cancel_left _ (by omega)]
  have dyd : y / (d : Int) = s' * y' := by rw [hy, hs, Int.mul_assoc, Int.mul_ediv_cancel_left _ (by omega)]
  have b'p : 0 < b' := by
    refine Int.pos_of_mul_pos_left ?_ (show (0 : Int) < s by omega)
    rw [Int.mul_comm, ← hb]; omega
  have y'p : 0 < y' := by
    refine Int.pos_of_mul_pos_left ?_ (show (0 : Int) < s by omega)
    rw [Int.mul_comm, ← hy]; omega
  have s'p : 0 < s' := by
    refine Int.pos_of_mul_pos_left ?_ (show (0 : Int) < d by omega)
    rw [Int.mul_comm, ← hs]; omega
  rw [db, dy] at et
  rw [dt', db, dyd]
  have cby : Nat.gcd b'.natAbs y'.natAbs = 1 := by
    have e := es
    change Nat.gcd _ _ = _ at e
    rw [hb, hy, Int.natAbs_mul, Int.natAbs_mul, Int.natAbs_natCast, Nat.gcd_mul_left] at e
    exact Nat.eq_of_mul_eq_mul_left sp (by omega)
  have cts : Nat.gcd t'.natAbs s'.natAbs = 1 := by
    have e := ed
    change Nat.gcd _ _ = _ at e
    rw [ht, hs, Int.natAbs_mul, Int.natAbs_mul, Int.natAbs_natCast, Nat.gcd_mul_left] at e
    exact Nat.eq_of_mul_eq_mul_left dp (by omega)
  have dvb : b'.natAbs ∣ b.natAbs := Int.natAbs_dvd_natAbs.mpr ⟨s, by rw [hb, Int.mul_comm]⟩
  have dvy : y'.natAbs ∣ y.natAbs := Int.natAbs_dvd_natAbs.mpr ⟨s, by rw [hy, Int.mul_comm]⟩
  have dvt : t'.natAbs ∣ t.natAbs := Int.natAbs_dvd_natAbs.mpr ⟨d, by rw [ht, Int.mul_comm]⟩
  have ctb : Nat.gcd t.natAbs b'.natAbs = 1 := cop_of fun k k1 k2 => by
    have k1' : (k : Int) ∣ t := ndvd.mpr k1
    have k2' : (k : Int) ∣ b' := ndvd.mpr k2
    have k3 : (k : Int) ∣ a * y' := by
      have : a * y' = t - x * b' := by rw [et]; omega
      rw [this]
      exact Int.dvd_sub k1' (Int.dvd_trans k2' (Int.dvd_mul_left x b'))
    have k4 : k ∣ a.natAbs * y'.natAbs := by rw [← Int.natAbs_mul]; exact ndvd.mp k3
    have ky : Nat.Coprime k y'.natAbs := cop_dvd cby k2 (Nat.dvd_refl _)
    have ka : k ∣ a.natAbs := Nat.Coprime.dvd_of_dvd_mul_right ky k4
    rw [← h1.cop]
    exact Nat.dvd_gcd ka (Nat.dvd_trans k2 dvb)
  have cty : Nat.gcd t.natAbs y'.natAbs = 1 := cop_of fun k k1 k2 => by
    have k1' : (k : Int) ∣ t := ndvd.mpr k1
    have k2' : (k : Int) ∣ y' := ndvd.mpr k2
    have k3 : (k : Int) ∣ x * b' := by
      have : x * b' = t - a * y' := by rw [et]; omega
      rw [this]
      exact Int.dvd_sub k1' (Int.dvd_trans k2' (Int.dvd_mul_left a y'))
    have k4 : k ∣ x.natAbs * b'.natAbs := by rw [← Int.natAbs_mul]; exact ndvd.mp k3
    have ky : Nat.Coprime k b'.natAbs := cop_dvd (Nat.gcd_comm _ _ ▸ cby) k2 (Nat.dvd_refl _)
    have ka : k ∣ x.natAbs := Nat.Coprime.dvd_of_dvd_mul_right ky k4
    rw [← h2.cop]
    exact Nat.dvd_gcd ka (Nat.dvd_trans k2 dvy)
  refine ⟨⟨Int.mul_pos b'p (Int.mul_pos s'p y'p), ?_⟩, ?_⟩
  · show Nat.gcd _ _ = 1
    rw [Int.natAbs_mul, Int.natAbs_mul]
    exact cop_mulR (cop_dvd ctb dvt (Nat.dvd_refl _)) (cop_mulR cts (cop_dvd cty dvt (Nat.dvd_refl _)))
  · have e1 : a * y + x * b = (s : Int) * t := by rw [et, hb, hy, Int.mul_add]; congr 1 <;> simp only [Int.mul_assoc, Int.mul_comm, Int.mul_left_comm]
    rw [e1, hb, hy]
    have e2 : (s : Int) * t * (b' * (s' * y')) = t' * ((d : Int) * s') * (s * (b' * y')) := by
      rw [ht]; simp only [Int.mul_assoc, Int.mul_comm, Int.mul_left_comm]
    rw [e2, ← hs]
    simp only [Int.mul_assoc, Int.mul_comm, Int.mul_left_comm]
theorem cd_loop (Φ : Nat → List D → Ou D) (n : Nat) : ∀ (m a b : Nat) (x y r : Option D), b < m →
    ∃ r', wloop (cnd Φ (.cmp .ne (.var 3) (.cI 0))) (bod Φ n [.set (.nm 4) (.op .mod (.var 2) (.var 3)), .set (.nm 2) (.var 3), .set (.nm 3) (.var 4)]) m [x, y, some (.int (a : Int)), some (.int (b : Int)), r]
      = .ok (.nx [x, y, some (.int (Nat.gcd a b : Nat)), some (.int 0), r']) := by
  intro m
  induction m with
  | zero => intro a b x y r h; omega
  | succ m ih =>
    intro a b x y r h
    by_cases hb : b = 0
    · subst hb
      refine ⟨r, ?_⟩
      simp only [wloop, evSs, evS_set, evS_acc, evS_app, evS_ret, evS_retA, evS_ite, evS_for, evS_while, evS_expr, evE, evEs, evIt, getV, setT, evI_l0, evI_l1, evI_l2, evI_l3, evI_l4, evI_l5, evI_l6, evI_l7, evI_l8, evI_l9, evI_t0, evI_t1, evI_t2, evI_t3, ev_len_t0, ev_len_t1, ev_len_t2, ev_len_t3, ev_max, ev_min, ev_intI, ev_intB, ev_list_l, ev_list_t, isTy, evC_eq_int, evC_ne_int, evC_lt_int, evC_le_int, evC_gt_int, evC_ge_int, evC_ne_pair, evC_eq_pair, evC_eq_bl, ev2_add, ev2_sub, ev_abs, Ou.bind_ok, Ou.bind_exc, Ou.bind_bad, run_rt, run_nx, cnd_at, bod_at, turn_at, List.getElem?_cons_zero, List.getElem?_cons_succ, List.set_cons_zero, List.set_cons_succ, Nat.gcd_zero_right]
      rfl
    · have hm : a % b < b := Nat.mod_lt _ (by omega)
      obtain ⟨r', e⟩ := ih b (a % b) x y (some (.int ((a % b : Nat) : Int))) (by omega)
      refine ⟨r', ?_⟩
      have h0 : ¬ ((b : Nat) : Int) = 0 := by omega
      have e2 : ev2 .mod (.int (a : Int)) (.int (b : Int)) = .ok (.int ((a % b : Nat) : Int)) := by
        rw [ev2_mod (by omega)]; rfl
      rw [gcd_step a b hb] at e
      simp only [wloop, evSs, evS_set, evS_acc, evS_app, evS_ret, evS_retA, evS_ite, evS_for, evS_while, evS_expr, evE, evEs, evIt, getV, setT, evI_l0, evI_l1, evI_l2, evI_l3, evI_l4, evI_l5, evI_l6, evI_l7, evI_l8, evI_l9, evI_t0, evI_t1, evI_t2, evI_t3, ev_len_t0, ev_len_t1, ev_len_t2, ev_len_t3, ev_max, ev_min, ev_intI, ev_intB, ev_list_l, ev_list_t, isTy, evC_eq_int, evC_ne_int, evC_lt_int, evC_le_int, evC_gt_int, evC_ge_int, evC_ne_pair, evC_eq_pair, evC_eq_bl, ev2_add, ev2_sub, ev_abs, Ou.bind_ok, Ou.bind_exc, Ou.bind_bad, run_rt, run_nx, cnd_at, bod_at, turn_at, List.getElem?_cons_zero, List.getElem?_cons_succ, List.set_cons_zero, List.set_cons_succ, h0, e2, decide_false, Bool.not_false]
      exact e
theorem cd_eq (a b : Int) : F_common_divisor [.int a, .int b] = .ok (.int (Int.gcd a b : Nat)) := by
  rw [F_common_divisor_eq]
  obtain ⟨r', e⟩ := cd_loop T_common_divisor (fuel [.int a, .int b]) (fuel [.int a, .int b]) a.natAbs b.natAbs (some (.int a)) (some (.int b)) none (by simp only [fuel, sizD]; omega)
  simp only [ir_common_divisor, evSs, evS_set, evS_acc, evS_app, evS_ret, evS_retA, evS_ite, evS_for, evS_while, evS_expr, evE, evEs, evIt, getV, setT, evI_l0, evI_l1, evI_l2, evI_l3, evI_l4, evI_l5, evI_l6, evI_l7, evI_l8, evI_l9, evI_t0, evI_t1, evI_t2, evI_t3, ev_len_t0, ev_len_t1, ev_len_t2, ev_len_t3, ev_max, ev_min, ev_intI, ev_intB, ev_list_l, ev_list_t, isTy, evC_eq_int, evC_ne_int, evC_lt_int, evC_le_int, evC_gt_int, evC_ge_int, evC_ne_pair, evC_eq_pair, evC_eq_bl, ev2_add, ev2_sub, ev_abs, Ou.bind_ok, Ou.bind_exc, Ou.bind_bad, run_rt, run_nx, cnd_at, bod_at, turn_at, List.getElem?_cons_zero, List.getElem?_cons_succ, List.set_cons_zero, List.set_cons_succ]
  simp only [e, evSs, evS_set, evS_acc, evS_app, evS_ret, evS_retA, evS_ite, evS_for, evS_while, evS_expr, evE, evEs, evIt, getV, setT, evI_l0, evI_l1, evI_l2, evI_l3, evI_l4, evI_l5, evI_l6, evI_l7, evI_l8, evI_l9, evI_t0, evI_t1, evI_t2, evI_t3, ev_len_t0, ev_len_t1, ev_len_t2, ev_len_t3, ev_max, ev_min, ev_intI, ev_intB, ev_list_l, ev_list_t, isTy, evC_eq_int, evC_ne_int, evC_lt_int, evC_le_int, evC_gt_int, evC_ge_int, evC_ne_pair, evC_eq_pair, evC_eq_bl, ev2_add, ev2_sub, ev_abs, Ou.bind_ok, Ou.bind_exc, Ou.bind_bad, run_rt, run_nx, cnd_at, bod_at, turn_at, List.getElem?_cons_zero, List.getElem?_cons_succ, List.set_cons_zero, List.set_cons_succ]
  rfl
theorem ld_loop (Φ : Nat → List D → Ou D) (n : Nat) : ∀ (m a b : Nat) (r : Option D), b < m →
    ∃ r', wloop (cnd Φ (.cmp .gt (.var 1) (.cI 0))) (bod Φ n [.set (.nm 2) (.op .mod (.var 0) (.var 1)), .set (.nm 0) (.var 1), .set (.nm 1) (.var 2)]) m [some (.int (a : Int)), some (.int (b : Int)), r]
      = .ok (.nx [some (.int (Nat.gcd a b : Nat)), some (.int 0), r']) := by
  intro m
  induction m with
  | zero => intro a b r h; omega
  | succ m ih =>
    intro a b r h
    by_cases hb : b = 0
    · subst hb
      refine ⟨r, ?_⟩
      simp only [wloop, evSs, evS_set, evS_acc, evS_app, evS_ret, evS_retA, evS_ite, evS_for, evS_while, evS_expr, evE, evEs, evIt, getV, setT, evI_l0, evI_l1, evI_l2, evI_l3, evI_l4, evI_l5, evI_l6, evI_l7, evI_l8, evI_l9, evI_t0, evI_t1, evI_t2, evI_t3, ev_len_t0, ev_len_t1, ev_len_t2, ev_len_t3, ev_max, ev_min, ev_intI, ev_intB, ev_list_l, ev_list_t, isTy, evC_eq_int, evC_ne_int, evC_lt_int, evC_le_int, evC_gt_int, evC_ge_int, evC_ne_pair, evC_eq_pair, evC_eq_bl, ev2_add, ev2_sub, ev_abs, Ou.bind_ok, Ou.bind_exc, Ou.bind_bad, run_rt, run_nx, cnd_at, bod_at, turn_at, List.getElem?_cons_zero, List.getElem?_cons_succ, List.set_cons_zero, List.set_cons_succ, Nat.gcd_zero_right]
      rfl
    · have hm : a % b < b := Nat.mod_lt _ (by omega)
      obtain ⟨r', e⟩ := ih b (a % b) (some (.int ((a % b : Nat) : Int))) (by omega)
      refine ⟨r', ?_⟩
      have h0 : (0 : Int) < ((b : Nat) : Int) := by omega
      have e2 : ev2 .mod (.int (a : Int)) (.int (b : Int)) = .ok (.int ((a % b : Nat) : Int)) := by
        rw [ev2_mod (by omega)]; rfl
      rw [gcd_step a b hb] at e
      simp only [wloop, evSs, evS_set, evS_acc, evS_app, evS_ret, evS_retA, evS_ite, evS_for, evS_while, evS_expr, evE, evEs, evIt, getV, setT, evI_l0, evI_l1, evI_l2, evI_l3, evI_l4, evI_l5, evI_l6, evI_l7, evI_l8, evI_l9, evI_t0, evI_t1, evI_t2, evI_t3, ev_len_t0, ev_len_t1, ev_len_t2, ev_len_t3, ev_max, ev_min, ev_intI, ev_intB, ev_list_l, ev_list_t, isTy, evC_eq_int, evC_ne_int, evC_lt_int, evC_le_int, evC_gt_int, evC_ge_int, evC_ne_pair, evC_eq_pair, evC_eq_bl, ev2_add, ev2_sub, ev_abs, Ou.bind_ok, Ou.bind_exc, Ou.bind_bad, run_rt, run_nx, cnd_at, bod_at, turn_at, List.getElem?_cons_zero, List.getElem?_cons_succ, List.set_cons_zero, List.set_cons_succ, h0, e2, decide_true]
      exact e
theorem ld_eq (a b : Int) : F_l_divisor [.int a, .int b] = .ok (.int (Int.gcd a b : Nat)) := by
  rw [F_l_divisor_eq]
  obtain ⟨r', e⟩ := ld_loop T_l_divisor (fuel [.int a, .int b]) (fuel [.int a, .int b]) a.natAbs b.natAbs none (by simp only [fuel, sizD]; omega)
  simp only [ir_l_divisor, evSs, evS_set, evS_acc, evS_app, evS_ret, evS_retA, evS_ite, evS_for, evS_while, evS_expr, evE, evEs, evIt, getV, setT, evI_l0, evI_l1, evI_l2, evI_l3, evI_l4, evI_l5, evI_l6, evI_l7, evI_l8, evI_l9, evI_t0, evI_t1, evI_t2, evI_t3, ev_len_t0, ev_len_t1, ev_len_t2, ev_len_t3, ev_max, ev_min, ev_intI, ev_intB, ev_list_l, ev_list_t, isTy, evC_eq_int, evC_ne_int, evC_lt_int, evC_le_int, evC_gt_int, evC_ge_int, evC_ne_pair, evC_eq_pair, evC_eq_bl, ev2_add, ev2_sub, ev_abs, Ou.bind_ok, Ou.bind_exc, Ou.bind_bad, run_rt, run_nx, cnd_at, bod_at, turn_at, List.getElem?_cons_zero, List.getElem?_cons_succ, List.set_cons_zero, List.set_cons_succ]
  simp only [e, evSs, evS_set, evS_acc, evS_app, evS_ret, evS_retA, evS_ite, evS_for, evS_while, evS_expr, evE, evEs, evIt, getV, setT, evI_l0, evI_l1, evI_l2, evI_l3, evI_l4, evI_l5, evI_l6, evI_l7, evI_l8, evI_l9, evI_t0, evI_t1, evI_t2, evI_t3, ev_len_t0, ev_len_t1, ev_len_t2, ev_len_t3, ev_max, ev_min, ev_intI, ev_intB, ev_list_l, ev_list_t, isTy, evC_eq_int, evC_ne_int, evC_lt_int, evC_le_int, evC_gt_int, evC_ge_int, evC_ne_pair, evC_eq_pair, evC_eq_bl, ev2_add, ev2_sub, ev_abs, Ou.bind_ok, Ou.bind_exc, Ou.bind_bad, run_rt, run_nx, cnd_at, bod_at, turn_at, List.getElem?_cons_zero, List.getElem?_cons_succ, List.set_cons_zero, List.set_cons_succ]
  rfl
theorem gcd_le (t b : Int) (hb : b ≠ 0) : Int.gcd t b ≤ b.natAbs := Nat.le_of_dvd (by omega) (Int.natAbs_dvd_natAbs.mpr (Int.gcd_dvd_right t b))
theorem made_eq (t b : Int) (hb : 0 < b) (hs : b.natAbs < big) : F_l_made [.int t, .int b] = .ok (.tup [.int (t / (Int.gcd t b : Int)), .int (b / (Int.gcd t b : Int))]) := by
  have hg : 0 < Int.gcd t b := Int.gcd_pos_of_ne_zero_right _ (by omega)
  have hl := gcd_le t b (by omega)
  have d1 : ∀ i : Int, ev2 .fdiv (.int i) (.int (Int.gcd t b : Int)) = .ok (.int (i / (Int.gcd t b : Int))) := fun i => ev2_fdiv (by omega) (by rw [Int.natAbs_natCast]; omega)
  rw [F_l_made_eq]
  simp only [ir_l_made, evSs, evS_set, evS_acc, evS_app, evS_ret, evS_retA, evS_ite, evS_for, evS_while, evS_expr, evE, evEs, evIt, getV, setT, evI_l0, evI_l1, evI_l2, evI_l3, evI_l4, evI_l5, evI_l6, evI_l7, evI_l8, evI_l9, evI_t0, evI_t1, evI_t2, evI_t3, ev_len_t0, ev_len_t1, ev_len_t2, ev_len_t3, ev_max, ev_min, ev_intI, ev_intB, ev_list_l, ev_list_t, isTy, evC_eq_int, evC_ne_int, evC_lt_int, evC_le_int, evC_gt_int, evC_ge_int, evC_ne_pair, evC_eq_pair, evC_eq_bl, ev2_add, ev2_sub, ev_abs, Ou.bind_ok, Ou.bind_exc, Ou.bind_bad, run_rt, run_nx, cnd_at, bod_at, turn_at, List.getElem?_cons_zero, List.getElem?_cons_succ, List.set_cons_zero, List.set_cons_succ, c_l_made_l_divisor, ld_eq, d1]
  rfl

/-! ### numbers as the law draws them -/
structure Nu (t b : Int) : Prop where
  low : Low t b
  st : t.natAbs ≤ 10 ^ 40
  sb : b.natAbs ≤ 10 ^ 40
theorem made_ok (t b : Int) (hb : 0 < b) (st : t.natAbs ≤ 10 ^ 40) (sb : b.natAbs ≤ 10 ^ 40) : ∃ t' b', F_l_made [.int t, .int b] = .ok (.tup [.int t', .int b']) ∧ Nu t' b' := by
  refine ⟨_, _, made_eq t b hb (big_200 (by omega)), (low_div hb).1, ?_, ?_⟩
  · exact Nat.le_trans (Int.natAbs_ediv_le_natAbs _ _) st
  · exact Nat.le_trans (Int.natAbs_ediv_le_natAbs _ _) sb
theorem number_ok (k p : Int) : ∃ t b, F_l_number [.int k, .int p] = .ok (.tup [.int t, .int b]) ∧ Nu t b := by
  have m5 : ev2 .mod (.int p) (.int 5) = .ok (.int (p % 5)) := ev2_mod (by decide)
  have m2 : ev2 .mod (.int p) (.int 2) = .ok (.int (p % 2)) := ev2_mod (by decide)
  have m10 : ev2 .mod (.int p) (.int 10) = .ok (.int (p % 10)) := ev2_mod (by decide)
  have m19 : ev2 .mod (.int p) (.int 19) = .ok (.int (p % 19)) := ev2_mod (by decide)
  have m6 : ∀ z : Int, ev2 .mod (.int z) (.int 6) = .ok (.int (z % 6)) := fun z => ev2_mod (by decide)
  have f2 : ev2 .fdiv (.int p) (.int 2) = .ok (.int (p / 2)) := ev2_fdiv (by decide) (big_200 (by decide))
  have f10 : ev2 .fdiv (.int p) (.int 10) = .ok (.int (p / 10)) := ev2_fdiv (by decide) (big_200 (by decide))
  have f19 : ev2 .fdiv (.int p) (.int 19) = .ok (.int (p / 19)) := ev2_fdiv (by decide) (big_200 (by decide))
  have p40 : ev2 .pow (.int 10) (.int 40) = .ok (.int (10 ^ 40)) := ev2_pow (n := 40) (by decide) (by decide)
  have mp : ∀ z : Int, ev2 .mod (.int z) (.int (10 ^ 40)) = .ok (.int (z % 10 ^ 40)) := fun z => ev2_mod (by decide)
  have mq : ∀ z : Int, ev2 .mod (.int z) (.int (10 ^ 40 - 1)) = .ok (.int (z % (10 ^ 40 - 1))) := fun z => ev2_mod (by decide)
  have t2 : ev2 .mul (.int 2) (.int (p % 2)) = .ok (.int (2 * (p % 2))) := ev2_mul (mulOk_left (by decide))
  have tt : ∀ z : Int, ev2 .mul (.int z) (.int (1 - 2 * (p % 2))) = .ok (.int (z * (1 - 2 * (p % 2)))) := fun z => ev2_mul (mulOk_right (by omega))
  have t40 : ev2 .mul (.int 2) (.int (10 ^ 40)) = .ok (.int (2 * 10 ^ 40)) := ev2_mul (mulOk_left (by decide))
  have f40 : ev2 .fdiv (.int p) (.int (2 * 10 ^ 40)) = .ok (.int (p / (2 * 10 ^ 40))) := ev2_fdiv (by decide) (big_200 (by decide))
  rw [F_l_number_eq]
  by_cases k1 : k = 1
  · refine ⟨p % 5 - 2, 1, ?_, ⟨by decide, Int.gcd_one_right _⟩, by omega, by decide⟩
    simp only [ir_l_number, evSs, evS_set, evS_acc, evS_app, evS_ret, evS_retA, evS_ite, evS_for, evS_while, evS_expr, evE, evEs, evIt, getV, setT, evI_l0, evI_l1, evI_l2, evI_l3, evI_l4, evI_l5, evI_l6, evI_l7, evI_l8, evI_l9, evI_t0, evI_t1, evI_t2, evI_t3, ev_len_t0, ev_len_t1, ev_len_t2, ev_len_t3, ev_max, ev_min, ev_intI, ev_intB, ev_list_l, ev_list_t, isTy, evC_eq_int, evC_ne_int, evC_lt_int, evC_le_int, evC_gt_int, evC_ge_int, evC_ne_pair, evC_eq_pair, evC_eq_bl, ev2_add, ev2_sub, ev_abs, Ou.bind_ok, Ou.bind_exc, Ou.bind_bad, run_rt, run_nx, cnd_at, bod_at, turn_at, List.getElem?_cons_zero, List.getElem?_cons_succ, List.set_cons_zero, List.set_cons_succ, k1, decide_true, m5, List.length_cons, List.length_nil, if_pos (show (0 + 1 + 1 : Nat) < lenMax by decide)]
  by_cases k3 : k = 3
  · have hz : 0 ≤ p / 2 % 10 ^ 40 ∧ p / 2 % 10 ^ 40 < 10 ^ 40 := ⟨Int.emod_nonneg _ (by decide), Int.emod_lt_of_pos _ (by decide)⟩
    have hy : 0 ≤ p / (2 * 10 ^ 40) % (10 ^ 40 - 1) ∧ p / (2 * 10 ^ 40) % (10 ^ 40 - 1) < 10 ^ 40 - 1 := ⟨Int.emod_nonneg _ (by decide), Int.emod_lt_of_pos _ (by decide)⟩
    have st : (p / 2 % 10 ^ 40 * (1 - 2 * (p % 2))).natAbs ≤ 10 ^ 40 := by
      rcases (by omega : p % 2 = 0 ∨ p % 2 = 1) with q | q
      · rw [q]; omega
      · rw [q]; omega
    obtain ⟨t, b, e, nu⟩ := made_ok (p / 2 % 10 ^ 40 * (1 - 2 * (p % 2))) (1 + p / (2 * 10 ^ 40) % (10 ^ 40 - 1)) (by omega) st (by omega)
    refine ⟨t, b, ?_, nu⟩
    subst k3
    simp only [ir_l_number, evSs, evS_set, evS_acc, evS_app, evS_ret, evS_retA, evS_ite, evS_for, evS_while, evS_expr, evE, evEs, evIt, getV, setT, evI_l0, evI_l1, evI_l2, evI_l3, evI_l4, evI_l5, evI_l6, evI_l7, evI_l8, evI_l9, evI_t0, evI_t1, evI_t2, evI_t3, ev_len_t0, ev_len_t1, ev_len_t2, ev_len_t3, ev_max, ev_min, ev_intI, ev_intB, ev_list_l, ev_list_t, isTy, evC_eq_int, evC_ne_int, evC_lt_int, evC_le_int, evC_gt_int, evC_ge_int, evC_ne_pair, evC_eq_pair, evC_eq_bl, ev2_add, ev2_sub, ev_abs, Ou.bind_ok, Ou.bind_exc, Ou.bind_bad, run_rt, run_nx, cnd_at, bod_at, turn_at, List.getElem?_cons_zero, List.getElem?_cons_succ, List.set_cons_zero, List.set_cons_succ, k1, decide_true, decide_false, f2, p40, mp, m2, t2, tt, t40, f40, mq, c_l_number_l_made, e]
  by_cases k2 : k = 2
  · obtain ⟨t, b, e, nu⟩ := made_ok (p % 10) (1 + p / 10 % 6) (by omega) (by omega) (by omega)
    refine ⟨t, b, ?_, nu⟩
    subst k2
    simp only [ir_l_number, evSs, evS_set, evS_acc, evS_app, evS_ret, evS_retA, evS_ite, evS_for, evS_while, evS_expr, evE, evEs, evIt, getV, setT, evI_l0, evI_l1, evI_l2, evI_l3, evI_l4, evI_l5, evI_l6, evI_l7, evI_l8, evI_l9, evI_t0, evI_t1, evI_t2, evI_t3, ev_len_t0, ev_len_t1, ev_len_t2, ev_len_t3, ev_max, ev_min, ev_intI, ev_intB, ev_list_l, ev_list_t, isTy, evC_eq_int, evC_ne_int, evC_lt_int, evC_le_int, evC_gt_int, evC_ge_int, evC_ne_pair, evC_eq_pair, evC_eq_bl, ev2_add, ev2_sub, ev_abs, Ou.bind_ok, Ou.bind_exc, Ou.bind_bad, run_rt, run_nx, cnd_at, bod_at, turn_at, List.getElem?_cons_zero, List.getElem?_cons_succ, List.set_cons_zero, List.set_cons_succ, k1, k3, decide_true, decide_false, m10, f10, m6, c_l_number_l_made, e]
  · obtain ⟨t, b, e, nu⟩ := made_ok (p % 19 - 9) (1 + p / 19 % 6) (by omega) (by omega) (by omega)
    refine ⟨t, b, ?_, nu⟩
    simp only [ir_l_number, evSs, evS_set, evS_acc, evS_app, evS_ret, evS_retA, evS_ite, evS_for, evS_while, evS_expr, evE, evEs, evIt, getV, setT, evI_l0, evI_l1, evI_l2, evI_l3, evI_l4, evI_l5, evI_l6, evI_l7, evI_l8, evI_l9, evI_t0, evI_t1, evI_t2, evI_t3, ev_len_t0, ev_len_t1, ev_len_t2, ev_len_t3, ev_max, ev_min, ev_intI, ev_intB, ev_list_l, ev_list_t, isTy, evC_eq_int, evC_ne_int, evC_lt_int, evC_le_int, evC_gt_int, evC_ge_int, evC_ne_pair, evC_eq_pair, evC_eq_bl, ev2_add, ev2_sub, ev_abs, Ou.bind_ok, Ou.bind_exc, Ou.bind_bad, run_rt, run_nx, cnd_at, bod_at, turn_at, List.getElem?_cons_zero, List.getElem?_cons_succ, List.set_cons_zero, List.set_cons_succ, k1, k3, k2, decide_true, decide_false, m19, f19, m6, c_l_number_l_made, e]
theorem two_ok (c : Int) : ∃ a b x y, F_l_two [.int c] = .ok (.tup [.tup [.int a, .int b], .tup [.int x, .int y]]) ∧ Nu a b ∧ Nu x y := by
  have p40 : ev2 .pow (.int 10) (.int 40) = .ok (.int (10 ^ 40)) := ev2_pow (n := 40) (by decide) (by decide)
  have t40 : ev2 .mul (.int 2) (.int (10 ^ 40)) = .ok (.int (2 * 10 ^ 40)) := ev2_mul (mulOk_left (by decide))
  have t80 : ev2 .mul (.int (2 * 10 ^ 40)) (.int (10 ^ 40)) = .ok (.int (2 * 10 ^ 40 * 10 ^ 40)) := ev2_mul (mulOk_of (big_200 (by decide)) (big_200 (by decide)))
  obtain ⟨rs, dg, e⟩ := numbers_ok T_l_numbers (fuel [.int c, .lst ([4, 4, 2 * 10 ^ 40 * 10 ^ 40, 2 * 10 ^ 40 * 10 ^ 40].map D.int)]) c [4, 4, 2 * 10 ^ 40 * 10 ^ 40, 2 * 10 ^ 40 * 10 ^ 40] (by
    intro b hb
    simp only [List.mem_cons, List.not_mem_nil, or_false] at hb
    rcases hb with rfl | rfl | rfl | rfl <;> exact ⟨by decide, big_200 (by decide)⟩) (by decide)
  match rs, dg with
  | [r0, r1, r2, r3], dg =>
    obtain ⟨a, b, e1, n1⟩ := number_ok r0 r2
    obtain ⟨x, y, e2, n2⟩ := number_ok r1 r3
    refine ⟨a, b, x, y, ?_, n1, n2⟩
    have en : F_l_numbers [.int c, .lst [.int 4, .int 4, .int (2 * 10 ^ 40 * 10 ^ 40), .int (2 * 10 ^ 40 * 10 ^ 40)]] = .ok (.lst [.int r0, .int r1, .int r2, .int r3]) := by
      rw [F_l_numbers_eq]; exact e
    rw [F_l_two_eq]
    simp only [ir_l_two, evSs, evS_set, evS_acc, evS_app, evS_ret, evS_retA, evS_ite, evS_for, evS_while, evS_expr, evE, evEs, evIt, getV, setT, evI_l0, evI_l1, evI_l2, evI_l3, evI_l4, evI_l5, evI_l6, evI_l7, evI_l8, evI_l9, evI_t0, evI_t1, evI_t2, evI_t3, ev_len_t0, ev_len_t1, ev_len_t2, ev_len_t3, ev_max, ev_min, ev_intI, ev_intB, ev_list_l, ev_list_t, isTy, evC_eq_int, evC_ne_int, evC_lt_int, evC_le_int, evC_gt_int, evC_ge_int, evC_ne_pair, evC_eq_pair, evC_eq_bl, ev2_add, ev2_sub, ev_abs, Ou.bind_ok, Ou.bind_exc, Ou.bind_bad, run_rt, run_nx, cnd_at, bod_at, turn_at, List.getElem?_cons_zero, List.getElem?_cons_succ, List.set_cons_zero, List.set_cons_succ, p40, t40, t80, List.length_cons, List.length_nil, if_pos (show (0 + 1 + 1 + 1 + 1 : Nat) < lenMax by decide), if_pos (show (0 + 1 + 1 : Nat) < lenMax by decide), c_l_two_l_numbers, c_l_two_l_number, en, e1, e2]
theorem whole_int (i : Int) : F_l_whole [.int i] = .ok (.bl true) := rfl
theorem isnum_ok (p q t b : Int) (lo : Low p q) (h : p * b = t * q) (m1 : mulOk p b) (m2 : mulOk t q) : F_l_is_number [.tup [.int p, .int q], .int t, .int b] = .ok (.bl true) := by
  have h1 : ¬ q < 1 := by have := lo.pos; omega
  have h2 : ¬ ¬ ((Int.gcd p q : Nat) : Int) = 1 := by rw [lo.cop]; simp
  rw [F_l_is_number_eq]
  simp only [ir_l_is_number, evSs, evS_set, evS_acc, evS_app, evS_ret, evS_retA, evS_ite, evS_for, evS_while, evS_expr, evE, evEs, evIt, getV, setT, evI_l0, evI_l1, evI_l2, evI_l3, evI_l4, evI_l5, evI_l6, evI_l7, evI_l8, evI_l9, evI_t0, evI_t1, evI_t2, evI_t3, ev_len_t0, ev_len_t1, ev_len_t2, ev_len_t3, ev_max, ev_min, ev_intI, ev_intB, ev_list_l, ev_list_t, isTy, evC_eq_int, evC_ne_int, evC_lt_int, evC_le_int, evC_gt_int, evC_ge_int, evC_ne_pair, evC_eq_pair, evC_eq_bl, ev2_add, ev2_sub, ev_abs, Ou.bind_ok, Ou.bind_exc, Ou.bind_bad, run_rt, run_nx, cnd_at, bod_at, turn_at, List.getElem?_cons_zero, List.getElem?_cons_succ, List.set_cons_zero, List.set_cons_succ, c_l_is_number_l_whole, c_l_is_number_l_divisor, whole_int, ld_eq, h1, decide_false, decide_true, Bool.not_true, Bool.not_false, lo.cop, Int.natCast_one, ev2_mul m1, ev2_mul m2, h]
end K02

namespace K02
open PySem PySem.Spec PyProof.Rows L2 Ev

theorem b80 {i j : Int} (hi : i.natAbs ≤ 10 ^ 40) (hj : j.natAbs ≤ 10 ^ 40) : (i * j).natAbs ≤ 10 ^ 80 := by
  have e : (10 : Nat) ^ 80 = 10 ^ 40 * 10 ^ 40 := by decide +kernel
  rw [Int.natAbs_mul, e]
  exact Nat.mul_le_mul hi hj
theorem s40 {n : Nat} (h : n ≤ 10 ^ 40) : n < big := big_200 (Nat.lt_of_le_of_lt h (by decide +kernel))
theorem s80 {n : Nat} (h : n ≤ 10 ^ 80) : n < big := big_200 (Nat.lt_of_le_of_lt h (by decide +kernel))
theorem s81 {n : Nat} (h : n ≤ 10 ^ 80 + 10 ^ 80) : n < big := big_200 (Nat.lt_of_le_of_lt h (by decide +kernel))
theorem uniq {p q t b : Int} (h1 : Low p q) (h2 : Low t b) (h : p * b = t * q) : p = t ∧ q = b := by
  have p1 := h1.pos
  have p2 := h2.pos
  have hn : p.natAbs * b.natAbs = t.natAbs * q.natAbs := by rw [← Int.natAbs_mul, ← Int.natAbs_mul, h]
  have d1 : q.natAbs ∣ b.natAbs := by
    have c : Nat.Coprime q.natAbs p.natAbs := by have := h1.cop; rw [Int.gcd_comm] at this; exact this
    exact Nat.Coprime.dvd_of_dvd_mul_left c (by rw [hn]; exact Nat.dvd_mul_left _ _)
  have d2 : b.natAbs ∣ q.natAbs := by
    have c : Nat.Coprime b.natAbs t.natAbs := by have := h2.cop; rw [Int.gcd_comm] at this; exact this
    exact Nat.Coprime.dvd_of_dvd_mul_left c (by rw [← hn]; exact Nat.dvd_mul_left _ _)
  have e := Nat.dvd_antisymm d1 d2
  have e' : q = b := by omega
  subst e'
  exact ⟨Int.eq_of_mul_eq_mul_right (by omega) h, rfl⟩
theorem Nu.pos2 {a b x y : Int} (h1 : Nu a b) (h2 : Nu x y) : 0 < b * y := Int.mul_pos (by have := h1.low.pos; omega) (by have := h2.low.pos; omega)
theorem gle {t b : Int} (hb : b ≠ 0) (h : b.natAbs ≤ 10 ^ 40) : Int.gcd t b < big := s40 (Nat.le_trans (gcd_le t b hb) h)
theorem dle {t : Int} {g : Nat} {n : Nat} (h : t.natAbs ≤ n) : (t / (g : Int)).natAbs ≤ n := Nat.le_trans (Int.natAbs_ediv_le_natAbs _ _) h
theorem fd {i : Int} {g : Nat} (h : 0 < g) (h' : g < big) : ev2 .fdiv (.int i) (.int (g : Int)) = .ok (.int (i / (g : Int))) := ev2_fdiv (by omega) (by rw [Int.natAbs_natCast]; exact h')
theorem prod_ok {a b x y : Int} (h1 : Nu a b) (h2 : Nu x y) : ∃ p q, F_product_of [.tup [.int a, .int b], .tup [.int x, .int y]] = .ok (.tup [.int p, .int q]) ∧ Low p q ∧ p * (b * y) = a * x * q ∧ p.natAbs ≤ 10 ^ 80 ∧ q.natAbs ≤ 10 ^ 80 := by
  have pb := h1.low.pos
  have py := h2.low.pos
  obtain ⟨lo, eq⟩ := prod_low h1.low h2.low
  refine ⟨_, _, ?_, lo, eq, b80 (dle h1.st) (dle h2.st), b80 (dle h1.sb) (dle h2.sb)⟩
  have g1 : 0 < Int.gcd a y := Int.gcd_pos_of_ne_zero_right _ (by omega)
  have g2 : 0 < Int.gcd x b := Int.gcd_pos_of_ne_zero_right _ (by omega)
  have f1 : ∀ i : Int, ev2 .fdiv (.int i) (.int (Int.gcd a y : Int)) = .ok (.int (i / (Int.gcd a y : Int))) := fun i => fd g1 (gle (by omega) h2.sb)
  have f2 : ∀ i : Int, ev2 .fdiv (.int i) (.int (Int.gcd x b : Int)) = .ok (.int (i / (Int.gcd x b : Int))) := fun i => fd g2 (gle (by omega) h1.sb)
  have m1 : ev2 .mul (.int (a / (Int.gcd a y : Int))) (.int (x / (Int.gcd x b : Int))) = .ok (.int (a / (Int.gcd a y : Int) * (x / (Int.gcd x b : Int)))) := ev2_mul (mulOk_of (s40 (dle h1.st)) (s40 (dle h2.st)))
  have m2 : ev2 .mul (.int (b / (Int.gcd x b : Int))) (.int (y / (Int.gcd a y : Int))) = .ok (.int (b / (Int.gcd x b : Int) * (y / (Int.gcd a y : Int)))) := ev2_mul (mulOk_of (s40 (dle h1.sb)) (s40 (dle h2.sb)))
  rw [F_product_of_eq]
  simp only [ir_product_of, evSs, evS_set, evS_acc, evS_app, evS_ret, evS_retA, evS_ite, evS_for, evS_while, evS_expr, evE, evEs, evIt, getV, setT, evI_l0, evI_l1, evI_l2, evI_l3, evI_l4, evI_l5, evI_l6, evI_l7, evI_l8, evI_l9, evI_t0, evI_t1, evI_t2, evI_t3, ev_len_t0, ev_len_t1, ev_len_t2, ev_len_t3, ev_max, ev_min, ev_intI, ev_intB, ev_list_l, ev_list_t, isTy, evC_eq_int, evC_ne_int, evC_lt_int, evC_le_int, evC_gt_int, evC_ge_int, evC_ne_pair, evC_eq_pair, evC_eq_bl, ev2_add, ev2_sub, ev_abs, Ou.bind_ok, Ou.bind_exc, Ou.bind_bad, run_rt, run_nx, cnd_at, bod_at, turn_at, List.getElem?_cons_zero, List.getElem?_cons_succ, List.set_cons_zero, List.set_cons_succ, c_product_of_common_divisor, cd_eq, f1, f2, m1, m2, List.length_cons, List.length_nil, if_pos (show (0 + 1 + 1 : Nat) < lenMax by decide)]
theorem sum_ok {a b x y : Int} (h1 : Nu a b) (h2 : Nu x y) : ∃ p q, F_sum_of [.tup [.int a, .int b], .tup [.int x, .int y]] = .ok (.tup [.int p, .int q]) ∧ Low p q ∧ p * (b * y) = (a * y + x * b) * q ∧ p.natAbs ≤ 10 ^ 80 + 10 ^ 80 ∧ q.natAbs ≤ 10 ^ 80 := by
  have pb := h1.low.pos
  have py := h2.low.pos
  obtain ⟨s, es⟩ : ∃ s, Int.gcd b y = s := ⟨_, rfl⟩
  obtain ⟨t, et⟩ : ∃ t, t = a * (y / (s : Int)) + x * (b / (s : Int)) := ⟨_, rfl⟩
  obtain ⟨d, ed⟩ : ∃ d, Int.gcd t s = d := ⟨_, rfl⟩
  obtain ⟨lo, eq⟩ := sum_low h1.low h2.low es et ed
  have sp : 0 < s := by rw [← es]; exact Int.gcd_pos_of_ne_zero_right _ (by omega)
  have dp : 0 < d := by rw [← ed]; exact Int.gcd_pos_of_ne_zero_right _ (by omega)
  have sl : s ≤ 10 ^ 40 := by rw [← es]; exact Nat.le_trans (gcd_le b y (by omega)) h2.sb
  have dl : d ≤ 10 ^ 40 := by
    rw [← ed]
    have := gcd_le t (s : Int) (by omega)
    rw [Int.natAbs_natCast] at this
    exact Nat.le_trans this sl
  have tl : t.natAbs ≤ 10 ^ 80 + 10 ^ 80 := by
    rw [et]
    exact Nat.le_trans (Int.natAbs_add_le _ _) (Nat.add_le_add (b80 h1.st (dle h2.sb)) (b80 h2.st (dle h1.sb)))
  refine ⟨_, _, ?_, lo, eq, dle tl, b80 (dle h1.sb) (dle h2.sb)⟩
  have f1 : ∀ i : Int, ev2 .fdiv (.int i) (.int (s : Int)) = .ok (.int (i / (s : Int))) := fun i => fd sp (s40 sl)
  have f2 : ∀ i : Int, ev2 .fdiv (.int i) (.int (d : Int)) = .ok (.int (i / (d : Int))) := fun i => fd dp (s40 dl)
  have m1 : ev2 .mul (.int a) (.int (y / (s : Int))) = .ok (.int (a * (y / (s : Int)))) := ev2_mul (mulOk_of (s40 h1.st) (s40 (dle h2.sb)))
  have m2 : ev2 .mul (.int x) (.int (b / (s : Int))) = .ok (.int (x * (b / (s : Int)))) := ev2_mul (mulOk_of (s40 h2.st) (s40 (dle h1.sb)))
  have m3 : ev2 .mul (.int (b / (s : Int))) (.int (y / (d : Int))) = .ok (.int (b / (s : Int) * (y / (d : Int)))) := ev2_mul (mulOk_of (s40 (dle h1.sb)) (s40 (dle h2.sb)))
  rw [F_sum_of_eq]
  simp only [ir_sum_of, evSs, evS_set, evS_acc, evS_app, evS_ret, evS_retA, evS_ite, evS_for, evS_while, evS_expr, evE, evEs, evIt, getV, setT, evI_l0, evI_l1, evI_l2, evI_l3, evI_l4, evI_l5, evI_l6, evI_l7, evI_l8, evI_l9, evI_t0, evI_t1, evI_t2, evI_t3, ev_len_t0, ev_len_t1, ev_len_t2, ev_len_t3, ev_max, ev_min, ev_intI, ev_intB, ev_list_l, ev_list_t, isTy, evC_eq_int, evC_ne_int, evC_lt_int, evC_le_int, evC_gt_int, evC_ge_int, evC_ne_pair, evC_eq_pair, evC_eq_bl, ev2_add, ev2_sub, ev_abs, Ou.bind_ok, Ou.bind_exc, Ou.bind_bad, run_rt, run_nx, cnd_at, bod_at, turn_at, List.getElem?_cons_zero, List.getElem?_cons_succ, List.set_cons_zero, List.set_cons_succ, c_sum_of_common_divisor, cd_eq, es, f1, m1, m2, ← et, ed, f2, m3, List.length_cons, List.length_nil, if_pos (show (0 + 1 + 1 : Nat) < lenMax by decide)]
theorem Nu.neg {x y : Int} (h : Nu x y) : Nu (-x) y := ⟨⟨h.low.pos, by rw [Int.neg_gcd]; exact h.low.cop⟩, by rw [Int.natAbs_neg]; exact h.st, h.sb⟩
theorem rest_ok {a b x y : Int} (h1 : Nu a b) (h2 : Nu x y) : ∃ p q, F_rest_of [.tup [.int a, .int b], .tup [.int x, .int y]] = .ok (.tup [.int p, .int q]) ∧ Low p q ∧ p * (b * y) = (a * y - x * b) * q ∧ p.natAbs ≤ 10 ^ 80 + 10 ^ 80 ∧ q.natAbs ≤ 10 ^ 80 := by
  obtain ⟨p, q, e, lo, eq, l1, l2⟩ := sum_ok h1 h2.neg
  refine ⟨p, q, ?_, lo, ?_, l1, l2⟩
  · rw [F_rest_of_eq]
    simp only [ir_rest_of, evSs, evS_set, evS_acc, evS_app, evS_ret, evS_retA, evS_ite, evS_for, evS_while, evS_expr, evE, evEs, evIt, getV, setT, evI_l0, evI_l1, evI_l2, evI_l3, evI_l4, evI_l5, evI_l6, evI_l7, evI_l8, evI_l9, evI_t0, evI_t1, evI_t2, evI_t3, ev_len_t0, ev_len_t1, ev_len_t2, ev_len_t3, ev_max, ev_min, ev_intI, ev_intB, ev_list_l, ev_list_t, isTy, evC_eq_int, evC_ne_int, evC_lt_int, evC_le_int, evC_gt_int, evC_ge_int, evC_ne_pair, evC_eq_pair, evC_eq_bl, ev2_add, ev2_sub, ev_abs, Ou.bind_ok, Ou.bind_exc, Ou.bind_bad, run_rt, run_nx, cnd_at, bod_at, turn_at, List.getElem?_cons_zero, List.getElem?_cons_succ, List.set_cons_zero, List.set_cons_succ, c_rest_of_sum_of, List.length_cons, List.length_nil, if_pos (show (0 + 1 + 1 : Nat) < lenMax by decide), e]
  · rw [eq, Int.neg_mul, Int.sub_eq_add_neg]
theorem asked_ok {a b x y : Int} (h1 : Nu a b) (h2 : Nu x y) : F_l_asked [.tup [.int a, .int b], .tup [.int x, .int y]] = .ok (.bl true) := by
  have bp := h1.pos2 h2
  have sb := s80 (b80 h1.sb h2.sb)
  have s1 : (a * y + x * b).natAbs < big := s81 (Nat.le_trans (Int.natAbs_add_le _ _) (Nat.add_le_add (b80 h1.st h2.sb) (b80 h2.st h1.sb)))
  have s2 : (a * y - x * b).natAbs < big := s81 (Nat.le_trans (Int.natAbs_sub_le _ _) (Nat.add_le_add (b80 h1.st h2.sb) (b80 h2.st h1.sb)))
  have s3 : (a * x).natAbs < big := s80 (b80 h1.st h2.st)
  have m1 : mulOk a y := mulOk_of (s40 h1.st) (s40 h2.sb)
  have m2 : mulOk x b := mulOk_of (s40 h2.st) (s40 h1.sb)
  have m3 : mulOk b y := mulOk_of (s40 h1.sb) (s40 h2.sb)
  have m4 : mulOk a x := mulOk_of (s40 h1.st) (s40 h2.st)
  obtain ⟨p1, q1, e1, l1, f1, u1, w1⟩ := sum_ok h1 h2
  obtain ⟨p2, q2, e2, l2, f2, u2, w2⟩ := rest_ok h1 h2
  obtain ⟨p3, q3, e3, l3, f3, u3, w3⟩ := prod_ok h1 h2
  have n1 := isnum_ok p1 q1 (a * y + x * b) (b * y) l1 f1 (mulOk_of (s81 u1) sb) (mulOk_of s1 (s80 w1))
  have n2 := isnum_ok p2 q2 (a * y - x * b) (b * y) l2 f2 (mulOk_of (s81 u2) sb) (mulOk_of s2 (s80 w2))
  have n3 := isnum_ok p3 q3 (a * x) (b * y) l3 f3 (mulOk_of (s80 u3) sb) (mulOk_of s3 (s80 w3))
  rw [F_l_asked_eq]
  simp only [ir_l_asked, evSs, evS_set, evS_acc, evS_app, evS_ret, evS_retA, evS_ite, evS_for, evS_while, evS_expr, evE, evEs, evIt, getV, setT, evI_l0, evI_l1, evI_l2, evI_l3, evI_l4, evI_l5, evI_l6, evI_l7, evI_l8, evI_l9, evI_t0, evI_t1, evI_t2, evI_t3, ev_len_t0, ev_len_t1, ev_len_t2, ev_len_t3, ev_max, ev_min, ev_intI, ev_intB, ev_list_l, ev_list_t, isTy, evC_eq_int, evC_ne_int, evC_lt_int, evC_le_int, evC_gt_int, evC_ge_int, evC_ne_pair, evC_eq_pair, evC_eq_bl, ev2_add, ev2_sub, ev_abs, Ou.bind_ok, Ou.bind_exc, Ou.bind_bad, run_rt, run_nx, cnd_at, bod_at, turn_at, List.getElem?_cons_zero, List.getElem?_cons_succ, List.set_cons_zero, List.set_cons_succ, ev2_mul m1, ev2_mul m2, ev2_mul m3, ev2_mul m4, c_l_asked_l_is_number, c_l_asked_sum_of, c_l_asked_rest_of, c_l_asked_product_of, e1, e2, e3, n1, n2, n3, Bool.not_true]
theorem nu01 : Nu 0 1 := ⟨⟨by decide, by decide⟩, by decide, by decide⟩
theorem nu11 : Nu 1 1 := ⟨⟨by decide, by decide⟩, by decide, by decide⟩
theorem cell_ok (ns : List Int) (k : Int) (hk : 0 ≤ k) : ∃ c : Int, F_l_cell [.lst (ns.map D.int), .int k] = .ok (.int c) := by
  rw [F_l_cell_eq]
  by_cases h : k < ((ns.map D.int).length : Nat)
  · obtain ⟨j, rfl⟩ : ∃ j : Nat, k = (j : Nat) := ⟨k.toNat, by omega⟩
    have hk' : j < ns.length := by rw [List.length_map] at h; omega
    refine ⟨ns[j], ?_⟩
    have g : evI (.lst (ns.map D.int)) (.int (j : Nat)) = .ok (.int ns[j]) := by
      refine evI_lat ?_
      rw [List.getElem?_map, List.getElem?_eq_getElem hk']
      rfl
    simp only [ir_l_cell, evSs, evS_set, evS_acc, evS_app, evS_ret, evS_retA, evS_ite, evS_for, evS_while, evS_expr, evE, evEs, evIt, getV, setT, evI_l0, evI_l1, evI_l2, evI_l3, evI_l4, evI_l5, evI_l6, evI_l7, evI_l8, evI_l9, evI_t0, evI_t1, evI_t2, evI_t3, ev_len_t0, ev_len_t1, ev_len_t2, ev_len_t3, ev_max, ev_min, ev_intI, ev_intB, ev_list_l, ev_list_t, isTy, evC_eq_int, evC_ne_int, evC_lt_int, evC_le_int, evC_gt_int, evC_ge_int, evC_ne_pair, evC_eq_pair, evC_eq_bl, ev2_add, ev2_sub, ev_abs, Ou.bind_ok, Ou.bind_exc, Ou.bind_bad, run_rt, run_nx, cnd_at, bod_at, turn_at, List.getElem?_cons_zero, List.getElem?_cons_succ, List.set_cons_zero, List.set_cons_succ, ev_len_l, h, decide_true, g]
  · exact ⟨0, by simp only [ir_l_cell, evSs, evS_set, evS_acc, evS_app, evS_ret, evS_retA, evS_ite, evS_for, evS_while, evS_expr, evE, evEs, evIt, getV, setT, evI_l0, evI_l1, evI_l2, evI_l3, evI_l4, evI_l5, evI_l6, evI_l7, evI_l8, evI_l9, evI_t0, evI_t1, evI_t2, evI_t3, ev_len_t0, ev_len_t1, ev_len_t2, ev_len_t3, ev_max, ev_min, ev_intI, ev_intB, ev_list_l, ev_list_t, isTy, evC_eq_int, evC_ne_int, evC_lt_int, evC_le_int, evC_gt_int, evC_ge_int, evC_ne_pair, evC_eq_pair, evC_eq_bl, ev2_add, ev2_sub, ev_abs, Ou.bind_ok, Ou.bind_exc, Ou.bind_bad, run_rt, run_nx, cnd_at, bod_at, turn_at, List.getElem?_cons_zero, List.getElem?_cons_succ, List.set_cons_zero, List.set_cons_succ, ev_len_l, h, decide_false]⟩
theorem law_turn (n : Nat) (ns : List Int) (k : Int) (hk : 0 ≤ k) (r1 r2 r3 : Option D) : ∃ r2' r3', turn T_law n (.nm 1) [.set (.tp 2 3) (.call 4 [(.call 5 [(.var 0), (.var 1)])]), .ite (.or (.not (.call 12 [(.var 2), (.var 3)])) (.not (.call 12 [(.var 3), (.var 2)]))) [.ret (.cB false)] [], .ite (.or (.cmp .ne (.call 10 [(.var 2), (.var 2)]) (.tup [(.cI 0), (.cI 1)])) (.or (.cmp .ne (.call 9 [(.var 2), (.tup [(.cI 0), (.cI 1)])]) (.var 2)) (.cmp .ne (.call 11 [(.tup [(.cI 1), (.cI 1)]), (.var 2)]) (.var 2)))) [.ret (.cB false)] [], .ite (.or (.cmp .ne (.call 11 [(.var 3), (.tup [(.cI 0), (.cI 1)])]) (.tup [(.cI 0), (.cI 1)])) (.cmp .ne (.call 10 [(.tup [(.cI 0), (.cI 1)]), (.var 3)]) (.tup [(.neg (.ix (.var 3) (.cI 0))), (.ix (.var 3) (.cI 1))]))) [.ret (.cB false)] []]
      (.int k) [some (.lst (ns.map D.int)), r1, r2, r3] = .ok (.nx [some (.lst (ns.map D.int)), some (.int k), r2', r3']) := by
  obtain ⟨c, ec⟩ := cell_ok ns k hk
  obtain ⟨a, b, x, y, et, h1, h2⟩ := two_ok c
  have pb := h1.low.pos
  have py := h2.low.pos
  have lo01 : Low 0 1 := nu01.low
  have s1 : F_rest_of [.tup [.int a, .int b], .tup [.int a, .int b]] = .ok (.tup [.int 0, .int 1]) := by
    obtain ⟨p, q, e, lo, eq, _⟩ := rest_ok h1 h1
    rw [Int.sub_self, Int.zero_mul] at eq
    have p0 : p = 0 := (Int.mul_eq_zero.mp eq).resolve_right (by have := h1.pos2 h1; omega)
    obtain ⟨u1, u2⟩ := uniq lo lo01 (by rw [p0]; simp)
    rw [e, u1, u2]
  have s2 : F_sum_of [.tup [.int a, .int b], .tup [.int 0, .int 1]] = .ok (.tup [.int a, .int b]) := by
    obtain ⟨p, q, e, lo, eq, _⟩ := sum_ok h1 nu01
    rw [Int.mul_one, Int.zero_mul, Int.add_zero, Int.mul_one] at eq
    obtain ⟨u1, u2⟩ := uniq lo h1.low eq
    rw [e, u1, u2]
  have s3 : F_product_of [.tup [.int 1, .int 1], .tup [.int a, .int b]] = .ok (.tup [.int a, .int b]) := by
    obtain ⟨p, q, e, lo, eq, _⟩ := prod_ok nu11 h1
    rw [Int.one_mul, Int.one_mul] at eq
    obtain ⟨u1, u2⟩ := uniq lo h1.low eq
    rw [e, u1, u2]
  have s4 : F_product_of [.tup [.int x, .int y], .tup [.int 0, .int 1]] = .ok (.tup [.int 0, .int 1]) := by
    obtain ⟨p, q, e, lo, eq, _⟩ := prod_ok h2 nu01
    rw [Int.mul_zero, Int.mul_one, Int.zero_mul] at eq
    have p0 : p = 0 := (Int.mul_eq_zero.mp eq).resolve_right (by omega)
    obtain ⟨u1, u2⟩ := uniq lo lo01 (by rw [p0]; simp)
    rw [e, u1, u2]
  have s5 : F_rest_of [.tup [.int 0, .int 1], .tup [.int x, .int y]] = .ok (.tup [.int (-x), .int y]) := by
    obtain ⟨p, q, e, lo, eq, _⟩ := rest_ok nu01 h2
    rw [Int.zero_mul, Int.mul_one, Int.one_mul, Int.zero_sub] at eq
    obtain ⟨u1, u2⟩ := uniq lo h2.neg.low eq
    rw [e, u1, u2]
  have l2 : (0 + 1 + 1 : Nat) < lenMax := by decide
  refine ⟨some (.tup [.int a, .int b]), some (.tup [.int x, .int y]), ?_⟩
  simp only [evSs, evS_set, evS_acc, evS_app, evS_ret, evS_retA, evS_ite, evS_for, evS_while, evS_expr, evE, evEs, evIt, getV, setT, evI_l0, evI_l1, evI_l2, evI_l3, evI_l4, evI_l5, evI_l6, evI_l7, evI_l8, evI_l9, evI_t0, evI_t1, evI_t2, evI_t3, ev_len_t0, ev_len_t1, ev_len_t2, ev_len_t3, ev_max, ev_min, ev_intI, ev_intB, ev_list_l, ev_list_t, isTy, evC_eq_int, evC_ne_int, evC_lt_int, evC_le_int, evC_gt_int, evC_ge_int, evC_ne_pair, evC_eq_pair, evC_eq_bl, ev2_add, ev2_sub, ev_abs, Ou.bind_ok, Ou.bind_exc, Ou.bind_bad, run_rt, run_nx, cnd_at, bod_at, turn_at, List.getElem?_cons_zero, List.getElem?_cons_succ, List.set_cons_zero, List.set_cons_succ, c_law_l_two, c_law_l_cell, c_law_l_asked, c_law_product_of, c_law_sum_of, c_law_rest_of, ec, et, asked_ok h1 h2, asked_ok h2 h1, List.length_cons, List.length_nil, if_pos l2, s1, s2, s3, s4, s5, decide_true, Bool.and_self, Bool.not_true]
theorem law_loop (n : Nat) (ns : List Int) : ∀ (ks : List Int) (r1 r2 r3 : Option D), (∀ k ∈ ks, 0 ≤ k) → ∃ r1' r2' r3', loop (turn T_law n (.nm 1) [.set (.tp 2 3) (.call 4 [(.call 5 [(.var 0), (.var 1)])]), .ite (.or (.not (.call 12 [(.var 2), (.var 3)])) (.not (.call 12 [(.var 3), (.var 2)]))) [.ret (.cB false)] [], .ite (.or (.cmp .ne (.call 10 [(.var 2), (.var 2)]) (.tup [(.cI 0), (.cI 1)])) (.or (.cmp .ne (.call 9 [(.var 2), (.tup [(.cI 0), (.cI 1)])]) (.var 2)) (.cmp .ne (.call 11 [(.tup [(.cI 1), (.cI 1)]), (.var 2)]) (.var 2)))) [.ret (.cB false)] [], .ite (.or (.cmp .ne (.call 11 [(.var 3), (.tup [(.cI 0), (.cI 1)])]) (.tup [(.cI 0), (.cI 1)])) (.cmp .ne (.call 10 [(.tup [(.cI 0), (.cI 1)]), (.var 3)]) (.tup [(.neg (.ix (.var 3) (.cI 0))), (.ix (.var 3) (.cI 1))]))) [.ret (.cB false)] []])
      (ks.map D.int) [some (.lst (ns.map D.int)), r1, r2, r3] = .ok (.nx [some (.lst (ns.map D.int)), r1', r2', r3'])
  | [], r1, r2, r3, _ => ⟨r1, r2, r3, by simp only [List.map_nil, loop]⟩
  | k :: ks, r1, r2, r3, h => by
    obtain ⟨a, b, e⟩ := law_turn n ns k (h k (by simp)) r1 r2 r3
    obtain ⟨x, y, z, e'⟩ := law_loop n ns ks (some (.int k)) a b fun j hj => h j (by simp [hj])
    refine ⟨x, y, z, ?_⟩
    rw [List.map_cons, loop, e]
    exact e'
theorem law_ok (ns : List Int) (hl : ns.length ≤ 63) : F_law [.lst (ns.map D.int)] = .ok (.bl true) := by
  have hr : ∀ N : Nat, rangeD 0 N = ((List.range N).map fun k => ((k : Nat) : Int)).map D.int := fun N => by
    unfold rangeD
    rw [List.map_map]
    exact List.map_congr_left fun k _ => by simp
  rw [F_law_eq]
  have hj : -(2 ^ 62) ≤ max (1 : Int) (min 40 ((ns.map D.int).length : Nat)) ∧ max (1 : Int) (min 40 ((ns.map D.int).length : Nat)) < 2 ^ 62 := by
    rw [List.length_map]
    omega
  obtain ⟨a, b, c, e⟩ := law_loop (fuel [.lst (ns.map D.int)]) ns ((List.range (max (1 : Int) (min 40 ((ns.map D.int).length : Nat))).toNat).map fun k => ((k : Nat) : Int)) none none none (by
    intro k hk
    obtain ⟨j, _, rfl⟩ := List.mem_map.mp hk
    omega)
  rw [← hr] at e
  simp only [ir_law, evSs, evS_set, evS_acc, evS_app, evS_ret, evS_retA, evS_ite, evS_for, evS_while, evS_expr, evE, evEs, evIt, getV, setT, evI_l0, evI_l1, evI_l2, evI_l3, evI_l4, evI_l5, evI_l6, evI_l7, evI_l8, evI_l9, evI_t0, evI_t1, evI_t2, evI_t3, ev_len_t0, ev_len_t1, ev_len_t2, ev_len_t3, ev_max, ev_min, ev_intI, ev_intB, ev_list_l, ev_list_t, isTy, evC_eq_int, evC_ne_int, evC_lt_int, evC_le_int, evC_gt_int, evC_ge_int, evC_ne_pair, evC_eq_pair, evC_eq_bl, ev2_add, ev2_sub, ev_abs, Ou.bind_ok, Ou.bind_exc, Ou.bind_bad, run_rt, run_nx, cnd_at, bod_at, turn_at, List.getElem?_cons_zero, List.getElem?_cons_succ, List.set_cons_zero, List.set_cons_succ, ev_len_l, if_pos hj]
  simp only [e, evSs, evS_set, evS_acc, evS_app, evS_ret, evS_retA, evS_ite, evS_for, evS_while, evS_expr, evE, evEs, evIt, getV, setT, evI_l0, evI_l1, evI_l2, evI_l3, evI_l4, evI_l5, evI_l6, evI_l7, evI_l8, evI_l9, evI_t0, evI_t1, evI_t2, evI_t3, ev_len_t0, ev_len_t1, ev_len_t2, ev_len_t3, ev_max, ev_min, ev_intI, ev_intB, ev_list_l, ev_list_t, isTy, evC_eq_int, evC_ne_int, evC_lt_int, evC_le_int, evC_gt_int, evC_ge_int, evC_ne_pair, evC_eq_pair, evC_eq_bl, ev2_add, ev2_sub, ev_abs, Ou.bind_ok, Ou.bind_exc, Ou.bind_bad, run_rt, run_nx, cnd_at, bod_at, turn_at, List.getElem?_cons_zero, List.getElem?_cons_succ, List.set_cons_zero, List.set_cons_succ]
end K02

namespace K02
open PySem PySem.Spec PyProof.Rows L2 Ev
theorem den_ints (K : PySem.W.Frag) (H : Hp) : ∀ ns : List Int, DenL K H (ns.map V.int) (ns.map D.int)
  | [] => .nil
  | _ :: r => .cons .int (den_ints K H r)
theorem all_mk {l : PySem.W.OpenLaw} {w : World} {K : PySem.W.Frag} {h : Heap} {mg : Str → Option Value} {fa : Addr} (X : K.In h) (G : h.Ns mainGlobals mg) (hfa : mg "law" = some (.ref fa))
    {f0 : Addr} {od0 an0 : Option Addr} {sl0 : Array (Option Value)} {oc0 kV0 dc0 pm0 cd0 ct0 : Value}
    {f1 : Addr} {od1 an1 : Option Addr} {sl1 : Array (Option Value)} {oc1 kV1 dc1 pm1 cd1 ct1 : Value}
    {f2 : Addr} {od2 an2 : Option Addr} {sl2 : Array (Option Value)} {oc2 kV2 dc2 pm2 cd2 ct2 : Value}
    {f3 : Addr} {od3 an3 : Option Addr} {sl3 : Array (Option Value)} {oc3 kV3 dc3 pm3 cd3 ct3 : Value}
    {f4 : Addr} {od4 an4 : Option Addr} {sl4 : Array (Option Value)} {oc4 kV4 dc4 pm4 cd4 ct4 : Value}
    {f5 : Addr} {od5 an5 : Option Addr} {sl5 : Array (Option Value)} {oc5 kV5 dc5 pm5 cd5 ct5 : Value}
    {f6 : Addr} {od6 an6 : Option Addr} {sl6 : Array (Option Value)} {oc6 kV6 dc6 pm6 cd6 ct6 : Value}
    {f7 : Addr} {od7 an7 : Option Addr} {sl7 : Array (Option Value)} {oc7 kV7 dc7 pm7 cd7 ct7 : Value}
    {f8 : Addr} {od8 an8 : Option Addr} {sl8 : Array (Option Value)} {oc8 kV8 dc8 pm8 cd8 ct8 : Value}
    {f9 : Addr} {od9 an9 : Option Addr} {sl9 : Array (Option Value)} {oc9 kV9 dc9 pm9 cd9 ct9 : Value}
    {f10 : Addr} {od10 an10 : Option Addr} {sl10 : Array (Option Value)} {oc10 kV10 dc10 pm10 cd10 ct10 : Value}
    {f11 : Addr} {od11 an11 : Option Addr} {sl11 : Array (Option Value)} {oc11 kV11 dc11 pm11 cd11 ct11 : Value}
    {f12 : Addr} {od12 an12 : Option Addr} {sl12 : Array (Option Value)} {oc12 kV12 dc12 pm12 cd12 ct12 : Value}
    {f13 : Addr} {od13 an13 : Option Addr} {sl13 : Array (Option Value)} {oc13 kV13 dc13 pm13 cd13 ct13 : Value}
    (a0 : PySem.W.nsIn K mainGlobals "_law_numbers" = some (some (.ref f0))) (l0 : K.lookup f0 = some ⟨oc0, od0, .func (PySem.W.fnOf "_law_numbers" "_law_numbers" (defArgs s_l_numbers) (defBody s_l_numbers) (defScope s_l_numbers) .none kV0 dc0 pm0 an0 cd0 ct0), sl0⟩) (c0 : PySem.W.codeIn K cd0 "_law_numbers" = true) (k0 : PySem.W.keepIn K (.ref f0) = true)
    (a1 : PySem.W.nsIn K mainGlobals "_law_divisor" = some (some (.ref f1))) (l1 : K.lookup f1 = some ⟨oc1, od1, .func (PySem.W.fnOf "_law_divisor" "_law_divisor" (defArgs s_l_divisor) (defBody s_l_divisor) (defScope s_l_divisor) .none kV1 dc1 pm1 an1 cd1 ct1), sl1⟩) (c1 : PySem.W.codeIn K cd1 "_law_divisor" = true) (k1 : PySem.W.keepIn K (.ref f1) = true)
    (a2 : PySem.W.nsIn K mainGlobals "_law_made" = some (some (.ref f2))) (l2 : K.lookup f2 = some ⟨oc2, od2, .func (PySem.W.fnOf "_law_made" "_law_made" (defArgs s_l_made) (defBody s_l_made) (defScope s_l_made) .none kV2 dc2 pm2 an2 cd2 ct2), sl2⟩) (c2 : PySem.W.codeIn K cd2 "_law_made" = true) (k2 : PySem.W.keepIn K (.ref f2) = true)
    (a3 : PySem.W.nsIn K mainGlobals "_law_number" = some (some (.ref f3))) (l3 : K.lookup f3 = some ⟨oc3, od3, .func (PySem.W.fnOf "_law_number" "_law_number" (defArgs s_l_number) (defBody s_l_number) (defScope s_l_number) .none kV3 dc3 pm3 an3 cd3 ct3), sl3⟩) (c3 : PySem.W.codeIn K cd3 "_law_number" = true) (k3 : PySem.W.keepIn K (.ref f3) = true)
    (a4 : PySem.W.nsIn K mainGlobals "_law_two" = some (some (.ref f4))) (l4 : K.lookup f4 = some ⟨oc4, od4, .func (PySem.W.fnOf "_law_two" "_law_two" (defArgs s_l_two) (defBody s_l_two) (defScope s_l_two) .none kV4 dc4 pm4 an4 cd4 ct4), sl4⟩) (c4 : PySem.W.codeIn K cd4 "_law_two" = true) (k4 : PySem.W.keepIn K (.ref f4) = true)
    (a5 : PySem.W.nsIn K mainGlobals "_law_cell" = some (some (.ref f5))) (l5 : K.lookup f5 = some ⟨oc5, od5, .func (PySem.W.fnOf "_law_cell" "_law_cell" (defArgs s_l_cell) (defBody s_l_cell) (defScope s_l_cell) .none kV5 dc5 pm5 an5 cd5 ct5), sl5⟩) (c5 : PySem.W.codeIn K cd5 "_law_cell" = true) (k5 : PySem.W.keepIn K (.ref f5) = true)
    (a6 : PySem.W.nsIn K mainGlobals "_law_whole" = some (some (.ref f6))) (l6 : K.lookup f6 = some ⟨oc6, od6, .func (PySem.W.fnOf "_law_whole" "_law_whole" (defArgs s_l_whole) (defBody s_l_whole) (defScope s_l_whole) .none kV6 dc6 pm6 an6 cd6 ct6), sl6⟩) (c6 : PySem.W.codeIn K cd6 "_law_whole" = true) (k6 : PySem.W.keepIn K (.ref f6) = true)
    (a7 : PySem.W.nsIn K mainGlobals "_law_is_number" = some (some (.ref f7))) (l7 : K.lookup f7 = some ⟨oc7, od7, .func (PySem.W.fnOf "_law_is_number" "_law_is_number" (defArgs s_l_is_number) (defBody s_l_is_number) (defScope s_l_is_number) .none kV7 dc7 pm7 an7 cd7 ct7), sl7⟩) (c7 : PySem.W.codeIn K cd7 "_law_is_number" = true) (k7 : PySem.W.keepIn K (.ref f7) = true)
    (a8 : PySem.W.nsIn K mainGlobals "common_divisor" = some (some (.ref f8))) (l8 : K.lookup f8 = some ⟨oc8, od8, .func (PySem.W.fnOf "common_divisor" "common_divisor" (defArgs s_common_divisor) (defBody s_common_divisor) (defScope s_common_divisor) .none kV8 dc8 pm8 an8 cd8 ct8), sl8⟩) (c8 : PySem.W.codeIn K cd8 "common_divisor" = true) (k8 : PySem.W.keepIn K (.ref f8) = true)
    (a9 : PySem.W.nsIn K mainGlobals "sum_of" = some (some (.ref f9))) (l9 : K.lookup f9 = some ⟨oc9, od9, .func (PySem.W.fnOf "sum_of" "sum_of" (defArgs s_sum_of) (defBody s_sum_of) (defScope s_sum_of) .none kV9 dc9 pm9 an9 cd9 ct9), sl9⟩) (c9 : PySem.W.codeIn K cd9 "sum_of" = true) (k9 : PySem.W.keepIn K (.ref f9) = true)
    (a10 : PySem.W.nsIn K mainGlobals "rest_of" = some (some (.ref f10))) (l10 : K.lookup f10 = some ⟨oc10, od10, .func (PySem.W.fnOf "rest_of" "rest_of" (defArgs s_rest_of) (defBody s_rest_of) (defScope s_rest_of) .none kV10 dc10 pm10 an10 cd10 ct10), sl10⟩) (c10 : PySem.W.codeIn K cd10 "rest_of" = true) (k10 : PySem.W.keepIn K (.ref f10) = true)
    (a11 : PySem.W.nsIn K mainGlobals "product_of" = some (some (.ref f11))) (l11 : K.lookup f11 = some ⟨oc11, od11, .func (PySem.W.fnOf "product_of" "product_of" (defArgs s_product_of) (defBody s_product_of) (defScope s_product_of) .none kV11 dc11 pm11 an11 cd11 ct11), sl11⟩) (c11 : PySem.W.codeIn K cd11 "product_of" = true) (k11 : PySem.W.keepIn K (.ref f11) = true)
    (a12 : PySem.W.nsIn K mainGlobals "_law_asked" = some (some (.ref f12))) (l12 : K.lookup f12 = some ⟨oc12, od12, .func (PySem.W.fnOf "_law_asked" "_law_asked" (defArgs s_l_asked) (defBody s_l_asked) (defScope s_l_asked) .none kV12 dc12 pm12 an12 cd12 ct12), sl12⟩) (c12 : PySem.W.codeIn K cd12 "_law_asked" = true) (k12 : PySem.W.keepIn K (.ref f12) = true)
    (a13 : PySem.W.nsIn K mainGlobals "law" = some (some (.ref f13))) (l13 : K.lookup f13 = some ⟨oc13, od13, .func (PySem.W.fnOf "law" "law" (defArgs s_law) (defBody s_law) (defScope s_law) .none kV13 dc13 pm13 an13 cd13 ct13), sl13⟩) (c13 : PySem.W.codeIn K cd13 "law" = true) (k13 : PySem.W.keepIn K (.ref f13) = true)
    (z0 : PySem.W.nsIn K mainGlobals "len" = some none)    (z1 : PySem.W.nsIn K mainGlobals "abs" = some none)    (z2 : PySem.W.nsIn K mainGlobals "max" = some none)    (z3 : PySem.W.nsIn K mainGlobals "min" = some none)    (z4 : PySem.W.nsIn K mainGlobals "int" = some none)    (z5 : PySem.W.nsIn K mainGlobals "bool" = some none)    (z6 : PySem.W.nsIn K mainGlobals "list" = some none)    (z7 : PySem.W.nsIn K mainGlobals "tuple" = some none)    (z8 : PySem.W.nsIn K mainGlobals "str" = some none)    (z9 : PySem.W.nsIn K mainGlobals "isinstance" = some none)    (z10 : PySem.W.nsIn K mainGlobals "range" = some none)    (z11 : PySem.W.nsIn K mainGlobals "enumerate" = some none) :
    ∃ fd : FuncData, (∀ (s : Shared) (v : Value), BindsTo s fd ⟨[v], []⟩ [("_law_script", v)]) ∧ ∀ base : Heap, K.In base → base.Ns mainGlobals mg → FnOk l.prog w K mg base CX0 14 fa fd ["_law_script"] (spF K F_law) := by
  have e := hfa.symm.trans (PySem.W.mg_of X G a13)
  cases e
  have hb : ∀ x ∈ bltNames, mg x = none := by
    intro x hx
    simp only [bltNames, List.mem_cons, List.not_mem_nil, or_false] at hx
    rcases hx with rfl | rfl | rfl | rfl | rfl | rfl | rfl | rfl | rfl | rfl | rfl | rfl
    · exact PySem.W.mg_none_of X G z0
    · exact PySem.W.mg_none_of X G z1
    · exact PySem.W.mg_none_of X G z2
    · exact PySem.W.mg_none_of X G z3
    · exact PySem.W.mg_none_of X G z4
    · exact PySem.W.mg_none_of X G z5
    · exact PySem.W.mg_none_of X G z6
    · exact PySem.W.mg_none_of X G z7
    · exact PySem.W.mg_none_of X G z8
    · exact PySem.W.mg_none_of X G z9
    · exact PySem.W.mg_none_of X G z10
    · exact PySem.W.mg_none_of X G z11
  have F0 := fun_mk (st := s_l_numbers) l0 c0 k0
  have b0 := F0.binds (ps := ["_law_cell_here", "_law_bases"]) fun _ _ _ _ _ _ us hl => match us, hl with | [_, _], _ => rfl
  have F1 := fun_mk (st := s_l_divisor) l1 c1 k1
  have b1 := F1.binds (ps := ["_law_one", "_law_other"]) fun _ _ _ _ _ _ us hl => match us, hl with | [_, _], _ => rfl
  have F2 := fun_mk (st := s_l_made) l2 c2 k2
  have b2 := F2.binds (ps := ["_law_top", "_law_bottom"]) fun _ _ _ _ _ _ us hl => match us, hl with | [_, _], _ => rfl
  have F3 := fun_mk (st := s_l_number) l3 c3 k3
  have b3 := F3.binds (ps := ["_law_kind", "_law_part"]) fun _ _ _ _ _ _ us hl => match us, hl with | [_, _], _ => rfl
  have F4 := fun_mk (st := s_l_two) l4 c4 k4
  have b4 := F4.binds (ps := ["_law_cell_here"]) fun _ _ _ _ _ _ us hl => match us, hl with | [_], _ => rfl
  have F5 := fun_mk (st := s_l_cell) l5 c5 k5
  have b5 := F5.binds (ps := ["_law_script", "_law_k"]) fun _ _ _ _ _ _ us hl => match us, hl with | [_, _], _ => rfl
  have F6 := fun_mk (st := s_l_whole) l6 c6 k6
  have b6 := F6.binds (ps := ["_law_thing"]) fun _ _ _ _ _ _ us hl => match us, hl with | [_], _ => rfl
  have F7 := fun_mk (st := s_l_is_number) l7 c7 k7
  have b7 := F7.binds (ps := ["_law_found", "_law_top", "_law_bottom"]) fun _ _ _ _ _ _ us hl => match us, hl with | [_, _, _], _ => rfl
  have F8 := fun_mk (st := s_common_divisor) l8 c8 k8
  have b8 := F8.binds (ps := ["one", "other"]) fun _ _ _ _ _ _ us hl => match us, hl with | [_, _], _ => rfl
  have F9 := fun_mk (st := s_sum_of) l9 c9 k9
  have b9 := F9.binds (ps := ["one", "other"]) fun _ _ _ _ _ _ us hl => match us, hl with | [_, _], _ => rfl
  have F10 := fun_mk (st := s_rest_of) l10 c10 k10
  have b10 := F10.binds (ps := ["one", "other"]) fun _ _ _ _ _ _ us hl => match us, hl with | [_, _], _ => rfl
  have F11 := fun_mk (st := s_product_of) l11 c11 k11
  have b11 := F11.binds (ps := ["one", "other"]) fun _ _ _ _ _ _ us hl => match us, hl with | [_, _], _ => rfl
  have F12 := fun_mk (st := s_l_asked) l12 c12 k12
  have b12 := F12.binds (ps := ["_law_one", "_law_other"]) fun _ _ _ _ _ _ us hl => match us, hl with | [_, _], _ => rfl
  have F13 := fun_mk (st := s_law) l13 c13 k13
  have b13 := F13.binds (ps := ["_law_script"]) fun _ _ _ _ _ _ us hl => match us, hl with | [_], _ => rfl
  refine ⟨PySem.W.fnOf "law" "law" (defArgs s_law) (defBody s_law) (defScope s_law) .none kV13 dc13 pm13 an13 cd13 ct13, fun s v => .of_eq rfl, fun base _ _ => ?_⟩
  have C0 : Cals l.prog w K mg base 0 [] [] := Cals.nil
  have G0 : FnOk l.prog w K mg base CX0 1 f0 _ _ (spF K F_l_numbers) := fnD F0 sc_l_numbers tr_l_numbers (by decide) hb C0
  have C1 : Cals l.prog w K mg base 1 ["_law_numbers"] [F_l_numbers] := C0.snoc rfl (cal_of G0 (PySem.W.mg_of X G a0) k0 b0)
  have G1 : FnOk l.prog w K mg base CX0 2 f1 _ _ (spF K F_l_divisor) := fnD F1 sc_l_divisor tr_l_divisor (by decide) hb C1
  have C2 : Cals l.prog w K mg base 2 ["_law_numbers", "_law_divisor"] [F_l_numbers, F_l_divisor] := C1.snoc rfl (cal_of G1 (PySem.W.mg_of X G a1) k1 b1)
  have G2 : FnOk l.prog w K mg base CX0 3 f2 _ _ (spF K F_l_made) := fnD F2 sc_l_made tr_l_made (by decide) hb C2
  have C3 : Cals l.prog w K mg base 3 ["_law_numbers", "_law_divisor", "_law_made"] [F_l_numbers, F_l_divisor, F_l_made] := C2.snoc rfl (cal_of G2 (PySem.W.mg_of X G a2) k2 b2)
  have G3 : FnOk l.prog w K mg base CX0 4 f3 _ _ (spF K F_l_number) := fnD F3 sc_l_number tr_l_number (by decide) hb C3
  have C4 : Cals l.prog w K mg base 4 ["_law_numbers", "_law_divisor", "_law_made", "_law_number"] [F_l_numbers, F_l_divisor, F_l_made, F_l_number] := C3.snoc rfl (cal_of G3 (PySem.W.mg_of X G a3) k3 b3)
  have G4 : FnOk l.prog w K mg base CX0 5 f4 _ _ (spF K F_l_two) := fnD F4 sc_l_two tr_l_two (by decide) hb C4
  have C5 : Cals l.prog w K mg base 5 ["_law_numbers", "_law_divisor", "_law_made", "_law_number", "_law_two"] [F_l_numbers, F_l_divisor, F_l_made, F_l_number, F_l_two] := C4.snoc rfl (cal_of G4 (PySem.W.mg_of X G a4) k4 b4)
  have G5 : FnOk l.prog w K mg base CX0 6 f5 _ _ (spF K F_l_cell) := fnD F5 sc_l_cell tr_l_cell (by decide) hb C5
  have C6 : Cals l.prog w K mg base 6 ["_law_numbers", "_law_divisor", "_law_made", "_law_number", "_law_two", "_law_cell"] [F_l_numbers, F_l_divisor, F_l_made, F_l_number, F_l_two, F_l_cell] := C5.snoc rfl (cal_of G5 (PySem.W.mg_of X G a5) k5 b5)
  have G6 : FnOk l.prog w K mg base CX0 7 f6 _ _ (spF K F_l_whole) := fnD F6 sc_l_whole tr_l_whole (by decide) hb C6
  have C7 : Cals l.prog w K mg base 7 ["_law_numbers", "_law_divisor", "_law_made", "_law_number", "_law_two", "_law_cell", "_law_whole"] [F_l_numbers, F_l_divisor, F_l_made, F_l_number, F_l_two, F_l_cell, F_l_whole] := C6.snoc rfl (cal_of G6 (PySem.W.mg_of X G a6) k6 b6)
  have G7 : FnOk l.prog w K mg base CX0 8 f7 _ _ (spF K F_l_is_number) := fnD F7 sc_l_is_number tr_l_is_number (by decide) hb C7
  have C8 : Cals l.prog w K mg base 8 ["_law_numbers", "_law_divisor", "_law_made", "_law_number", "_law_two", "_law_cell", "_law_whole", "_law_is_number"] [F_l_numbers, F_l_divisor, F_l_made, F_l_number, F_l_two, F_l_cell, F_l_whole, F_l_is_number] := C7.snoc rfl (cal_of G7 (PySem.W.mg_of X G a7) k7 b7)
  have G8 : FnOk l.prog w K mg base CX0 9 f8 _ _ (spF K F_common_divisor) := fnD F8 sc_common_divisor tr_common_divisor (by decide) hb C8
  have C9 : Cals l.prog w K mg base 9 ["_law_numbers", "_law_divisor", "_law_made", "_law_number", "_law_two", "_law_cell", "_law_whole", "_law_is_number", "common_divisor"] [F_l_numbers, F_l_divisor, F_l_made, F_l_number, F_l_two, F_l_cell, F_l_whole, F_l_is_number, F_common_divisor] := C8.snoc rfl (cal_of G8 (PySem.W.mg_of X G a8) k8 b8)
  have G9 : FnOk l.prog w K mg base CX0 10 f9 _ _ (spF K F_sum_of) := fnD F9 sc_sum_of tr_sum_of (by decide) hb C9
  have C10 : Cals l.prog w K mg base 10 ["_law_numbers", "_law_divisor", "_law_made", "_law_number", "_law_two", "_law_cell", "_law_whole", "_law_is_number", "common_divisor", "sum_of"] [F_l_numbers, F_l_divisor, F_l_made, F_l_number, F_l_two, F_l_cell, F_l_whole, F_l_is_number, F_common_divisor, F_sum_of] := C9.snoc rfl (cal_of G9 (PySem.W.mg_of X G a9) k9 b9)
  have G10 : FnOk l.prog w K mg base CX0 11 f10 _ _ (spF K F_rest_of) := fnD F10 sc_rest_of tr_rest_of (by decide) hb C10
  have C11 : Cals l.prog w K mg base 11 ["_law_numbers", "_law_divisor", "_law_made", "_law_number", "_law_two", "_law_cell", "_law_whole", "_law_is_number", "common_divisor", "sum_of", "rest_of"] [F_l_numbers, F_l_divisor, F_l_made, F_l_number, F_l_two, F_l_cell, F_l_whole, F_l_is_number, F_common_divisor, F_sum_of, F_rest_of] := C10.snoc rfl (cal_of G10 (PySem.W.mg_of X G a10) k10 b10)
  have G11 : FnOk l.prog w K mg base CX0 12 f11 _ _ (spF K F_product_of) := fnD F11 sc_product_of tr_product_of (by decide) hb C11
  have C12 : Cals l.prog w K mg base 12 ["_law_numbers", "_law_divisor", "_law_made", "_law_number", "_law_two", "_law_cell", "_law_whole", "_law_is_number", "common_divisor", "sum_of", "rest_of", "product_of"] [F_l_numbers, F_l_divisor, F_l_made, F_l_number, F_l_two, F_l_cell, F_l_whole, F_l_is_number, F_common_divisor, F_sum_of, F_rest_of, F_product_of] := C11.snoc rfl (cal_of G11 (PySem.W.mg_of X G a11) k11 b11)
  have G12 : FnOk l.prog w K mg base CX0 13 f12 _ _ (spF K F_l_asked) := fnD F12 sc_l_asked tr_l_asked (by decide) hb C12
  have C13 : Cals l.prog w K mg base 13 ["_law_numbers", "_law_divisor", "_law_made", "_law_number", "_law_two", "_law_cell", "_law_whole", "_law_is_number", "common_divisor", "sum_of", "rest_of", "product_of", "_law_asked"] [F_l_numbers, F_l_divisor, F_l_made, F_l_number, F_l_two, F_l_cell, F_l_whole, F_l_is_number, F_common_divisor, F_sum_of, F_rest_of, F_product_of, F_l_asked] := C12.snoc rfl (cal_of G12 (PySem.W.mg_of X G a12) k12 b12)
  have G13 : FnOk l.prog w K mg base CX0 14 fa _ _ (spF K F_law) := fnD F13 sc_law tr_law (by decide) hb C13
  exact G13

theorem walk {l : PySem.W.OpenLaw} {q : Program} {loose : List Str} {XP : (Str → Option Value) → Heap → Prop} {YP : World → Heap → Prop} {d : DefRec} {K : Params → PySem.W.Frag} (hn : l.most = some 63) (hdf : d.params.defaults = [])
    (hY : ∀ (w : World) (h : Heap), YP w h → (K w.params).In h)
    (F : ∀ (w : World) (mg : Str → Option Value) (fa : Addr) (h : Heap), (K w.params).In h → h.Ns mainGlobals mg → mg d.name = some (.ref fa) →
      ∃ fd : FuncData, (∀ (s : Shared) (u : Value), BindsTo s fd ⟨[u], []⟩ [("_law_script", u)]) ∧ ∀ base : Heap, (K w.params).In base → base.Ns mainGlobals mg → FnOk l.prog w (K w.params) mg base CX0 14 fa fd ["_law_script"] (spF (K w.params) F_law)) :
    PySem.W.WalkO q loose XP YP l.row.toRowW d [] (fun f vs => PySem.call f vs) :=
  L2.walk_of (n := 63) (k := 14) (x := "_law_script") (CX := fun _ => CX0) (sp := fun w => spF (K w.params) F_law) hn (by decide) hdf ⟨rfl, by decide, by decide⟩ hY F
    (fun w H a ns hl _ hS => ⟨fun G => G, [.lst (ns.map D.int)], .bl true, Vw.all H, .cons (.lst hS (den_ints _ _ ns)) .nil, law_ok ns hl, fun v H' _ dv => den_bl dv⟩) fun _ _ _ _ _ z => z
end K02

open PySem PySem.W PyProof.Rows
set_option maxRecDepth 100000 in
set_option maxHeartbeats 0 in
theorem PySem.Challenge.cw_signsmooth_k02_sums_products_holds : PySem.Challenge.rw_signsmooth_k02_sums_products.Holds := by
  w_on; o_law; k_head; (case hw => w_witness2)
  k_fill
  refine K02.walk (l := PySem.Challenge.rw_signsmooth_k02_sums_products) rfl rfl (fun w h Y => PySem.W.kIn_of Y) ?F
  case F =>
    intro w mg fa h KX G hmg
    refine' K02.all_mk KX G hmg ?a0 ?l0 ?c0 ?k0 ?a1 ?l1 ?c1 ?k1 ?a2 ?l2 ?c2 ?k2 ?a3 ?l3 ?c3 ?k3 ?a4 ?l4 ?c4 ?k4 ?a5 ?l5 ?c5 ?k5 ?a6 ?l6 ?c6 ?k6 ?a7 ?l7 ?c7 ?k7 ?a8 ?l8 ?c8 ?k8 ?a9 ?l9 ?c9 ?k9 ?a10 ?l10 ?c10 ?k10 ?a11 ?l11 ?c11 ?k11 ?a12 ?l12 ?c12 ?k12 ?a13 ?l13 ?c13 ?k13 ?z0 ?z1 ?z2 ?z3 ?z4 ?z5 ?z6 ?z7 ?z8 ?z9 ?z10 ?z11
    (case a0 => k_is)
    (case l0 => k_is)
    (case c0 => k_is)
    (case k0 => k_is)
    (case a1 => k_is)
    (case l1 => k_is)
    (case c1 => k_is)
    (case k1 => k_is)
    (case a2 => k_is)
    (case l2 => k_is)
    (case c2 => k_is)
    (case k2 => k_is)
    (case a3 => k_is)
    (case l3 => k_is)
    (case c3 => k_is)
    (case k3 => k_is)
    (case a4 => k_is)
    (case l4 => k_is)
    (case c4 => k_is)
    (case k4 => k_is)
    (case a5 => k_is)
    (case l5 => k_is)
    (case c5 => k_is)
    (case k5 => k_is)
    (case a6 => k_is)
    (case l6 => k_is)
    (case c6 => k_is)
    (case k6 => k_is)
    (case a7 => k_is)
    (case l7 => k_is)
    (case c7 => k_is)
    (case k7 => k_is)
    (case a8 => k_is)
    (case l8 => k_is)
    (case c8 => k_is)
    (case k8 => k_is)
    (case a9 => k_is)
    (case l9 => k_is)
    (case c9 => k_is)
    (case k9 => k_is)
    (case a10 => k_is)
    (case l10 => k_is)
    (case c10 => k_is)
    (case k10 => k_is)
    (case a11 => k_is)
    (case l11 => k_is)
    (case c11 => k_is)
    (case k11 => k_is)
    (case a12 => k_is)
    (case l12 => k_is)
    (case c12 => k_is)
    (case k12 => k_is)
    (case a13 => k_is)
    (case l13 => k_is)
    (case c13 => k_is)
    (case k13 => k_is)
    (case z0 => k_is)
    (case z1 => k_is)
    (case z2 => k_is)
    (case z3 => k_is)
    (case z4 => k_is)
    (case z5 => k_is)
    (case z6 => k_is)
    (case z7 => k_is)
    (case z8 => k_is)
    (case z9 => k_is)
    (case z10 => k_is)
    (case z11 => k_is)
#print axioms PySem.Challenge.cw_signsmooth_k02_sums_products_holds
