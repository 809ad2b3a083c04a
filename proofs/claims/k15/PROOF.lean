import PyProof.Rows.All
import Wide.All
import OpenK.AllK
import Wide.FinOn
import Lean
import PyProof.EqAt
import PyProof.EqKinds
import PyProof.TupleCall
import PyProof.NeKinds
import PySem.Challenge.RW_cutyard_k15_a_cuts_row
set_option Elab.async false
set_option linter.all false
set_option maxRecDepth 100000
/-! THE HAND LAYER, for ints, bools, texts, own classes, LISTS and tuples (index, slices, in, append, pop ..), calls, loops. Paste it whole ahead of your own text; what your proof does not reach may be deleted. -/
namespace L2
open PySem PySem.Spec PyProof.Rows

/-- a key: an int or a str -/
abbrev Key := Sum Int Str
def keyIs : Key → Value → Bool
  | .inl k, v => Value.isInt k v
  | .inr x, v => Value.isStrOf x v
def keyH (w : World) : Key → Int
  | .inl k => hashInt k
  | .inr x => hashStr w x
theorem keyIs_shape : ∀ {k : Key} {v : Value}, keyIs k v = true → (∃ i t, k = Sum.inl i ∧ v = Value.int i t) ∨ (∃ x t, k = Sum.inr x ∧ v = Value.str x t)
  | .inl i, v, h => by
    obtain ⟨t, e⟩ := Value.isInt_shape (k := i) (v := v) h
    exact .inl ⟨i, t, rfl, e⟩
  | .inr x, v, h => by
    obtain ⟨t, e⟩ := Value.isStrOf_shape (x := x) (v := v) h
    exact .inr ⟨x, t, rfl, e⟩
theorem keyIs_int (i : Int) (t : Tok) : keyIs (.inl i) (.int i t) = true := by simp [keyIs, Value.isInt]
theorem keyIs_str (x : Str) (t : Tok) : keyIs (.inr x) (.str x t) = true := by simp [keyIs, Value.isStrOf]
theorem key_ll (a b : Int) : decide ((Sum.inl a : Key) = Sum.inl b) = (a == b) := by
  by_cases e : a = b
  · subst e; simp
  · have h : ¬ (Sum.inl a : Key) = Sum.inl b := fun q => e (Sum.inl.inj q)
    rw [decide_eq_false h]
    exact (beq_eq_false_iff_ne.mpr e).symm
theorem key_rr (a b : Str) : decide ((Sum.inr a : Key) = Sum.inr b) = decide (a = b) := by
  by_cases e : a = b
  · subst e; simp
  · have h : ¬ (Sum.inr a : Key) = Sum.inr b := fun q => e (Sum.inr.inj q)
    rw [decide_eq_false h, decide_eq_false e]
theorem key_lr (a : Int) (b : Str) : decide ((Sum.inl a : Key) = Sum.inr b) = false := decide_eq_false (fun q => nomatch q)
theorem key_rl (a : Str) (b : Int) : decide ((Sum.inr a : Key) = Sum.inl b) = false := decide_eq_false (fun q => nomatch q)

def mixKind (prog : Program) (w : World) : PySem.KeyKind prog w Key where
  is := keyIs
  hash := keyH w
  inj := fun v a b ha hb => by
    rcases keyIs_shape ha with ⟨i, t, rfl, rfl⟩ | ⟨x, t, rfl, rfl⟩
    · rcases keyIs_shape hb with ⟨j, u, rfl, e⟩ | ⟨y, u, rfl, e⟩
      · injection e with e1 _; rw [e1]
      · exact nomatch e
    · rcases keyIs_shape hb with ⟨j, u, rfl, e⟩ | ⟨y, u, rfl, e⟩
      · exact nomatch e
      · injection e with e1 _; rw [e1]
  byValue := fun k v h => by
    rcases keyIs_shape h with ⟨i, t, rfl, rfl⟩ | ⟨x, t, rfl, rfl⟩ <;> rfl
  pyHash := fun hv h => by
    rcases keyIs_shape hv with ⟨i, t, rfl, rfl⟩ | ⟨x, t, rfl, rfl⟩
    · exact wpAny_pyHash_int h
    · exact wpAny_pyHash_str h
  eqBool := fun hu hv h => by
    rcases keyIs_shape hu with ⟨i, t, rfl, rfl⟩ | ⟨x, t, rfl, rfl⟩
    · rcases keyIs_shape hv with ⟨j, u, rfl, rfl⟩ | ⟨y, u, rfl, rfl⟩
      · rw [key_ll] at h; exact wpAny_eqBool_int h
      · rw [key_lr] at h; exact SeqAt.EqAt.int_str i t y u _ _ _ _ h
    · rcases keyIs_shape hv with ⟨j, u, rfl, rfl⟩ | ⟨y, u, rfl, rfl⟩
      · rw [key_rl] at h; exact SeqAt.EqAt.str_int x t j u _ _ _ _ h
      · rw [key_rr] at h; exact wpAny_eqBool_str h
  «strs» := fun k x t v h => by
    rcases keyIs_shape h with ⟨i, u, rfl, e⟩ | ⟨y, u, rfl, e⟩
    · exact nomatch e
    · injection e with e1 _
      subst e1
      cases v <;> rfl

theorem mixKind_is (prog : Program) (w : World) (k : Key) (v : Value) : (mixKind prog w).is k v = keyIs k v := rfl
theorem mixKind_int (prog : Program) (w : World) (i : Int) (t : Tok) : (mixKind prog w).is (.inl i) (.int i t) = true := keyIs_int i t
theorem mixKind_str (prog : Program) (w : World) (x : Str) (t : Tok) : (mixKind prog w).is (.inr x) (.str x t) = true := keyIs_str x t
end L2

namespace L2
open PySem PySem.Spec PyProof.Rows

/-- a value, without the heap -/
inductive V where
  | non | bl (b : Bool) | int (i : Int) | str (x : Str) | byt (b : Array UInt8) | flt (b : UInt64) | ref (a : Addr) | ty (n : String)
  deriving DecidableEq

def RelV : V → Value → Prop
  | .non, u => u = Value.none
  | .bl b, u => u = Value.bool b
  | .int i, u => ∃ t, u = Value.int i t
  | .str x, u => ∃ t, u = Value.str x t
  | .byt b, u => ∃ t, u = Value.bytes b t
  | .flt b, u => ∃ t, u = Value.float b t
  | .ref a, u => u = Value.ref a
  | .ty n, u => u = Value.type n

abbrev Vals : List V → List Value → Prop := Paired RelV
theorem Vals.length {xs : List V} {us : List Value} (r : Vals xs us) : xs.length = us.length := Paired.length r
theorem Vals.get : ∀ {xs : List V} {us : List Value} {i : Nat} {x : V}, Vals xs us → xs[i]? = some x → ∃ u, us[i]? = some u ∧ RelV x u
  | _, _, _, _, .nil, e => by simp at e
  | _, _, 0, _, .cons r _, e => by simp at e; subst e; exact ⟨_, rfl, r⟩
  | _, _, i + 1, x, .cons _ t, e => by
    obtain ⟨u, h1, h2⟩ := Vals.get (i := i) (x := x) t (by simpa using e)
    exact ⟨u, by simpa using h1, h2⟩
theorem Vals.set {x : V} {u : Value} (r : RelV x u) : ∀ {xs : List V} {us : List Value} (i : Nat), Vals xs us → Vals (xs.set i x) (us.set i u)
  | _, _, _, .nil => .nil
  | _, _, 0, .cons _ t => .cons r t
  | _, _, i + 1, .cons q t => .cons q (Vals.set r i t)
theorem Vals.append : ∀ {xs ys : List V} {us ws : List Value}, Vals xs us → Vals ys ws → Vals (xs ++ ys) (us ++ ws)
  | _, _, _, _, .nil, s => s
  | _, _, _, _, .cons r t, s => .cons r (Vals.append t s)
theorem Vals.take : ∀ {xs : List V} {us : List Value} (n : Nat), Vals xs us → Vals (xs.take n) (us.take n)
  | _, _, 0, _ => .nil
  | _, _, _ + 1, .nil => .nil
  | _, _, n + 1, .cons r t => .cons r (Vals.take n t)
theorem Vals.drop : ∀ {xs : List V} {us : List Value} (n : Nat), Vals xs us → Vals (xs.drop n) (us.drop n)
  | _, _, 0, r => r
  | _, _, _ + 1, .nil => .nil
  | _, _, n + 1, .cons _ t => Vals.drop n t
theorem Vals.none_of : ∀ {xs : List V} {us : List Value} {i : Nat}, Vals xs us → xs[i]? = none → us[i]? = none := fun {xs us i} r e => by
  have h1 := r.length
  have h2 : xs.length ≤ i := List.getElem?_eq_none_iff.mp e
  exact List.getElem?_eq_none_iff.mpr (by omega)

def RelO : Option V → Option Value → Prop
  | some v, some u => RelV v u
  | none, none => True
  | _, _ => False
def KV {κ : Type} : List (κ × V) → List (κ × Value) → Prop := Paired fun (p : κ × V) (q : κ × Value) => p.1 = q.1 ∧ RelV p.2 q.2

/-- a key of a dict (00_mix): an int or a text -/
def kV : Key → V
  | .inl i => .int i
  | .inr x => .str x

/-- what stands at a tracked address -/
inductive HO where
  /-- a list -/
  | lst (xs : List V)
  /-- a tuple (never changes) -/
  | tup (xs : List V)
  /-- a dict whose keys are ints and texts; one whose keys are tuples of ints and texts (the empty one is both) -/
  | dK (kvs : List (Key × V)) | dT (kvs : List (List Key × V))
  /-- a set of ints: its members, its size -/
  | set (S : Int → Bool) (n : Nat)
  /-- an instance of the class at C, its dict at dx, its attributes -/
  | ins (C dx : Addr) (fs : List (Str × V))
  /-- the dict of the instance at x -/
  | own (x : Addr)
  /-- the dict of an exception -/
  | xd (fs : List (Str × V))
  /-- a bound method, f of x -/
  | met (f x : Addr)
  /-- a range object lo, lo + 1, .. below hi -/
  | rng (lo hi : Int)
  /-- a thing that is known to the object (the script; a dict while a loop walks it): read, never written while it is so -/
  | frz (o : Obj) (u : HO)
  /-- a code object's table -/
  | tbl (ps : Array Value)
  /-- any other thing, by what is true of its one object (a def of one's own: SetO a S n := HO.ext fun h => ..) -/
  | ext (φ : Heap → Prop)

abbrev Hp := Addr → Option HO
def upd (H : Hp) (a : Addr) (o : HO) : Hp := fun b => if b = a then some o else H b
theorem upd_same {H : Hp} {a : Addr} {o : HO} : upd H a o a = some o := by unfold upd; rw [if_pos rfl]
theorem upd_ne {H : Hp} {a b : Addr} {o : HO} (h : b ≠ a) : upd H a o b = H b := by unfold upd; rw [if_neg h]
theorem upd_upd {H : Hp} {a : Addr} {o u : HO} : upd (upd H a o) a u = upd H a u := by
  funext b; unfold upd; split <;> rfl
/-- two objects of different content stand apart -/
theorem ne_of {H : Hp} {a b : Addr} {o u : HO} (h : H a = some o) (h' : H b = some u) (d : o ≠ u) : a ≠ b := by
  intro e; subst e; rw [h] at h'; exact d (Option.some.inj h')
theorem ne_of_none {H : Hp} {a b : Addr} {o : HO} (h : H a = some o) (h' : H b = none) : a ≠ b := by
  intro e; subst e; rw [h] at h'; cases h'

section
variable (P : Program) (w : World)
def ObjOk (H : Hp) (h : Heap) (a : Addr) : HO → Prop
  | .lst xs => xs.length ≤ sizeLine ∧ ∃ (its : List Value) (n : Nat), Vals xs its ∧ h.get? a = some { cls := .type "list", data := .seq its.toArray n }
  | .tup xs => xs.length ≤ sizeLine ∧ ∃ its : List Value, Vals xs its ∧ IsTup h a its.toArray
  | .dK kvs => kvs.length ≤ sizeLine ∧ (a == sysModules) = false ∧ ∃ vs, KV kvs vs ∧ h.DictOf (mixKind P w) a vs
  | .dT kvs => kvs.length ≤ sizeLine ∧ (a == sysModules) = false ∧ ∃ xs : List (List Key × Addr × Value),
      Paired (fun (p : List Key × V) (q : List Key × Addr × Value) => p.1 = q.1 ∧ H q.2.1 = some (.tup (p.1.map kV)) ∧ RelV p.2 q.2.2) kvs xs ∧
      ∃ o es ep, h.get? a = some o ∧ o.ExactDict ∧ o.data = .dict es ep ∧ es.toList = xs.map (entryOfKey (tupleKind (mixKind P w))) ∧ (xs.map (·.1)).Nodup
  | .set S n => h.SetOf (intKind P w) a S n
  | .ins C dx fs => H dx = some (.own a) ∧ fs.length ≤ 1000 ∧ dx ≠ a ∧ h.get? a = some (PySem.W.instObj C dx) ∧
      ∃ mA, h.Ns1 dx mA ∧ (∀ f, RelO (fs.lookup f) (mA f)) ∧ PySem.Within mA (fs.map (·.1))
  | .own _ => ∃ o, h.get? a = some o
  | .xd fs => ∃ mA, h.Ns1 a mA ∧ ∀ f, RelO (fs.lookup f) (mA f)
  | .rng lo hi => ∃ t u v, h.get? a = some { cls := .type "range", data := .fields #[.int lo t, .int hi u, .int 1 v] }
  | .frz o u => h.get? a = some o ∧ ObjOk H h a u
  | .tbl ps => h.get? a = some { cls := .none, data := .fields ps }
  | .met f x => h.get? a = some (PySem.W.methodObj (.ref f) (.ref x))
  | .ext φ => φ h ∧ (∃ o, h.get? a = some o) ∧ ∀ h1 h2 : Heap, φ h1 → (∀ o, h1.get? a = some o → h2.get? a = some o) → φ h2
/-- the abstract heap is held -/
def HOk (H : Hp) (h : Heap) : Prop := ∀ a o, H a = some o → ObjOk P w H h a o
end

section
variable {P : Program} {w : World} {H H' : Hp} {h h' : Heap} {a : Addr} {o : HO}
theorem ObjOk.lt (x : ObjOk P w H h a o) : a < h.objs.size := by
  cases o with
  | lst xs => obtain ⟨_, _, _, _, e⟩ := x; exact Heap.lt_size e
  | tup xs => obtain ⟨_, _, _, p⟩ := x; exact p.lt
  | dK kvs => obtain ⟨_, _, _, _, o, _, _, e, _⟩ := x; exact Heap.lt_size e
  | dT kvs => obtain ⟨_, _, _, _, o, _, _, e, _⟩ := x; exact Heap.lt_size e
  | set S n => obtain ⟨o, _, _, _, e, _⟩ := x; exact Heap.lt_size e
  | ins C dx fs => obtain ⟨_, _, _, e, _⟩ := x; exact Heap.lt_size e
  | own y => obtain ⟨_, e⟩ := x; exact Heap.lt_size e
  | xd fs => obtain ⟨_, ⟨_, _, _, e, _⟩, _⟩ := x; exact Heap.lt_size e
  | rng lo hi => obtain ⟨_, _, _, e⟩ := x; exact Heap.lt_size e
  | frz ob u => obtain ⟨e, _⟩ := x; exact Heap.lt_size e
  | tbl ps => exact Heap.lt_size (show h.get? a = some _ from x)
  | met f y => exact Heap.lt_size (show h.get? a = some _ from x)
  | ext φ => obtain ⟨_, ⟨_, e⟩, _⟩ := x; exact Heap.lt_size e
theorem Paired.mapP {α β : Type} {F G : α → β → Prop} : ∀ {l₁ : List α} {l₂ : List β}, Paired F l₁ l₂ → (∀ a b, F a b → G a b) → Paired G l₁ l₂
  | _, _, .nil, _ => .nil
  | _, _, .cons r t, f => .cons (f _ _ r) (Paired.mapP t f)
theorem Paired.imp' {α β : Type} {F G : α → β → Prop} (f : ∀ a b, F a b → G a b) {l₁ : List α} {l₂ : List β} (r : Paired F l₁ l₂) : Paired G l₁ l₂ := Paired.mapP r f
/-- what an object's description leans on: its own object, its own dict, the tuples -/
theorem ObjOk.stay (x : ObjOk P w H h a o) (k : ∀ b u, (b = a ∨ H b = some (.own a)) → h.get? b = some u → h'.get? b = some u)
    (ho : ∀ b, H b = some (.own a) → H' b = some (.own a)) (ht : ∀ b xs, H b = some (.tup xs) → H' b = some (.tup xs)) : ObjOk P w H' h' a o := by
  induction o with
  | lst xs => obtain ⟨z, its, n, r, e⟩ := x; exact ⟨z, its, n, r, k _ _ (.inl rfl) e⟩
  | tup xs => obtain ⟨z, its, r, ob, e, c⟩ := x; exact ⟨z, its, r, ob, k _ _ (.inl rfl) e, c⟩
  | dK kvs => obtain ⟨z, y, vs, r, ob, es, ep, e, c⟩ := x; exact ⟨z, y, vs, r, ob, es, ep, k _ _ (.inl rfl) e, c⟩
  | dT kvs =>
    obtain ⟨z, y, xs, r, ob, es, ep, e, c⟩ := x
    exact ⟨z, y, xs, Paired.mapP r fun p q z => ⟨z.1, ht _ _ z.2.1, z.2.2⟩, ob, es, ep, k _ _ (.inl rfl) e, c⟩
  | set S n => obtain ⟨ob, es, ep, t, e, c⟩ := x; exact ⟨ob, es, ep, t, k _ _ (.inl rfl) e, c⟩
  | ins C dx fs =>
    obtain ⟨d, z, ne, e, mA, ⟨od, es, ep, e2, c⟩, r⟩ := x
    exact ⟨ho _ d, z, ne, k _ _ (.inl rfl) e, mA, ⟨od, es, ep, k _ _ (.inr d) e2, c⟩, r⟩
  | own y => obtain ⟨ob, e⟩ := x; exact ⟨ob, k _ _ (.inl rfl) e⟩
  | xd fs => obtain ⟨mA, ⟨od, es, ep, e, c⟩, r⟩ := x; exact ⟨mA, ⟨od, es, ep, k _ _ (.inl rfl) e, c⟩, r⟩
  | rng lo hi => obtain ⟨t, u, v, e⟩ := x; exact ⟨t, u, v, k _ _ (.inl rfl) e⟩
  | frz ob u ih => obtain ⟨e, q⟩ := x; exact ⟨k _ _ (.inl rfl) e, ih q⟩
  | tbl ps =>
    have e : h.get? a = some { cls := .none, data := .fields ps } := x
    show h'.get? a = some { cls := .none, data := .fields ps }
    exact k a _ (.inl rfl) e
  | met f y =>
    have e : h.get? a = some (PySem.W.methodObj (.ref f) (.ref y)) := x
    show h'.get? a = some (PySem.W.methodObj (.ref f) (.ref y))
    exact k a _ (.inl rfl) e
  | ext φ => obtain ⟨p, ⟨o, e⟩, st⟩ := x; exact ⟨st _ _ p fun o q => k _ _ (.inl rfl) q, ⟨o, k _ _ (.inl rfl) e⟩, st⟩
theorem HOk.lt (x : HOk P w H h) (e : H a = some o) : a < h.objs.size := (x a o e).lt
theorem HOk.fresh (x : HOk P w H h) (e : h.objs.size ≤ a) : H a = none := by
  cases q : H a with
  | none => rfl
  | some u => exact absurd (Nat.lt_of_lt_of_le (x.lt q) e) (Nat.lt_irrefl _)
/-- every object of the heap is kept -/
theorem HOk.kept (x : HOk P w H h) (k : ∀ b u, h.get? b = some u → h'.get? b = some u) : HOk P w H h' := fun a o e =>
  (x a o e).stay (fun b u _ q => k b u q) (fun _ q => q) fun _ _ q => q
/-- a new object is laid and tracked -/
theorem HOk.laid (x : HOk P w H h) (k : ∀ b u, h.get? b = some u → h'.get? b = some u) (hp : h.objs.size ≤ a) (new : ObjOk P w (upd H a o) h' a o) : HOk P w (upd H a o) h' := fun b u e => by
  have hn := x.fresh hp
  by_cases hb : b = a
  · subst hb; rw [upd_same] at e; cases e; exact new
  · rw [upd_ne hb] at e
    exact (x b u e).stay (fun c v _ q => k c v q) (fun c q => by rw [upd_ne (ne_of_none q hn)]; exact q) fun c xs q => by rw [upd_ne (ne_of_none q hn)]; exact q
end

/-- what may be read as u: it is u, or a known u -/
def Rd (H : Hp) (a : Addr) (u : HO) : Prop := H a = some u ∨ ∃ o, H a = some (.frz o u)
theorem Rd.of {H : Hp} {a : Addr} {u : HO} (h : H a = some u) : Rd H a u := .inl h
theorem Rd.ok {P : Program} {w : World} {H : Hp} {h : Heap} {a : Addr} {u : HO} (r : Rd H a u) (x : HOk P w H h) : ObjOk P w H h a u := by
  rcases r with r | ⟨o, r⟩
  · exact x a u r
  · obtain ⟨_, q⟩ := x a _ r
    exact q
/-- what may be written -/
def Mut : Option HO → Prop
  | some (.lst _) => True
  | some (.dK _) => True
  | some (.dT _) => True
  | some (.set _ _) => True
  | some (.ins _ _ _) => True
  | some (.ext _) => True
  | _ => False
section
variable {P : Program} {w : World} {H : Hp} {h h' : Heap} {x e : Addr} {o' : HO}
/-- the object at e is changed: x itself, or the dict of the instance x -/
theorem HOk.write (ok : HOk P w H h) (mu : Mut (H x)) (he : e = x ∨ H e = some (.own x)) (k : ∀ b u, b ≠ e → h.get? b = some u → h'.get? b = some u) (heo : ∃ u, h'.get? e = some u)
    (new : ObjOk P w (upd H x o') h' x o') : HOk P w (upd H x o') h' := fun b u q => by
  have nown : ∀ c y, H c = some (.own y) → c ≠ x := fun c y r z => by subst z; rw [r] at mu; exact mu
  have ntup : ∀ c xs, H c = some (.tup xs) → c ≠ x := fun c xs r z => by subst z; rw [r] at mu; exact mu
  by_cases hb : b = x
  · subst hb; rw [upd_same] at q; cases q; exact new
  · rw [upd_ne hb] at q
    by_cases hbe : b = e
    · have q' : H b = some (.own x) := by
        rcases he with z | z
        · exact absurd (hbe.trans z) hb
        · rw [hbe]; exact z
      rw [q] at q'; cases q'
      obtain ⟨v, hv⟩ := heo
      exact ⟨v, by rw [hbe]; exact hv⟩
    · refine (ok b u q).stay (fun c v hc r => k c v ?_ r) (fun c r => by rw [upd_ne (nown c b r)]; exact r) fun c xs r => by rw [upd_ne (ntup c xs r)]; exact r
      rcases hc with rfl | hc
      · exact hbe
      · rintro rfl
        rcases he with z | z
        · exact nown c b hc z
        · rw [hc] at z; cases z; exact hb rfl
end

/-! ### kept unless tracked; of the frames at fs (the callers') the slots may change (an exception that passes writes there); of the records at ex (iterators) nothing is said -/
structure Un (fs ex : List Addr) (H H' : Hp) (h h' : Heap) : Prop where
  keep : ∀ b o, h.get? b = some o → H b = none → b ∉ fs → b ∉ ex → h'.get? b = some o
  slot : ∀ b o, h.get? b = some o → H b = none → b ∈ fs → b ∉ ex → ∃ sl, h'.get? b = some { o with slots := sl }
  free : ∀ b o, h.get? b = some o → H b = none → b ∉ ex → H' b = none
  there : ∀ b o, h.get? b = some o → b ∉ ex → ∃ o', h'.get? b = some o'
  tups : ∀ b xs, H b = some (.tup xs) → H' b = some (.tup xs)
  frzs : ∀ b o u, H b = some (.frz o u) → H' b = some (.frz o u)
  tbls : ∀ b ps, H b = some (.tbl ps) → ∃ more, H' b = some (.tbl (ps ++ more))
section
variable {fs fs' ex ex' : List Addr} {H H1 H2 : Hp} {h h1 h2 h' : Heap} {a x e : Addr} {o : HO}
theorem Un.any (u : Un fs ex H H1 h h1) {b : Addr} {ob : Obj} (q : h.get? b = some ob) (n : H b = none) (hx : b ∉ ex) : ∃ sl, h1.get? b = some { ob with slots := sl } := by
  by_cases hb : b ∈ fs
  · exact u.slot b ob q n hb hx
  · exact ⟨ob.slots, u.keep b ob q n hb hx⟩
theorem Un.trans (a : Un fs ex H H1 h h1) (b : Un fs ex H1 H2 h1 h2) : Un fs ex H H2 h h2 where
  keep := fun c ob q n hc hx => b.keep c ob (a.keep c ob q n hc hx) (a.free c ob q n hx) hc hx
  slot := fun c ob q n hc hx => by
    obtain ⟨sl, e1⟩ := a.slot c ob q n hc hx
    obtain ⟨sl', e2⟩ := b.slot c _ e1 (a.free c ob q n hx) hc hx
    exact ⟨sl', e2⟩
  free := fun c ob q n hx => by
    obtain ⟨o', e1⟩ := a.there c ob q hx
    exact b.free c o' e1 (a.free c ob q n hx) hx
  there := fun c ob q hx => by
    obtain ⟨o', e1⟩ := a.there c ob q hx
    exact b.there c o' e1 hx
  tups := fun c xs q => b.tups c xs (a.tups c xs q)
  frzs := fun c ob xs q => b.frzs c ob xs (a.frzs c ob xs q)
  tbls := fun c ps q => by
    obtain ⟨m1, e1⟩ := a.tbls c ps q
    obtain ⟨m2, e2⟩ := b.tbls c _ e1
    exact ⟨m1 ++ m2, by rw [e2, Array.append_assoc]⟩
theorem Un.kept (k : ∀ b u, h.get? b = some u → h'.get? b = some u) : Un fs ex H H h h' :=
  ⟨fun b ob q _ _ _ => k b ob q, fun b ob q _ _ _ => ⟨ob.slots, k b ob q⟩, fun _ _ _ n _ => n, fun b ob q _ => ⟨ob, k b ob q⟩, fun _ _ q => q, fun _ _ _ q => q, fun _ ps q => ⟨#[], by rw [q]; simp⟩⟩
theorem Un.refl : Un fs ex H H h h := Un.kept fun _ _ q => q
theorem Un.laid (k : ∀ b u, h.get? b = some u → h'.get? b = some u) (hp : h.objs.size ≤ a) (hn : H a = none) : Un fs ex H (upd H a o) h h' where
  keep := fun b u q _ _ _ => k b u q
  slot := fun b u q _ _ _ => ⟨u.slots, k b u q⟩
  free := fun b u q n _ => by rw [upd_ne (Nat.ne_of_lt (Nat.lt_of_lt_of_le (Heap.lt_size q) hp))]; exact n
  there := fun b u q _ => ⟨u, k b u q⟩
  tups := fun b xs q => by rw [upd_ne (ne_of_none q hn)]; exact q
  frzs := fun b u xs q => by rw [upd_ne (ne_of_none q hn)]; exact q
  tbls := fun b ps q => ⟨#[], by rw [upd_ne (ne_of_none q hn), q]; simp⟩
theorem Un.write (mu : Mut (H x)) (he : e = x ∨ H e = some (.own x)) (k : ∀ b u, b ≠ e → h.get? b = some u → h'.get? b = some u) (heo : ∃ u, h'.get? e = some u) : Un fs ex H (upd H x o) h h' := by
  have hx : ∀ b, H b = none → b ≠ x := fun b n z => by subst z; rw [n] at mu; exact mu
  have hb : ∀ b, H b = none → b ≠ e := fun b n z => by
    subst z
    rcases he with r | r
    · exact hx b n r
    · rw [n] at r; cases r
  have hm : ∀ b u, H b = some u → ¬ Mut (some u) → b ≠ x := fun b u q nm z => by subst z; rw [q] at mu; exact nm mu
  refine ⟨fun b u q n _ _ => k b u (hb b n) q, fun b u q n _ _ => ⟨u.slots, k b u (hb b n) q⟩, fun b u q n _ => by rw [upd_ne (hx b n)]; exact n, fun b u q _ => ?_,
    fun b xs q => by rw [upd_ne (hm b _ q fun z => z)]; exact q, fun b u xs q => by rw [upd_ne (hm b _ q fun z => z)]; exact q, fun b ps q => ⟨#[], by rw [upd_ne (hm b _ q fun z => z), q]; simp⟩⟩
  by_cases hbe : b = e
  · subst hbe; exact heo
  · exact ⟨u, k b u hbe q⟩
theorem Un.mono (u : Un fs ex H H1 h h1) (hs : ∀ b ∈ fs, b ∈ fs') (hx : ∀ b ∈ ex, b ∈ ex') : Un fs' ex' H H1 h h1 :=
  ⟨fun b ob q n hb he => u.keep b ob q n (fun z => hb (hs b z)) fun z => he (hx b z), fun _ _ q n _ he => u.any q n fun z => he (hx _ z), fun b ob q n he => u.free b ob q n fun z => he (hx b z), fun b ob q he => u.there b ob q fun z => he (hx b z), u.tups, u.frzs, u.tbls⟩
end

/-! ### the heap without what is tracked -/
def trk (h : Heap) (H : Hp) : List Addr := (List.range h.objs.size).filter fun a => (H a).isSome
def hidT (h : Heap) (H : Hp) : Heap := PySem.W.hideAll h (trk h H)
theorem hidT_size (h : Heap) (H : Hp) : (hidT h H).objs.size = h.objs.size := PySem.W.hideAll_size _ _
theorem hidT_get {h : Heap} {H : Hp} {b : Addr} {o : Obj} (e : h.get? b = some o) (n : H b = none) : (hidT h H).get? b = some o :=
  PySem.W.hideAll_get _ e fun hm => by
    have q : (H b).isSome = true := (List.mem_filter.mp hm).2
    rw [n] at q; simp at q
theorem of_hidT {h : Heap} {H : Hp} {b : Addr} {o : Obj} (e : (hidT h H).get? b = some o) : h.get? b = some o ∧ H b = none := by
  have e' : h.get? b = some o := PySem.W.of_hideAll (trk h H) e
  refine ⟨e', ?_⟩
  cases q : H b with
  | none => rfl
  | some x =>
    have hm : b ∈ trk h H := List.mem_filter.mpr ⟨List.mem_range.mpr (Heap.lt_size e'), by simp [q]⟩
    have z : (hidT h H).get? b = none := PySem.W.hideAll_none (trk h H) hm
    rw [z] at e; cases e

/-! ### OpenK's ledger, filled with every new object but one -/
def allNews (g h : Heap) (L : Addr) : List (Addr × Obj) := (List.range h.objs.size).filterMap fun a => if a = L ∨ (g.get? a).isSome = true then none else (h.get? a).map fun o => (a, o)
theorem mem_allNews {g h : Heap} {L a : Addr} {o : Obj} (h1 : a ≠ L) (h2 : g.get? a = none) (h3 : h.get? a = some o) : (a, o) ∈ allNews g h L :=
  List.mem_filterMap.mpr ⟨a, List.mem_range.mpr (Heap.lt_size h3), by simp [h1, h2, h3]⟩
theorem of_mem_allNews {g h : Heap} {L : Addr} {p : Addr × Obj} (hp : p ∈ allNews g h L) : p.1 ≠ L ∧ g.get? p.1 = none ∧ h.get? p.1 = some p.2 := by
  obtain ⟨b, _, e⟩ := List.mem_filterMap.mp hp
  split at e
  · cases e
  · rename_i hn
    cases q : h.get? b with
    | none => rw [q] at e; simp at e
    | some u =>
      rw [q] at e
      simp only [Option.map_some, Option.some.injEq] at e
      subst e
      refine ⟨fun z => hn (.inl z), ?_, q⟩
      show g.get? b = none
      cases r : g.get? b with
      | none => rfl
      | some v => exact (hn (.inr (by simp [r]))).elim
def rest (g h : Heap) (L d : Addr) : List (Addr × Obj) := (allNews g h L).filter fun p => decide (p.1 ≠ d)
theorem rest_ne {g h : Heap} {L d : Addr} : ∀ p ∈ rest g h L d, p.1 ≠ d := fun p hp => of_decide_eq_true (List.mem_filter.mp hp).2
theorem mem_rest {g h : Heap} {L d a : Addr} {o : Obj} (h1 : a ≠ L) (h2 : g.get? a = none) (h3 : h.get? a = some o) (h4 : a ≠ d) : (a, o) ∈ rest g h L d :=
  List.mem_filter.mpr ⟨mem_allNews h1 h2 h3, decide_eq_true h4⟩
theorem news_all {g h : Heap} {L : Addr} : News g L h (allNews g h L) := fun p hp => let ⟨a, b, c⟩ := of_mem_allNews hp; ⟨c, a, b⟩
theorem news_at {g h : Heap} {L d : Addr} {o : Obj} (h1 : d ≠ L) (h2 : g.get? d = none) (h3 : h.get? d = some o) : News g L h ((d, o) :: rest g h L d) := fun p hp => by
  rcases List.mem_cons.mp hp with rfl | hp
  · exact ⟨h3, h1, h2⟩
  · exact news_all p (List.mem_filter.mp hp).1
/-- behind a rule that changed d alone: all else but the frame is kept -/
theorem kept_of_news {g h h' : Heap} {L d : Addr} {m : Str → Option Value} (k : ∀ b o, g.get? b = some o → h.get? b = some o) (F : Fr g L h' m) (N : News g L h' (rest g h L d)) :
    ∀ b o, b ≠ L → b ≠ d → h.get? b = some o → h'.get? b = some o := fun b o h1 h2 e => by
  cases q : g.get? b with
  | some u =>
    have := k b u q
    rw [e] at this; cases this
    exact F.keep b _ q
  | none => exact (N (b, o) (mem_rest h1 q e h2)).1
end L2

namespace L2
open PySem PySem.Spec PyProof.Rows

/-- the module's facts, over the base: the heap at the law's entry without what is tracked there -/
structure Mod (K : PySem.W.Frag) (mg : Str → Option Value) (base : Heap) : Prop where
  kin : K.In base
  glob : base.Ns mainGlobals mg
  blt : ∃ mb, base.Ns builtinsNs mb ∧ ∀ x : Str, x ≠ "__name__" → mb x = bootBuiltins x
  nolimit : base.NoLimit

/-- the context: a def's body (or a comprehension's block) running. base: fixed through the whole law; s₀, H₀: the entry; outer: the frames whose slots others may change (a def's callers); stack: all frames that run;
   ex: iterators that were made ahead of the entry and are walked here (a comprehension's); fn: the names whose cells were made at the entry (a def: all; a comprehension's block: its own); calm: not within an except suite; pn: pins that every state bears; xe: what is wanted of an exception that leaves the code -/
structure Cx where
  prog : Program
  w : World
  K : PySem.W.Frag
  mg : Str → Option Value
  base : Heap
  A : Around
  N : List Str
  s₀ : Shared
  H₀ : Hp
  env : Env
  outer : List Env
  stack : List Env
  ex : List Addr
  fn : Str → Bool
  calm : Bool
  pn : List (Addr × Obj)
  xe : Value → Shared → Prop
/-- the callers' frames -/
def frs (l : List Env) : List Addr := l.filterMap (·.frame)
abbrev Cx.fs (X : Cx) : List Addr := frs X.outer

def Vis (sc : Scope) (x : Str) : Prop := sc.names.lookup x = some .local ∨ sc.names.lookup x = some .cell ∨ sc.names.lookup x = some .free
def Loc (sc : Scope) (x : Str) : Prop := sc.names.lookup x = some .local ∨ sc.names.lookup x = some .cell
def Look (env : Env) (h : Heap) (m : Str → Option Value) (x : Str) (u : Value) : Prop :=
  (env.kindOf x = some .local ∧ m x = some u) ∨ ((env.kindOf x = some .cell ∨ env.kindOf x = some .free) ∧ ∃ c, env.cells.lookup x = some c ∧ h.IsCell c (some u))

structure Cx.Ok (X : Cx) : Prop where
  mod : Mod X.K X.mg X.base
  kind : X.env.scope.kind = .function
  glob : X.env.globals = mainGlobals
  blt : X.env.builtins = builtinsNs
  above : X.s₀.heap.objs.size ≤ X.env.locals
  inj : ∀ x y c, X.env.cells.lookup x = some c → X.env.cells.lookup y = some c → x = y
  has : ∀ x, (X.env.kindOf x = some .cell ∨ X.env.kindOf x = some .free) → ∃ c, X.env.cells.lookup x = some c
  cab : ∀ x c, X.fn x = true → X.env.cells.lookup x = some c → X.s₀.heap.objs.size ≤ c
  hd : X.calm = true → X.A.handled = none
  frames : X.A.frames = some X.stack
  stk : X.stack = X.outer ∨ (X.stack = X.env :: X.outer ∧ X.env.frame = some X.env.locals)
  exf : ∀ b ∈ X.ex, b ≠ X.env.locals ∧ ∀ x c, X.env.cells.lookup x = some c → c ≠ b
  bs : ∀ b o, X.base.get? b = some o → X.s₀.heap.get? b = some o ∧ X.H₀ b = none
  bsz : X.base.objs.size ≤ X.s₀.heap.objs.size
  noex : ∀ b o, X.base.get? b = some o → b ∉ X.ex
  exfs : ∀ b ∈ X.ex, b ∉ X.fs
  funs : X.s₀.heap.FunFrames X.base X.outer
  frf : ∀ b ∈ X.fs, X.H₀ b = none

structure Inv (X : Cx) (pins : List (Addr × Obj)) (σ : List (Option V)) (H : Hp) (s : Shared) : Prop where
  ok : X.Ok
  os : s.os = X.s₀.os
  bare : AllBare s.gens
  base : Un X.fs X.ex X.H₀ H X.s₀.heap s.heap
  loc : ∃ m, s.heap.Ns X.env.locals m ∧ ∀ (i : Nat) (x : Str) (v : V), X.N[i]? = some x → σ[i]? = some (some v) → Vis X.env.scope x → ∃ u, RelV v u ∧ Look X.env s.heap m x u
  cell : ∀ x c, X.env.cells.lookup x = some c → ∃ v, s.heap.IsCell c v
  free : H X.env.locals = none
  freeC : ∀ x c, X.env.cells.lookup x = some c → H c = none
  pin : ∀ p ∈ X.pn ++ pins, s.heap.get? p.1 = some p.2 ∧ H p.1 = none ∧ p.1 ≠ X.env.locals ∧ p.1 ∉ X.fs ∧ ∀ v, p.2.data ≠ .cell v
  hok : HOk X.prog X.w H s.heap
  len : σ.length = X.N.length

section
variable {X : Cx} {pins : List (Addr × Obj)} {σ : List (Option V)} {H H' : Hp} {s : Shared} {h' : Heap}

theorem Cx.Ok.nofr (ok : X.Ok) {b : Addr} {o : Obj} (e : X.base.get? b = some o) : b ∉ X.fs := fun hb => by
  have := (ok.funs.mem hb).1
  rw [e] at this; cases this
theorem Inv.bs (I : Inv X pins σ H s) : ∀ b o, X.base.get? b = some o → s.heap.get? b = some o ∧ H b = none := fun b o e =>
  ⟨I.base.keep b o (I.ok.bs b o e).1 (I.ok.bs b o e).2 (I.ok.nofr e) (I.ok.noex b o e), I.base.free b o (I.ok.bs b o e).1 (I.ok.bs b o e).2 (I.ok.noex b o e)⟩
theorem Inv.bk (I : Inv X pins σ H s) : ∀ b o, X.base.get? b = some o → s.heap.get? b = some o := fun b o e => (I.bs b o e).1
theorem Inv.mod (I : Inv X pins σ H s) : Mod X.K X.mg X.base := I.ok.mod
theorem Inv.kIn (I : Inv X pins σ H s) : X.K.In s.heap := I.ok.mod.kin.keeps I.bk
theorem Inv.nolimit (I : Inv X pins σ H s) : s.heap.NoLimit := I.ok.mod.nolimit.keeps I.bk
/-- the frame over the base: for OpenK's rules (K.In X.base is I.mod.kin) -/
theorem Inv.fr (I : Inv X pins σ H s) : ∃ m, Fr X.base X.env.locals s.heap m :=
  let ⟨m, hn, _⟩ := I.loc
  ⟨m, hn, I.bk, Nat.le_trans I.ok.bsz I.ok.above⟩
theorem Inv.lt (I : Inv X pins σ H s) : X.env.locals < s.heap.objs.size := let ⟨_, hn, _⟩ := I.loc; hn.lt
theorem Inv.sz (I : Inv X pins σ H s) : X.s₀.heap.objs.size ≤ s.heap.objs.size := Nat.le_trans I.ok.above (Nat.le_of_lt I.lt)
theorem Inv.nofs (I : Inv X pins σ H s) {a : Addr} (h : s.heap.objs.size ≤ a) : a ∉ X.fs := fun hb => by
  obtain ⟨_, o, ho, _⟩ := I.ok.funs.mem hb
  exact absurd (Nat.lt_of_lt_of_le (Heap.lt_size ho) (Nat.le_trans I.sz h)) (Nat.lt_irrefl _)
theorem Inv.cne (I : Inv X pins σ H s) : ∀ x c, X.env.cells.lookup x = some c → c ≠ X.env.locals := fun x c e z => by
  obtain ⟨v, o, ho, hd⟩ := I.cell x c e
  obtain ⟨m, ⟨o', es, ep, ho', hd', _⟩, _⟩ := I.loc
  rw [z, ho'] at ho; cases ho; rw [hd'] at hd; cases hd
theorem Inv.funs (I : Inv X pins σ H s) : s.heap.FunFrames X.base X.outer := by
  have all : ∀ (l : List Env), (∀ b ∈ frs l, b ∈ X.fs) → X.s₀.heap.FunFrames X.base l → s.heap.FunFrames X.base l := by
    intro l
    induction l with
    | nil => intro _ _; trivial
    | cons env r ih =>
      intro hs hl
      obtain ⟨hk, ⟨L, o, hf, hn, ho, hd⟩, hr⟩ := hl
      have hL : L ∈ X.fs := hs L (by unfold frs; rw [List.filterMap_cons, hf]; exact List.mem_cons_self)
      obtain ⟨sl, e⟩ := I.base.slot L o ho (I.ok.frf L hL) hL fun z => I.ok.exfs L z hL
      exact ⟨hk, ⟨L, _, hf, hn, e, hd⟩, ih (fun b hb => hs b (by unfold frs; rw [List.filterMap_cons, hf]; exact List.mem_cons_of_mem _ hb)) hr⟩
  exact all X.outer (fun _ hb => hb) I.ok.funs

/-- the frames that run, for a call -/
theorem Inv.stack (I : Inv X pins σ H s) : s.heap.FunFrames X.base X.stack := by
  rcases I.ok.stk with e | ⟨e, hf⟩
  · rw [e]; exact I.funs
  · rw [e]
    obtain ⟨m, hn, _⟩ := I.loc
    refine .cons (by rw [I.ok.kind]; decide) hf hn ?_ I.funs
    exact Heap.get?_none_of_le (Nat.le_trans I.ok.bsz I.ok.above)
theorem Inv.stkSub (I : Inv X pins σ H s) : ∀ b ∈ frs X.stack, b ∈ X.env.locals :: X.fs := fun b hb => by
  rcases I.ok.stk with e | ⟨e, hf⟩
  · rw [e] at hb; exact List.mem_cons_of_mem _ hb
  · rw [e] at hb
    unfold frs at hb
    rw [List.filterMap_cons, hf] at hb
    exact hb
theorem Inv.stkFree (I : Inv X pins σ H s) : ∀ b ∈ frs X.stack, H b = none := fun b hb => by
  rcases List.mem_cons.mp (I.stkSub b hb) with e | hb
  · rw [e]; exact I.free
  · obtain ⟨_, o, ho, _⟩ := I.ok.funs.mem hb
    exact I.base.free b o ho (I.ok.frf b hb) fun z => I.ok.exfs b z hb

/-- THE STEP: the untracked objects but the frame and the records at ch are kept (the callers' frames up to slots), the frame's map is kept, the new abstract heap is held -/
theorem Inv.step {g' : Array GenState} {t' : Nat} {d' : Drawn} {ch : List Addr} (I : Inv X pins σ H s)
    (hch : ∀ b ∈ ch, (b ∈ X.ex ∨ X.s₀.heap.objs.size ≤ b) ∧ b ≠ X.env.locals ∧ (∀ x c, X.env.cells.lookup x = some c → c ≠ b) ∧ ∀ p ∈ X.pn ++ pins, p.1 ≠ b)
    (keep : ∀ b o, b ≠ X.env.locals → b ∉ X.fs → b ∉ ch → s.heap.get? b = some o → H b = none → h'.get? b = some o)
    (slot : ∀ b o, b ≠ X.env.locals → b ∈ X.fs → b ∉ ch → s.heap.get? b = some o → H b = none → ∃ sl, h'.get? b = some { o with slots := sl }) (free : ∀ b o, b ∉ ch → s.heap.get? b = some o → H b = none → H' b = none)
    (there : ∀ b o, b ∉ ch → s.heap.get? b = some o → ∃ o', h'.get? b = some o')
    (tups : ∀ b xs, H b = some (.tup xs) → H' b = some (.tup xs)) (frzs : ∀ b o u, H b = some (.frz o u) → H' b = some (.frz o u)) (tbls : ∀ b ps, H b = some (.tbl ps) → ∃ more, H' b = some (.tbl (ps ++ more)))
    (ns : ∀ m, s.heap.Ns X.env.locals m → h'.Ns X.env.locals m) (hok : HOk X.prog X.w H' h') (hg : AllBare g') :
    Inv X pins σ H' { s with heap := h', gens := g', drawn := d', toks := t' } := by
  have neL : ∀ b o, X.s₀.heap.get? b = some o → b ≠ X.env.locals := fun b o e => Nat.ne_of_lt (Nat.lt_of_lt_of_le (Heap.lt_size e) I.ok.above)
  have neC : ∀ b o, X.s₀.heap.get? b = some o → b ∉ X.ex → b ∉ ch := fun b o e hx hb => by
    rcases (hch b hb).1 with z | z
    · exact hx z
    · exact absurd (Nat.lt_of_lt_of_le (Heap.lt_size e) z) (Nat.lt_irrefl _)
  have cellK : ∀ x c, X.env.cells.lookup x = some c → ∀ v, s.heap.IsCell c v → h'.IsCell c v := fun x c e v ⟨o, ho, hd⟩ => by
    have nch : c ∉ ch := fun z => (hch c z).2.2.1 x c e rfl
    by_cases hc : c ∈ X.fs
    · obtain ⟨sl, q⟩ := slot c o (I.cne x c e) hc nch ho (I.freeC x c e)
      exact ⟨_, q, hd⟩
    · exact ⟨o, keep c o (I.cne x c e) hc nch ho (I.freeC x c e), hd⟩
  refine ⟨I.ok, I.os, hg, ⟨fun b o e n hb hx => ?_, fun b o e n hb hx => ?_, fun b o e n hx => ?_, fun b o e hx => ?_, fun b xs e => tups b xs (I.base.tups b xs e), fun b o xs e => frzs b o xs (I.base.frzs b o xs e), fun b ps e => ?_⟩, ?_, fun x c e => ?_, ?_, fun x c e => ?_, fun p hp => ?_, hok, I.len⟩
  · exact keep b o (neL b o e) hb (neC b o e hx) (I.base.keep b o e n hb hx) (I.base.free b o e n hx)
  · obtain ⟨sl, e1⟩ := I.base.slot b o e n hb hx
    obtain ⟨sl', e2⟩ := slot b _ (neL b o e) hb (neC b o e hx) e1 (I.base.free b o e n hx)
    exact ⟨sl', e2⟩
  · obtain ⟨o', e1⟩ := I.base.there b o e hx
    exact free b o' (neC b o e hx) e1 (I.base.free b o e n hx)
  · obtain ⟨o', e1⟩ := I.base.there b o e hx
    exact there b o' (neC b o e hx) e1
  · obtain ⟨m1, e1⟩ := I.base.tbls b ps e
    obtain ⟨m2, e2⟩ := tbls b _ e1
    exact ⟨m1 ++ m2, by rw [e2, Array.append_assoc]⟩
  · obtain ⟨m, hn, hl⟩ := I.loc
    refine ⟨m, ns m hn, fun i x v e1 e2 e3 => ?_⟩
    obtain ⟨u, r, l⟩ := hl i x v e1 e2 e3
    refine ⟨u, r, ?_⟩
    rcases l with l | ⟨k, c, e, z⟩
    · exact .inl l
    · exact .inr ⟨k, c, e, cellK x c e _ z⟩
  · obtain ⟨v, z⟩ := I.cell x c e
    exact ⟨v, cellK x c e v z⟩
  · obtain ⟨m, ⟨o, _, _, ho, _⟩, _⟩ := I.loc
    exact free _ o (fun z => (hch _ z).2.1 rfl) ho I.free
  · obtain ⟨v, o, ho, hd⟩ := I.cell x c e
    exact free c o (fun z => (hch c z).2.2.1 x c e rfl) ho (I.freeC x c e)
  · obtain ⟨e, n, ne, nf, d⟩ := I.pin p hp
    have nch : p.1 ∉ ch := fun z => (hch p.1 z).2.2.2 p hp rfl
    exact ⟨keep p.1 p.2 ne nf nch e n, free p.1 p.2 nch e n, ne, nf, d⟩
/-- .. where the frame's own object is kept too -/
theorem Inv.un {t' : Nat} (I : Inv X pins σ H s) (u : Un X.fs [] H H' s.heap h') (hok : HOk X.prog X.w H' h') : Inv X pins σ H' { s with heap := h', toks := t' } := by
  obtain ⟨m, ⟨o, es, ep, ho, r⟩, _⟩ := id I.loc
  obtain ⟨sl, hL⟩ := u.any ho I.free (by simp)
  exact I.step (g' := s.gens) (d' := s.drawn) (ch := []) (fun _ z => nomatch z) (fun b o _ hb _ e n => u.keep b o e n hb (by simp)) (fun b o _ hb _ e n => u.slot b o e n hb (by simp)) (fun b o _ e n => u.free b o e n (by simp)) (fun b o _ e => u.there b o e (by simp)) u.tups u.frzs u.tbls (fun m' hm => by
    obtain ⟨o', es', ep', ho', r'⟩ := hm
    rw [ho] at ho'; cases ho'
    exact ⟨_, es', ep', hL, r'⟩) hok I.bare
/-- behind a call (or a comprehension's block): the slots of this frame may have changed too, the records at ch may have turned -/
theorem Inv.call {g' : Array GenState} {t' : Nat} {d' : Drawn} {ch : List Addr} (I : Inv X pins σ H s) (u : Un (frs X.stack) ch H H' s.heap h') (hok : HOk X.prog X.w H' h') (hg : AllBare g')
    (hch : ∀ b ∈ ch, (b ∈ X.ex ∨ X.s₀.heap.objs.size ≤ b) ∧ b ≠ X.env.locals ∧ (∀ x c, X.env.cells.lookup x = some c → c ≠ b) ∧ ∀ p ∈ X.pn ++ pins, p.1 ≠ b) :
    Inv X pins σ H' { s with heap := h', gens := g', drawn := d', toks := t' } := by
  obtain ⟨m, ⟨o, es, ep, ho, r⟩, _⟩ := id I.loc
  obtain ⟨sl, hL⟩ := u.any ho I.free fun z => (hch _ z).2.1 rfl
  exact I.step (ch := ch) hch (fun b o hL hb hc e n => u.keep b o e n (fun z => (List.mem_cons.mp (I.stkSub b z)).elim hL hb) hc) (fun b o _ _ hc e n => u.any e n hc) (fun b o hc e n => u.free b o e n hc) (fun b o hc e => u.there b o e hc) u.tups u.frzs u.tbls (fun m' hm => by
    obtain ⟨o', es', ep', ho', r'⟩ := hm
    rw [ho] at ho'; cases ho'
    exact ⟨_, es', ep', hL, r'⟩) hok hg
/-- an untracked record of ours (an iterator) has turned -/
theorem Inv.turned {t' : Nat} {it : Addr} (I : Inv X pins σ H s) (k : ∀ b o, b ≠ it → s.heap.get? b = some o → h'.get? b = some o) (hn : H it = none) (hL : it ≠ X.env.locals)
    (h1 : it ∈ X.ex ∨ X.s₀.heap.objs.size ≤ it) (h2 : ∀ x c, X.env.cells.lookup x = some c → c ≠ it) (h3 : ∀ p ∈ X.pn ++ pins, p.1 ≠ it) : Inv X pins σ H { s with heap := h', toks := t' } := by
  have nit : ∀ b u, H b = some u → b ≠ it := fun b u e z => by rw [z, hn] at e; cases e
  refine I.step (g' := s.gens) (d' := s.drawn) (ch := [it]) (fun b hb => ?_) (fun b o _ _ hc e _ => k b o (fun z => hc (by simp [z])) e) (fun b o _ _ hc e _ => ⟨o.slots, k b o (fun z => hc (by simp [z])) e⟩) (fun _ _ _ _ n => n)
    (fun b o hc e => ⟨o, k b o (fun z => hc (by simp [z])) e⟩) (fun _ _ e => e) (fun _ _ _ e => e) (fun b ps e => ⟨#[], by rw [e]; simp⟩) (fun m hm => ?_) (fun b u e => ?_) I.bare
  · have e : b = it := by simpa using hb
    subst e
    exact ⟨h1, hL, h2, h3⟩
  · obtain ⟨o, es, ep, ho, r⟩ := hm
    exact ⟨o, es, ep, k _ o (Ne.symm hL) ho, r⟩
  · refine (I.hok b u e).stay (fun c v hc q => k c v ?_ q) (fun _ q => q) fun _ _ q => q
    rcases hc with z | z
    · rw [z]; exact nit b u e
    · exact nit c _ z
theorem Inv.tok (I : Inv X pins σ H s) (t : Nat) : Inv X pins σ H { s with toks := t } := I.un (h' := s.heap) (t' := t) Un.refl I.hok
/-- all objects kept -/
theorem Inv.kept {t' : Nat} (I : Inv X pins σ H s) (k : ∀ b u, s.heap.get? b = some u → h'.get? b = some u) : Inv X pins σ H { s with heap := h', toks := t' } := I.un (Un.kept k) (I.hok.kept k)
/-- a new object laid and tracked -/
theorem Inv.laid {a : Addr} {o : HO} {t' : Nat} (I : Inv X pins σ H s) (k : ∀ b u, s.heap.get? b = some u → h'.get? b = some u) (hp : s.heap.objs.size ≤ a) (new : ObjOk X.prog X.w (upd H a o) h' a o) :
    Inv X pins σ (upd H a o) { s with heap := h', toks := t' } := I.un (Un.laid k hp (I.hok.fresh hp)) (I.hok.laid k hp new)
/-- an object written -/
theorem Inv.write {x e : Addr} {o : HO} {t' : Nat} (I : Inv X pins σ H s) (mu : Mut (H x)) (he : e = x ∨ H e = some (.own x)) (k : ∀ b u, b ≠ e → s.heap.get? b = some u → h'.get? b = some u) (heo : ∃ u, h'.get? e = some u)
    (new : ObjOk X.prog X.w (upd H x o) h' x o) : Inv X pins σ (upd H x o) { s with heap := h', toks := t' } := I.un (Un.write mu he k heo) (I.hok.write mu he k heo new)
/-- forgetting slots, pins -/
theorem Inv.weak {σ' : List (Option V)} (I : Inv X pins σ H s) (hl : σ'.length = σ.length) (w : ∀ (i : Nat) v, σ'[i]? = some (some v) → σ[i]? = some (some v)) : Inv X pins σ' H s :=
  ⟨I.ok, I.os, I.bare, I.base, let ⟨m, hn, hl'⟩ := I.loc; ⟨m, hn, fun i x v e1 e2 e3 => hl' i x v e1 (w i v e2) e3⟩, I.cell, I.free, I.freeC, I.pin, I.hok, hl.trans I.len⟩
theorem Inv.pins_of {pins' : List (Addr × Obj)} (I : Inv X pins σ H s) (h : ∀ p ∈ pins', s.heap.get? p.1 = some p.2 ∧ H p.1 = none ∧ p.1 ≠ X.env.locals ∧ p.1 ∉ X.fs ∧ ∀ v, p.2.data ≠ .cell v) : Inv X pins' σ H s :=
  ⟨I.ok, I.os, I.bare, I.base, I.loc, I.cell, I.free, I.freeC, fun p hp => (List.mem_append.mp hp).elim (fun z => I.pin p (List.mem_append_left _ z)) (h p), I.hok, I.len⟩

theorem nodup_ix {N : List Str} (hN : N.Nodup) {i j : Nat} {x : Str} (a : N[i]? = some x) (b : N[j]? = some x) : i = j := by
  obtain ⟨h1, e1⟩ := List.getElem?_eq_some_iff.mp a
  obtain ⟨h2, e2⟩ := List.getElem?_eq_some_iff.mp b
  exact (List.getElem_inj hN).mp (e1.trans e2.symm)

/-- a name is stored; what changed -/
theorem store_ok2 {M : Model} {A : Around} {E : Value → Shared → Prop} {i : Nat} {x : Str} {v : V} {u : Value} {Q : Unit → Shared → Prop} (I : Inv X pins σ H s) (hN : X.N.Nodup) (hi : X.N[i]? = some x) (hx : Loc X.env.scope x) (r : RelV v u)
    (h : ∀ s', Inv X pins (σ.set i (some v)) H s' → (∃ a, Heap.SameBut a s.heap s'.heap ∧ (a = X.env.locals ∨ X.env.cells.lookup x = some a)) → Q () s') (hf : X.fn x = true ∨ X.env.scope.names.lookup x = some .local := by first | exact .inl rfl | exact .inr rfl | assumption) : wpAny M A (storeName X.env x u) Q E s := by
  obtain ⟨m, hn, hl⟩ := id I.loc
  have hcls : (X.env.scope.kind == .class || (X.env.scope.kind == .module && X.env.locals != X.env.globals)) = false := by rw [I.ok.kind]; rfl
  have hiσ : i < σ.length := by rw [I.len]; exact (List.getElem?_eq_some_iff.mp hi).1
  have cne := I.cne
  have tracked : ∀ {a : Addr} {h' : Heap}, (∃ o, s.heap.get? a = some o ∧ H a = none) → Heap.SameBut a s.heap h' → HOk X.prog X.w H h' := fun {a h'} ha hs b ob e => by
    obtain ⟨_, _, hfree⟩ := ha
    refine (I.hok b ob e).stay (fun c w' hc q => (hs.2 c ?_).trans q) (fun _ q => q) fun _ _ q => q
    rintro rfl
    rcases hc with rfl | hc
    · rw [hfree] at e; cases e
    · rw [hfree] at hc; cases hc
  rcases hx with hk | hk
  · refine wpAny_storeName_local hk hn (fun h' hn' hs => ?_) hcls
    obtain ⟨oL, _, _, hoL, _⟩ := id hn
    refine h _ ⟨I.ok, I.os, I.bare, ⟨fun b o e n hb hx => ?_, fun b o e n hb hx => ?_, I.base.free, fun b o e hx => ?_, I.base.tups, I.base.frzs, I.base.tbls⟩, ⟨_, hn', fun j y v' e1 e2 e3 => ?_⟩, fun y c e => ?_, I.free, I.freeC, fun p hp => ?_, tracked ⟨oL, hoL, I.free⟩ hs, by simpa using I.len⟩ ⟨_, hs, .inl rfl⟩
    · exact (hs.2 b (Nat.ne_of_lt (Nat.lt_of_lt_of_le (Heap.lt_size e) I.ok.above))).trans (I.base.keep b o e n hb hx)
    · obtain ⟨sl, e1⟩ := I.base.slot b o e n hb hx
      exact ⟨sl, (hs.2 b (Nat.ne_of_lt (Nat.lt_of_lt_of_le (Heap.lt_size e) I.ok.above))).trans e1⟩
    · obtain ⟨o', e1⟩ := I.base.there b o e hx
      exact ⟨o', (hs.2 b (Nat.ne_of_lt (Nat.lt_of_lt_of_le (Heap.lt_size e) I.ok.above))).trans e1⟩
    · by_cases hj : j = i
      · subst hj
        rw [hi] at e1; cases e1
        rw [List.getElem?_set_self hiσ] at e2
        cases e2
        exact ⟨u, r, .inl ⟨hk, by simp⟩⟩
      · rw [List.getElem?_set_ne (Ne.symm hj)] at e2
        obtain ⟨u', r', q⟩ := hl j y v' e1 e2 e3
        refine ⟨u', r', ?_⟩
        rcases q with ⟨k, e⟩ | ⟨k, c, e, z⟩
        · refine .inl ⟨k, ?_⟩
          have : y ≠ x := fun e => hj (nodup_ix hN e1 (e ▸ hi))
          simp [this, e]
        · exact .inr ⟨k, c, e, z.sameBut hs (cne y c e)⟩
    · obtain ⟨w', z⟩ := I.cell y c e
      exact ⟨w', z.sameBut hs (cne y c e)⟩
    · obtain ⟨e, n, ne, nf, d⟩ := I.pin p hp
      exact ⟨(hs.2 p.1 ne).trans e, n, ne, nf, d⟩
  · have hfn : X.fn x = true := by
      rcases hf with z | z
      · exact z
      · rw [z] at hk; cases hk
    obtain ⟨c, hc⟩ := I.ok.has x (.inl hk)
    obtain ⟨w', z⟩ := I.cell x c hc
    refine wpAny_storeName_cell I.ok.kind hk hc z (fun h' hc' hs => ?_)
    obtain ⟨oc, hoc, hocd⟩ := id z
    refine h { s with heap := h' } ⟨I.ok, I.os, I.bare, ⟨fun b o e n hb hx => ?_, fun b o e n hb hx => ?_, I.base.free, fun b o e hx => ?_, I.base.tups, I.base.frzs, I.base.tbls⟩, ⟨m, hn.sameBut hs (Ne.symm (cne x c hc)), fun j y v' e1 e2 e3 => ?_⟩, fun y c' e => ?_, I.free, I.freeC, fun p hp => ?_, tracked ⟨oc, hoc, I.freeC x c hc⟩ hs, by simpa using I.len⟩ ⟨c, hs, .inr hc⟩
    · exact (hs.2 b (Nat.ne_of_lt (Nat.lt_of_lt_of_le (Heap.lt_size e) (I.ok.cab x c hfn hc)))).trans (I.base.keep b o e n hb hx)
    · obtain ⟨sl, e1⟩ := I.base.slot b o e n hb hx
      exact ⟨sl, (hs.2 b (Nat.ne_of_lt (Nat.lt_of_lt_of_le (Heap.lt_size e) (I.ok.cab x c hfn hc)))).trans e1⟩
    · obtain ⟨o', e1⟩ := I.base.there b o e hx
      exact ⟨o', (hs.2 b (Nat.ne_of_lt (Nat.lt_of_lt_of_le (Heap.lt_size e) (I.ok.cab x c hfn hc)))).trans e1⟩
    · by_cases hj : j = i
      · subst hj
        rw [hi] at e1; cases e1
        rw [List.getElem?_set_self hiσ] at e2
        cases e2
        exact ⟨u, r, .inr ⟨.inl hk, c, hc, hc'⟩⟩
      · rw [List.getElem?_set_ne (Ne.symm hj)] at e2
        obtain ⟨u', r', q⟩ := hl j y v' e1 e2 e3
        refine ⟨u', r', ?_⟩
        rcases q with q | ⟨k, c', e, z'⟩
        · exact .inl q
        · refine .inr ⟨k, c', e, z'.sameBut hs ?_⟩
          rintro rfl
          exact hj (nodup_ix hN e1 (I.ok.inj _ _ _ e hc ▸ hi))
    · by_cases hcc : c' = c
      · subst hcc; exact ⟨_, hc'⟩
      · obtain ⟨w2, z2⟩ := I.cell y c' e
        exact ⟨w2, z2.sameBut hs hcc⟩
    · obtain ⟨e, n, ne, nf, d⟩ := I.pin p hp
      refine ⟨(hs.2 p.1 ?_).trans e, n, ne, nf, d⟩
      intro q
      rw [q, hoc] at e
      have q' : oc = p.2 := Option.some.inj e
      exact d w' (by rw [← q']; exact hocd)
theorem store_ok {M : Model} {A : Around} {E : Value → Shared → Prop} {i : Nat} {x : Str} {v : V} {u : Value} {Q : Unit → Shared → Prop} (I : Inv X pins σ H s) (hN : X.N.Nodup) (hi : X.N[i]? = some x) (hx : Loc X.env.scope x) (r : RelV v u)
    (h : ∀ s', Inv X pins (σ.set i (some v)) H s' → Q () s') (hf : X.fn x = true ∨ X.env.scope.names.lookup x = some .local := by first | exact .inl rfl | exact .inr rfl | assumption) : wpAny M A (storeName X.env x u) Q E s :=
  store_ok2 I hN hi hx r (fun s' I' _ => h s' I') hf
/-- behind a call or a block, the state as it is -/
theorem Inv.call' {s' : Shared} {ch : List Addr} (I : Inv X pins σ H s) (ho : s'.os = s.os) (u : Un (frs X.stack) ch H H' s.heap s'.heap) (hok : HOk X.prog X.w H' s'.heap) (hg : AllBare s'.gens)
    (hch : ∀ b ∈ ch, (b ∈ X.ex ∨ X.s₀.heap.objs.size ≤ b) ∧ b ≠ X.env.locals ∧ (∀ x c, X.env.cells.lookup x = some c → c ≠ b) ∧ ∀ p ∈ X.pn ++ pins, p.1 ≠ b) : Inv X pins σ H' s' := by
  obtain ⟨h', g', d', t', o'⟩ := s'
  have e : o' = s.os := ho
  subst e
  exact I.call (g' := g') (t' := t') (d' := d') u hok hg hch
end

/-! ### the judgements -/
/-- an exception: its class, its own dict's address (where it has one), the abstract heap behind it -/
abbrev XK := Value → Option Addr → Hp → Prop
abbrev St := List (Option V)
abbrev VK := V → Hp → Prop
/-- an expression's reading; a test's; an argument list's -/
abbrev TE := St → Hp → VK → Prop
abbrev TT := St → Hp → (Bool → Hp → Prop) → Prop
abbrev TA := St → Hp → (List V → Hp → Prop) → Prop
/-- what is wanted behind a statement -/
structure Ends where
  nx : St → Hp → Prop
  rt : VK
  bk : St → Hp → Prop := fun _ _ => False
  ct : St → Hp → Prop := fun _ _ => False
abbrev TS := Ends → St → Hp → Prop

def EP (X : Cx) (pins : List (Addr × Obj)) (σ : St) (Q : VK) (u : Value) (s' : Shared) : Prop := ∃ v H', Inv X pins σ H' s' ∧ RelV v u ∧ Q v H'
def TP (X : Cx) (pins : List (Addr × Obj)) (σ : St) (Q : Bool → Hp → Prop) (b : Bool) (s' : Shared) : Prop := ∃ H', Inv X pins σ H' s' ∧ Q b H'
def AP (X : Cx) (pins : List (Addr × Obj)) (σ : St) (Q : List V → Hp → Prop) (us : List Value) (s' : Shared) : Prop := ∃ vs H', Inv X pins σ H' s' ∧ Vals vs us ∧ Q vs H'
def SP (X : Cx) (pins : List (Addr × Obj)) (D : Ends) (f : Flow) (s' : Shared) : Prop :=
  match f with
  | .next => ∃ σ' H', Inv X pins σ' H' s' ∧ D.nx σ' H'
  | .brk => ∃ σ' H', Inv X pins σ' H' s' ∧ D.bk σ' H'
  | .cont => ∃ σ' H', Inv X pins σ' H' s' ∧ D.ct σ' H'
  | .ret u => ∃ v σ' H', Inv X pins σ' H' s' ∧ RelV v u ∧ D.rt v H'

def PE (X : Cx) (e : Expr) (t : TE) : Prop :=
  ∀ (pins : List (Addr × Obj)) (s : Shared) (σ : St) (H : Hp) (Q : VK), Inv X pins σ H s → t σ H Q → wpAny (model X.prog X.w) X.A (eval e X.env) (EP X pins σ Q) X.xe s
def PT (X : Cx) (e : Expr) (t : TT) : Prop :=
  ∀ (pins : List (Addr × Obj)) (s : Shared) (σ : St) (H : Hp) (Q : Bool → Hp → Prop), Inv X pins σ H s → t σ H Q → wpAny (model X.prog X.w) X.A (isTrue e X.env (eval e X.env)) (TP X pins σ Q) X.xe s
/-- a test whatever its 'whole' is (and, or) -/
def PW (X : Cx) (e : Expr) (t : TT) : Prop :=
  ∀ (whole : Sem Value) (pins : List (Addr × Obj)) (s : Shared) (σ : St) (H : Hp) (Q : Bool → Hp → Prop), Inv X pins σ H s → t σ H Q → wpAny (model X.prog X.w) X.A (isTrue e X.env whole) (TP X pins σ Q) X.xe s
theorem PW.pt {X : Cx} {e : Expr} {t : TT} (h : PW X e t) : PT X e t := h _
/-- an argument list (no star), from the left -/
def PA (X : Cx) (es : List Expr) (t : TA) : Prop :=
  ∀ (pos : Pos) (pins : List (Addr × Obj)) (s : Shared) (σ : St) (H : Hp) (Q : List V → Hp → Prop), Inv X pins σ H s → t σ H Q → wpAny (model X.prog X.w) X.A (spliced (backTo pos (starEach es X.env))) (AP X pins σ Q) X.xe s
def PS (X : Cx) (st : Stmt) (t : TS) : Prop :=
  ∀ (pins : List (Addr × Obj)) (s : Shared) (σ : St) (H : Hp) (D : Ends), Inv X pins σ H s → t D σ H → wpAny (model X.prog X.w) X.A (exec st X.env) (SP X pins D) X.xe s
def PSs (X : Cx) (st : List Stmt) (t : TS) : Prop :=
  ∀ (pins : List (Addr × Obj)) (s : Shared) (σ : St) (H : Hp) (D : Ends), Inv X pins σ H s → t D σ H → wpAny (model X.prog X.w) X.A (execs st X.env) (SP X pins D) X.xe s
/-- weaken the end -/
theorem thn {α : Type} {t : Sem α} {Q Q' : α → Shared → Prop} {M : Model} {A : Around} {E : Value → Shared → Prop} {s : Shared} (h : wpAny M A t Q E s) (hQ : ∀ a s, Q a s → Q' a s) : wpAny M A t Q' E s := wpAny_mono h hQ fun _ _ x => x
end L2

namespace L2
open PySem PySem.Spec PyProof.Rows
section
variable {X : Cx}

/-- two expressions in a row -/
theorem bin {a b : Expr} {ta tb : TE} (ha : PE X a ta) (hb : PE X b tb) {pins : List (Addr × Obj)} {s : Shared} {σ : St} {H : Hp} {R : V → V → Hp → Prop} (I : Inv X pins σ H s) (h : ta σ H fun x H1 => tb σ H1 fun y H2 => R x y H2)
    {α : Type} {Q : α → Shared → Prop} {f : Value → Value → Sem α}
    (hf : ∀ v u s2 x y H2, Inv X pins σ H2 s2 → RelV x v → RelV y u → R x y H2 → wpAny (model X.prog X.w) X.A (f v u) Q X.xe s2) :
    wpAny (model X.prog X.w) X.A (eval a X.env) (fun v s₁ => wpAny (model X.prog X.w) X.A (eval b X.env) (fun u s₂ => wpAny (model X.prog X.w) X.A (f v u) Q X.xe s₂) X.xe s₁) X.xe s := by
  refine thn (ha pins s σ H _ I h) fun v s1 ⟨x, H1, I1, r1, q1⟩ => ?_
  refine thn (hb pins s1 σ H1 _ I1 q1) fun u s2 ⟨y, H2, I2, r2, q2⟩ => ?_
  exact hf v u s2 x y H2 I2 r1 r2 q2

/-! ### names and constants -/
def tVar (i : Nat) : TE := fun σ H Q => ∃ v, σ[i]? = some (some v) ∧ Q v H
def tC (v : V) : TE := fun _ H Q => Q v H
theorem pe_var {i : Nat} {x : Str} {pos : Pos} (hN : X.N[i]? = some x) (hv : Vis X.env.scope x) (hd : (x == ("__debug__" : Str)) = false := by decide) (hcd : (x == ("__classdict__" : Str)) = false := by decide) : PE X (.Name x pos) (tVar i) := by
  intro pins s σ H Q I h
  obtain ⟨v, e, h⟩ := h
  obtain ⟨m, hn, hl⟩ := I.loc
  obtain ⟨u, r, l⟩ := hl i x v hN e hv
  have fin : EP X pins σ Q u s := ⟨v, H, I, r, h⟩
  rcases l with ⟨hk, hm⟩ | ⟨hk, c, hc, hcell⟩
  · exact wpAny_Name (wpAny_loadName_local I.ok.kind hk hn hm fin) hd
  · rcases hk with hk | hk
    · exact wpAny_Name (wpAny_loadName_cell I.ok.kind hk hc hcell fin) hd
    · exact wpAny_Name (wpAny_loadName_free I.ok.kind hk hc hcell fin hcd) hd
theorem pe_int {i j pos} : PE X (.Constant (.int i) j pos) (tC (.int i)) := fun _ _ _ H _ I h => wpAny_Constant_int ⟨.int i, H, I.tok _, ⟨_, rfl⟩, h⟩
theorem pe_bl {b j pos} : PE X (.Constant (.bool b) j pos) (tC (.bl b)) := fun _ _ _ H _ I h => Constant_bool ⟨.bl b, H, I, rfl, h⟩
theorem pe_non {j pos} : PE X (.Constant .none j pos) (tC .non) := fun _ _ _ H _ I h => Constant_none ⟨.non, H, I, rfl, h⟩
theorem pe_str {x j pos} : PE X (.Constant (.str x) j pos) (tC (.str x)) := fun _ _ _ H _ I h => Calls.Constant_str ⟨.str x, H, I.tok _, ⟨_, rfl⟩, h⟩

/-- a global name of the def -/
def Gl (X : Cx) (x : Str) : Prop := X.env.kindOf x = some .globalImplicit
theorem ld_glob {E : Value → Shared → Prop} {pins : List (Addr × Obj)} {s : Shared} {σ : St} {H : Hp} {x : Str} {u : Value} {pos : Pos} {Q : Value → Shared → Prop} (I : Inv X pins σ H s) (hg : Gl X x) (hm : X.mg x = some u) (h : Q u s)
    (hd : (x == ("__debug__" : Str)) = false := by decide) : wpAny (model X.prog X.w) X.A (eval (.Name x pos) X.env) Q E s :=
  Calls.Name_function_global I.ok.kind hg (Calls.loadGlobal_global (by rw [I.ok.glob]; exact I.mod.glob.keeps I.bk) hm h) hd
theorem ld_blt {E : Value → Shared → Prop} {pins : List (Addr × Obj)} {s : Shared} {σ : St} {H : Hp} {x : Str} {u : Value} {pos : Pos} {Q : Value → Shared → Prop} (I : Inv X pins σ H s) (hg : Gl X x) (hm : X.mg x = none) (hv : bootBuiltins x = some u) (h : Q u s)
    (hn : x ≠ "__name__" := by decide) (hd : (x == ("__debug__" : Str)) = false := by decide) : wpAny (model X.prog X.w) X.A (eval (.Name x pos) X.env) Q E s := by
  obtain ⟨mb, h1, h2⟩ := I.mod.blt
  exact Calls.Name_function_global I.ok.kind hg (Calls.loadGlobal_builtin (by rw [I.ok.glob]; exact I.mod.glob.keeps I.bk) hm (by rw [I.ok.blt]; exact h1.keeps I.bk) ((h2 x hn).trans hv) h) hd
/-- a module's constant, a class, a function, as a value -/
theorem pe_glob {x : Str} {v : V} {u : Value} {pos : Pos} (hg : Gl X x) (hm : X.mg x = some u) (r : RelV v u) (hd : (x == ("__debug__" : Str)) = false := by decide) : PE X (.Name x pos) (tC v) :=
  fun _ _ _ H _ I h => ld_glob I hg hm ⟨v, H, I, r, h⟩ hd
theorem pe_bltn {x : Str} {v : V} {u : Value} {pos : Pos} (hg : Gl X x) (hm : X.mg x = none) (hv : bootBuiltins x = some u) (r : RelV v u) (hn : x ≠ "__name__" := by decide) (hd : (x == ("__debug__" : Str)) = false := by decide) : PE X (.Name x pos) (tC v) :=
  fun _ _ _ H _ I h => ld_blt I hg hm hv ⟨v, H, I, r, h⟩ hn hd

/-! ### arithmetic -/
/-- two ints -/
def t2I (ta tb : TE) (k : Int → Int → Hp → Prop) : St → Hp → Prop := fun σ H => ta σ H fun x H1 => tb σ H1 fun y H2 => ∃ i j, x = .int i ∧ y = .int j ∧ k i j H2
def tAdd (ta tb : TE) : TE := fun σ H Q => t2I ta tb (fun i j H2 => Q (.int (i + j)) H2) σ H
def tSub (ta tb : TE) : TE := fun σ H Q => t2I ta tb (fun i j H2 => Q (.int (i - j)) H2) σ H
/-- the left factor below 2^64 -/
def tMul (ta tb : TE) : TE := fun σ H Q => t2I ta tb (fun i j H2 => (-(2 ^ 64) < i ∧ i < 2 ^ 64) ∧ Q (.int (i * j)) H2) σ H
variable {a b : Expr} {ta tb : TE} {pos : Pos}
theorem pe_add (ha : PE X a ta) (hb : PE X b tb) : PE X (.BinOp a .Add b pos) (tAdd ta tb) := by
  intro pins s σ H Q I h
  refine wpAny_BinOp (bin ha hb I h fun v u s2 x y H2 I2 rx ry q => ?_)
  obtain ⟨i, j, rfl, rfl, q⟩ := q
  obtain ⟨t, rfl⟩ := rx
  obtain ⟨t', rfl⟩ := ry
  exact add_int ⟨.int _, H2, I2.tok _, ⟨_, rfl⟩, q⟩
theorem pe_sub (ha : PE X a ta) (hb : PE X b tb) : PE X (.BinOp a .Sub b pos) (tSub ta tb) := by
  intro pins s σ H Q I h
  refine wpAny_BinOp (bin ha hb I h fun v u s2 x y H2 I2 rx ry q => ?_)
  obtain ⟨i, j, rfl, rfl, q⟩ := q
  obtain ⟨t, rfl⟩ := rx
  obtain ⟨t', rfl⟩ := ry
  exact sub_int ⟨.int _, H2, I2.tok _, ⟨_, rfl⟩, q⟩
theorem pe_mul (ha : PE X a ta) (hb : PE X b tb) : PE X (.BinOp a .Mult b pos) (tMul ta tb) := by
  intro pins s σ H Q I h
  refine wpAny_BinOp (bin ha hb I h fun v u s2 x y H2 I2 rx ry q => ?_)
  obtain ⟨i, j, rfl, rfl, ⟨q1, q2⟩, q⟩ := q
  obtain ⟨t, rfl⟩ := rx
  obtain ⟨t', rfl⟩ := ry
  exact mul_int ⟨.int _, H2, I2.tok _, ⟨_, rfl⟩, q⟩ (.of_left (intBits_le_64 q1 q2))

/-! ### comparisons -/
def PC (X : Cx) (op : CmpOp) (a b : Expr) (t : TE) : Prop :=
  ∀ (pins : List (Addr × Obj)) (s : Shared) (σ : St) (H : Hp) (Q : VK), Inv X pins σ H s → t σ H Q →
    wpAny (model X.prog X.w) X.A (eval a X.env) (fun v s₁ => wpAny (model X.prog X.w) X.A (eval b X.env) (fun u s₂ => wpAny (model X.prog X.w) X.A (compareOp op v u) (EP X pins σ Q) X.xe s₂) X.xe s₁) X.xe s
theorem nobehind (b : Expr) {op : CmpOp} (h : op ≠ .In) (h2 : op ≠ .NotIn) : behindInMarks op b = false := by
  have e1 : (op == CmpOp.In) = false := by cases op <;> first | rfl | exact absurd rfl h
  have e2 : (op == CmpOp.NotIn) = false := by cases op <;> first | rfl | exact absurd rfl h2
  cases b <;> simp [behindInMarks, e1, e2]
def tCmp (p : Int → Int → Bool) (ta tb : TE) : TE := fun σ H Q => t2I ta tb (fun i j H2 => Q (.bl (p i j)) H2) σ H
abbrev tLt : TE → TE → TE := tCmp fun i j => decide (i < j)
abbrev tLe : TE → TE → TE := tCmp fun i j => decide (i ≤ j)
abbrev tGt : TE → TE → TE := tCmp fun i j => decide (j < i)
abbrev tGe : TE → TE → TE := tCmp fun i j => decide (j ≤ i)
abbrev tEqI : TE → TE → TE := tCmp fun i j => decide (i = j)
abbrev tNeI : TE → TE → TE := tCmp fun i j => !decide (i = j)
/-- a comparison of two ints, by its rule -/
theorem pc_int {op : CmpOp} {p : Int → Int → Bool} (ha : PE X a ta) (hb : PE X b tb)
    (rule : ∀ (i j : Int) (t u : Tok) (Q : Value → Shared → Prop) (s : Shared), Q (.bool (p i j)) s → wpAny (model X.prog X.w) X.A (compareOp op (.int i t) (.int j u)) Q X.xe s) : PC X op a b (tCmp p ta tb) := by
  intro pins s σ H Q I h
  refine bin ha hb I h fun v u s2 x y H2 I2 rx ry q => ?_
  obtain ⟨i, j, rfl, rfl, q⟩ := q
  obtain ⟨t, rfl⟩ := rx
  obtain ⟨t', rfl⟩ := ry
  exact rule i j t t' _ s2 ⟨.bl _, H2, I2, rfl, q⟩
theorem pc_lt (ha : PE X a ta) (hb : PE X b tb) : PC X .Lt a b (tLt ta tb) := pc_int ha hb fun _ _ _ _ _ _ h => lt_int h
theorem pc_le (ha : PE X a ta) (hb : PE X b tb) : PC X .LtE a b (tLe ta tb) := pc_int ha hb fun _ _ _ _ _ _ h => le_int h
theorem pc_gt (ha : PE X a ta) (hb : PE X b tb) : PC X .Gt a b (tGt ta tb) := pc_int ha hb fun _ _ _ _ _ _ h => gt_int h
theorem pc_ge (ha : PE X a ta) (hb : PE X b tb) : PC X .GtE a b (tGe ta tb) := pc_int ha hb fun _ _ _ _ _ _ h => ge_int h
theorem pc_eqI (ha : PE X a ta) (hb : PE X b tb) : PC X .Eq a b (tEqI ta tb) := pc_int ha hb fun _ _ _ _ _ _ h => eq_int (by rw [Bool.beq_eq_decide_eq]; exact h)
theorem pc_neI (ha : PE X a ta) (hb : PE X b tb) : PC X .NotEq a b (tNeI ta tb) := pc_int ha hb fun _ _ _ _ _ _ h => ne_int (by rw [bne, Bool.beq_eq_decide_eq]; exact h)
/-- is None -/
def tIsN (ta : TE) : TE := fun σ H Q => ta σ H fun x H1 => Q (.bl (decide (x = .non))) H1
def tNotN (ta : TE) : TE := fun σ H Q => ta σ H fun x H1 => Q (.bl (!decide (x = .non))) H1
theorem RelV.none_iff {x : V} {v : Value} (r : RelV x v) : (v == Value.none) = decide (x = .non) := by
  cases x with
  | non => cases r; rfl
  | bl _ => cases r; rfl
  | int _ => obtain ⟨t, rfl⟩ := r; rfl
  | str _ => obtain ⟨t, rfl⟩ := r; rfl
  | byt _ => obtain ⟨t, rfl⟩ := r; rfl
  | flt _ => obtain ⟨t, rfl⟩ := r; rfl
  | ref _ => cases r; rfl
  | ty _ => cases r; rfl
theorem pc_isN {j pos'} (ha : PE X a ta) : PC X .Is a (.Constant .none j pos') (tIsN ta) := by
  intro pins s σ H Q I h
  refine thn (ha pins s σ H _ I h) fun v s1 ⟨x, H1, I1, r1, q1⟩ => ?_
  exact Constant_none (is_none_gen ⟨.bl _, H1, I1, by rw [r1.none_iff]; rfl, q1⟩)
theorem pc_notN {j pos'} (ha : PE X a ta) : PC X .IsNot a (.Constant .none j pos') (tNotN ta) := by
  intro pins s σ H Q I h
  refine thn (ha pins s σ H _ I h) fun v s1 ⟨x, H1, I1, r1, q1⟩ => ?_
  exact Constant_none (isnot_none_gen ⟨.bl _, H1, I1, by rw [r1.none_iff]; rfl, q1⟩)
/-- a comparison as a value, as a test -/
def tB (t : TE) : TT := fun σ H Q => t σ H fun x H1 => ∃ c, x = .bl c ∧ Q c H1
theorem pe_cmp {op : CmpOp} {t : TE} (h : PC X op a b t) (h1 : behindInMarks op b = false := by first | exact nobehind _ (by decide) (by decide) | rfl) : PE X (.Compare a [op] [b] pos) t := fun pins s σ H Q I hw => wpAny_Compare1 (h pins s σ H Q I hw) h1
theorem pt_cmp {op : CmpOp} {t : TE} (h : PC X op a b t) (h1 : behindInMarks op b = false := by first | exact nobehind _ (by decide) (by decide) | rfl) : PT X (.Compare a [op] [b] pos) (tB t) := by
  intro pins s σ H Q I hw
  refine wpAny_isTrue_Compare1 (thn (h pins s σ H _ I hw) fun v s1 h1 => thn h1 fun u s2 h2 => thn h2 fun c s3 ⟨x, H1, I1, r1, q1⟩ => ?_) h1
  obtain ⟨d, rfl, q⟩ := q1
  cases r1
  exact wpAny_truthy_bool ⟨H1, I1, q⟩
/-- an expression whose value is a bool, as a test -/
theorem pt_val {e : Expr} {t : TE} (h : PE X e t) (he : ∀ whole, isTrue e X.env whole = (do let v ← whole; standAt e.pos; holding [v] (truthy v)) := by intro _; rfl) : PT X e (tB t) := by
  intro pins s σ H Q I hw
  refine isTrue_plain (thn (h pins s σ H _ I hw) fun v s1 ⟨x, H1, I1, r1, q1⟩ => ?_) (he _)
  obtain ⟨d, rfl, q⟩ := q1
  cases r1
  exact wpAny_truthy_bool ⟨H1, I1, q⟩

/-! ### and, or, not -/
variable {tA tB' : TT} {rest : List Expr}
def tAnd (t u : TT) : TT := fun σ H Q => t σ H fun c H1 => if c = true then u σ H1 Q else Q false H1
def tOr (t u : TT) : TT := fun σ H Q => t σ H fun c H1 => if c = true then Q true H1 else u σ H1 Q
def tNot (t : TT) : TT := fun σ H Q => t σ H fun c H1 => Q (!c) H1
theorem pw_and1 (ha : PT X a tA) : PW X (.BoolOp .And [a] pos) tA := by
  intro wh pins s σ H Q I h
  refine isTrue_and (thn (ha pins s σ H Q I h) fun c s1 e => ?_)
  cases c with
  | true => exact isTrue_and_nil e
  | false => exact e
theorem pw_or1 (ha : PT X a tA) : PW X (.BoolOp .Or [a] pos) tA := by
  intro wh pins s σ H Q I h
  refine isTrue_or (thn (ha pins s σ H Q I h) fun c s1 e => ?_)
  cases c with
  | false => exact isTrue_or_nil e
  | true => exact e
theorem pw_and (ha : PT X a tA) (hb : PW X (.BoolOp .And (b :: rest) pos) tB') : PW X (.BoolOp .And (a :: b :: rest) pos) (tAnd tA tB') := by
  intro wh pins s σ H Q I h
  refine isTrue_and (thn (ha pins s σ H _ I h) fun c s1 ⟨H1, I1, q1⟩ => ?_)
  cases c with
  | true => exact hb wh pins s1 σ H1 Q I1 q1
  | false => exact ⟨H1, I1, q1⟩
theorem pw_or (ha : PT X a tA) (hb : PW X (.BoolOp .Or (b :: rest) pos) tB') : PW X (.BoolOp .Or (a :: b :: rest) pos) (tOr tA tB') := by
  intro wh pins s σ H Q I h
  refine isTrue_or (thn (ha pins s σ H _ I h) fun c s1 ⟨H1, I1, q1⟩ => ?_)
  cases c with
  | true => exact ⟨H1, I1, q1⟩
  | false => exact hb wh pins s1 σ H1 Q I1 q1
theorem pt_not (ha : PT X a tA) : PT X (.UnaryOp .Not a pos) (tNot tA) := by
  intro pins s σ H Q I h
  exact isTrue_not (ha pins s σ H (fun c H1 => Q (!c) H1) I h)
/-- .. as values (bools) -/
def tAndV (ta tb : TE) : TE := fun σ H Q => ta σ H fun x H1 => ∃ c, x = .bl c ∧ if c = true then tb σ H1 Q else Q (.bl false) H1
def tOrV (ta tb : TE) : TE := fun σ H Q => ta σ H fun x H1 => ∃ c, x = .bl c ∧ if c = true then Q (.bl true) H1 else tb σ H1 Q
def tNotV (ta : TE) : TE := fun σ H Q => ta σ H fun x H1 => ∃ c, x = .bl c ∧ Q (.bl (!c)) H1
theorem pe_one {op} {t : TE} (h : PE X a t) : PE X (.BoolOp op [a] pos) t := fun pins s σ H Q I hw => BoolOp_one (h pins s σ H Q I hw)
theorem pe_and (ha : PE X a ta) (hb : PE X (.BoolOp .And (b :: rest) pos) tb) : PE X (.BoolOp .And (a :: b :: rest) pos) (tAndV ta tb) := by
  intro pins s σ H Q I h
  refine BoolOp_and (thn (ha pins s σ H _ I h) fun v s1 ⟨x, H1, I1, r1, q1⟩ => ?_)
  obtain ⟨c, rfl, q1⟩ := q1
  cases r1
  refine wpAny_truthy_bool ?_
  cases c with
  | true => exact hb pins s1 σ H1 Q I1 q1
  | false => exact ⟨.bl false, H1, I1, rfl, q1⟩
theorem pe_or (ha : PE X a ta) (hb : PE X (.BoolOp .Or (b :: rest) pos) tb) : PE X (.BoolOp .Or (a :: b :: rest) pos) (tOrV ta tb) := by
  intro pins s σ H Q I h
  refine BoolOp_or (thn (ha pins s σ H _ I h) fun v s1 ⟨x, H1, I1, r1, q1⟩ => ?_)
  obtain ⟨c, rfl, q1⟩ := q1
  cases r1
  refine wpAny_truthy_bool ?_
  cases c with
  | false => exact hb pins s1 σ H1 Q I1 q1
  | true => exact ⟨.bl true, H1, I1, rfl, q1⟩
theorem pe_not (ha : PE X a ta) : PE X (.UnaryOp .Not a pos) (tNotV ta) := by
  intro pins s σ H Q I h
  refine UnaryOp_ (thn (ha pins s σ H _ I h) fun v s1 ⟨x, H1, I1, r1, q1⟩ => ?_)
  obtain ⟨c, rfl, q1⟩ := q1
  cases r1
  exact not_of (wpAny_truthy_bool ⟨.bl (!c), H1, I1, rfl, q1⟩)
/-- a if t else b -/
def tIf (t : TT) (ta tb : TE) : TE := fun σ H Q => t σ H fun c H1 => if c = true then ta σ H1 Q else tb σ H1 Q
theorem pe_ifExp {c : Expr} (hc : PT X c tA) (ha : PE X a ta) (hb : PE X b tb) : PE X (.IfExp c a b pos) (tIf tA ta tb) := by
  intro pins s σ H Q I h
  refine wpAny_IfExp (thn (hc pins s σ H _ I h) fun d s1 ⟨H1, I1, q1⟩ => ?_)
  cases d with
  | true => exact ha pins s1 σ H1 Q I1 q1
  | false => exact hb pins s1 σ H1 Q I1 q1
end
end L2

namespace L2
open PySem PySem.Spec PyProof.Rows

/-! ### a list, a tuple that is read: tracked, frozen, or an object of the module -/
def SqL (K : PySem.W.Frag) (H : Hp) (a : Addr) (xs : List V) : Prop :=
  Rd H a (.lst xs) ∨
    ∃ (o : Obj) (its : Array Value) (n : Nat), K.lookup a = some o ∧ o.cls = .type "list" ∧ o.dict = none ∧ o.data = .seq its n ∧ its.size ≤ sizeLine ∧ Vals xs its.toList
def SqT (K : PySem.W.Frag) (H : Hp) (a : Addr) (xs : List V) : Prop :=
  Rd H a (.tup xs) ∨
    ∃ (o : Obj) (its : Array Value) (n : Nat), K.lookup a = some o ∧ o.cls = .type "tuple" ∧ o.data = .seq its n ∧ its.size ≤ sizeLine ∧ Vals xs its.toList
def absV : Value → Option V
  | .none => some .non
  | .bool b => some (.bl b)
  | .int i _ => some (.int i)
  | .str x _ => some (.str x)
  | .bytes b _ => some (.byt b)
  | .float b _ => some (.flt b)
  | .ref a => some (.ref a)
  | .type n => some (.ty n)
  | _ => none
theorem RelV.abs {x : V} {u : Value} (r : RelV x u) : absV u = some x := by
  cases x with
  | non => cases r; rfl
  | bl _ => cases r; rfl
  | int _ => obtain ⟨t, rfl⟩ := r; rfl
  | str _ => obtain ⟨t, rfl⟩ := r; rfl
  | byt _ => obtain ⟨t, rfl⟩ := r; rfl
  | flt _ => obtain ⟨t, rfl⟩ := r; rfl
  | ref _ => cases r; rfl
  | ty _ => cases r; rfl
theorem RelV.inj {x y : V} {u : Value} (r : RelV x u) (q : RelV y u) : x = y := Option.some.inj (r.abs.symm.trans q.abs)
theorem Vals.inj : ∀ {xs ys : List V} {us : List Value}, Vals xs us → Vals ys us → xs = ys
  | _, _, _, .nil, .nil => rfl
  | _, _, _, .cons r t, .cons r' t' => by rw [r.inj r', Vals.inj t t']
section
variable {X : Cx} {pins : List (Addr × Obj)} {σ : St} {H : Hp} {s : Shared} {a : Addr} {xs ys : List V}
theorem SqL.of {K : PySem.W.Frag} (h : H a = some (.lst xs)) : SqL K H a xs := .inl (.inl h)
theorem SqT.of {K : PySem.W.Frag} (h : H a = some (.tup xs)) : SqT K H a xs := .inl (.inl h)
theorem Inv.list (I : Inv X pins σ H s) (h : SqL X.K H a xs) : ∃ its : List Value, Vals xs its ∧ PlainL s.heap a its.toArray ∧ xs.length ≤ sizeLine := by
  rcases h with h | ⟨o, its, n, hk, hc, hd, hs, hz, r⟩
  · obtain ⟨z, its, n, r, e⟩ := h.ok I.hok
    exact ⟨its, r, ⟨_, n, e, rfl, rfl, rfl⟩, z⟩
  · refine ⟨its.toList, r, ⟨o, n, I.kIn a o hk, hc, hd, by simpa using hs⟩, ?_⟩
    have e := r.length
    simp only [Array.length_toList] at e
    omega
theorem Inv.tuple (I : Inv X pins σ H s) (h : SqT X.K H a xs) : ∃ its : List Value, Vals xs its ∧ IsTup s.heap a its.toArray ∧ xs.length ≤ sizeLine := by
  rcases h with h | ⟨o, its, n, hk, hc, hs, hz, r⟩
  · obtain ⟨z, its, r, p⟩ := h.ok I.hok
    exact ⟨its, r, p, z⟩
  · refine ⟨its.toList, r, ⟨o, I.kIn a o hk, hc, n, by simpa using hs⟩, ?_⟩
    have e := r.length
    simp only [Array.length_toList] at e
    omega
theorem Inv.list_inj (I : Inv X pins σ H s) (h : SqL X.K H a xs) (h' : SqL X.K H a ys) : xs = ys := by
  obtain ⟨its, r, ⟨o, n, e, _, _, d⟩, _⟩ := I.list h
  obtain ⟨its', r', ⟨o', n', e', _, _, d'⟩, _⟩ := I.list h'
  rw [e] at e'; cases e'
  rw [d] at d'
  injection d' with d1 _
  have : its = its' := by simpa using congrArg Array.toList d1
  subst this
  exact r.inj r'
theorem Inv.tuple_inj (I : Inv X pins σ H s) (h : SqT X.K H a xs) (h' : SqT X.K H a ys) : xs = ys := by
  obtain ⟨its, r, ⟨o, e, _, n, d⟩, _⟩ := I.tuple h
  obtain ⟨its', r', ⟨o', e', _, n', d'⟩, _⟩ := I.tuple h'
  rw [e] at e'; cases e'
  rw [d] at d'
  injection d' with d1 _
  have : its = its' := by simpa using congrArg Array.toList d1
  subst this
  exact r.inj r'
end

/-! ### another wish about exceptions -/
abbrev Cx.wish (X : Cx) (E : Value → Shared → Prop) : Cx := { X with xe := E }
/-- no exception leaves -/
abbrev Cx.nox (X : Cx) : Cx := X.wish fun _ _ => False
theorem Cx.Ok.wish {X : Cx} (ok : X.Ok) (E : Value → Shared → Prop) : (X.wish E).Ok :=
  ⟨ok.mod, ok.kind, ok.glob, ok.blt, ok.above, ok.inj, ok.has, ok.cab, ok.hd, ok.frames, ok.stk, ok.exf, ok.bs, ok.bsz, ok.noex, ok.exfs, ok.funs, ok.frf⟩
theorem Cx.Ok.unwish {X : Cx} {E : Value → Shared → Prop} (ok : (X.wish E).Ok) : X.Ok :=
  ⟨ok.mod, ok.kind, ok.glob, ok.blt, ok.above, ok.inj, ok.has, ok.cab, ok.hd, ok.frames, ok.stk, ok.exf, ok.bs, ok.bsz, ok.noex, ok.exfs, ok.funs, ok.frf⟩
section
variable {X : Cx} {pins : List (Addr × Obj)} {σ : St} {H : Hp} {s : Shared} {E : Value → Shared → Prop}
theorem Inv.wish (I : Inv X pins σ H s) (E : Value → Shared → Prop) : Inv (X.wish E) pins σ H s := ⟨I.ok.wish E, I.os, I.bare, I.base, I.loc, I.cell, I.free, I.freeC, I.pin, I.hok, I.len⟩
theorem Inv.unwish (I : Inv (X.wish E) pins σ H s) : Inv X pins σ H s := ⟨I.ok.unwish, I.os, I.bare, I.base, I.loc, I.cell, I.free, I.freeC, I.pin, I.hok, I.len⟩
theorem SP.unwish {D : Ends} {f : Flow} {s' : Shared} (h : SP (X.wish E) pins D f s') : SP X pins D f s' := by
  cases f with
  | next => obtain ⟨σ', H', I, q⟩ := h; exact ⟨σ', H', I.unwish, q⟩
  | brk => obtain ⟨σ', H', I, q⟩ := h; exact ⟨σ', H', I.unwish, q⟩
  | cont => obtain ⟨σ', H', I, q⟩ := h; exact ⟨σ', H', I.unwish, q⟩
  | ret u => obtain ⟨v, σ', H', I, r, q⟩ := h; exact ⟨v, σ', H', I.unwish, r, q⟩
theorem PE.nox {e : Expr} {t : TE} (h : PE X.nox e t) : PE X e t := fun pins s σ H Q I hw =>
  wpAny_mono (h pins s σ H Q (I.wish _) hw) (fun _ _ ⟨v, H', I', r, q⟩ => ⟨v, H', I'.unwish, r, q⟩) fun _ _ z => False.elim z
theorem PT.nox {e : Expr} {t : TT} (h : PT X.nox e t) : PT X e t := fun pins s σ H Q I hw =>
  wpAny_mono (h pins s σ H Q (I.wish _) hw) (fun _ _ ⟨H', I', q⟩ => ⟨H', I'.unwish, q⟩) fun _ _ z => False.elim z
theorem PSs.nox {st : List Stmt} {t : TS} (h : PSs X.nox st t) : PSs X st t := fun pins s σ H D I hw =>
  wpAny_mono (h pins s σ H D (I.wish _) hw) (fun _ _ q => q.unwish) fun _ _ z => False.elim z
end

/-! ### blocks and small statements -/
section
variable {X : Cx} {st : Stmt} {rest : List Stmt} {t u : TS} {e : Expr} {te : TE} {pos : Pos}
def tNext : TS := fun D σ H => D.nx σ H
def tSeq (t u : TS) : TS := fun D σ H => t { D with nx := u D } σ H
theorem pss_nil : PSs X [] tNext := fun _ _ σ H _ I h => wpAny_execs_nil ⟨σ, H, I, h⟩
theorem pss_cons (h1 : PS X st t) (h2 : PSs X rest u) : PSs X (st :: rest) (tSeq t u) := by
  intro pins s σ H D I h
  refine wpAny_execs_cons (thn (h1 pins s σ H { D with nx := u D } I h) fun f s1 q => ?_)
  cases f with
  | next =>
    obtain ⟨σ', H', I', q⟩ := q
    exact h2 pins s1 σ' H' D I' q
  | ret v => exact q
  | brk => exact q
  | cont => exact q
theorem pss_one (h1 : PS X st t) : PSs X [st] t := by
  intro pins s σ H D I h
  refine wpAny_execs_cons (thn (h1 pins s σ H D I h) fun f s1 q => ?_)
  cases f with
  | next => exact wpAny_execs_nil q
  | ret v => exact q
  | brk => exact q
  | cont => exact q
def tBreak : TS := fun D σ H => D.bk σ H
def tCont : TS := fun D σ H => D.ct σ H
theorem ps_pass : PS X (.Pass pos) tNext := fun _ _ σ H _ I h => wpAny_Pass ⟨σ, H, I, h⟩
theorem ps_break : PS X (.Break pos) tBreak := fun _ _ σ H _ I h => wpAny_Break ⟨σ, H, I, h⟩
theorem ps_continue : PS X (.Continue pos) tCont := fun _ _ σ H _ I h => wpAny_Continue ⟨σ, H, I, h⟩
/-- in a def's body nothing is shown -/
theorem Inv.quiet {pins : List (Addr × Obj)} {σ : St} {H : Hp} {s : Shared} (I : Inv X pins σ H s) : interactive X.env = false := by simp [interactive, I.ok.kind]
/-- a docstring -/
theorem ps_doc {x j pos pos'} : PS X (.Expr (.Constant (.str x) j pos) pos') tNext := fun _ s σ H _ I h => wpAny_Expr (Calls.Constant_str (show SP X _ _ .next { s with toks := s.toks + 1 } from ⟨σ, H, I.tok _, h⟩)) I.quiet
/-- an expression whose value is dropped -/
def tDrop (te : TE) : TS := fun D σ H => te σ H fun _ H1 => D.nx σ H1
theorem ps_expr (he : PE X e te) (hs : swapsWith e none pos.line X.env = pure false := by rfl) : PS X (.Expr e pos) (tDrop te) := by
  intro pins s σ H D I h
  exact wpAny_Expr_any (thn (he pins s σ H _ I h) fun v s1 ⟨x, H1, I1, r1, q1⟩ => ⟨σ, H1, I1, q1⟩) I.quiet hs
def tRet (te : TE) : TS := fun D σ H => te σ H D.rt
theorem ps_ret (he : PE X e te) : PS X (.Return (some e) pos) (tRet te) := by
  intro pins s σ H D I h
  exact wpAny_Return_some (thn (he pins s σ H _ I h) fun v s1 ⟨x, H1, I1, r1, q1⟩ => ⟨x, σ, H1, I1, r1, q1⟩)
def tRetN : TS := fun D _ H => D.rt .non H
theorem ps_retN : PS X (.Return none pos) tRetN := fun _ _ σ H _ I h => wpAny_Return_none ⟨.non, σ, H, I, rfl, h⟩
def tIfS (c : TT) (t u : TS) : TS := fun D σ H => c σ H fun b H1 => if b = true then t D σ H1 else u D σ H1
theorem ps_if {c : Expr} {a b : List Stmt} {tc : TT} (hc : PT X c tc) (ha : PSs X a t) (hb : PSs X b u) : PS X (.If c a b pos) (tIfS tc t u) := by
  intro pins s σ H D I h
  refine wpAny_If (thn (hc pins s σ H _ I h) fun d s1 ⟨H1, I1, q1⟩ => ?_)
  cases d with
  | true => exact ha pins s1 σ H1 D I1 q1
  | false => exact hb pins s1 σ H1 D I1 q1
/-- code that the proof never comes to -/
def tNever : TS := fun _ _ _ => False
theorem ps_never : PS X st tNever := fun _ _ _ _ _ _ h => h.elim
theorem pss_never {sts : List Stmt} : PSs X sts tNever := fun _ _ _ _ _ _ h => h.elim
end

/-! ### targets -/
abbrev TG := V → St → Hp → (St → Hp → Prop) → Prop
abbrev TGs := List V → St → Hp → (St → Hp → Prop) → Prop
def PG (X : Cx) (target : Expr) (t : TG) : Prop :=
  ∀ (pins : List (Addr × Obj)) (s : Shared) (σ : St) (H : Hp) (v : V) (u : Value) (Q : St → Hp → Prop), Inv X pins σ H s → RelV v u → t v σ H Q →
    wpAny (model X.prog X.w) X.A (assign target X.env u) (fun _ s' => ∃ σ' H', Inv X pins σ' H' s' ∧ Q σ' H') X.xe s
/-- several targets, one after another -/
def PGs (X : Cx) (ts : List Expr) (t : TGs) : Prop :=
  ∀ (pins : List (Addr × Obj)) (s : Shared) (σ : St) (H : Hp) (vs : List V) (us : List Value) (Q : St → Hp → Prop), Inv X pins σ H s → Vals vs us → t vs σ H Q →
    wpAny (model X.prog X.w) X.A (assignInOrder ((assignEach ts X.env).map (·.2)) us) (fun _ s' => ∃ σ' H', Inv X pins σ' H' s' ∧ Q σ' H') X.xe s
/-- o[i] = v, by values -/
abbrev TSet := V → V → V → Hp → (Hp → Prop) → Prop
def PSet (X : Cx) (t : TSet) : Prop :=
  ∀ (pins : List (Addr × Obj)) (s : Shared) (σ : St) (H : Hp) (o i v : V) (ov iv u : Value) (Q : Hp → Prop), Inv X pins σ H s → RelV o ov → RelV i iv → RelV v u → t o i v H Q →
    wpAny (model X.prog X.w) X.A (setItem ov iv u) (fun _ s' => ∃ H', Inv X pins σ H' s' ∧ Q H') X.xe s
/-- a op= b, by values -/
abbrev TIp := V → V → Hp → VK → Prop
def PIp (X : Cx) (op : Operator) (t : TIp) : Prop :=
  ∀ (pins : List (Addr × Obj)) (s : Shared) (σ : St) (H : Hp) (x y : V) (v u : Value) (Q : VK), Inv X pins σ H s → RelV x v → RelV y u → t x y H Q →
    wpAny (model X.prog X.w) X.A (inplaceOp op v u) (EP X pins σ Q) X.xe s
section
variable {X : Cx} {pos : Pos}
def gName (i : Nat) : TG := fun v σ H Q => Q (σ.set i (some v)) H
theorem pg_name {i : Nat} {x : Str} (hN : X.N.Nodup) (hi : X.N[i]? = some x) (hx : Loc X.env.scope x) (hf : X.fn x = true ∨ X.env.scope.names.lookup x = some .local := by first | exact .inl rfl | exact .inr rfl | assumption) : PG X (.Name x pos) (gName i) := by
  intro pins s σ H v u Q I r h
  exact wpAny_assign_Name (store_ok I hN hi hx r (fun s' I' => ⟨_, H, I', h⟩) hf)
def gNil : TGs := fun vs σ H Q => vs = [] ∧ Q σ H
def gCons (t : TG) (u : TGs) : TGs := fun vs σ H Q => ∃ v r, vs = v :: r ∧ t v σ H fun σ' H' => u r σ' H' Q
theorem pgs_nil : PGs X [] gNil := by
  intro pins s σ H vs us Q I r h
  obtain ⟨e, h⟩ := h
  subst e
  cases r
  exact assignInOrder_nil ⟨σ, H, I, h⟩
theorem pgs_cons {e : Expr} {es : List Expr} {t : TG} {u : TGs} (h1 : PG X e t) (h2 : PGs X es u)
    (hs : (assignEach (e :: es) X.env).map (·.2) = assign e X.env :: (assignEach es X.env).map (·.2) := by rfl) : PGs X (e :: es) (gCons t u) := by
  intro pins s σ H vs us Q I r h
  obtain ⟨v, vr, e1, h⟩ := h
  subst e1
  cases r with
  | cons r rr =>
    rw [hs]
    refine assignInOrder_cons (thn (h1 pins s σ H _ _ _ I r h) fun _ s1 ⟨σ1, H1, I1, q1⟩ => ?_)
    exact h2 pins s1 σ1 H1 _ _ Q I1 rr q1
/-- (a, b, ..) = a tuple of that length -/
def gTup (K : PySem.W.Frag) (n : Nat) (t : TGs) : TG := fun v σ H Q => ∃ a xs, v = .ref a ∧ SqT K H a xs ∧ xs.length = n ∧ t xs σ H Q
theorem pg_tup {es : List Expr} {k : Nat} {t : TGs} {n : Nat} (hc : X.calm = true) (h : PGs X es t)
    (hn : (assignEach es X.env).length = n := by rfl) (hst : (assignEach es X.env).findIdx? (·.1) = none := by rfl) : PG X (.Tuple es k pos) (gTup X.K n t) := by
  intro pins s σ H v u Q I r hw
  obtain ⟨a, xs, e1, hq, hl, hw⟩ := hw
  subst e1
  cases r
  obtain ⟨its, rv, ht, hz⟩ := I.tuple hq
  refine assign_Tuple_tuple (I.ok.hd hc) ht (by simp [hn, ← hl, rv.length]) hst fun h' hx => ?_
  have I1 : Inv X pins σ H { s with heap := h' } := I.kept (t' := s.toks) fun b o e => hx b o (Nat.ne_of_lt (Heap.lt_size e)) e
  exact h pins _ σ H xs _ Q I1 (by simpa using rv) hw
/-- o[i] = .. -/
def gSub (to ti : TE) (t : TSet) : TG := fun v σ H Q => to σ H fun o H1 => ti σ H1 fun i H2 => t o i v H2 fun H3 => Q σ H3
theorem pg_sub {o i : Expr} {to ti : TE} {t : TSet} (ho : PE X o to) (hi : PE X i ti) (hs : PSet X t)
    (ha : ∀ v, assign (.Subscript o i pos) X.env v = (do
      let ov ← holding [v] (eval o X.env)
      let iv ← holding [v, ov] (eval i X.env)
      standAt pos
      holding [v, ov, iv] (setItem ov iv v)
      release [v, ov, iv] []) := by intro _; rfl) : PG X (.Subscript o i pos) (gSub to ti t) := by
  intro pins s σ H v u Q I r h
  rw [ha]
  refine wpAny_bind (wpAny_holding (thn (ho pins s σ H _ I h) fun ov s1 ⟨x, H1, I1, r1, q1⟩ => ?_))
  refine wpAny_bind (wpAny_holding (thn (hi pins s1 σ H1 _ I1 q1) fun iv s2 ⟨y, H2, I2, r2, q2⟩ => ?_))
  refine wpAny_bind (wpAny_standAt (wpAny_bind (wpAny_holding (thn (hs pins s2 σ H2 x y v ov iv u _ I2 r1 r2 r q2) fun _ s3 ⟨H3, I3, q3⟩ => ?_))))
  exact wpAny_release ⟨σ, H3, I3, q3⟩
/-- target = value -/
def tAsg (te : TE) (g : TG) : TS := fun D σ H => te σ H fun x H1 => g x σ H1 D.nx
theorem ps_asg {tg e : Expr} {te : TE} {g : TG} (he : PE X e te) (hg : PG X tg g) (hs : swapsWithSole [tg] e pos.line X.env = pure false := by rfl) (hw : swappedStores [tg] e X.env = pure none := by rfl)
    (h1 : (assignEach [tg] X.env).map (·.2) = [assign tg X.env] := by rfl) : PS X (.Assign [tg] e pos) (tAsg te g) := by
  intro pins s σ H D I h
  refine wpAny_Assign_stores (thn (he pins s σ H _ I h) fun v s1 ⟨x, H1, I1, r1, q1⟩ => ?_) hs hw
  rw [h1]
  exact thn (hg pins s1 σ H1 x v _ I1 r1 q1) fun _ s2 q => q
/-- name = value -/
theorem ps_set {i : Nat} {x : Str} {e : Expr} {te : TE} {pos' : Pos} (hN : X.N.Nodup) (hi : X.N[i]? = some x) (hx : Loc X.env.scope x) (he : PE X e te) (hs : swapsWith e (some (.Name x pos')) pos.line X.env = pure false := by rfl) (hf : X.fn x = true ∨ X.env.scope.names.lookup x = some .local := by first | exact .inl rfl | exact .inr rfl | assumption) :
    PS X (.Assign [.Name x pos'] e pos) (tAsg te (gName i)) := by
  intro pins s σ H D I h
  refine wpAny_Assign_Name (thn (he pins s σ H _ I h) fun v s1 ⟨y, H1, I1, r1, q1⟩ => ?_) hs
  exact store_ok I1 hN hi hx r1 (fun s2 I2 => ⟨_, H1, I2, q1⟩) hf
/-- a, b = x, y with plain local names: stored from the right; the pair itself is not tracked (the opening rows as in PyProof/Rows/TupAssign.lean:23) -/
def tPar (i j : Nat) (ta : TA) : TS := fun D σ H => ta σ H fun vs H1 => ∃ v w, vs = [v, w] ∧ D.nx ((σ.set i (some v)).set j (some w)) H1
theorem ps_par {i j : Nat} {x y : Str} {a b : Expr} {ta : TA} {px py pt : Pos} {kt k2 pt2} (hc : X.calm = true) (hN : X.N.Nodup) (hi : X.N[i]? = some x) (hj : X.N[j]? = some y) (hij : i ≠ j)
    (hx : X.env.scope.names.lookup x = some .local) (hy : X.env.scope.names.lookup y = some .local) (ha : PA X [a, b] ta)
    (hw : swappedStores [.Tuple [.Name x px, .Name y py] kt pt] (.Tuple [a, b] k2 pt2) X.env = pure (some [x, y]))
    (hs : swapsWithSole [.Tuple [.Name x px, .Name y py] kt pt] (.Tuple [a, b] k2 pt2) pos.line X.env = pure false := by rfl) :
    PS X (.Assign [.Tuple [.Name x px, .Name y py] kt pt] (.Tuple [a, b] k2 pt2) pos) (tPar i j ta) := by
  intro pins s σ H D I h
  rw [exec_Assign_arm]
  refine wpAny_bind (wpAny_standAt ?_)
  rw [hs]
  refine wpAny_bind (wpAny_pure ?_)
  rw [if_neg (by decide)]
  refine wpAny_bind (Tuple_ (thn (ha _ pins s σ H _ I h) fun us s1 ⟨vs, H1, I1, r1, q1⟩ => ?_))
  obtain ⟨v, w, e1, q1⟩ := q1
  subst e1
  obtain ⟨u1, u2, rfl, rv, rw'⟩ : ∃ u1 u2, us = [u1, u2] ∧ RelV v u1 ∧ RelV w u2 := by
    cases r1 with
    | cons p q =>
      cases q with
      | cons p' q' =>
        cases q'
        exact ⟨_, _, rfl, p, p'⟩
  refine wpAny_newObj_type ?_ (by show 2 ≤ sizeLine; decide)
  have I2 : Inv X pins σ H1 { s1 with heap := s1.heap.push { cls := .type "tuple", data := .seq [u1, u2].toArray } } := I1.kept (t' := s1.toks) fun b o e => Heap.get?_push_of_some _ e
  rw [hw]
  refine wpAny_bind (wpAny_pure ?_)
  show wpAny (model X.prog X.w) X.A (do rule "assign.swapped-stores"; let items ← unpackItems (.ref s1.heap.objs.size) 2 none; assignInOrder [fun v => bindName X.env y v, fun v => bindName X.env x v] items.reverse; pure Flow.next) _ _ _
  refine wpAny_bind (wpAny_rule (wpAny_bind (unpackItems_tuple (items := #[u1, u2]) (I.ok.hd hc) (IsTup.new s1.heap _) fun h' hx' => ?_)))
  have I3 := I2.kept (h' := h') (t' := s1.toks) fun b o e => hx' b o (Nat.ne_of_lt (Heap.lt_size e)) e
  show wpAny _ _ (assignInOrder [fun v => bindName X.env y v, fun v => bindName X.env x v] [u2, u1] >>= fun _ => pure Flow.next) _ _ _
  refine wpAny_bind (assignInOrder_cons (wpAny_bindName (store_ok I3 hN hj (.inl hy) rw' (fun s2 I4 => ?_) (.inr hy))))
  refine assignInOrder_cons (wpAny_bindName (store_ok I4 hN hi (.inl hx) rv (fun s3 I5 => assignInOrder_nil (wpAny_pure ?_)) (.inr hx)))
  rw [List.set_comm _ _ (Ne.symm hij)] at I5
  exact ⟨_, H1, I5, q1⟩
/-- name op= e -/
def tAug (i : Nat) (te : TE) (ti : TIp) : TS := fun D σ H => ∃ x, σ[i]? = some (some x) ∧ te σ H fun y H1 => ti x y H1 fun z H2 => D.nx (σ.set i (some z)) H2
theorem ps_aug {i : Nat} {x : Str} {e : Expr} {te : TE} {op : Operator} {ti : TIp} {pos' : Pos} (hN : X.N.Nodup) (hi : X.N[i]? = some x) (hx : Loc X.env.scope x) (he : PE X e te) (ho : PIp X op ti) (hf : X.fn x = true ∨ X.env.scope.names.lookup x = some .local := by first | exact .inl rfl | exact .inr rfl | assumption) :
    PS X (.AugAssign (.Name x pos') op e pos) (tAug i te ti) := by
  intro pins s σ H D I h
  obtain ⟨v, e1, h⟩ := h
  obtain ⟨m, hn, hl⟩ := I.loc
  have vis : Vis X.env.scope x := by rcases hx with k | k; exact .inl k; exact .inr (.inl k)
  obtain ⟨u, r, l⟩ := hl i x v hi e1 vis
  refine wpAny_AugAssign_Name ?_
  have go : wpAny (model X.prog X.w) X.A (eval e X.env) (fun w s₂ => wpAny (model X.prog X.w) X.A (inplaceOp op u w) (fun r s₃ => wpAny (model X.prog X.w) X.A (storeName X.env x r) (fun _ => SP X pins D .next) X.xe s₃) X.xe s₂) X.xe s := by
    refine thn (he pins s σ H _ I h) fun w s1 ⟨y, H1, I1, r1, q1⟩ => ?_
    refine thn (ho pins s1 σ H1 v y u w _ I1 r r1 q1) fun z s2 ⟨zv, H2, I2, r2, q2⟩ => ?_
    exact store_ok I2 hN hi hx r2 (fun s3 I3 => ⟨_, H2, I3, q2⟩) hf
  rcases l with ⟨hk, hm⟩ | ⟨hk, c, hc, hcell⟩
  · exact wpAny_loadName_local I.ok.kind hk hn hm go
  · rcases hk with hk | hk
    · exact wpAny_loadName_cell I.ok.kind hk hc hcell go
    · rcases hx with k | k
      · have : X.env.scope.names.lookup x = some .free := hk
        rw [k] at this; cases this
      · have : X.env.scope.names.lookup x = some .free := hk
        rw [k] at this; cases this
/-- o[i] op= e -/
def tAugS (to ti te : TE) (tget : V → V → Hp → VK → Prop) (tip : TIp) (tset : TSet) : TS := fun D σ H => to σ H fun o H1 => ti σ H1 fun i H2 => tget o i H2 fun x H3 => te σ H3 fun y H4 => tip x y H4 fun z H5 => tset o i z H5 fun H6 => D.nx σ H6
/-- o[i], by values -/
def PGet (X : Cx) (t : V → V → Hp → VK → Prop) : Prop :=
  ∀ (pins : List (Addr × Obj)) (s : Shared) (σ : St) (H : Hp) (o i : V) (ov iv : Value) (Q : VK), Inv X pins σ H s → RelV o ov → RelV i iv → t o i H Q →
    wpAny (model X.prog X.w) X.A (getItem ov iv) (EP X pins σ Q) X.xe s
theorem ps_augS {o i e : Expr} {to ti te : TE} {tget : V → V → Hp → VK → Prop} {tip : TIp} {tset : TSet} {op : Operator} {tpos : Pos} (ho : PE X o to) (hi : PE X i ti) (hg : PGet X tget) (he : PE X e te) (hp : PIp X op tip) (hs : PSet X tset)
    (ha : ∀ ov iv new, augStore i ov iv new = (do holding [new, ov, iv] (setItem ov iv new); release [new, ov, iv] []; pure .next) := by intros; rfl) : PS X (.AugAssign (.Subscript o i tpos) op e pos) (tAugS to ti te tget tip tset) := by
  intro pins s σ H D I h
  refine wpAny_AugAssign_SubscriptAny (thn (ho pins s σ H _ I h) fun ov s1 ⟨x1, H1, I1, r1, q1⟩ => ?_) ha
  refine thn (hi pins s1 σ H1 _ I1 q1) fun iv s2 ⟨x2, H2, I2, r2, q2⟩ => ?_
  refine thn (hg pins s2 σ H2 x1 x2 ov iv _ I2 r1 r2 q2) fun old s3 ⟨x3, H3, I3, r3, q3⟩ => ?_
  refine thn (he pins s3 σ H3 _ I3 q3) fun v s4 ⟨x4, H4, I4, r4, q4⟩ => ?_
  refine thn (hp pins s4 σ H4 x3 x4 old v _ I4 r3 r4 q4) fun new s5 ⟨x5, H5, I5, r5, q5⟩ => ?_
  exact thn (hs pins s5 σ H5 x1 x2 x5 ov iv new _ I5 r1 r2 r5 q5) fun _ s6 ⟨H6, I6, q6⟩ => ⟨σ, H6, I6, q6⟩
/-- ints -/
def ipI (f : Int → Int → Int) : TIp := fun x y H Q => ∃ i j, x = .int i ∧ y = .int j ∧ Q (.int (f i j)) H
theorem ip_add : PIp X .Add (ipI fun i j => i + j) := by
  intro pins s σ H x y v u Q I r1 r2 h
  obtain ⟨i, j, e1, e2, q⟩ := h
  subst e1; subst e2
  obtain ⟨t, rfl⟩ := r1
  obtain ⟨t', rfl⟩ := r2
  exact iadd_int ⟨.int _, H, I.tok _, ⟨_, rfl⟩, q⟩
theorem ip_sub : PIp X .Sub (ipI fun i j => i - j) := by
  intro pins s σ H x y v u Q I r1 r2 h
  obtain ⟨i, j, e1, e2, q⟩ := h
  subst e1; subst e2
  obtain ⟨t, rfl⟩ := r1
  obtain ⟨t', rfl⟩ := r2
  exact isub_int ⟨.int _, H, I.tok _, ⟨_, rfl⟩, q⟩
end

/-! ### while -/
section
variable {X : Cx} {pos : Pos}
/-- the invariant W with its measure -/
def tWhile (c : TT) (tb : TS) : TS := fun D σ H => ∃ W : Nat → St → Hp → Prop, (∃ m, W m σ H) ∧ ∀ m σ H, W m σ H →
  c σ H fun b H1 => if b = true then ∃ N : St → Hp → Prop, (∀ σ' H', N σ' H' → ∃ m', m' < m ∧ W m' σ' H') ∧ tb { D with nx := N, ct := N, bk := D.nx } σ H1 else D.nx σ H1
theorem ps_while {c : Expr} {body : List Stmt} {tc : TT} {tb : TS} (hp : PassesOwn (model X.prog X.w) X.A X.env X.xe) (hc : PT X c tc) (hb : PSs X body tb) : PS X (.While c body [] pos) (tWhile tc tb) := by
  intro pins s σ H D I h
  obtain ⟨W, ⟨m0, w0⟩, turn⟩ := h
  refine wpAny_While (codeAny_whileLoop (fun n s' => ∃ σ' H', Inv X pins σ' H' s' ∧ W n σ' H') ?_ m0 ⟨σ, H, I, w0⟩)
  rintro n s1 ⟨σ1, H1, I1, w1⟩
  refine wpAny_passesOwn hp (thn (hc pins s1 σ1 H1 _ I1 (turn n σ1 H1 w1)) fun b s2 ⟨H2, I2, q2⟩ => ?_)
  cases b with
  | true =>
    obtain ⟨N, hN, q2⟩ := q2
    rw [if_pos rfl]
    refine wpAny_passesOwn hp (thn (hb pins s2 σ1 H2 _ I2 q2) fun f s3 q3 => ?_)
    cases f with
    | next =>
      obtain ⟨σ3, H3, I3, n3⟩ := q3
      obtain ⟨m', hm, w3⟩ := hN σ3 H3 n3
      exact ⟨m', hm, σ3, H3, I3, w3⟩
    | cont =>
      obtain ⟨σ3, H3, I3, n3⟩ := q3
      obtain ⟨m', hm, w3⟩ := hN σ3 H3 n3
      exact ⟨m', hm, σ3, H3, I3, w3⟩
    | brk => exact q3
    | ret v => exact q3
  | false =>
    rw [if_neg Bool.false_ne_true]
    exact wpAny_execs_nil ⟨σ1, H2, I2, q2⟩
end

/-! ### what a loop or a comprehension walks -/
/-- at turn i: it yields x (the heap may grow), or it stops -/
structure It where
  go : Nat → Hp → Prop
  yld : Nat → Hp → V → Hp → Prop
  stop : Nat → Hp → Prop
/-- the iterator's own objects may turn: they are not the frame's, not pinned, younger than the entry (or a comprehension's own) -/
def FpOk (X : Cx) (pins : List (Addr × Obj)) (H : Hp) (b : Addr) : Prop :=
  H b = none ∧ b ≠ X.env.locals ∧ b ∉ X.fs ∧ (b ∈ X.ex ∨ X.s₀.heap.objs.size ≤ b) ∧ (∀ x c, X.env.cells.lookup x = some c → c ≠ b) ∧ ∀ p ∈ X.pn ++ pins, p.1 ≠ b
theorem Inv.fpOk {X : Cx} {pins : List (Addr × Obj)} {σ : St} {H H' : Hp} {s : Shared} {b : Addr} (I : Inv X pins σ H s) (hb : s.heap.objs.size ≤ b) (hn : H' b = none) : FpOk X pins H' b := by
  refine ⟨hn, Nat.ne_of_gt (Nat.lt_of_lt_of_le I.lt hb), I.nofs hb, .inr (Nat.le_trans I.sz hb), fun x c e z => ?_, fun p hp z => ?_⟩
  · obtain ⟨v, q⟩ := I.cell x c e
    exact absurd (Nat.lt_of_lt_of_le q.lt (by rw [z]; exact hb)) (Nat.lt_irrefl _)
  · exact absurd (Nat.lt_of_lt_of_le (Heap.lt_size (I.pin p hp).1) (by rw [z]; exact hb)) (Nat.lt_irrefl _)
structure Turn (P : Program) (w : World) (K : PySem.W.Frag) (tg : Expr) (J : It) (fp : List Addr) (it : Addr) (tn : Nat → Heap → Prop) : Prop where
  mem : it ∈ fp
  obj : ∀ i h, tn i h → ∀ b ∈ fp, ∃ o, h.get? b = some o ∧ ∀ v, o.data ≠ .cell v
  keep : ∀ i h h', tn i h → (∀ b ∈ fp, ∀ o, h.get? b = some o → h'.get? b = some o) → tn i h'
  item : ∀ (X : Cx), X.prog = P → X.w = w → X.K = K → X.calm = true → ∀ (i : Nat) (pins : List (Addr × Obj)) (s : Shared) (σ : St) (H : Hp) (E : Value → Shared → Prop), Inv X pins σ H s → (∀ b ∈ fp, FpOk X pins H b) → tn i s.heap → J.go i H →
    wpAny (model P w) X.A (pyNext (.ref it)) (fun r s1 => ∃ u, r = some u ∧
      wpAny (model P w) X.A (letOwnedTupleGo tg (.ref it) u) (fun _ s2 => ∃ x H', Inv X pins σ H' s2 ∧ RelV x u ∧ J.yld i H x H' ∧ tn (i + 1) s2.heap ∧ ∀ b ∈ fp, H' b = none) E s1) E s
  done : ∀ (X : Cx), X.prog = P → X.w = w → X.K = K → X.calm = true → ∀ (i : Nat) (pins : List (Addr × Obj)) (s : Shared) (σ : St) (H : Hp) (E : Value → Shared → Prop), Inv X pins σ H s → (∀ b ∈ fp, FpOk X pins H b) → tn i s.heap → J.stop i H →
    wpAny (model P w) X.A (pyNext (.ref it)) (fun r s1 => r = none ∧ Inv X pins σ H s1) E s
  self : ∀ (A : Around) (i : Nat) (s : Shared) (Q : Value → Shared → Prop) (E : Value → Shared → Prop), tn i s.heap → Q (.ref it) s → wpAny (model P w) A (pyIter (.ref it)) Q E s
abbrev TI := St → Hp → (It → Hp → Prop) → Prop
/-- an iterator has come -/
def PIE (X : Cx) (pins : List (Addr × Obj)) (σ : St) (tg : Expr) (R : It → Hp → Prop) (itv : Value) (s2 : Shared) : Prop :=
  ∃ (it : Addr) (fp : List Addr) (tn : Nat → Heap → Prop) (J : It) (H' : Hp), itv = .ref it ∧ Inv X pins σ H' s2 ∧ Turn X.prog X.w X.K tg J fp it tn ∧ tn 0 s2.heap ∧ (∀ b ∈ fp, FpOk X pins H' b) ∧ R J H'
def PI (X : Cx) (tg iter : Expr) (wi : TI) : Prop :=
  ∀ (pins : List (Addr × Obj)) (s : Shared) (σ : St) (H : Hp) (R : It → Hp → Prop), Inv X pins σ H s → wi σ H R →
    wpAny (model X.prog X.w) X.A (eval iter X.env) (fun v s1 => wpAny (model X.prog X.w) X.A (pyIter v) (PIE X pins σ tg R) X.xe s1) X.xe s

/-- the step ahead of the store is nothing for an iterator that keeps no tuple -/
theorem go_of {M : Model} {A : Around} {E : Value → Shared → Prop} {s : Shared} {tg : Expr} {it : Addr} {u : Value} {o : Obj} {n : String} {vs : Array Value} {Q : Unit → Shared → Prop} (ho : s.heap.get? it = some o) (hc : o.cls = .type n) (hd : o.data = .fields vs)
    (hn : ["enumerate", "zip", "dict_itemiterator", "dict_reverseitemiterator", "odict_iterator", "itertools.zip_longest", "itertools.pairwise"].contains n = false) (hQ : Q () s) : wpAny M A (letOwnedTupleGo tg (.ref it) u) Q E s := by
  unfold letOwnedTupleGo
  cases tg <;> first
    | exact wpAny_pure hQ
    | (cases u <;> first
        | exact wpAny_pure hQ
        | (refine wpAny_bind (wpAny_load ho ?_)
           rw [hc, hd]
           show wpAny M A (if (["enumerate", "zip", "dict_itemiterator", "dict_reverseitemiterator", "odict_iterator", "itertools.zip_longest", "itertools.pairwise"].contains n && vs[0]? == some (rawInt _)) = true then _ else _) Q E s
           rw [if_neg (by intro h; rw [hn, Bool.false_and] at h; cases h)]
           exact wpAny_pure hQ))

/-- the list at a, as it stands at each turn (a loop may append to it) -/
def Itl (K : PySem.W.Frag) (a : Addr) : It :=
  ⟨fun i H => ∃ xs x, SqL K H a xs ∧ xs[i]? = some x, fun i H x H' => H' = H ∧ ∀ xs, SqL K H a xs → xs[i]? = some x, fun i H => ∃ xs, SqL K H a xs ∧ xs.length ≤ i⟩
def Itt (K : PySem.W.Frag) (a : Addr) : It :=
  ⟨fun i H => ∃ xs x, SqT K H a xs ∧ xs[i]? = some x, fun i H x H' => H' = H ∧ ∀ xs, SqT K H a xs → xs[i]? = some x, fun i H => ∃ xs, SqT K H a xs ∧ xs.length ≤ i⟩
/-- lo, lo + 1, .. (n of them) -/
def Itr (lo : Int) (n : Nat) : It := ⟨fun i _ => i < n, fun i H x H' => H' = H ∧ x = .int (lo + i), fun i _ => n ≤ i⟩
theorem turn_list {P : Program} {w : World} {K : PySem.W.Frag} {tg : Expr} (a it : Addr) : Turn P w K tg (Itl K a) [it] it (fun i h => h.IsListIter it a i) where
  mem := by simp
  obj := fun i h st b hb => by
    have e : b = it := by simpa using hb
    subst e
    obtain ⟨o, e, c, d⟩ := st
    exact ⟨o, e, fun v z => by rw [d] at z; cases z⟩
  keep := fun i h h' st k => st.at fun o e => k it (by simp) o e
  item := by
    intro X hP hw hK hc i pins s σ H E I hf st hg
    subst hP hw hK
    obtain ⟨xs, x, hq, hx⟩ := hg
    obtain ⟨its, rv, p, hz⟩ := I.list hq
    obtain ⟨u, hu, ru⟩ := rv.get hx
    obtain ⟨f0, f1, f2, f3, f4, f5⟩ := hf it (by simp)
    refine wpAny_pyNext_list_item st p.isList (x := u) (by simpa using hu) fun h' st' sb => ?_
    have I1 : Inv X pins σ H { s with heap := h' } := I.turned (t' := s.toks) (fun b o hb e => (sb.2 b hb).trans e) f0 f1 f3 f4 f5
    obtain ⟨o, e, c, d⟩ := id st'
    exact ⟨u, rfl, go_of (s := { s with heap := h' }) e c d (by decide) ⟨x, H, I1, ru, ⟨rfl, fun ys hy => by rw [I.list_inj hy hq]; exact hx⟩, st', fun b hb => (hf b hb).1⟩⟩
  done := by
    intro X hP hw hK hc i pins s σ H E I hf st hg
    subst hP hw hK
    obtain ⟨xs, hq, hx⟩ := hg
    obtain ⟨its, rv, p, hz⟩ := I.list hq
    obtain ⟨f0, f1, f2, f3, f4, f5⟩ := hf it (by simp)
    have hl := rv.length
    exact wpAny_pyNext_list_end (I.ok.hd hc) st p.isList (by simp; omega) fun h' eb => ⟨rfl, I.turned (t' := s.toks) (fun b o hb e => eb b o hb e) f0 f1 f3 f4 f5⟩
  self := fun _ _ _ _ _ st h => wpAny_pyIter_listiter st h
theorem turn_tuple {P : Program} {w : World} {K : PySem.W.Frag} {tg : Expr} (a it : Addr) : Turn P w K tg (Itt K a) [it] it (fun i h => h.IsTupleIter it a i) where
  mem := by simp
  obj := fun i h st b hb => by
    have e : b = it := by simpa using hb
    subst e
    obtain ⟨o, e, c, d⟩ := st
    exact ⟨o, e, fun v z => by rw [d] at z; cases z⟩
  keep := fun i h h' st k => st.at fun o e => k it (by simp) o e
  item := by
    intro X hP hw hK hc i pins s σ H E I hf st hg
    subst hP hw hK
    obtain ⟨xs, x, hq, hx⟩ := hg
    obtain ⟨its, rv, p, hz⟩ := I.tuple hq
    obtain ⟨u, hu, ru⟩ := rv.get hx
    obtain ⟨f0, f1, f2, f3, f4, f5⟩ := hf it (by simp)
    refine wpAny_pyNext_tuple_item st (show s.heap.IsTuple a its.toArray from p) (x := u) (by simpa using hu) fun h' st' sb => ?_
    have I1 : Inv X pins σ H { s with heap := h' } := I.turned (t' := s.toks) (fun b o hb e => (sb.2 b hb).trans e) f0 f1 f3 f4 f5
    obtain ⟨o, e, c, d⟩ := id st'
    exact ⟨u, rfl, go_of (s := { s with heap := h' }) e c d (by decide) ⟨x, H, I1, ru, ⟨rfl, fun ys hy => by rw [I.tuple_inj hy hq]; exact hx⟩, st', fun b hb => (hf b hb).1⟩⟩
  done := by
    intro X hP hw hK hc i pins s σ H E I hf st hg
    subst hP hw hK
    obtain ⟨xs, hq, hx⟩ := hg
    obtain ⟨its, rv, p, hz⟩ := I.tuple hq
    obtain ⟨f0, f1, f2, f3, f4, f5⟩ := hf it (by simp)
    have hl := rv.length
    exact wpAny_pyNext_tuple_end (I.ok.hd hc) st (show s.heap.IsTuple a its.toArray from p) (by simp; omega) fun h' eb => ⟨rfl, I.turned (t' := s.toks) (fun b o hb e => eb b o hb e) f0 f1 f3 f4 f5⟩
  self := fun _ _ _ _ _ st h => wpAny_pyIter_tupleiter st h
theorem turn_range {P : Program} {w : World} {K : PySem.W.Frag} {tg : Expr} (it : Addr) (lo : Int) (n : Nat) : Turn P w K tg (Itr lo n) [it] it (fun i h => IsRangeIter h it (lo + (i : Nat) * 1) ((n : Int) - (i : Nat)) 1) where
  mem := by simp
  obj := fun i h st b hb => by
    have e : b = it := by simpa using hb
    subst e
    exact ⟨_, st, fun v z => by
      have z' : Data.fields _ = Data.cell v := z
      cases z'⟩
  keep := fun i h h' st k => k it (by simp) _ st
  item := by
    intro X hP hw hK hc i pins s σ H E I hf st hg
    subst hP hw hK
    obtain ⟨f0, f1, f2, f3, f4, f5⟩ := hf it (by simp)
    have W := Walks.range (prog := X.prog) (w := X.w) (I.ok.hd hc) it lo 1 n
    refine W.item i s _ _ hg st fun v h' tk hv st' kk => ?_
    obtain ⟨t, rfl⟩ := hv
    have I1 : Inv X pins σ H { s with heap := h', toks := tk } := I.turned (fun b o hb e => kk b o (by simpa using hb) e) f0 f1 f3 f4 f5
    refine ⟨_, rfl, go_of (s := { s with heap := h', toks := tk }) (n := "range_iterator") st' rfl rfl (by decide) ⟨.int (lo + i), H, I1, ⟨t, ?_⟩, ⟨rfl, rfl⟩, st', fun b hb => (hf b hb).1⟩⟩
    rw [Int.mul_one]
  done := by
    intro X hP hw hK hc i pins s σ H E I hf st hg
    subst hP hw hK
    obtain ⟨f0, f1, f2, f3, f4, f5⟩ := hf it (by simp)
    exact wpAny_pyNext_range_end (I.ok.hd hc) st (by have : n ≤ i := hg; omega) fun h' eb => ⟨rfl, I.turned (t' := s.toks) (fun b o hb e => eb b o hb e) f0 f1 f3 f4 f5⟩
  self := fun _ _ _ _ _ st h => wpAny_pyIter_rangeiter st h
end L2

namespace L2
open PySem PySem.Spec PyProof.Rows
section
variable {X : Cx} {tg : Expr}
def iList (K : PySem.W.Frag) (tl : TE) : TI := fun σ H R => tl σ H fun x H1 => ∃ a, x = .ref a ∧ (∃ xs, SqL K H1 a xs) ∧ R (Itl K a) H1
def iTup (K : PySem.W.Frag) (tl : TE) : TI := fun σ H R => tl σ H fun x H1 => ∃ a, x = .ref a ∧ (∃ xs, SqT K H1 a xs) ∧ R (Itt K a) H1
theorem pi_list {l : Expr} {tl : TE} (hl : PE X l tl) : PI X tg l (iList X.K tl) := by
  intro pins s σ H R I h
  refine thn (hl pins s σ H _ I h) fun v s1 ⟨x, H1, I1, r1, q1⟩ => ?_
  obtain ⟨a, e, ⟨xs, hq⟩, q⟩ := q1
  subst e
  cases r1
  obtain ⟨its, rv, p, hz⟩ := I1.list hq
  refine wpAny_pyIter_list p.isList ?_
  refine ⟨s1.heap.objs.size, [s1.heap.objs.size], _, _, H1, rfl, I1.kept (t' := s1.toks) fun b o e => Heap.get?_push_of_some _ e, turn_list a _, ⟨_, Heap.get?_push_size _ rfl, rfl, rfl⟩, fun b hb => ?_, q⟩
  have e : b = s1.heap.objs.size := by simpa using hb
  subst e
  exact I1.fpOk (Nat.le_refl _) (I1.hok.fresh (Nat.le_refl _))
theorem pi_tup {l : Expr} {tl : TE} (hl : PE X l tl) : PI X tg l (iTup X.K tl) := by
  intro pins s σ H R I h
  refine thn (hl pins s σ H _ I h) fun v s1 ⟨x, H1, I1, r1, q1⟩ => ?_
  obtain ⟨a, e, ⟨xs, hq⟩, q⟩ := q1
  subst e
  cases r1
  obtain ⟨its, rv, p, hz⟩ := I1.tuple hq
  refine wpAny_pyIter_tuple (show s1.heap.IsTuple a its.toArray from p) ?_
  refine ⟨s1.heap.objs.size, [s1.heap.objs.size], _, _, H1, rfl, I1.kept (t' := s1.toks) fun b o e => Heap.get?_push_of_some _ e, turn_tuple a _, ⟨_, Heap.get?_push_size _ rfl, rfl, rfl⟩, fun b hb => ?_, q⟩
  have e : b = s1.heap.objs.size := by simpa using hb
  subst e
  exact I1.fpOk (Nat.le_refl _) (I1.hok.fresh (Nat.le_refl _))
/-- a range object just made, walked -/
theorem range_it {pins : List (Addr × Obj)} {σ : St} {H : Hp} {s : Shared} {R : It → Hp → Prop} {E : Value → Shared → Prop} {lo hi : Int} {t u v : Tok} {tk : Nat} (I : Inv X pins σ H s) (h1 : -(2 ^ 62) ≤ lo) (h2 : lo < 2 ^ 62) (h3 : -(2 ^ 62) ≤ hi) (h4 : hi < 2 ^ 62)
    (q : R (Itr lo (hi - lo).toNat) H) : wpAny (model X.prog X.w) X.A (pyIter (.ref s.heap.objs.size)) (PIE X pins σ tg R) E { s with heap := s.heap.push { cls := .type "range", data := .fields #[.int lo t, .int hi u, .int 1 v] }, toks := tk } := by
  refine wpAny_pyIter_range (IsRange.new ..) (small_one h1 h2 h3 h4) ?_
  have I1 : Inv X pins σ H { s with heap := s.heap.push { cls := .type "range", data := .fields #[.int lo t, .int hi u, .int 1 v] }, toks := tk } := I.kept fun b o e => Heap.get?_push_of_some _ e
  refine ⟨(s.heap.push { cls := .type "range", data := .fields #[.int lo t, .int hi u, .int 1 v] }).objs.size, [(s.heap.push { cls := .type "range", data := .fields #[.int lo t, .int hi u, .int 1 v] }).objs.size], _, _, H, rfl,
    I1.kept (t' := tk) fun b o e => Heap.get?_push_of_some _ e, turn_range _ lo (hi - lo).toNat, ?_, fun b hb => ?_, q⟩
  · have e1 : lo + ((0 : Nat) : Int) * 1 = lo := by simp
    have e2 : (((hi - lo).toNat : Nat) : Int) - ((0 : Nat) : Int) = Builtin.Range.rangeSize lo hi 1 := by rw [rangeSize_one]; split <;> omega
    show IsRangeIter _ _ (lo + ((0 : Nat) : Int) * 1) ((((hi - lo).toNat : Nat) : Int) - ((0 : Nat) : Int)) 1
    rw [e1, e2]
    exact Heap.get?_push_size _ rfl
  · have e : b = (s.heap.push { cls := .type "range", data := .fields #[.int lo t, .int hi u, .int 1 v] }).objs.size := by simpa using hb
    subst e
    exact I1.fpOk (Nat.le_refl _) (I1.hok.fresh (Nat.le_refl _))
def iRng1 (ta : TA) : TI := fun σ H R => ta σ H fun vs H1 => ∃ j : Int, vs = [.int j] ∧ -(2 ^ 62) ≤ j ∧ j < 2 ^ 62 ∧ R (Itr 0 j.toNat) H1
def iRng2 (ta : TA) : TI := fun σ H R => ta σ H fun vs H1 => ∃ i j : Int, vs = [.int i, .int j] ∧ (-(2 ^ 62) ≤ i ∧ i < 2 ^ 62 ∧ -(2 ^ 62) ≤ j ∧ j < 2 ^ 62) ∧ R (Itr i (j - i).toNat) H1
theorem pi_range1 {a : Expr} {ta : TA} {p pos : Pos} (hg : Gl X "range") (hm : X.mg "range" = none) (ha : PA X [a] ta) (hs : starEach [a] X.env = [(false, eval a X.env)] := by rfl) : PI X tg (.Call (.Name "range" p) [a] [] pos) (iRng1 ta) := by
  intro pins s σ H R I h
  refine Call_ (ld_blt I hg hm boot_range (PyProof.Rows.callWith_type1 (thn (ha pos pins s σ H _ I h) fun us s1 ⟨vs, H1, I1, r1, q1⟩ => ?_) hs rfl))
  obtain ⟨j, e, q1, q2, q⟩ := q1
  subst e
  cases r1 with
  | cons r rr =>
    cases rr
    obtain ⟨t, rfl⟩ := r
    exact call_range_1 (range_it I1 (by omega) (by omega) q1 q2 (by simpa using q))
theorem pi_range2 {a b : Expr} {ta : TA} {p pos : Pos} (hg : Gl X "range") (hm : X.mg "range" = none) (ha : PA X [a, b] ta) (hs : starEach [a, b] X.env = [(false, eval a X.env), (false, eval b X.env)] := by rfl) (hs2 : starEach [b] X.env = [(false, eval b X.env)] := by rfl) :
    PI X tg (.Call (.Name "range" p) [a, b] [] pos) (iRng2 ta) := by
  intro pins s σ H R I h
  refine Call_ (ld_blt I hg hm boot_range (PyProof.Rows.callWith_type1 (thn (ha pos pins s σ H _ I h) fun us s1 ⟨vs, H1, I1, r1, q1⟩ => ?_) (by rw [hs, hs2]) (by rw [hs2]; rfl)))
  obtain ⟨i, j, e, ⟨q1, q2, q3, q4⟩, q⟩ := q1
  subst e
  cases r1 with
  | cons r rr =>
    cases rr with
    | cons r' rr =>
      cases rr
      obtain ⟨t, rfl⟩ := r
      obtain ⟨t', rfl⟩ := r'
      exact call_range_2 (range_it I1 q1 q2 q3 q4 q)

/-! ### for -/
/-- W: the invariant by the turn and a measure; N: what the body is to reach -/
def tFor (wi : TI) (g : TG) (tb : TS) : TS := fun D σ H => wi σ H fun J H1 => ∃ W : Nat → Nat → St → Hp → Prop, (∃ m, W 0 m σ H1) ∧ ∀ i m σ H, W i m σ H →
  (J.stop i H ∧ D.nx σ H) ∨ (J.go i H ∧ ∃ N : St → Hp → Prop, (∀ σ' H', N σ' H' → ∃ m', m' < m ∧ W (i + 1) m' σ' H') ∧ ∀ x H', J.yld i H x H' → g x σ H' fun σ2 H2 => tb { D with nx := N, ct := N, bk := D.nx } σ2 H2)
/-- the records at fp as they stand -/
def pinsAt (fp : List Addr) (h : Heap) : List (Addr × Obj) := fp.filterMap fun b => (h.get? b).map fun o => (b, o)
theorem mem_pinsAt {fp : List Addr} {h : Heap} {b : Addr} {o : Obj} (hb : b ∈ fp) (e : h.get? b = some o) : (b, o) ∈ pinsAt fp h := List.mem_filterMap.mpr ⟨b, hb, by rw [e]; rfl⟩
theorem of_pinsAt {fp : List Addr} {h : Heap} {p : Addr × Obj} (hp : p ∈ pinsAt fp h) : p.1 ∈ fp ∧ h.get? p.1 = some p.2 := by
  obtain ⟨b, hb, e⟩ := List.mem_filterMap.mp hp
  cases q : h.get? b with
  | none => rw [q] at e; cases e
  | some o =>
    rw [q] at e
    have e' : (b, o) = p := Option.some.inj e
    subst e'
    exact ⟨hb, q⟩
theorem Inv.pinned {pins : List (Addr × Obj)} {σ : St} {H : Hp} {s : Shared} {fp : List Addr} (I : Inv X pins σ H s) (hf : ∀ b ∈ fp, FpOk X pins H b) (ho : ∀ b ∈ fp, ∃ o, s.heap.get? b = some o ∧ ∀ v, o.data ≠ .cell v) : Inv X (pins ++ pinsAt fp s.heap) σ H s :=
  I.pins_of fun p hp => (List.mem_append.mp hp).elim (fun z => I.pin p (List.mem_append_right _ z)) fun z => by
    obtain ⟨hb, e⟩ := of_pinsAt z
    obtain ⟨f0, f1, f2, _⟩ := hf p.1 hb
    obtain ⟨o, e', d⟩ := ho p.1 hb
    rw [e] at e'; cases e'
    exact ⟨e, f0, f1, f2, d⟩
theorem Inv.unpinned {pins pl : List (Addr × Obj)} {σ : St} {H : Hp} {s : Shared} (I : Inv X (pins ++ pl) σ H s) : Inv X pins σ H s := I.pins_of fun p hp => I.pin p (List.mem_append_right _ (List.mem_append_left _ hp))
theorem ps_for {iter : Expr} {body : List Stmt} {wi : TI} {g : TG} {tb : TS} {pos : Pos} (hp : PassesOwn (model X.prog X.w) X.A X.env X.xe) (hc : X.calm = true) (hi : PI X tg iter wi) (hg : PG X tg g) (hb : PSs X body tb)
    (hs : ∀ x, foldedSetIterable iter X.env x = pure x := by intro _; rfl) : PS X (.For tg iter body [] pos) (tFor wi g tb) := by
  intro pins s σ H D I h
  refine wpAny_For (thn (hi pins s σ H _ I h) fun v s1 h1 => thn h1 fun itv s2 h2 => ?_) hs
  obtain ⟨it, fp, tn, J, H2, e, I2, T, st2, f2, W, ⟨m0, w0⟩, turn⟩ := h2
  subst e
  -- what stays true of the iterator's objects through the loop
  have stat : ∀ {H' : Hp}, (∀ b ∈ fp, H' b = none) → ∀ b ∈ fp, FpOk X pins H' b := fun hn b hb => ⟨hn b hb, (f2 b hb).2⟩
  refine codeAny_forLoop_any (fun n s' => ∃ i σ' H', Inv X pins σ' H' s' ∧ tn i s'.heap ∧ (∀ b ∈ fp, H' b = none) ∧ W i n σ' H') ?_ m0 ⟨0, σ, H2, I2, st2, fun b hb => (f2 b hb).1, w0⟩
  rintro n s3 ⟨i, σ3, H3, I3, st3, fr3, w3⟩
  rcases turn i n σ3 H3 w3 with ⟨stop, qn⟩ | ⟨go, N, hN, step⟩
  · refine wpAny_passesOwn hp (thn (T.done X rfl rfl rfl hc i pins s3 σ3 H3 X.xe I3 (stat fr3) st3 stop) fun r s4 ⟨hr, I4⟩ => ?_)
    subst hr
    exact wpAny_execs_nil ⟨σ3, H3, I4, qn⟩
  · refine wpAny_passesOwn hp (thn (T.item X rfl rfl rfl hc i pins s3 σ3 H3 X.xe I3 (stat fr3) st3 go) fun r s4 ⟨u, hr, h4⟩ => ?_)
    subst hr
    refine wpAny_passesOwn hp (thn h4 fun _ s5 ⟨x, H5, I5, r5, y5, st5, fr5⟩ => ?_)
    have I5' := I5.pinned (stat fr5) (T.obj _ _ st5)
    refine wpAny_passesOwn hp (thn (hg _ s5 σ3 H5 x u _ I5' r5 (step x H5 y5)) fun _ s6 ⟨σ6, H6, I6, q6⟩ => ?_)
    refine wpAny_passesOwn hp (thn (hb _ s6 σ6 H6 _ I6 q6) fun f s7 q7 => ?_)
    have again : ∀ {σ7 : St} {H7 : Hp}, Inv X (pins ++ pinsAt fp s5.heap) σ7 H7 s7 → N σ7 H7 → ∃ m, m < n ∧ ∃ i σ' H', Inv X pins σ' H' s7 ∧ tn i s7.heap ∧ (∀ b ∈ fp, H' b = none) ∧ W i m σ' H' := fun {σ7 H7} I7 n7 => by
      obtain ⟨m', hm, w7⟩ := hN σ7 H7 n7
      refine ⟨m', hm, i + 1, σ7, H7, I7.unpinned, T.keep _ _ _ st5 fun b hb o e => (I7.pin (b, o) (List.mem_append_right _ (List.mem_append_right _ (mem_pinsAt hb e)))).1, fun b hb => ?_, w7⟩
      obtain ⟨o, e, d⟩ := T.obj _ _ st5 b hb
      exact (I7.pin (b, o) (List.mem_append_right _ (List.mem_append_right _ (mem_pinsAt hb e)))).2.1
    cases f with
    | next => obtain ⟨σ7, H7, I7, n7⟩ := q7; exact again I7 n7
    | cont => obtain ⟨σ7, H7, I7, n7⟩ := q7; exact again I7 n7
    | brk => obtain ⟨σ7, H7, I7, q7⟩ := q7; exact ⟨σ7, H7, I7.unpinned, q7⟩
    | ret v => obtain ⟨x7, σ7, H7, I7, r7, q7⟩ := q7; exact ⟨x7, σ7, H7, I7.unpinned, r7, q7⟩
end

/-! ### the forms one uses -/
/-- over a list that the body leaves as it is -/
theorem for_list {K : PySem.W.Frag} {a : Addr} {xs : List V} {g : TG} {tb : TS} {D : Ends} {σ : St} {H : Hp} (Pv : Nat → St → Hp → Prop) (h0 : Pv 0 σ H) (hl : ∀ i σ H, i ≤ xs.length → Pv i σ H → SqL K H a xs)
    (hs : ∀ i x σ H, xs[i]? = some x → Pv i σ H → g x σ H fun σ2 H2 => tb { D with nx := Pv (i + 1), ct := Pv (i + 1), bk := D.nx } σ2 H2) (hd : ∀ σ H, Pv xs.length σ H → D.nx σ H) :
    ∃ W : Nat → Nat → St → Hp → Prop, (∃ m, W 0 m σ H) ∧ ∀ i m σ H, W i m σ H →
      ((Itl K a).stop i H ∧ D.nx σ H) ∨ ((Itl K a).go i H ∧ ∃ N : St → Hp → Prop, (∀ σ' H', N σ' H' → ∃ m', m' < m ∧ W (i + 1) m' σ' H') ∧ ∀ x H', (Itl K a).yld i H x H' → g x σ H' fun σ2 H2 => tb { D with nx := N, ct := N, bk := D.nx } σ2 H2) := by
  refine ⟨fun i m σ H => m = xs.length - i ∧ i ≤ xs.length ∧ Pv i σ H, ⟨xs.length, by simp, Nat.zero_le _, h0⟩, ?_⟩
  rintro i m σ H ⟨rfl, hi, p⟩
  have q := hl i σ H hi p
  by_cases hlt : i < xs.length
  · refine .inr ⟨⟨xs, xs[i], q, by simp [hlt]⟩, Pv (i + 1), fun σ' H' p' => ⟨xs.length - (i + 1), by omega, rfl, hlt, p'⟩, fun x H' y => ?_⟩
    obtain ⟨e, y⟩ := y
    subst e
    exact hs i x σ _ (y xs q) p
  · have e : i = xs.length := by omega
    subst e
    exact .inl ⟨⟨xs, q, Nat.le_refl _⟩, hd σ H p⟩
theorem for_tup {K : PySem.W.Frag} {a : Addr} {xs : List V} {g : TG} {tb : TS} {D : Ends} {σ : St} {H : Hp} (Pv : Nat → St → Hp → Prop) (h0 : Pv 0 σ H) (hl : ∀ i σ H, i ≤ xs.length → Pv i σ H → SqT K H a xs)
    (hs : ∀ i x σ H, xs[i]? = some x → Pv i σ H → g x σ H fun σ2 H2 => tb { D with nx := Pv (i + 1), ct := Pv (i + 1), bk := D.nx } σ2 H2) (hd : ∀ σ H, Pv xs.length σ H → D.nx σ H) :
    ∃ W : Nat → Nat → St → Hp → Prop, (∃ m, W 0 m σ H) ∧ ∀ i m σ H, W i m σ H →
      ((Itt K a).stop i H ∧ D.nx σ H) ∨ ((Itt K a).go i H ∧ ∃ N : St → Hp → Prop, (∀ σ' H', N σ' H' → ∃ m', m' < m ∧ W (i + 1) m' σ' H') ∧ ∀ x H', (Itt K a).yld i H x H' → g x σ H' fun σ2 H2 => tb { D with nx := N, ct := N, bk := D.nx } σ2 H2) := by
  refine ⟨fun i m σ H => m = xs.length - i ∧ i ≤ xs.length ∧ Pv i σ H, ⟨xs.length, by simp, Nat.zero_le _, h0⟩, ?_⟩
  rintro i m σ H ⟨rfl, hi, p⟩
  have q := hl i σ H hi p
  by_cases hlt : i < xs.length
  · refine .inr ⟨⟨xs, xs[i], q, by simp [hlt]⟩, Pv (i + 1), fun σ' H' p' => ⟨xs.length - (i + 1), by omega, rfl, hlt, p'⟩, fun x H' y => ?_⟩
    obtain ⟨e, y⟩ := y
    subst e
    exact hs i x σ _ (y xs q) p
  · have e : i = xs.length := by omega
    subst e
    exact .inl ⟨⟨xs, q, Nat.le_refl _⟩, hd σ H p⟩
theorem for_range {lo : Int} {n : Nat} {g : TG} {tb : TS} {D : Ends} {σ : St} {H : Hp} (Pv : Nat → St → Hp → Prop) (h0 : Pv 0 σ H)
    (hs : ∀ i σ H, i < n → Pv i σ H → g (.int (lo + i)) σ H fun σ2 H2 => tb { D with nx := Pv (i + 1), ct := Pv (i + 1), bk := D.nx } σ2 H2) (hd : ∀ σ H, Pv n σ H → D.nx σ H) :
    ∃ W : Nat → Nat → St → Hp → Prop, (∃ m, W 0 m σ H) ∧ ∀ i m σ H, W i m σ H →
      ((Itr lo n).stop i H ∧ D.nx σ H) ∨ ((Itr lo n).go i H ∧ ∃ N : St → Hp → Prop, (∀ σ' H', N σ' H' → ∃ m', m' < m ∧ W (i + 1) m' σ' H') ∧ ∀ x H', (Itr lo n).yld i H x H' → g x σ H' fun σ2 H2 => tb { D with nx := N, ct := N, bk := D.nx } σ2 H2) := by
  refine ⟨fun i m σ H => m = n - i ∧ i ≤ n ∧ Pv i σ H, ⟨n, by simp, Nat.zero_le _, h0⟩, ?_⟩
  rintro i m σ H ⟨rfl, hi, p⟩
  by_cases hlt : i < n
  · refine .inr ⟨hlt, Pv (i + 1), fun σ' H' p' => ⟨n - (i + 1), by omega, rfl, hlt, p'⟩, fun x H' y => ?_⟩
    obtain ⟨e, y⟩ := y
    subst e y
    exact hs i σ _ hlt p
  · have e : i = n := by omega
    subst e
    exact .inl ⟨Nat.le_refl _, hd σ H p⟩
/-- while, by a word and a measure of the state -/
theorem while_by {c : TT} {tb : TS} {D : Ends} {σ : St} {H : Hp} (Pv : St → Hp → Prop) (μ : St → Hp → Nat) (h0 : Pv σ H)
    (hs : ∀ σ H, Pv σ H → c σ H fun b H1 => if b = true then tb { D with nx := fun σ' H' => Pv σ' H' ∧ μ σ' H' < μ σ H, ct := fun σ' H' => Pv σ' H' ∧ μ σ' H' < μ σ H, bk := D.nx } σ H1 else D.nx σ H1)
    (mono : ∀ σ H Q Q', (∀ b H1, Q b H1 → Q' b H1) → c σ H Q → c σ H Q') : tWhile c tb D σ H := by
  refine ⟨fun m σ H => m = μ σ H ∧ Pv σ H, ⟨_, rfl, h0⟩, ?_⟩
  rintro m σ H ⟨rfl, p⟩
  refine mono σ H _ _ (fun b H1 q => ?_) (hs σ H p)
  cases b with
  | true => exact ⟨_, fun σ' H' ⟨p', l⟩ => ⟨_, l, rfl, p'⟩, q⟩
  | false => exact q
end L2

namespace L2
open PySem PySem.Spec PyProof.Rows

abbrev R2 := V → V → Hp → VK → Prop
/-- a two-place operation on values: f is binaryOp op, inplaceOp op or compareOp op -/
def OpR (X : Cx) (f : Value → Value → Sem Value) (r : R2) : Prop :=
  ∀ (pins : List (Addr × Obj)) (s : Shared) (σ : St) (H : Hp) (x y : V) (v u : Value) (Q : VK), Inv X pins σ H s → RelV x v → RelV y u → r x y H Q →
    wpAny (model X.prog X.w) X.A (f v u) (EP X pins σ Q) X.xe s
/-- a one-place operation -/
def UnR (X : Cx) (f : Value → Sem Value) (r : V → Hp → VK → Prop) : Prop :=
  ∀ (pins : List (Addr × Obj)) (s : Shared) (σ : St) (H : Hp) (x : V) (v : Value) (Q : VK), Inv X pins σ H s → RelV x v → r x H Q →
    wpAny (model X.prog X.w) X.A (f v) (EP X pins σ Q) X.xe s
/-- a call of a value that is known (a builtin, a type) with values -/
def CallR (X : Cx) (f : Value) (r : List V → Hp → VK → Prop) : Prop :=
  ∀ (pins : List (Addr × Obj)) (s : Shared) (σ : St) (H : Hp) (xs : List V) (us : List Value) (Q : VK), Inv X pins σ H s → Vals xs us → r xs H Q →
    wpAny (model X.prog X.w) X.A (call f us) (EP X pins σ Q) X.xe s
/-- a value's truth -/
def TruR (X : Cx) (r : V → Hp → (Bool → Hp → Prop) → Prop) : Prop :=
  ∀ (pins : List (Addr × Obj)) (s : Shared) (σ : St) (H : Hp) (x : V) (v : Value) (Q : Bool → Hp → Prop), Inv X pins σ H s → RelV x v → r x H Q →
    wpAny (model X.prog X.w) X.A (truthy v) (TP X pins σ Q) X.xe s

def tOp (r : R2) (ta tb : TE) : TE := fun σ H Q => ta σ H fun x H1 => tb σ H1 fun y H2 => r x y H2 Q
def tUn (r : V → Hp → VK → Prop) (ta : TE) : TE := fun σ H Q => ta σ H fun x H1 => r x H1 Q
/-- ints in, under C, and a value out -/
def rI (C : Int → Int → Prop) (g : Int → Int → V) : R2 := fun x y H Q => ∃ i j, x = .int i ∧ y = .int j ∧ C i j ∧ Q (g i j) H
def rI0 (g : Int → Int → V) : R2 := fun x y H Q => ∃ i j, x = .int i ∧ y = .int j ∧ Q (g i j) H
def rU (g : Int → V) : V → Hp → VK → Prop := fun x H Q => ∃ i, x = .int i ∧ Q (g i) H

section
variable {X : Cx} {a b c : Expr} {ta tb tc : TE} {pos : Pos}

theorem binT (ha : PE X a ta) (hb : PE X b tb) {pins : List (Addr × Obj)} {s : Shared} {σ : St} {H : Hp} {R : V → V → Hp → Prop} (I : Inv X pins σ H s)
    (h : ta σ H fun x H1 => tb σ H1 fun y H2 => R x y H2) {Q : Value → Shared → Prop} {f : Value → Value → Sem Value}
    (hf : ∀ v u s2 x y H2, Inv X pins σ H2 s2 → RelV x v → RelV y u → R x y H2 → wpAny (model X.prog X.w) X.A (f v u) Q X.xe s2) :
    wpAny (model X.prog X.w) X.A (eval a X.env) (fun v s₁ => wpAny (model X.prog X.w) X.A (eval b X.env) (fun u s₂ => wpAny (model X.prog X.w) X.A (f v u) Q X.xe s₂) X.xe s₁) X.xe s := by
  refine thn (ha pins s σ H _ I h) fun v s1 ⟨x, H1, I1, r1, q1⟩ => ?_
  refine thn (hb pins s1 σ H1 _ I1 q1) fun u s2 ⟨y, H2, I2, r2, q2⟩ => ?_
  exact hf v u s2 x y H2 I2 r1 r2 q2

theorem pe_op {op : Operator} {r : R2} (ho : OpR X (binaryOp op) r) (ha : PE X a ta) (hb : PE X b tb) : PE X (.BinOp a op b pos) (tOp r ta tb) := by
  intro pins s σ H Q I h
  exact wpAny_BinOp (binT ha hb I h fun v u s2 x y H2 I2 rx ry q => ho pins s2 σ H2 x y v u Q I2 rx ry q)
theorem pe_un {op : UnaryOp} {r : V → Hp → VK → Prop} (ho : UnR X (unaryOp op) r) (ha : PE X a ta) : PE X (.UnaryOp op a pos) (tUn r ta) := by
  intro pins s σ H Q I h
  exact UnaryOp_ (thn (ha pins s σ H _ I h) fun v s1 ⟨x, H1, I1, r1, q1⟩ => ho pins s1 σ H1 x v Q I1 r1 q1)
/-- a op= e at a name: the name's slot i -/
theorem augR {op : Operator} {r : R2} (ho : OpR X (inplaceOp op) r) {pins : List (Addr × Obj)} {s : Shared} {σ : St} {H : Hp} {x y : V} {v u : Value} {Q : VK} (I : Inv X pins σ H s)
    (rx : RelV x v) (ry : RelV y u) (q : r x y H Q) : wpAny (model X.prog X.w) X.A (inplaceOp op v u) (EP X pins σ Q) X.xe s := ho pins s σ H x y v u Q I rx ry q

/-! ### ints -/
theorem opI {f : Value → Value → Sem Value} {C : Int → Int → Prop} {g : Int → Int → Int}
    (rule : ∀ (i j : Int) (t u : Tok) (s : Shared) (Q : Value → Shared → Prop) (E : Value → Shared → Prop), C i j → Q (.int (g i j) s.toks) { s with toks := s.toks + 1 } → wpAny (model X.prog X.w) X.A (f (.int i t) (.int j u)) Q E s) :
    OpR X f (rI C fun i j => .int (g i j)) := by
  intro pins s σ H x y v u Q I rx ry h
  obtain ⟨i, j, rfl, rfl, hc, q⟩ := h
  obtain ⟨t, rfl⟩ := rx
  obtain ⟨t', rfl⟩ := ry
  exact rule i j t t' s _ _ hc ⟨.int (g i j), H, I.tok _, ⟨_, rfl⟩, q⟩
theorem opI0 {f : Value → Value → Sem Value} {g : Int → Int → Int}
    (rule : ∀ (i j : Int) (t u : Tok) (s : Shared) (Q : Value → Shared → Prop) (E : Value → Shared → Prop), Q (.int (g i j) s.toks) { s with toks := s.toks + 1 } → wpAny (model X.prog X.w) X.A (f (.int i t) (.int j u)) Q E s) :
    OpR X f (rI0 fun i j => .int (g i j)) := by
  intro pins s σ H x y v u Q I rx ry h
  obtain ⟨i, j, rfl, rfl, q⟩ := h
  obtain ⟨t, rfl⟩ := rx
  obtain ⟨t', rfl⟩ := ry
  exact rule i j t t' s _ _ ⟨.int (g i j), H, I.tok _, ⟨_, rfl⟩, q⟩
theorem opB0 {f : Value → Value → Sem Value} {g : Int → Int → Bool}
    (rule : ∀ (i j : Int) (t u : Tok) (s : Shared) (Q : Value → Shared → Prop) (E : Value → Shared → Prop), Q (.bool (g i j)) s → wpAny (model X.prog X.w) X.A (f (.int i t) (.int j u)) Q E s) :
    OpR X f (rI0 fun i j => .bl (g i j)) := by
  intro pins s σ H x y v u Q I rx ry h
  obtain ⟨i, j, rfl, rfl, q⟩ := h
  obtain ⟨t, rfl⟩ := rx
  obtain ⟨t', rfl⟩ := ry
  exact rule i j t t' s _ _ ⟨.bl (g i j), H, I, rfl, q⟩

def CDiv (i j : Int) : Prop := 0 < j ∧ j < 1073741824
def CDivN (i j : Int) : Prop := j ≠ 0 ∧ j.natAbs < 1073741824
def CPow (i j : Int) : Prop := 0 ≤ j ∧ j ≤ 1000000 ∧ i.natAbs < 2 ^ 64
def CMul (i j : Int) : Prop := (-(2 ^ 64) < i ∧ i < 2 ^ 64) ∨ (-(2 ^ 64) < j ∧ j < 2 ^ 64)
theorem CMul.ok {i j : Int} (h : CMul i j) : IntMulOk i j := by
  rcases h with ⟨h1, h2⟩ | ⟨h1, h2⟩
  · exact .of_left (intBits_le_64 h1 h2)
  · exact .of_right (intBits_le_64 h1 h2)
theorem two_pow_nn (k : Nat) : (0 : Int) ≤ 2 ^ k := by
  rw [two_pow_cast]
  exact Int.natCast_nonneg _

theorem op_add : OpR X (binaryOp .Add) (rI0 fun i j => .int (i + j)) := opI0 fun _ _ _ _ _ _ _ q => add_int q
theorem op_sub : OpR X (binaryOp .Sub) (rI0 fun i j => .int (i - j)) := opI0 fun _ _ _ _ _ _ _ q => sub_int q
theorem op_mul : OpR X (binaryOp .Mult) (rI CMul fun i j => .int (i * j)) := opI fun _ _ _ _ _ _ _ hc q => mul_int q hc.ok
/-- // by a positive divisor -/
theorem op_fdiv : OpR X (binaryOp .FloorDiv) (rI CDiv fun i j => .int (i / j)) := opI fun i j _ _ _ _ _ hc q => by
  have h1 : (0 : Int) < j := hc.1
  have h2 : j < 1073741824 := hc.2
  exact floordiv_int (by omega) (by rw [Int.fdiv_eq_ediv_of_nonneg i (by omega)]; exact q) (.inl (PyProof.noPylong_small (by omega)))
theorem op_fdivN : OpR X (binaryOp .FloorDiv) (rI CDivN fun i j => .int (i.fdiv j)) := opI fun _ _ _ _ _ _ _ hc q => floordiv_int hc.1 q (.inl (PyProof.noPylong_small hc.2))
/-- % by a positive divisor of any size -/
theorem op_mod : OpR X (binaryOp .Mod) (rI (fun _ j => 0 < j) fun i j => .int (i % j)) := opI fun i j _ _ _ _ _ hc q => by
  have h1 : (0 : Int) < j := hc
  exact mod_int' (by omega) (by rw [Int.fmod_eq_emod_of_nonneg i (by omega)]; exact q)
theorem op_modN : OpR X (binaryOp .Mod) (rI (fun _ j => j ≠ 0) fun i j => .int (i.fmod j)) := opI fun _ _ _ _ _ _ _ hc q => mod_int' hc q
theorem op_pow : OpR X (binaryOp .Pow) (rI CPow fun i j => .int (i ^ j.toNat)) := opI fun _ _ _ _ _ _ _ hc q => pow_int_small hc.1 hc.2.1 hc.2.2 q
theorem op_shl : OpR X (binaryOp .LShift) (rI CPow fun i j => .int (i * 2 ^ j.toNat)) := opI fun _ _ _ _ _ _ _ hc q => lshift_int_small hc.1 hc.2.1 hc.2.2 q
theorem op_shr : OpR X (binaryOp .RShift) (rI (fun _ j => 0 ≤ j) fun i j => .int (i / 2 ^ j.toNat)) := opI fun i j _ _ _ _ _ hc q =>
  rshift_int hc (by rw [Int.fdiv_eq_ediv_of_nonneg i (two_pow_nn _)]; exact q)
theorem op_and : OpR X (binaryOp .BitAnd) (rI0 fun i j => .int (Builtin.bitAnd i j)) := opI0 fun _ _ _ _ _ _ _ q => and_int q
theorem op_or : OpR X (binaryOp .BitOr) (rI0 fun i j => .int (Builtin.bitOr i j)) := opI0 fun _ _ _ _ _ _ _ q => or_int q
theorem op_xor : OpR X (binaryOp .BitXor) (rI0 fun i j => .int (Builtin.bitXor i j)) := opI0 fun _ _ _ _ _ _ _ q => xor_int q

theorem iop_add : OpR X (inplaceOp .Add) (rI0 fun i j => .int (i + j)) := opI0 fun _ _ _ _ _ _ _ q => iadd_int q
theorem iop_sub : OpR X (inplaceOp .Sub) (rI0 fun i j => .int (i - j)) := opI0 fun _ _ _ _ _ _ _ q => isub_int q
theorem iop_mul : OpR X (inplaceOp .Mult) (rI CMul fun i j => .int (i * j)) := opI fun _ _ _ _ _ _ _ hc q => imul_int q hc.ok
theorem iop_fdiv : OpR X (inplaceOp .FloorDiv) (rI CDiv fun i j => .int (i / j)) := opI fun i j _ _ _ _ _ hc q => by
  have h1 : (0 : Int) < j := hc.1
  have h2 : j < 1073741824 := hc.2
  exact ifloordiv_int (by omega) (by rw [Int.fdiv_eq_ediv_of_nonneg i (by omega)]; exact q) (.inl (PyProof.noPylong_small (by omega)))
theorem iop_mod : OpR X (inplaceOp .Mod) (rI (fun _ j => 0 < j) fun i j => .int (i % j)) := opI fun i j _ _ _ _ _ hc q => by
  have h1 : (0 : Int) < j := hc
  exact imod_int (by omega) (by rw [Int.fmod_eq_emod_of_nonneg i (by omega)]; exact q)
theorem iop_shl : OpR X (inplaceOp .LShift) (rI CPow fun i j => .int (i * 2 ^ j.toNat)) := opI fun _ _ _ _ _ _ _ hc q => ilshift_int_small hc.1 hc.2.1 hc.2.2 q
theorem iop_shr : OpR X (inplaceOp .RShift) (rI (fun _ j => 0 ≤ j) fun i j => .int (i / 2 ^ j.toNat)) := opI fun i j _ _ _ _ _ hc q =>
  irshift_int hc (by rw [Int.fdiv_eq_ediv_of_nonneg i (two_pow_nn _)]; exact q)
theorem iop_and : OpR X (inplaceOp .BitAnd) (rI0 fun i j => .int (Builtin.bitAnd i j)) := opI0 fun _ _ _ _ _ _ _ q => iand_int q
theorem iop_or : OpR X (inplaceOp .BitOr) (rI0 fun i j => .int (Builtin.bitOr i j)) := opI0 fun _ _ _ _ _ _ _ q => ior_int q
theorem iop_xor : OpR X (inplaceOp .BitXor) (rI0 fun i j => .int (Builtin.bitXor i j)) := opI0 fun _ _ _ _ _ _ _ q => ixor_int q

theorem unI {f : Value → Sem Value} {g : Int → Int}
    (rule : ∀ (i : Int) (t : Tok) (s : Shared) (Q : Value → Shared → Prop) (E : Value → Shared → Prop), Q (.int (g i) s.toks) { s with toks := s.toks + 1 } → wpAny (model X.prog X.w) X.A (f (.int i t)) Q E s) :
    UnR X f (rU fun i => .int (g i)) := by
  intro pins s σ H x v Q I rx h
  obtain ⟨i, rfl, q⟩ := h
  obtain ⟨t, rfl⟩ := rx
  exact rule i t s _ _ ⟨.int (g i), H, I.tok _, ⟨_, rfl⟩, q⟩
theorem un_neg : UnR X (unaryOp .USub) (rU fun i => .int (-i)) := unI fun _ _ _ _ _ q => neg_int q
theorem un_inv : UnR X (unaryOp .Invert) (rU fun i => .int (Builtin.bitNot i)) := unI fun _ _ _ _ _ q => invert_int q

/-! ### bools among ints: n += (a < b) -/
theorem op_add_ib : OpR X (binaryOp .Add) (fun x y H Q => ∃ i k, x = .int i ∧ y = .bl k ∧ Q (.int (i + b2i k)) H) := by
  intro pins s σ H x y v u Q I rx ry h
  obtain ⟨i, k, rfl, rfl, q⟩ := h
  obtain ⟨t, rfl⟩ := rx
  cases ry
  exact add_int_bool ⟨.int (i + b2i k), H, I.tok _, ⟨_, rfl⟩, q⟩
end

/-! ### comparisons -/
/-- the scalars that == tells apart as data does -/
def scal : V → V → Bool
  | .non, .non => true | .non, .int _ => true | .int _, .non => true | .non, .bl _ => true | .bl _, .non => true | .non, .str _ => true | .str _, .non => true
  | .int _, .int _ => true | .bl _, .bl _ => true | .str _, .str _ => true | .byt _, .byt _ => true
  | .int _, .str _ => true | .str _, .int _ => true | .bl _, .str _ => true | .str _, .bl _ => true
  | _, _ => false
def rEq : R2 := fun x y H Q => scal x y = true ∧ Q (.bl (decide (x = y))) H
def rNe : R2 := fun x y H Q => scal x y = true ∧ Q (.bl (!decide (x = y))) H

theorem dec_int {i j : Int} : decide (V.int i = V.int j) = (i == j) := by
  rw [Bool.eq_iff_iff]
  simp
theorem dec_bl {i j : Bool} : decide (V.bl i = V.bl j) = (i == j) := by
  rw [Bool.eq_iff_iff]
  simp
theorem dec_str {i j : Str} : decide (V.str i = V.str j) = (i == j) := by
  rw [Bool.eq_iff_iff]
  simp
theorem dec_byt {i j : Array UInt8} : decide (V.byt i = V.byt j) = (i.toList == j.toList) := by
  rw [Bool.eq_iff_iff]
  cases i
  cases j
  simp

section
variable {X : Cx} {a b c : Expr} {ta tb tc : TE} {pos : Pos}
theorem fin_bl {pins : List (Addr × Obj)} {σ : St} {H : Hp} {s : Shared} {Q : VK} {k k' : Bool} (I : Inv X pins σ H s) (q : Q (.bl k) H) (e : k = k') : EP X pins σ Q (.bool k') s := by
  subst e
  exact ⟨.bl k, H, I, rfl, q⟩
theorem op_eq : OpR X (compareOp .Eq) rEq := by
  intro pins s σ H x y v u Q I rx ry h
  obtain ⟨hs, q⟩ := h
  cases x with
  | non =>
    cases rx
    cases y with
    | non => cases ry; exact PySem.EqNone.eq_none_none (fin_bl I q (by simp))
    | bl j => cases ry; exact PySem.EqNone.eq_none_bool (fin_bl I q (by simp))
    | int j => obtain ⟨t', rfl⟩ := ry; exact PySem.EqNone.eq_none_int (fin_bl I q (by simp))
    | str j => obtain ⟨t', rfl⟩ := ry; exact PySem.EqNone.eq_none_str (fin_bl I q (by simp))
    | _ => exact absurd (show false = true from hs) Bool.false_ne_true
  | bl i =>
    cases rx
    cases y with
    | non => cases ry; exact PySem.EqNone.eq_bool_none (fin_bl I q (by simp))
    | bl j => cases ry; exact eq_bool (fin_bl I q dec_bl)
    | str j => obtain ⟨t', rfl⟩ := ry; exact PySem.EqMixed.eq_bool_str (fin_bl I q (by simp))
    | _ => exact absurd (show false = true from hs) Bool.false_ne_true
  | int i =>
    obtain ⟨t, rfl⟩ := rx
    cases y with
    | non => cases ry; exact PySem.EqNone.eq_int_none (fin_bl I q (by simp))
    | int j => obtain ⟨t', rfl⟩ := ry; exact eq_int (fin_bl I q dec_int)
    | str j => obtain ⟨t', rfl⟩ := ry; exact PySem.EqMixed.eq_int_str (fin_bl I q (by simp))
    | _ => exact absurd (show false = true from hs) Bool.false_ne_true
  | str i =>
    obtain ⟨t, rfl⟩ := rx
    cases y with
    | non => cases ry; exact PySem.EqNone.eq_str_none (fin_bl I q (by simp))
    | bl j => cases ry; exact PySem.EqMixed.eq_str_bool (fin_bl I q (by simp))
    | int j => obtain ⟨t', rfl⟩ := ry; exact PySem.EqMixed.eq_str_int (fin_bl I q (by simp))
    | str j => obtain ⟨t', rfl⟩ := ry; exact eq_str (fin_bl I q dec_str)
    | _ => exact absurd (show false = true from hs) Bool.false_ne_true
  | byt i =>
    obtain ⟨t, rfl⟩ := rx
    cases y with
    | byt j => obtain ⟨t', rfl⟩ := ry; exact PySem.W.eq_bytes (fin_bl I q dec_byt)
    | _ => exact absurd (show false = true from hs) Bool.false_ne_true
  | _ => cases y <;> exact absurd (show false = true from hs) Bool.false_ne_true
theorem op_ne : OpR X (compareOp .NotEq) rNe := by
  intro pins s σ H x y v u Q I rx ry h
  obtain ⟨hs, q⟩ := h
  cases x with
  | non =>
    cases rx
    cases y with
    | non => cases ry; exact PySem.EqNone.ne_none_none (fin_bl I q (by simp))
    | bl j => cases ry; exact PySem.EqNone.ne_none_bool (fin_bl I q (by simp))
    | int j => obtain ⟨t', rfl⟩ := ry; exact PySem.EqNone.ne_none_int (fin_bl I q (by simp))
    | str j => obtain ⟨t', rfl⟩ := ry; exact PySem.EqNone.ne_none_str (fin_bl I q (by simp))
    | _ => exact absurd (show false = true from hs) Bool.false_ne_true
  | bl i =>
    cases rx
    cases y with
    | non => cases ry; exact PySem.EqNone.ne_bool_none (fin_bl I q (by simp))
    | bl j => cases ry; exact ne_bool (fin_bl I q (congrArg not dec_bl))
    | str j => obtain ⟨t', rfl⟩ := ry; exact PySem.EqMixed.ne_bool_str (fin_bl I q (by simp))
    | _ => exact absurd (show false = true from hs) Bool.false_ne_true
  | int i =>
    obtain ⟨t, rfl⟩ := rx
    cases y with
    | non => cases ry; exact PySem.EqNone.ne_int_none (fin_bl I q (by simp))
    | int j => obtain ⟨t', rfl⟩ := ry; exact ne_int (fin_bl I q (congrArg not dec_int))
    | str j => obtain ⟨t', rfl⟩ := ry; exact PySem.EqMixed.ne_int_str (fin_bl I q (by simp))
    | _ => exact absurd (show false = true from hs) Bool.false_ne_true
  | str i =>
    obtain ⟨t, rfl⟩ := rx
    cases y with
    | non => cases ry; exact PySem.EqNone.ne_str_none (fin_bl I q (by simp))
    | bl j => cases ry; exact PySem.EqMixed.ne_str_bool (fin_bl I q (by simp))
    | int j => obtain ⟨t', rfl⟩ := ry; exact PySem.EqMixed.ne_str_int (fin_bl I q (by simp))
    | str j => obtain ⟨t', rfl⟩ := ry; exact ne_str (fin_bl I q (congrArg not dec_str))
    | _ => exact absurd (show false = true from hs) Bool.false_ne_true
  | byt i =>
    obtain ⟨t, rfl⟩ := rx
    cases y with
    | byt j => obtain ⟨t', rfl⟩ := ry; exact PySem.W.ne_bytes (fin_bl I q (congrArg not dec_byt))
    | _ => exact absurd (show false = true from hs) Bool.false_ne_true
  | _ => cases y <;> exact absurd (show false = true from hs) Bool.false_ne_true

theorem op_lt : OpR X (compareOp .Lt) (rI0 fun i j => .bl (decide (i < j))) := opB0 fun _ _ _ _ _ _ _ q => lt_int q
theorem op_le : OpR X (compareOp .LtE) (rI0 fun i j => .bl (decide (i ≤ j))) := opB0 fun _ _ _ _ _ _ _ q => le_int q
theorem op_gt : OpR X (compareOp .Gt) (rI0 fun i j => .bl (decide (j < i))) := opB0 fun _ _ _ _ _ _ _ q => gt_int q
theorem op_ge : OpR X (compareOp .GtE) (rI0 fun i j => .bl (decide (j ≤ i))) := opB0 fun _ _ _ _ _ _ _ q => ge_int q
theorem op_lt_str : OpR X (compareOp .Lt) (fun x y H Q => ∃ i j, x = .str i ∧ y = .str j ∧ Q (.bl (decide (i.cps.toList < j.cps.toList))) H) := by
  intro pins s σ H x y v u Q I rx ry h
  obtain ⟨i, j, rfl, rfl, q⟩ := h
  obtain ⟨t, rfl⟩ := rx
  obtain ⟨t', rfl⟩ := ry
  exact lt_str (fin_bl I q rfl)
/-- the one string within the other -/
theorem op_in_str : OpR X (compareOp .In) (fun x y H Q => ∃ i j, x = .str i ∧ y = .str j ∧ Q (.bl (!(Builtin.Str.occurrences j i 0 j.length 1).isEmpty)) H) := by
  intro pins s σ H x y v u Q I rx ry h
  obtain ⟨i, j, rfl, rfl, q⟩ := h
  obtain ⟨t, rfl⟩ := rx
  obtain ⟨t', rfl⟩ := ry
  exact in_str (fin_bl I q rfl)

/-- is None, is not None: the right side a value none -/
theorem op_isN : OpR X (compareOp .Is) (fun x y H Q => y = .non ∧ Q (.bl (decide (x = .non))) H) := by
  intro pins s σ H x y v u Q I rx ry h
  obtain ⟨rfl, q⟩ := h
  cases ry
  refine is_none_gen (fin_bl I q ?_)
  cases x <;> first
    | (cases rx; rfl)
    | (obtain ⟨t, rfl⟩ := rx; rfl)
theorem op_notN : OpR X (compareOp .IsNot) (fun x y H Q => y = .non ∧ Q (.bl (!decide (x = .non))) H) := by
  intro pins s σ H x y v u Q I rx ry h
  obtain ⟨rfl, q⟩ := h
  cases ry
  refine isnot_none_gen (fin_bl I q ?_)
  cases x <;> first
    | (cases rx; rfl)
    | (obtain ⟨t, rfl⟩ := rx; rfl)

theorem op_notin_str : OpR X (compareOp .NotIn) (fun x y H Q => ∃ i j, x = .str i ∧ y = .str j ∧ Q (.bl (!(!(Builtin.Str.occurrences j i 0 j.length 1).isEmpty))) H) := by
  intro pins s σ H x y v u Q I rx ry h
  obtain ⟨i, j, rfl, rfl, q⟩ := h
  obtain ⟨t, rfl⟩ := rx
  obtain ⟨t', rfl⟩ := ry
  exact notIn_str (fin_bl I q rfl)
/-- is, is not of two objects that are tracked lists or instances -/
def isObj : HO → Bool
  | .lst _ => true
  | .ins _ _ _ => true
  | _ => false
theorem obj_there {pins : List (Addr × Obj)} {s : Shared} {σ : St} {H : Hp} {a : Addr} {o : HO} (I : Inv X pins σ H s) (h : H a = some o) (p : isObj o = true) : ∃ ob, s.heap.get? a = some ob ∧ ob.cls ≠ .type "tuple" := by
  cases o with
  | lst xs =>
    obtain ⟨_, its, n, _, e⟩ : xs.length ≤ sizeLine ∧ ∃ (its : List Value) (n : Nat), Vals xs its ∧ s.heap.get? a = some { cls := .type "list", data := .seq its.toArray n } := I.hok a _ h
    exact ⟨_, e, (by show Value.type "list" ≠ .type "tuple"; decide +kernel)⟩
  | ins C dx fs =>
    have x := I.hok a _ h
    obtain ⟨_, _, _, e, _⟩ := x
    exact ⟨_, e, (by show Value.ref C ≠ .type "tuple"; exact fun z => by cases z)⟩
  | _ => exact absurd (show false = true from p) Bool.false_ne_true
theorem op_is_ref : OpR X (compareOp .Is) (fun x y H Q => ∃ a b oa ob, x = .ref a ∧ y = .ref b ∧ H a = some oa ∧ isObj oa = true ∧ H b = some ob ∧ isObj ob = true ∧ Q (.bl (decide (a = b))) H) := by
  intro pins s σ H x y v u Q I rx ry h
  obtain ⟨a, b, oa, ob, rfl, rfl, ha, pa, hb, pb, q⟩ := h
  cases rx
  cases ry
  obtain ⟨o1, e1, n1⟩ := obj_there I ha pa
  obtain ⟨o2, e2, _⟩ := obj_there I hb pb
  by_cases z : a = b
  · subst z
    exact wpAny_is_ref_self (fin_bl I q (by simp))
  · exact wpAny_is_ref_other z e1 e2 n1 (fin_bl I q (by simp [z]))
theorem op_isnot_ref : OpR X (compareOp .IsNot) (fun x y H Q => ∃ a b oa ob, x = .ref a ∧ y = .ref b ∧ H a = some oa ∧ isObj oa = true ∧ H b = some ob ∧ isObj ob = true ∧ Q (.bl (!decide (a = b))) H) := by
  intro pins s σ H x y v u Q I rx ry h
  obtain ⟨a, b, oa, ob, rfl, rfl, ha, pa, hb, pb, q⟩ := h
  cases rx
  cases ry
  obtain ⟨o1, e1, n1⟩ := obj_there I ha pa
  obtain ⟨o2, e2, _⟩ := obj_there I hb pb
  by_cases z : a = b
  · subst z
    exact wpAny_isNot_ref_self (fin_bl I q (by simp))
  · exact wpAny_isNot_ref_other z e1 e2 n1 (fin_bl I q (by simp [z]))

/-- two rules for one operation: by cases -/
theorem OpR.or {f : Value → Value → Sem Value} {r r' : R2} (h : OpR X f r) (h' : OpR X f r') : OpR X f (fun x y H Q => r x y H Q ∨ r' x y H Q) := by
  intro pins s σ H x y v u Q I rx ry q
  rcases q with q | q
  · exact h pins s σ H x y v u Q I rx ry q
  · exact h' pins s σ H x y v u Q I rx ry q

theorem nomark (b : Expr) {op : CmpOp} (h : op ≠ .In := by decide) (h2 : op ≠ .NotIn := by decide) : behindInMarks op b = false := by
  have e1 : (op == CmpOp.In) = false := by cases op <;> first | rfl | exact absurd rfl h
  have e2 : (op == CmpOp.NotIn) = false := by cases op <;> first | rfl | exact absurd rfl h2
  cases b <;> simp [behindInMarks, e1, e2]
/-- a comparison as a value; hm: nomark b, or (for in, not in) by with_unfolding_all rfl -/
theorem pe_cmpR {op : CmpOp} {r : R2} (ho : OpR X (compareOp op) r) (ha : PE X a ta) (hb : PE X b tb) (hm : behindInMarks op b = false) : PE X (.Compare a [op] [b] pos) (tOp r ta tb) := by
  intro pins s σ H Q I h
  exact wpAny_Compare1 (binT ha hb I h fun v u s2 x y H2 I2 rx ry q => ho pins s2 σ H2 x y v u Q I2 rx ry q) hm
/-- a reading of a value as a test -/
def tTest (t : TE) : TT := fun σ H Q => t σ H fun x H' => ∃ k, x = .bl k ∧ Q k H'
theorem pt_cmpR {op : CmpOp} {r : R2} (ho : OpR X (compareOp op) r) (ha : PE X a ta) (hb : PE X b tb) (hm : behindInMarks op b = false) : PT X (.Compare a [op] [b] pos) (tTest (tOp r ta tb)) := by
  intro pins s σ H Q I h
  refine wpAny_isTrue_Compare1 (thn (ha pins s σ H _ I h) fun v s1 ⟨x, H1, I1, r1, q1⟩ => thn (hb pins s1 σ H1 _ I1 q1) fun u s2 ⟨y, H2, I2, r2, q2⟩ =>
    thn (ho pins s2 σ H2 x y v u _ I2 r1 r2 q2) fun c s3 ⟨z, H3, I3, r3, k, e, q3⟩ => ?_) hm
  subst e
  cases r3
  exact wpAny_truthy_bool ⟨H3, I3, q3⟩
/-- a op1 b op2 c -/
def tChain (r r' : R2) (ta tb tc : TE) : TE := fun σ H Q => ta σ H fun x H1 => tb σ H1 fun y H2 => r x y H2 fun z H3 => ∃ k, z = .bl k ∧
  (if k = true then tc σ H3 fun w' H4 => r' y w' H4 Q else Q (.bl false) H3)
theorem pe_chain {op op' : CmpOp} {r r' : R2} (ho : OpR X (compareOp op) r) (ho' : OpR X (compareOp op') r') (ha : PE X a ta) (hb : PE X b tb) (hc : PE X c tc)
    (hm : lastMarks [op, op'] [b, c] = false := by with_unfolding_all rfl) : PE X (.Compare a [op, op'] [b, c] pos) (tChain r r' ta tb tc) := by
  intro pins s σ H Q I h
  refine Compare_chain (thn (ha pins s σ H _ I h) fun v s1 ⟨x, H1, I1, r1, q1⟩ => chain_link (thn (hb pins s1 σ H1 _ I1 q1) fun u s2 ⟨y, H2, I2, r2, q2⟩ =>
    thn (ho pins s2 σ H2 x y v u _ I2 r1 r2 q2) fun d s3 ⟨z, H3, I3, r3, k, e, q3⟩ => ?_)) hm
  subst e
  cases r3
  refine wpAny_truthy_bool ?_
  cases k with
  | false => exact ite_ff ⟨.bl false, H3, I3, rfl, q3⟩
  | true => exact ite_tt (chain_last (thn (hc pins s3 σ H3 _ I3 q3) fun w' s4 ⟨z', H4, I4, r4, q4⟩ => ho' pins s4 σ H4 y z' u w' Q I4 r2 r4 q4))
theorem pt_chain {op op' : CmpOp} {r r' : R2} (ho : OpR X (compareOp op) r) (ho' : OpR X (compareOp op') r') (ha : PE X a ta) (hb : PE X b tb) (hc : PE X c tc)
    (hm : lastMarks [op, op'] [b, c] = false := by with_unfolding_all rfl) : PT X (.Compare a [op, op'] [b, c] pos) (tTest (tChain r r' ta tb tc)) := by
  intro pins s σ H Q I h
  refine isTrue_chain (thn (ha pins s σ H _ I h) fun v s1 ⟨x, H1, I1, r1, q1⟩ => test_link (thn (hb pins s1 σ H1 _ I1 q1) fun u s2 ⟨y, H2, I2, r2, q2⟩ =>
    thn (ho pins s2 σ H2 x y v u _ I2 r1 r2 q2) fun d s3 ⟨z, H3, I3, r3, k, e, q3⟩ => ?_)) hm
  subst e
  cases r3
  refine wpAny_truthy_bool ?_
  cases k with
  | false =>
    obtain ⟨k', e', q'⟩ := q3
    cases e'
    exact ite_ff ⟨H3, I3, q'⟩
  | true =>
    refine ite_tt (test_last (thn (hc pins s3 σ H3 _ I3 q3) fun w' s4 ⟨z', H4, I4, r4, q4⟩ => thn (ho' pins s4 σ H4 y z' u w' _ I4 r2 r4 q4) fun d' s5 ⟨z2, H5, I5, r5, k2, e2, q5⟩ => ?_))
    subst e2
    cases r5
    exact wpAny_truthy_bool ⟨H5, I5, q5⟩

/-! ### truth -/
/-- a value's truth by the abstract heap -/
def TruV (K : PySem.W.Frag) (x : V) (H : Hp) (k : Bool) : Prop :=
  match x with
  | .non => k = false
  | .bl b => k = b
  | .int i => k = (i != 0)
  | .str y => y.length ≤ sizeLine ∧ k = ((y.length : Int) != 0)
  | .byt y => y.size ≤ sizeLine ∧ k = ((y.size : Int) != 0)
  | .ref p => (∃ xs, SqL K H p xs ∧ k = !xs.isEmpty) ∨ (∃ xs, SqT K H p xs ∧ k = !xs.isEmpty) ∨ ∃ kvs, H p = some (.dK kvs) ∧ k = !kvs.isEmpty
  | _ => False
theorem isEmpty_kv {κ : Type} {kvs : List (κ × V)} {vs : List (κ × Value)} (r : KV kvs vs) : (!vs.isEmpty) = !kvs.isEmpty := by
  cases r <;> rfl
theorem isEmpty_of {xs : List V} {its : List Value} (r : Vals xs its) : (!its.toArray.isEmpty) = !xs.isEmpty := by
  cases r <;> simp
theorem line63 : (sizeLine : Nat) < 2 ^ 63 := by rw [sizeLine_eq]; decide
theorem tru_ok : TruR X (fun x H Q => ∃ k, TruV X.K x H k ∧ Q k H) := by
  intro pins s σ H x v Q I rx h
  obtain ⟨k, e, q⟩ := h
  have hl := line63
  have hs : sizeLine = 16777216 := sizeLine_eq
  cases x with
  | non =>
    cases rx
    have e' : k = false := e
    subst e'
    exact truthy_none ⟨H, I, q⟩
  | bl b =>
    cases rx
    have e' : k = b := e
    subst e'
    exact wpAny_truthy_bool ⟨H, I, q⟩
  | int i =>
    obtain ⟨t, rfl⟩ := rx
    have e' : k = (i != 0) := e
    subst e'
    exact PySem.P.truthy_int ⟨H, I, q⟩
  | str y =>
    obtain ⟨t, rfl⟩ := rx
    obtain ⟨hy, e'⟩ : y.length ≤ sizeLine ∧ k = ((y.length : Int) != 0) := e
    subst e'
    exact PySem.P.truthy_str (by omega) ⟨H, I.tok _, q⟩
  | byt y =>
    obtain ⟨t, rfl⟩ := rx
    obtain ⟨hy, e'⟩ : y.size ≤ sizeLine ∧ k = ((y.size : Int) != 0) := e
    subst e'
    exact PySem.W.truthy_bytes (by omega) ⟨H, I.tok _, q⟩
  | ref p =>
    cases rx
    have e' : (∃ xs, SqL X.K H p xs ∧ k = !xs.isEmpty) ∨ (∃ xs, SqT X.K H p xs ∧ k = !xs.isEmpty) ∨ ∃ kvs, H p = some (.dK kvs) ∧ k = !kvs.isEmpty := e
    rcases e' with ⟨xs, hx, e'⟩ | ⟨xs, hx, e'⟩ | ⟨kvs, hx, e'⟩
    · subst e'
      obtain ⟨its, r, pl, hz⟩ := I.list hx
      have hlen := r.length
      exact wpAny_truthy_list pl.isList (by simp only [List.size_toArray]; omega) ⟨H, I.tok _, by rw [isEmpty_of r]; exact q⟩
    · subst e'
      obtain ⟨its, r, pl, hz⟩ := I.tuple hx
      have hlen := r.length
      exact truthy_tuple pl (by simp only [List.size_toArray]; omega) ⟨H, I.tok _, by rw [isEmpty_of r]; exact q⟩
    · subst e'
      obtain ⟨hz, hS, vs, r, m⟩ : kvs.length ≤ sizeLine ∧ (p == sysModules) = false ∧ ∃ vs, KV kvs vs ∧ s.heap.DictOf (mixKind X.prog X.w) p vs := I.hok p _ hx
      have hlen : kvs.length = vs.length := Paired.length r
      exact wpAny_truthy_dict hS m (by omega) ⟨H, I.tok _, by rw [isEmpty_kv r]; exact q⟩
  | _ => exact (show False from e).elim
/-- any expression whose test is its value's truth (a name, a call, a subscript, a field ..: he by fun _ => rfl) -/
theorem pt_truth (ha : PE X a ta) (he : ∀ whole, isTrue a X.env whole = (do let v ← whole; standAt a.pos; holding [v] (truthy v))) :
    PT X a (fun σ H Q => ta σ H fun x H' => ∃ k, TruV X.K x H' k ∧ Q k H') := by
  intro pins s σ H Q I h
  exact isTrue_plain (thn (ha pins s σ H _ I h) fun v s1 ⟨x, H1, I1, r1, q1⟩ => tru_ok pins s1 σ H1 x v Q I1 r1 q1) (he _)

/-! ### strs and bytes -/
theorem pe_byt {x : List UInt8} {k : Nat} : PE X (.Constant (.bytes x) k pos) (fun _ H Q => Q (.byt x.toArray) H) := fun _ _ _ H _ I h => PySem.W.Constant_bytes ⟨.byt x.toArray, H, I.tok _, ⟨_, rfl⟩, h⟩
theorem op_add_str : OpR X (binaryOp .Add) (fun x y H Q => ∃ i j, x = .str i ∧ y = .str j ∧ i.length + j.length ≤ sizeLine ∧ Q (.str (i ++ j)) H) := by
  intro pins s σ H x y v u Q I rx ry h
  obtain ⟨i, j, rfl, rfl, hz, q⟩ := h
  obtain ⟨t, rfl⟩ := rx
  obtain ⟨t', rfl⟩ := ry
  exact add_str (fun t' tk => ⟨.str (i ++ j), H, I.tok _, ⟨_, rfl⟩, q⟩) hz
theorem iop_add_str : OpR X (inplaceOp .Add) (fun x y H Q => ∃ i j, x = .str i ∧ y = .str j ∧ i.length + j.length ≤ sizeLine ∧ Q (.str (i ++ j)) H) := by
  intro pins s σ H x y v u Q I rx ry h
  obtain ⟨i, j, rfl, rfl, hz, q⟩ := h
  obtain ⟨t, rfl⟩ := rx
  obtain ⟨t', rfl⟩ := ry
  exact iadd_str (fun t' tk => ⟨.str (i ++ j), H, I.tok _, ⟨_, rfl⟩, q⟩) hz
theorem op_add_byt : OpR X (binaryOp .Add) (fun x y H Q => ∃ i j, x = .byt i ∧ y = .byt j ∧ i.size + j.size ≤ 16777216 ∧ Q (.byt (i ++ j)) H) := by
  intro pins s σ H x y v u Q I rx ry h
  obtain ⟨i, j, rfl, rfl, hz, q⟩ := h
  obtain ⟨t, rfl⟩ := rx
  obtain ⟨t', rfl⟩ := ry
  exact PySem.W.KBy.add_bytes hz (fun t' tk => ⟨.byt (i ++ j), H, I.tok _, ⟨_, rfl⟩, q⟩)

def PlainIxT (b : Expr) : Prop := ∀ o i, subscripted b false o i = operate [o, i] (getItem o i)
/-- s[i], 0 ≤ i < len -/
theorem pe_item_str (ha : PE X a ta) (hb : PE X b tb) (hs : PlainIxT b) :
    PE X (.Subscript a b pos) (tOp (fun x y H Q => ∃ z i c, x = .str z ∧ y = .int i ∧ 0 ≤ i ∧ i < 2 ^ 63 ∧ i < z.length ∧ z.cps[i.toNat]? = some c ∧ Q (.str ⟨#[c]⟩) H) ta tb) := by
  intro pins s σ H Q I h
  refine Subscript_ (binT ha hb I h fun v u s2 x y H2 I2 rx ry q => ?_)
  obtain ⟨z, i, c, rfl, rfl, h0, h63, h1, hc, q⟩ := q
  obtain ⟨t, rfl⟩ := rx
  obtain ⟨t', rfl⟩ := ry
  have e : seqIndex? i z.length = some i.toNat := PySem.StrLaws.seqIndex_nonneg h0 h1
  exact tail_any (typeIs_str s2 z t) slot_str_getitem.lookup (getItem_str (c := c) (by
    have e1 : decide (i < -(2 ^ 63 : Int)) = false := decide_eq_false (by omega)
    have e2 : decide (i ≥ 2 ^ 63) = false := decide_eq_false (by omega)
    rw [e1, e2] <;> rfl) (by rw [e]; exact hc) ⟨.str ⟨#[c]⟩, H2, I2.tok _, ⟨_, rfl⟩, q⟩) (hs _ _)
/-- b[i], 0 ≤ i < len -/
theorem pe_item_byt (ha : PE X a ta) (hb : PE X b tb) (hs : PlainIxT b) :
    PE X (.Subscript a b pos) (tOp (fun x y H Q => ∃ (z : List UInt8) (i : Int), x = .byt z.toArray ∧ y = .int i ∧ z.length ≤ sizeLine ∧ 0 ≤ i ∧ i < z.length ∧ Q (.int ((z.getD i.toNat 0).toNat : Nat)) H) ta tb) := by
  intro pins s σ H Q I h
  refine Subscript_ (binT ha hb I h fun v u s2 x y H2 I2 rx ry q => ?_)
  obtain ⟨z, i, rfl, rfl, hz, h0, h1, q⟩ := q
  obtain ⟨t, rfl⟩ := rx
  obtain ⟨t', rfl⟩ := ry
  have hl : sizeLine = 16777216 := sizeLine_eq
  exact tail_any (PySem.W.typeIs_bytes s2 z.toArray t) PySem.W.FB.slot_bytes_getitem.lookup (PySem.W.getItem_bytes (by omega) h0 h1 ⟨.int ((z.getD i.toNat 0).toNat : Nat), H2, I2.tok _, ⟨_, rfl⟩, q⟩) (hs _ _)

/-! ### scalar builtins, by CallR -/
theorem vals1 {x : V} {us : List Value} (r : Vals [x] us) : ∃ u, us = [u] ∧ RelV x u := by
  cases r with
  | cons r1 r2 => cases r2; exact ⟨_, rfl, r1⟩
theorem vals2 {x y : V} {us : List Value} (r : Vals [x, y] us) : ∃ u w', us = [u, w'] ∧ RelV x u ∧ RelV y w' := by
  cases r with
  | cons r1 r2 =>
    cases r2 with
    | cons r3 r4 => cases r4; exact ⟨_, _, rfl, r1, r3⟩
theorem call_abs : CallR X (.builtin "abs") (fun xs H Q => ∃ i, xs = [.int i] ∧ Q (.int (if i < 0 then -i else i)) H) := by
  intro pins s σ H xs us Q I r h
  obtain ⟨i, rfl, q⟩ := h
  obtain ⟨u, rfl, t, rfl⟩ := vals1 r
  exact call_abs_int fun u tk => ⟨.int (if i < 0 then -i else i), H, I.tok _, ⟨_, rfl⟩, q⟩
theorem call_max2 (hc : X.calm = true) : CallR X (.builtin "max") (fun xs H Q => ∃ i j, xs = [.int i, .int j] ∧ Q (.int (if j > i then j else i)) H) := by
  intro pins s σ H xs us Q I r h
  obtain ⟨i, j, rfl, q⟩ := h
  obtain ⟨u, w', rfl, ⟨t, rfl⟩, ⟨t', rfl⟩⟩ := vals2 r
  refine max_two_ints (I.ok.hd hc) fun h' tk k => ⟨_, H, I.kept k, ?_, q⟩
  by_cases hj : j > i
  · rw [if_pos hj, if_pos hj]; exact ⟨_, rfl⟩
  · rw [if_neg hj, if_neg hj]; exact ⟨_, rfl⟩
theorem call_min2 (hc : X.calm = true) : CallR X (.builtin "min") (fun xs H Q => ∃ i j, xs = [.int i, .int j] ∧ Q (.int (if j < i then j else i)) H) := by
  intro pins s σ H xs us Q I r h
  obtain ⟨i, j, rfl, q⟩ := h
  obtain ⟨u, w', rfl, ⟨t, rfl⟩, ⟨t', rfl⟩⟩ := vals2 r
  refine min_two_ints (I.ok.hd hc) fun h' tk k => ⟨_, H, I.kept k, ?_, q⟩
  by_cases hj : j < i
  · rw [if_pos hj, if_pos hj]; exact ⟨_, rfl⟩
  · rw [if_neg hj, if_neg hj]; exact ⟨_, rfl⟩
theorem call_int1 : CallR X (.type "int") (fun xs H Q => (∃ i, xs = [.int i] ∧ Q (.int i) H) ∨ ∃ k, xs = [.bl k] ∧ Q (.int (if k then 1 else 0)) H) := by
  intro pins s σ H xs us Q I r h
  rcases h with ⟨i, rfl, q⟩ | ⟨k, rfl, q⟩
  · obtain ⟨u, rfl, t, rfl⟩ := vals1 r
    exact call_int_int ⟨.int i, H, I, ⟨_, rfl⟩, q⟩
  · obtain ⟨u, rfl, r1⟩ := vals1 r
    cases r1
    exact call_int_bool ⟨.int (if k then 1 else 0), H, I.tok _, ⟨_, rfl⟩, q⟩
theorem call_bool1 : CallR X (.type "bool") (fun xs H Q => (∃ i, xs = [.int i] ∧ Q (.bl (i != 0)) H) ∨ ∃ k, xs = [.bl k] ∧ Q (.bl k) H) := by
  intro pins s σ H xs us Q I r h
  rcases h with ⟨i, rfl, q⟩ | ⟨k, rfl, q⟩
  · obtain ⟨u, rfl, t, rfl⟩ := vals1 r
    exact call_bool_int ⟨.bl (i != 0), H, I, rfl, q⟩
  · obtain ⟨u, rfl, r1⟩ := vals1 r
    cases r1
    exact call_bool_bool ⟨.bl k, H, I, rfl, q⟩
theorem call_str_int : CallR X (.type "str") (fun xs H Q => ∃ i, xs = [.int i] ∧ i.natAbs.log2 < 1920 ∧ Q (.str (toString i)) H) := by
  intro pins s σ H xs us Q I r h
  obtain ⟨i, rfl, hz, q⟩ := h
  obtain ⟨u, rfl, t, rfl⟩ := vals1 r
  exact PySem.P.str_of_int hz ⟨.str _, H, I.tok _, ⟨_, rfl⟩, q⟩
theorem call_ord : CallR X (.builtin "ord") (fun xs H Q => ∃ x, xs = [.str x] ∧ x.length = 1 ∧ Q (.int (x.cps.getD 0 0 : Nat)) H) := by
  intro pins s σ H xs us Q I r h
  obtain ⟨x, rfl, hz, q⟩ := h
  obtain ⟨u, rfl, t, rfl⟩ := vals1 r
  exact ord_of_one hz ⟨.int _, H, I.tok _, ⟨_, rfl⟩, q⟩
theorem call_chr : CallR X (.builtin "chr") (fun xs H Q => ∃ i, xs = [.int i] ∧ 0 ≤ i ∧ i ≤ 1114111 ∧ Q (.str ⟨#[i.toNat]⟩) H) := by
  intro pins s σ H xs us Q I r h
  obtain ⟨i, rfl, h0, h1, q⟩ := h
  obtain ⟨u, rfl, t, rfl⟩ := vals1 r
  exact chr_of_range h0 h1 ⟨.str _, H, I.tok _, ⟨_, rfl⟩, q⟩
/-- len of a str, a bytes, a list, a tuple -/
def LenV (K : PySem.W.Frag) (x : V) (H : Hp) (n : Nat) : Prop :=
  match x with
  | .str y => y.length ≤ sizeLine ∧ n = y.length
  | .byt y => y.size ≤ sizeLine ∧ n = y.size
  | .ref p => (∃ xs, SqL K H p xs ∧ n = xs.length) ∨ ∃ xs, SqT K H p xs ∧ n = xs.length
  | _ => False
theorem call_len : CallR X (.builtin "len") (fun xs H Q => ∃ x n, xs = [x] ∧ LenV X.K x H n ∧ Q (.int n) H) := by
  intro pins s σ H xs us Q I r h
  obtain ⟨x, n, rfl, e, q⟩ := h
  obtain ⟨u, rfl, rx⟩ := vals1 r
  have hl := line63
  have hs : sizeLine = 16777216 := sizeLine_eq
  cases x with
  | str y =>
    obtain ⟨t, rfl⟩ := rx
    obtain ⟨hy, e'⟩ : y.length ≤ sizeLine ∧ n = y.length := e
    subst e'
    exact len_str (by omega) ⟨.int _, H, I.tok _, ⟨_, rfl⟩, q⟩
  | byt y =>
    obtain ⟨t, rfl⟩ := rx
    obtain ⟨hy, e'⟩ : y.size ≤ sizeLine ∧ n = y.size := e
    subst e'
    exact PySem.W.len_bytes (by omega) ⟨.int _, H, I.tok _, ⟨_, rfl⟩, q⟩
  | ref p =>
    cases rx
    have e' : (∃ xs, SqL X.K H p xs ∧ n = xs.length) ∨ ∃ xs, SqT X.K H p xs ∧ n = xs.length := e
    rcases e' with ⟨xs, hx, e'⟩ | ⟨xs, hx, e'⟩
    · subst e'
      obtain ⟨its, r', pl, hz⟩ := I.list hx
      have hlen := r'.length
      exact Calls.call_len_list pl.isList (by simp only [List.size_toArray]; omega) ⟨.int xs.length, H, I.tok _, ⟨_, by simp only [List.size_toArray]; rw [hlen]⟩, q⟩
    · subst e'
      obtain ⟨its, r', pl, hz⟩ := I.tuple hx
      have hlen := r'.length
      exact len_tuple pl (by simp only [List.size_toArray]; omega) ⟨.int xs.length, H, I.tok _, ⟨_, by simp only [List.size_toArray]; rw [hlen]⟩, q⟩
  | _ => exact (show False from e).elim
/-- divmod: a new tuple -/
theorem call_divmod : CallR X (.builtin "divmod") (fun xs H Q => ∃ i j, xs = [.int i, .int j] ∧ CDiv i j ∧ ∀ p, H p = none → Q (.ref p) (upd H p (.tup [.int (i / j), .int (i % j)]))) := by
  intro pins s σ H xs us Q I r h
  obtain ⟨i, j, rfl, ⟨h1, h2⟩, q⟩ := h
  obtain ⟨u, w', rfl, ⟨t, rfl⟩, ⟨t', rfl⟩⟩ := vals2 r
  refine divmod_int (by omega) ?_ (.inl (PyProof.noPylong_small (by omega)))
  rw [Int.fdiv_eq_ediv_of_nonneg i (by omega), Int.fmod_eq_emod_of_nonneg i (by omega)]
  have hn : H s.heap.objs.size = none := I.hok.fresh (Nat.le_refl _)
  refine ⟨.ref s.heap.objs.size, _, ?_, rfl, q _ hn⟩
  refine I.laid (fun b o e => Heap.get?_push_of_some _ e) (Nat.le_refl _) ⟨by simp only [List.length_cons, List.length_nil]; rw [sizeLine_eq]; decide, [.int (i / j) s.toks, .int (i % j) (s.toks + 1)], .cons ⟨_, rfl⟩ (.cons ⟨_, rfl⟩ .nil), ?_⟩
  exact ⟨_, Heap.get?_push_size s.heap rfl, rfl, 0, rfl⟩
end
end L2

namespace L2
open PySem PySem.Spec PyProof.Rows

/-! ### an instance, its attributes a map -/
structure ObjM (h : Heap) (x dx C : Addr) (mA : Str → Option Value) : Prop where
  obj : h.get? x = some (PySem.W.instObj C dx)
  ns : h.Ns1 dx mA
  ne : dx ≠ x

theorem lookIn_ns {h : Heap} {dx : Addr} {mA : Str → Option Value} (n : h.Ns1 dx mA) : ∃ od, h.get? dx = some od ∧ ∀ name, PySem.W.lookIn name od = some (mA name) := by
  obtain ⟨o, es, ep, ho, hd, hk, _, hm⟩ := n
  refine ⟨o, ho, fun name => ?_⟩
  have e := hm name
  unfold nsFind findBy at e
  rw [← Array.find?_toList] at e
  unfold PySem.W.lookIn
  rw [hd]
  dsimp only
  split
  · rename_i y q
    rw [q] at e
    exact congrArg some e
  · rename_i q
    rw [q] at e
    have a : es.toList.any (·.refKey) = false := by
      rw [List.any_eq_false]
      intro y hy
      obtain ⟨z, t, hkey⟩ := hk y (Array.mem_toList_iff.mp hy)
      simp [DictEntry.refKey, hkey]
    have a' : ¬ es.toList.any (·.refKey) = true := by rw [a]; exact Bool.false_ne_true
    rw [if_neg a']
    exact congrArg some e

theorem ObjM.look {h : Heap} {x dx C : Addr} {mA : Str → Option Value} (I : ObjM h x dx C mA) : ∃ od, PySem.W.InstAt h x (PySem.W.instObj C dx) C (some od) ∧ ∀ name, PySem.W.lookIn name od = some (mA name) :=
  let ⟨od, ho, hl⟩ := lookIn_ns I.ns
  ⟨od, ⟨I.obj, rfl, rfl, ho⟩, hl⟩

section
variable {prog : Program} {w : World} {A : Around} {E : Value → Shared → Prop} {s : Shared} {K : PySem.W.Frag} {x dx C f : Addr} {mA : Str → Option Value} {name : Str} {v : Value}

theorem get_map {expr : Bool} {Q : Value → Shared → Prop} (X : K.In s.heap) (I : ObjM s.heap x dx C mA) (hg : PySem.W.plainGet K C name = true) (hh : PySem.W.hasDictIn K C = true)
    (ha : PySem.W.findIn K (.ref C) name = some none) (hv : mA name = some v) (hv' : PySem.W.handedIn v = true) (h : Q v { s with toks := s.toks + 1 }) :
    wpAny (model prog w) A (getAttr (.ref x) name expr) Q E s := by
  obtain ⟨od, J, hl⟩ := I.look
  exact PySem.W.get_value X J (PySem.W.plainGet_of hg).1 (PySem.W.findObj_own hh ha rfl (by rw [hl, hv])) hv' h

theorem get_const {expr : Bool} {a : Value} {Q : Value → Shared → Prop} (X : K.In s.heap) (I : ObjM s.heap x dx C mA) (hg : PySem.W.plainGet K C name = true) (hh : PySem.W.hasDictIn K C = true)
    (ha : PySem.W.findIn K (.ref C) name = some (some a)) (hn : PySem.W.specialIn K a "__get__" = some none) (hc : PySem.W.copiedNames.contains name = false) (hv : mA name = none) (hv' : PySem.W.handedIn a = true)
    (h : Q a { s with toks := s.toks + 1 }) : wpAny (model prog w) A (getAttr (.ref x) name expr) Q E s := by
  obtain ⟨od, J, hl⟩ := I.look
  exact PySem.W.get_value X J (PySem.W.plainGet_of hg).1 (PySem.W.findObj_cls hh ha hn hv' hc (by rw [hl, hv])) hv' h

theorem get_meth {pl : Sem Bool} {Q : Value × List Value → Shared → Prop} (X : K.In s.heap) (I : ObjM s.heap x dx C mA) (hg : PySem.W.plainGet K C name = true)
    (hf : PySem.W.findIn K (.ref C) name = some (some (.ref f))) (ht : PySem.W.isFn K (.ref f) = true) (hv : mA name = none) (h : Q (.ref f, [.ref x]) s) :
    wpAny (model prog w) A (getMethod (.ref x) name pl) Q E s := by
  obtain ⟨od, J, hl⟩ := I.look
  exact PySem.W.method_fn X J (PySem.W.plainGet_of hg).1 (PySem.W.plainGet_of hg).2 hf (beq_iff_eq.mp ht) (by show (PySem.W.lookIn name od).map (·.isSome) = some false; rw [hl, hv]; rfl) h

theorem set_map {ns : List Str} {Q : Unit → Shared → Prop} (X : K.In s.heap) (I : ObjM s.heap x dx C mA)
    (hs : PySem.W.findIn K (.ref C) "__setattr__" = some (some (.builtin "object.__setattr__"))) (hp : PySem.W.plainOver K C = true) (ht : PySem.W.takerIn K C name = some none) (hh : PySem.W.hasDictIn K C = true)
    (hw : PySem.Within mA ns) (hsz : ns.length ≤ sizeLine)
    (h : ∀ h', ObjM h' x dx C (fun y => if y = name then some v else mA y) → Heap.SameBut dx s.heap h' → Q () { s with heap := h', toks := s.toks + 2 }) :
    wpAny (model prog w) A (setAttr (.ref x) name v) Q E s := by
  obtain ⟨od, J, hl⟩ := I.look
  refine PySem.W.set_plain X J hs (PySem.W.osa_open (s := { s with toks := s.toks + 1 }) (r := none) X J hp ht fun b => ?_)
  obtain ⟨cd, hc, hd'⟩ := PySem.W.any_some hh
  have hx : s.heap.get? x = some ⟨.ref C, some dx, .plain, #[]⟩ := I.obj
  refine wpAny_bind (wpAny_pure (wpAny_bind (wpAny_bind (wpAny_loadPart hx (wpAny_bind (PySem.W.Looks.here (s := { s with toks := s.toks + 1 }) (PySem.W.looks_clsIn X hc) ?_))))))
  rw [hd']
  refine wpAny_pure (a := some dx) (wpAny_bind (wpAny_pure (wpAny_bind ?_)))
  refine wpAny_nsSet1 (s := { s with toks := s.toks + 1 }) I.ns fun h' hn2 hs2 => ?_
  obtain ⟨oD, esD, epD, hoD, hdD, hcD⟩ := hn2.count (PySem.Within.cons name v hw)
  refine wpAny_bind (wpAny_lookBehind hoD (by rw [hdD]; exact pastItsLine_dict (Nat.le_trans hcD (by rw [List.length_cons]; omega))) ?_)
  exact wpAny_pure (h _ ⟨(hs2.2 _ (Ne.symm I.ne)).trans I.obj, hn2, I.ne⟩ hs2)

/-- C(..): the dict at the heap's end, the instance behind it; then its __init__ -/
theorem make_map {R : Result → Shared → Prop} {vs : List Value} {kw : List (Str × Value)} (X : K.In s.heap) (hm : PySem.W.makesIn K C = true)
    (hi : PySem.W.findIn K (.ref C) "__init__" = some (some (.ref f))) (hf : PySem.W.typeIn K (.ref f) = some (.type "function"))
    (h : codeAny (model prog w) (A.under (.builtin "type.__call__" ⟨.ref C :: vs, kw⟩)) (.call (.ref f) ⟨.ref (s.heap.objs.size + 1) :: vs, kw⟩) (PySem.W.InitBack (s.heap.objs.size + 1) R)
      { s with heap := (s.heap.push PySem.W.emptyDict).push (PySem.W.instObj C s.heap.objs.size) }) :
    codeAny (model prog w) A (.call (.ref C) ⟨vs, kw⟩) R s := by
  obtain ⟨hh, g, d, t, os⟩ := s
  exact PySem.W.make_core (PySem.W.makes_of X hm) (PySem.W.looks_findIn X hi) (fun self => PySem.W.bind_fn X self hf) (.inl rfl) h
/-- C() where there is no __init__ but object's -/
theorem make_map0 {R : Result → Shared → Prop} (X : K.In s.heap) (hm : PySem.W.makesIn K C = true)
    (hi : PySem.W.findIn K (.ref C) "__init__" = some (some (.builtin "object.__init__")))
    (hb : ∀ self, PySem.W.Looks (model prog w) s.heap (bindSpecial (.builtin "object.__init__") self) (.builtin "object.__init__", [self]))
    (h : codeAny (model prog w) (A.under (.builtin "type.__call__" ⟨[.ref C], []⟩)) (.call (.builtin "object.__init__") ⟨[.ref (s.heap.objs.size + 1)], []⟩) (PySem.W.InitBack (s.heap.objs.size + 1) R)
      { s with heap := (s.heap.push PySem.W.emptyDict).push (PySem.W.instObj C s.heap.objs.size) }) :
    codeAny (model prog w) A (.call (.ref C) ⟨[], []⟩) R s := by
  obtain ⟨hh, g, d, t, os⟩ := s
  exact PySem.W.make_core (PySem.W.makes_of X hm) (PySem.W.looks_findIn X hi) hb (.inr ⟨rfl, rfl⟩) h
end

/-! ### the attributes as a list of pairs -/
def putF (f : Str) (v : V) : List (Str × V) → List (Str × V)
  | [] => [(f, v)]
  | (g, x) :: r => if g = f then (g, v) :: r else (g, x) :: putF f v r
theorem lookup_putF (f g : Str) (v : V) : ∀ fs : List (Str × V), (putF f v fs).lookup g = if g = f then some v else fs.lookup g
  | [] => by
    show List.lookup g [(f, v)] = _
    by_cases h : g = f
    · have hb : (g == f) = true := beq_iff_eq.mpr h
      simp only [List.lookup, hb, if_pos h]
    · have hb : (g == f) = false := beq_eq_false_iff_ne.mpr h
      simp only [List.lookup, hb, if_neg h]
  | (k, x) :: r => by
    have ih := lookup_putF f g v r
    rw [show putF f v ((k, x) :: r) = (if k = f then (k, v) :: r else (k, x) :: putF f v r) from rfl]
    by_cases hk : k = f
    · rw [if_pos hk]
      by_cases h : g = k
      · have hb : (g == k) = true := beq_iff_eq.mpr h
        simp only [List.lookup, hb, if_pos (h.trans hk)]
      · have hb : (g == k) = false := beq_eq_false_iff_ne.mpr h
        simp only [List.lookup, hb, if_neg (fun e : g = f => h (e.trans hk.symm))]
    · rw [if_neg hk]
      by_cases h : g = k
      · have hb : (g == k) = true := beq_iff_eq.mpr h
        simp only [List.lookup, hb, if_neg (fun e : g = f => hk (h.symm.trans e))]
      · have hb : (g == k) = false := beq_eq_false_iff_ne.mpr h
        simp only [List.lookup, hb]
        exact ih
theorem keys_putF (f : Str) (v : V) : ∀ fs : List (Str × V), f ∈ (putF f v fs).map (·.1) ∧ ∀ g, g ∈ fs.map (·.1) → g ∈ (putF f v fs).map (·.1)
  | [] => ⟨by simp [putF], fun g h => by simp at h⟩
  | (k, x) :: r => by
    obtain ⟨i1, i2⟩ := keys_putF f v r
    rw [show putF f v ((k, x) :: r) = (if k = f then (k, v) :: r else (k, x) :: putF f v r) from rfl]
    by_cases hk : k = f
    · rw [if_pos hk]
      subst hk
      exact ⟨by simp, fun g h => by simpa using h⟩
    · rw [if_neg hk]
      refine ⟨?_, fun g h => ?_⟩
      · rw [List.map_cons]
        exact List.mem_cons_of_mem _ i1
      · rw [List.map_cons] at h ⊢
        rcases List.mem_cons.mp h with e | e
        · exact List.mem_cons.mpr (.inl e)
        · exact List.mem_cons_of_mem _ (i2 g e)
theorem length_putF (f : Str) (v : V) : ∀ fs : List (Str × V), (putF f v fs).length ≤ fs.length + 1
  | [] => by simp [putF]
  | (k, x) :: r => by
    have ih := length_putF f v r
    rw [show putF f v ((k, x) :: r) = (if k = f then (k, v) :: r else (k, x) :: putF f v r) from rfl]
    by_cases hk : k = f
    · rw [if_pos hk, List.length_cons, List.length_cons]; omega
    · rw [if_neg hk, List.length_cons, List.length_cons]; omega

theorem RelO.some_of {v : V} {o : Option Value} (r : RelO (some v) o) : ∃ u, o = some u ∧ RelV v u := by
  cases o with
  | none => exact (show False from r).elim
  | some u => exact ⟨u, rfl, r⟩
theorem RelO.none_of {o : Option Value} (r : RelO none o) : o = none := by
  cases o with
  | none => rfl
  | some u => exact (show False from r).elim
theorem handed_of {v : V} {u : Value} (r : RelV v u) : PySem.W.handedIn u = true := by
  cases v with
  | non => cases (show u = Value.none from r); rfl
  | bl b => cases (show u = Value.bool b from r); rfl
  | int i => obtain ⟨t, e⟩ := (show ∃ t, u = Value.int i t from r); cases e; rfl
  | str x => obtain ⟨t, e⟩ := (show ∃ t, u = Value.str x t from r); cases e; rfl
  | byt b => obtain ⟨t, e⟩ := (show ∃ t, u = Value.bytes b t from r); cases e; rfl
  | flt b => obtain ⟨t, e⟩ := (show ∃ t, u = Value.float b t from r); cases e; rfl
  | ref a => cases (show u = Value.ref a from r); rfl
  | ty n => cases (show u = Value.type n from r); rfl

section
variable {P : Program} {w : World} {H H' : Hp} {h h' : Heap} {a C dx : Addr} {fs fs' : List (Str × V)}
theorem ins_get (hok : HOk P w H h) (e : H a = some (.ins C dx fs)) : ∃ mA, ObjM h a dx C mA ∧ (∀ f, RelO (fs.lookup f) (mA f)) ∧ PySem.Within mA (fs.map (·.1)) ∧ fs.length ≤ 1000 ∧ H dx = some (.own a) := by
  obtain ⟨d, z, ne, ob, mA, n, r, q⟩ := (show ObjOk P w H h a (.ins C dx fs) from hok a _ e)
  exact ⟨mA, ⟨ob, n, ne⟩, r, q, z, d⟩
end

/-! ### what of the text a class must have -/
structure Cls (K : PySem.W.Frag) (C : Addr) : Prop where
  pg : PySem.W.plainGet K C Str.empty = true
  hd : PySem.W.hasDictIn K C = true
  po : PySem.W.plainOver K C = true
  sa : PySem.W.findIn K (.ref C) "__setattr__" = some (some (.builtin "object.__setattr__"))
theorem Cls.get {K : PySem.W.Frag} {C : Addr} (c : Cls K C) (f : Str) : PySem.W.plainGet K C f = true := c.pg
/-- no class of it has the name -/
def NoAttr (K : PySem.W.Frag) (C : Addr) (f : Str) : Prop := PySem.W.findIn K (.ref C) f = some none
theorem NoAttr.taker {K : PySem.W.Frag} {C : Addr} {f : Str} (n : NoAttr K C f) : PySem.W.takerIn K C f = some none := by
  unfold PySem.W.takerIn
  rw [show PySem.W.findIn K (.ref C) f = some none from n]
  rfl
/-- a constant of the class -/
structure Con (K : PySem.W.Frag) (C : Addr) (f : Str) (v : V) (u : Value) : Prop where
  at_ : PySem.W.findIn K (.ref C) f = some (some u)
  rel : RelV v u
  get : PySem.W.specialIn K u "__get__" = some none
  cp : PySem.W.copiedNames.contains f = false
/-- a method: a plain def of the class or of one above it -/
structure Meth (K : PySem.W.Frag) (C : Addr) (m : Str) (f : Addr) : Prop where
  at_ : PySem.W.findIn K (.ref C) m = some (some (.ref f))
  fn : PySem.W.isFn K (.ref f) = true
  kp : PySem.W.keepIn K (.ref f) = true

section
variable {X : Cx} {pins : List (Addr × Obj)} {σ : St} {H : Hp} {s : Shared} {a C dx : Addr} {fs : List (Str × V)} {f : Str} {v : V} {A : Around} {E : Value → Shared → Prop}

theorem getattr_ok {b : Bool} {Q : Value → Shared → Prop} (I : Inv X pins σ H s) (e : H a = some (.ins C dx fs)) (c : Cls X.K C) (n : NoAttr X.K C f) (l : fs.lookup f = some v)
    (h : ∀ u s', Inv X pins σ H s' → RelV v u → Q u s') : wpAny (model X.prog X.w) A (getAttr (.ref a) f b) Q E s := by
  obtain ⟨mA, O, r, _, _, _⟩ := ins_get I.hok e
  obtain ⟨u, hu, ru⟩ := RelO.some_of (v := v) (o := mA f) (by rw [← l]; exact r f)
  exact get_map I.kIn O (c.get f) c.hd n hu (handed_of ru) (h u _ (I.tok _) ru)

theorem getcon_ok {b : Bool} {u : Value} {Q : Value → Shared → Prop} (I : Inv X pins σ H s) (e : H a = some (.ins C dx fs)) (c : Cls X.K C) (k : Con X.K C f v u) (l : fs.lookup f = none)
    (h : ∀ s', Inv X pins σ H s' → Q u s') : wpAny (model X.prog X.w) A (getAttr (.ref a) f b) Q E s := by
  obtain ⟨mA, O, r, _, _, _⟩ := ins_get I.hok e
  have hn : mA f = none := RelO.none_of (by rw [← l]; exact r f)
  exact get_const I.kIn O (c.get f) c.hd k.at_ k.get k.cp hn (handed_of k.rel) (h _ (I.tok _))

theorem getmeth_ok {m : Str} {g : Addr} {pl : Sem Bool} {Q : Value × List Value → Shared → Prop} (I : Inv X pins σ H s) (e : H a = some (.ins C dx fs)) (c : Cls X.K C) (k : Meth X.K C m g) (l : fs.lookup m = none)
    (h : Q (.ref g, [.ref a]) s) : wpAny (model X.prog X.w) A (getMethod (.ref a) m pl) Q E s := by
  obtain ⟨mA, O, r, _, _, _⟩ := ins_get I.hok e
  have hn : mA m = none := RelO.none_of (by rw [← l]; exact r m)
  exact get_meth I.kIn O (c.get m) k.at_ k.fn hn h

theorem setattr_ok {y : V} {u : Value} {Q : Unit → Shared → Prop} (I : Inv X pins σ H s) (e : H a = some (.ins C dx fs)) (c : Cls X.K C) (n : NoAttr X.K C f) (hl : fs.length < 1000) (ry : RelV y u)
    (h : ∀ s', Inv X pins σ (upd H a (.ins C dx (putF f y fs))) s' → Q () s') : wpAny (model X.prog X.w) A (setAttr (.ref a) f u) Q E s := by
  obtain ⟨mA, O, r, wi, _, ho⟩ := ins_get I.hok e
  have hz : (fs.map (·.1)).length ≤ sizeLine := by rw [List.length_map, sizeLine_eq]; omega
  refine set_map I.kIn O c.sa c.po n.taker c.hd wi hz fun h' O' sb => h _ ?_
  have hd : ∃ o, h'.get? dx = some o := let ⟨o, _, _, e', _⟩ := O'.ns; ⟨o, e'⟩
  refine I.write (x := a) (e := dx) (by rw [e]; exact True.intro) (.inr ho) (fun b q hb z => (sb.2 b hb).trans z) hd ?_
  refine ⟨by rw [upd_ne O.ne]; exact ho, ?_, O.ne, O'.obj, _, O'.ns, fun g => ?_, fun g hg => ?_⟩
  · have := length_putF f y fs; omega
  · show RelO ((putF f y fs).lookup g) (if g = f then some u else mA g)
    rw [lookup_putF]
    by_cases q : g = f
    · rw [if_pos q, if_pos q]; exact ry
    · rw [if_neg q, if_neg q]; exact r g
  · by_cases q : g = f
    · rw [q]; exact (keys_putF f y fs).1
    · refine (keys_putF f y fs).2 g (wi g fun z => hg ?_)
      show (if g = f then some u else mA g) = none
      rw [if_neg q]; exact z

/-- a new instance, tracked, without attributes -/
theorem Inv.made (I : Inv X pins σ H s) : Inv X pins σ (upd (upd H s.heap.objs.size (.own (s.heap.objs.size + 1))) (s.heap.objs.size + 1) (.ins C s.heap.objs.size []))
    { s with heap := (s.heap.push PySem.W.emptyDict).push (PySem.W.instObj C s.heap.objs.size) } := by
  have e1 : (s.heap.push PySem.W.emptyDict).get? s.heap.objs.size = some PySem.W.emptyDict := Heap.get?_push_size s.heap rfl
  have e2 : ((s.heap.push PySem.W.emptyDict).push (PySem.W.instObj C s.heap.objs.size)).get? (s.heap.objs.size + 1) = some (PySem.W.instObj C s.heap.objs.size) := by
    have := Heap.get?_push_size (s.heap.push PySem.W.emptyDict) (o := PySem.W.instObj C s.heap.objs.size) rfl
    rwa [Heap.size_push] at this
  have e3 : (s.heap.push PySem.W.emptyDict).Ns s.heap.objs.size (fun _ => none) := ⟨PySem.W.emptyDict, #[], _, e1, rfl, (fun e he => absurd he (by simp)), fun _ => rfl⟩
  have I1 := I.laid (a := s.heap.objs.size) (o := .own (s.heap.objs.size + 1)) (h' := s.heap.push PySem.W.emptyDict) (t' := s.toks) (fun b u q => Heap.get?_push_of_some _ q) (Nat.le_refl _) ⟨_, e1⟩
  refine I1.laid (a := s.heap.objs.size + 1) (o := .ins C s.heap.objs.size []) (t' := s.toks) (fun b u q => Heap.get?_push_of_some _ q) (Nat.le_of_eq (Heap.size_push _ _)) ?_
  have ne : s.heap.objs.size ≠ s.heap.objs.size + 1 := Nat.ne_of_lt (Nat.lt_succ_self _)
  refine ⟨by rw [upd_ne ne, upd_same], Nat.zero_le _, ne, e2, fun _ => none, (Heap.Ns1.of_empty e3).at fun o q => Heap.get?_push_of_some _ q, fun _ => True.intro, fun y hy => absurd rfl hy⟩

/-- e.f where nothing but the object is asked: through attributeBase (super) and the last hold -/
theorem attr_of {prog : Program} {w : World} {env : Env} {e : Expr} {f : Str} {pos : Pos} {s : Shared} {Q : Value → Shared → Prop} (hb : attributeBase e f env (eval e env) = eval e env)
    (h : wpAny (model prog w) A (eval e env) (fun o s₁ => wpAny (model prog w) A (getAttr o f true) Q E s₁) E s) : wpAny (model prog w) A (eval (.Attribute e f pos) env) Q E s :=
  Attribute_any_ h (by rw [arm_eval_Attribute, hb])
end

/-! ### readings and rules -/
/-- e.f, an attribute of the instance -/
def tFld (K : PySem.W.Frag) (ta : TE) (f : Str) : TE := fun σ H Q => ta σ H fun x H1 => ∃ a C dx fs v, x = .ref a ∧ H1 a = some (.ins C dx fs) ∧ Cls K C ∧ NoAttr K C f ∧ fs.lookup f = some v ∧ Q v H1
/-- e.f, a constant of the class -/
def tCon (K : PySem.W.Frag) (ta : TE) (f : Str) : TE := fun σ H Q => ta σ H fun x H1 => ∃ a C dx fs v u, x = .ref a ∧ H1 a = some (.ins C dx fs) ∧ Cls K C ∧ Con K C f v u ∧ fs.lookup f = none ∧ Q v H1
/-- e.f = value -/
def sFld (K : PySem.W.Frag) (ta tv : TE) (f : Str) : TS := fun D σ H => tv σ H fun y H1 => ta σ H1 fun x H2 => ∃ a C dx fs, x = .ref a ∧ H2 a = some (.ins C dx fs) ∧ Cls K C ∧ NoAttr K C f ∧ fs.length < 1000 ∧
  D.nx σ (upd H2 a (.ins C dx (putF f y fs)))
/-- an augmented operator on two values -/
def InOp (X : Cx) (op : Operator) (rd : V → V → Hp → VK → Prop) : Prop :=
  ∀ (pins : List (Addr × Obj)) (s : Shared) (σ : St) (H : Hp) (x y : V) (u v : Value) (Q : VK), Inv X pins σ H s → RelV x u → RelV y v → rd x y H Q → wpAny (model X.prog X.w) X.A (inplaceOp op u v) (EP X pins σ Q) X.xe s
/-- e.f op= value -/
def sFldAug (K : PySem.W.Frag) (ta tv : TE) (rd : V → V → Hp → VK → Prop) (f : Str) : TS := fun D σ H => ta σ H fun x H1 => ∃ a C dx fs v, x = .ref a ∧ H1 a = some (.ins C dx fs) ∧ Cls K C ∧ NoAttr K C f ∧ fs.lookup f = some v ∧
  tv σ H1 fun y H2 => rd v y H2 fun z H3 => ∃ dx' fs', H3 a = some (.ins C dx' fs') ∧ fs'.length < 1000 ∧ D.nx σ (upd H3 a (.ins C dx' (putF f z fs')))

section
variable {X : Cx} {o e value : Expr} {f : Str} {pos pos' tpos : Pos} {ta tv : TE}
theorem pe_fld (he : PE X e ta) (hb : attributeBase e f X.env (eval e X.env) = eval e X.env) : PE X (.Attribute e f pos) (tFld X.K ta f) := by
  intro pins s σ H Q I h
  refine attr_of hb (thn (he pins s σ H _ I h) fun u s1 ⟨x, H1, I1, rx, a, C, dx, fs, v, ex, ea, c, n, l, q⟩ => ?_)
  subst ex
  obtain rfl : u = Value.ref a := rx
  exact getattr_ok I1 ea c n l fun u' s2 I2 ru => ⟨v, H1, I2, ru, q⟩
theorem pe_con (he : PE X e ta) (hb : attributeBase e f X.env (eval e X.env) = eval e X.env) : PE X (.Attribute e f pos) (tCon X.K ta f) := by
  intro pins s σ H Q I h
  refine attr_of hb (thn (he pins s σ H _ I h) fun u s1 ⟨x, H1, I1, rx, a, C, dx, fs, v, u0, ex, ea, c, k, l, q⟩ => ?_)
  subst ex
  obtain rfl : u = Value.ref a := rx
  exact getcon_ok I1 ea c k l fun s2 I2 => ⟨v, H1, I2, k.rel, q⟩
theorem ps_fld (ha : PE X o ta) (hv : PE X value tv) (hs : swapsWith value (some (.Attribute o f pos')) pos.line X.env = pure false) : PS X (.Assign [.Attribute o f pos'] value pos) (sFld X.K ta tv f) := by
  intro pins s σ H D I h
  refine plainObj_wpAny_Assign_Attribute (thn (hv pins s σ H _ I h) fun u s1 ⟨y, H1, I1, ry, q⟩ => thn (ha pins s1 σ H1 _ I1 q) fun ov s2 ⟨x, H2, I2, rx, a, C, dx, fs, ex, ea, c, n, l, q2⟩ => ?_) hs
  subst ex
  obtain rfl : ov = Value.ref a := rx
  exact setattr_ok I2 ea c n l ry fun s3 I3 => ⟨σ, _, I3, q2⟩
theorem ps_fldaug {op : Operator} {rd : V → V → Hp → VK → Prop} (ha : PE X o ta) (hv : PE X value tv) (hop : InOp X op rd) : PS X (.AugAssign (.Attribute o f tpos) op value pos) (sFldAug X.K ta tv rd f) := by
  intro pins s σ H D I h
  refine wpAny_AugAssign_AttributeAny (thn (ha pins s σ H _ I h) fun ov s1 ⟨x, H1, I1, rx, a, C, dx, fs, v, ex, ea, c, n, l, q⟩ => ?_)
  subst ex
  obtain rfl : ov = Value.ref a := rx
  refine getattr_ok I1 ea c n l fun u s2 I2 ru => thn (hv pins s2 σ H1 _ I2 q) fun w3 s3 ⟨y, H2, I3, ry, q3⟩ => thn (hop pins s3 σ H2 v y u w3 _ I3 ru ry q3) fun w4 s4 ⟨z, H3, I4, rz, dx', fs', ea', l', q4⟩ => ?_
  exact setattr_ok I4 ea' c n l' rz fun s5 I5 => ⟨σ, _, I5, q4⟩
def rAdd : V → V → Hp → VK → Prop := fun x y H Q => ∃ i j, x = .int i ∧ y = .int j ∧ Q (.int (i + j)) H
def rSub : V → V → Hp → VK → Prop := fun x y H Q => ∃ i j, x = .int i ∧ y = .int j ∧ Q (.int (i - j)) H
theorem in_add : InOp X .Add rAdd := by
  rintro pins s σ H x y u v Q I rx ry ⟨i, j, rfl, rfl, q⟩
  obtain ⟨t, rfl⟩ := (show ∃ t, u = Value.int i t from rx)
  obtain ⟨t', rfl⟩ := (show ∃ t', v = Value.int j t' from ry)
  exact PyProof.Rows.iadd_int ⟨.int (i + j), H, I.tok _, ⟨_, rfl⟩, q⟩
theorem in_sub : InOp X .Sub rSub := by
  rintro pins s σ H x y u v Q I rx ry ⟨i, j, rfl, rfl, q⟩
  obtain ⟨t, rfl⟩ := (show ∃ t, u = Value.int i t from rx)
  obtain ⟨t', rfl⟩ := (show ∃ t', v = Value.int j t' from ry)
  exact PyProof.Rows.isub_int ⟨.int (i - j), H, I.tok _, ⟨_, rfl⟩, q⟩

/-- what is between an instance and its method: the tree of a method call -/
theorem methcall_of {pl : Sem Bool} {m : Str} {apos : Pos} {args : List Expr} {pins : List (Addr × Obj)} {s : Shared} {σ : St} {H : Hp} {Q : Value → Shared → Prop} {te : TE} (he : PE X e te) (I : Inv X pins σ H s)
    (h : te σ H fun x H1 => ∃ a C dx fs g, x = .ref a ∧ H1 a = some (.ins C dx fs) ∧ Cls X.K C ∧ Meth X.K C m g ∧ fs.lookup m = none ∧
      ∀ s1, Inv X pins σ H1 s1 → wpAny (model X.prog X.w) X.A (callWith pos (.ref g) [.ref a] (backTo pos (starEach args X.env)) (backToKw pos (keywordEach [] X.env))) Q X.xe s1)
    (ht : eval (.Call (.Attribute e m apos) args [] pos) X.env = (do
      let ov ← eval e X.env
      standAt apos.atName
      let (f, first) ← holding [ov] (getMethod ov m pl)
      callWith pos f first (backTo pos (starEach args X.env)) (backToKw pos (keywordEach [] X.env)))) :
    wpAny (model X.prog X.w) X.A (eval (.Call (.Attribute e m apos) args [] pos) X.env) Q X.xe s := by
  refine PySem.W.methodCall_KW (pl := pl) (thn (he pins s σ H _ I h) fun u s1 ⟨x, H1, I1, rx, a, C, dx, fs, g, ex, ea, c, k, l, q⟩ => ?_) ht
  subst ex
  obtain rfl : u = Value.ref a := rx
  exact getmeth_ok I1 ea c k l (q s1 I1)
end

/-! ### isinstance -/
section
variable {X : Cx} {pins : List (Addr × Obj)} {σ : St} {H : Hp} {s : Shared} {A : Around} {E : Value → Shared → Prop} {Q : Value → Shared → Prop} {c : Value} {b : Bool}
/-- the type of a value, as the fragment's deciders take it; for an instance its class -/
inductive TyOf (K : PySem.W.Frag) (H : Hp) : V → Value → Prop where
  | non : TyOf K H .non (.type "NoneType")
  | bl (x : Bool) : TyOf K H (.bl x) (.type "bool")
  | int (i : Int) : TyOf K H (.int i) (.type "int")
  | str (x : Str) : TyOf K H (.str x) (.type "str")
  | flt (x : UInt64) : TyOf K H (.flt x) (.type "float")
  | lst {a : Addr} {xs : List V} (e : H a = some (.lst xs)) : TyOf K H (.ref a) (.type "list")
  | frz {a : Addr} {o : Obj} {xs : List V} (e : H a = some (.frz o (.lst xs))) : TyOf K H (.ref a) (.type "list")
  | tup {a : Addr} {xs : List V} (e : H a = some (.tup xs)) : TyOf K H (.ref a) (.type "tuple")
  | dK {a : Addr} {kvs : List (Key × V)} (e : H a = some (.dK kvs)) : TyOf K H (.ref a) (.type "dict")
  | dT {a : Addr} {kvs : List (List Key × V)} (e : H a = some (.dT kvs)) : TyOf K H (.ref a) (.type "dict")
  | ins {a C dx : Addr} {fs : List (Str × V)} (e : H a = some (.ins C dx fs)) (cl : Cls K C) (ha : PySem.W.findIn K (.ref C) "__class__" = some (some (.builtin "object.__class__")))
      (hn : PySem.W.specialIn K (.builtin "object.__class__") "__get__" = some (some (.builtin "getset_descriptor.__get__"))) (htk : PySem.W.takesIn K (.builtin "object.__class__") = some true)
      (hm : PySem.W.mroIn K C (.type "object") = some true) : TyOf K H (.ref a) (.ref C)
/-- isinstance(x, c) for one class c, a built-in or an own one: kitOne's answer -/
theorem isinst_ok {x : V} {u t : Value} (I : Inv X pins σ H s) (rx : RelV x u) (ty : TyOf X.K H x t) (e : PySem.W.kitOne X.K t c = some b) (h : ∀ tk, Q (.bool b) { s with toks := tk }) :
    wpAny (model X.prog X.w) A (call (.builtin "isinstance") [u, c]) Q E s := by
  cases ty with
  | non => cases (show u = Value.none from rx); exact PySem.W.kia_one PySem.W.kitx_none I.kIn True.intro e (fun z => nomatch z) h
  | bl y => cases (show u = Value.bool y from rx); exact PySem.W.kia_one PySem.W.kitx_bool I.kIn True.intro e (fun z => nomatch z) h
  | int i => obtain ⟨t, q⟩ := (show ∃ t, u = Value.int i t from rx); cases q; exact PySem.W.kia_one PySem.W.kitx_int I.kIn True.intro e (fun z => nomatch z) h
  | str y => obtain ⟨t, q⟩ := (show ∃ t, u = Value.str y t from rx); cases q; exact PySem.W.kia_one PySem.W.kitx_str I.kIn True.intro e (fun z => nomatch z) h
  | flt y => obtain ⟨t, q⟩ := (show ∃ t, u = Value.float y t from rx); cases q; exact PySem.W.kia_one PySem.W.kitx_float I.kIn True.intro e (fun z => nomatch z) h
  | @lst a xs ea =>
    cases (show u = Value.ref a from rx)
    obtain ⟨_, _, n, _, h1⟩ := (show ObjOk X.prog X.w H s.heap a (.lst xs) from I.hok a _ ea)
    exact PySem.W.kia_one PySem.W.kitx_list I.kIn ⟨_, h1, rfl⟩ e (fun z => nomatch z) h
  | @frz a ob xs ea =>
    cases (show u = Value.ref a from rx)
    obtain ⟨_, _, _, n, _, h1⟩ := (show ObjOk X.prog X.w H s.heap a (.frz ob (.lst xs)) from I.hok a _ ea)
    exact PySem.W.kia_one PySem.W.kitx_list I.kIn ⟨_, h1, rfl⟩ e (fun z => nomatch z) h
  | @tup a xs ea =>
    cases (show u = Value.ref a from rx)
    obtain ⟨_, _, _, p⟩ := (show ObjOk X.prog X.w H s.heap a (.tup xs) from I.hok a _ ea)
    obtain ⟨o, h1, h2, _⟩ := p
    exact PySem.W.kia_one PySem.W.kitx_tuple I.kIn ⟨o, h1, h2⟩ e (fun z => nomatch z) h
  | @dK a kvs ea =>
    cases (show u = Value.ref a from rx)
    obtain ⟨_, _, vs, _, p⟩ := (show ObjOk X.prog X.w H s.heap a (.dK kvs) from I.hok a _ ea)
    obtain ⟨o, es, ep, h1, h2, _⟩ := p
    exact PySem.W.kia_one PySem.W.kitx_dict I.kIn ⟨o, h1, h2.1⟩ e (fun z => nomatch z) h
  | @dT a kvs ea =>
    cases (show u = Value.ref a from rx)
    obtain ⟨_, _, xs, _, o, es, ep, h1, h2, _⟩ := (show ObjOk X.prog X.w H s.heap a (.dT kvs) from I.hok a _ ea)
    exact PySem.W.kia_one PySem.W.kitx_dict I.kIn ⟨o, h1, h2.1⟩ e (fun z => nomatch z) h
  | @ins a C dx fs ea cl ha hn htk hm =>
    cases (show u = Value.ref a from rx)
    obtain ⟨mA, O, _⟩ := ins_get I.hok ea
    obtain ⟨od, J, _⟩ := O.look
    exact PySem.W.kia_one (PySem.W.kitx_own (cl.get _) cl.hd ha hn htk hm) I.kIn J e (fun z => nomatch z) h
end
end L2

namespace L2
open PySem PySem.Spec PyProof.Rows

/-! ### room -/
structure Room (k : Nat) (A : Around) : Prop where
  hd : A.handled = none
  dp : A.depth + 3 * k + 5 < recursionLimit
  un : A.units + 16 * k + 200 < cLine
theorem Room.mono {j k : Nat} {A : Around} (r : Room k A) (h : j ≤ k) : Room j A := ⟨r.hd, by have := r.dp; omega, by have := r.un; omega⟩
theorem Room.deeper {k : Nat} {A : Around} (r : Room (k + 1) A) (env : Env) : Room k (A.deeper env) :=
  ⟨r.hd, by have := r.dp; show A.depth + 1 + 3 * k + 5 < _; omega, by have := r.un; show A.units + 3 + 16 * k + 200 < _; omega⟩
theorem Room.in1 {k : Nat} {A : Around} (r : Room (k + 1) A) : Room k A.in1 :=
  ⟨r.hd, by have := r.dp; show A.depth + 3 * k + 5 < _; omega, by have := r.un; show A.units + 1 + 16 * k + 200 < _; omega⟩
theorem make_depth {A : Around} {C : Addr} {us : List Value} {kw : List (Str × Value)} : (A.under (.builtin "type.__call__" ⟨.ref C :: us, kw⟩)).depth = A.depth + 1 := by
  first | rfl | simp [Around.under, Code.weight, Code.isCreation, Code.isGuard, Code.isCaller, Code.frames, Code.isFrame, guardIds]
theorem make_units {A : Around} {C : Addr} {us : List Value} {kw : List (Str × Value)} : (A.under (.builtin "type.__call__" ⟨.ref C :: us, kw⟩)).units = A.units + 1 := by
  first | rfl | simp [Around.under, Code.cUnits, Code.frames, Code.isFrame]
theorem Room.make {k : Nat} {A : Around} (r : Room (k + 1) A) (C : Addr) (us : List Value) (kw : List (Str × Value)) : Room k (A.under (.builtin "type.__call__" ⟨.ref C :: us, kw⟩)) :=
  ⟨r.hd, by have := r.dp; rw [make_depth]; omega, by have := r.un; rw [make_units]; omega⟩
theorem Room.depth {k : Nat} {A : Around} (r : Room k A) : A.depth < recursionLimit := by have := r.dp; omega
theorem Room.units {k : Nat} {A : Around} (r : Room k A) : A.units + 64 < cLine := by have := r.un; omega
theorem Room.units0 {k : Nat} {A : Around} (r : Room k A) : A.units < cLine := by have := r.un; omega

/-! ### argument lists and displays -/
def tNil : TA := fun _ H Q => Q [] H
def tCons (ta : TE) (tr : TA) : TA := fun σ H Q => ta σ H fun x H1 => tr σ H1 fun xs H2 => Q (x :: xs) H2
section
variable {X : Cx} {e : Expr} {es : List Expr} {te : TE} {t : TA} {pos : Pos}
theorem pa_nil : PA X [] tNil := fun _ _ _ _ H Q I h => Calls.spliced_nil ⟨[], H, I, .nil, h⟩
theorem pa_cons (ha : PE X e te) (hr : PA X es t) (hs : starEach (e :: es) X.env = (false, eval e X.env) :: starEach es X.env := by rfl) : PA X (e :: es) (tCons te t) := by
  intro pos pins s σ H Q I h
  rw [hs]
  show wpAny _ _ (spliced ((false, eval e X.env) :: backTo pos (starEach es X.env))) _ _ s
  refine Calls.spliced_cons (thn (ha pins s σ H _ I h) fun u s1 ⟨x, H1, I1, r1, q1⟩ => ?_)
  exact thn (hr pos pins s1 σ H1 _ I1 q1) fun us s2 ⟨xs, H2, I2, r2, q2⟩ => ⟨x :: xs, H2, I2, .cons r1 r2, q2⟩

/-- a tuple, a list of written items -/
def tTup (t : TA) : TE := fun σ H Q => t σ H fun xs H1 => xs.length ≤ sizeLine ∧ ∀ p, H1 p = none → Q (.ref p) (upd H1 p (.tup xs))
def tLst (t : TA) : TE := fun σ H Q => t σ H fun xs H1 => xs.length ≤ sizeLine ∧ ∀ p, H1 p = none → Q (.ref p) (upd H1 p (.lst xs))
theorem pe_tup {x1} (h : PA X es t) : PE X (.Tuple es x1 pos) (tTup t) := by
  intro pins s σ H Q I hq
  refine wpAny_Tuple_spliced (thn (h pos pins s σ H _ I hq) fun us s1 ⟨xs, H1, I1, r, z, q⟩ => ⟨by rw [← r.length]; exact z, ?_⟩)
  have hf : H1 s1.heap.objs.size = none := I1.hok.fresh (Nat.le_refl _)
  refine ⟨.ref s1.heap.objs.size, upd H1 s1.heap.objs.size (.tup xs), I1.laid (t' := s1.toks) (fun b u e => Heap.get?_push_of_some _ e) (Nat.le_refl _) ?_, rfl, q _ hf⟩
  exact ⟨z, us, r, ⟨_, Heap.get?_push_size _ rfl, rfl, _, rfl⟩⟩
theorem pe_lst (h : PA X es t) : PE X (.List es pos) (tLst t) := by
  intro pins s σ H Q I hq
  refine wpAny_List_spliced (thn (h pos pins s σ H _ I hq) fun us s1 ⟨xs, H1, I1, r, z, q⟩ => ⟨by rw [← r.length]; exact z, ?_⟩)
  have hf : H1 s1.heap.objs.size = none := I1.hok.fresh (Nat.le_refl _)
  refine ⟨.ref s1.heap.objs.size, upd H1 s1.heap.objs.size (.lst xs), I1.laid (t' := s1.toks) (fun b u e => Heap.get?_push_of_some _ e) (Nat.le_refl _) ?_, rfl, q _ hf⟩
  exact ⟨z, us, 0, r, Heap.get?_push_size _ rfl⟩
end

/-! ### what a def promises -/
/-- a def's promise: the bound arguments in the parameters' order, the heap, the wanted end, the wanted exception -/
abbrev Sp := List V → Hp → VK → XK → Prop
/-- how an exception lies behind a call (file 08 gives it): the callers' frames, abstract heap and state ahead of the call, the wish, the exception, the state -/
abbrev CXT := List Env → Hp → Shared → XK → Value → Shared → Prop

/-- the state at a call -/
structure Env0 (P : Program) (w : World) (K : PySem.W.Frag) (mg : Str → Option Value) (base : Heap) (A : Around) (outer : List Env) (s : Shared) (H : Hp) : Prop where
  frames : A.frames = some outer
  mod : Mod K mg base
  bs : ∀ b o, base.get? b = some o → s.heap.get? b = some o ∧ H b = none
  bsz : base.objs.size ≤ s.heap.objs.size
  funs : s.heap.FunFrames base outer
  frf : ∀ b ∈ frs outer, H b = none
  hok : HOk P w H s.heap
  bare : AllBare s.gens
/-- a call's end -/
def CE (outer : List Env) (P : Program) (w : World) (H : Hp) (s : Shared) (Q : VK) (u : Value) (s' : Shared) : Prop :=
  ∃ v H', s'.os = s.os ∧ AllBare s'.gens ∧ Un (frs outer) [] H H' s.heap s'.heap ∧ HOk P w H' s'.heap ∧ RelV v u ∧ Q v H'
def CR (CX : CXT) (outer : List Env) (P : Program) (w : World) (H : Hp) (s : Shared) (Q : VK) (E : XK) (r : Result) (s' : Shared) : Prop :=
  match r with
  | .ok (.ret u) => CE outer P w H s Q u s'
  | .ok _ => False
  | .error e => CX outer H s E e s'
structure FnOk (P : Program) (w : World) (K : PySem.W.Frag) (mg : Str → Option Value) (base : Heap) (CX : CXT) (k : Nat) (f : Addr) (fd : FuncData) (ps : List Str) (sp : Sp) : Prop where
  len : ∀ vs H Q E, sp vs H Q E → vs.length = ps.length
  run : ∀ (A : Around) (outer : List Env) (s : Shared) (H : Hp) (args : Args) (us : List Value) (vs : List V) (Q : VK) (E : XK), Room k A → Env0 P w K mg base A outer s H → BindsTo s fd args (ps.zip us) → Vals vs us → sp vs H Q E →
    codeAny (model P w) A (.call (.ref f) args) (CR CX outer P w H s Q E) s
theorem FnOk.mono {P : Program} {w : World} {K : PySem.W.Frag} {mg : Str → Option Value} {base : Heap} {CX : CXT} {j k : Nat} {f : Addr} {fd : FuncData} {ps : List Str} {sp : Sp} (F : FnOk P w K mg base CX j f fd ps sp) (h : j ≤ k) :
    FnOk P w K mg base CX k f fd ps sp := ⟨F.len, fun A outer s H args us vs Q E hr => F.run A outer s H args us vs Q E (hr.mono h)⟩
/-- a weaker promise -/
theorem FnOk.imp {P : Program} {w : World} {K : PySem.W.Frag} {mg : Str → Option Value} {base : Heap} {CX : CXT} {k : Nat} {f : Addr} {fd : FuncData} {ps : List Str} {sp sp' : Sp} (F : FnOk P w K mg base CX k f fd ps sp)
    (h : ∀ vs H Q E, sp' vs H Q E → sp vs H Q E) : FnOk P w K mg base CX k f fd ps sp' :=
  ⟨fun vs H Q E q => F.len vs H Q E (h _ _ _ _ q), fun A outer s H args us vs Q E hr he hb hv hs => F.run A outer s H args us vs Q E hr he hb hv (h _ _ _ _ hs)⟩

theorem Env0.make {P : Program} {w : World} {K : PySem.W.Frag} {mg : Str → Option Value} {base : Heap} {A : Around} {outer : List Env} {s : Shared} {H : Hp} (e : Env0 P w K mg base A outer s H) (C : Addr) (us : List Value) (kw : List (Str × Value)) :
    Env0 P w K mg base (A.under (.builtin "type.__call__" ⟨.ref C :: us, kw⟩)) outer s H := ⟨by first | exact e.frames | (simpa [Around.under, Code.envs, Code.isFrame, pushEnvs] using e.frames), e.mod, e.bs, e.bsz, e.funs, e.frf, e.hok, e.bare⟩
theorem Env0.in1 {P : Program} {w : World} {K : PySem.W.Frag} {mg : Str → Option Value} {base : Heap} {A : Around} {outer : List Env} {s : Shared} {H : Hp} (e : Env0 P w K mg base A outer s H) :
    Env0 P w K mg base A.in1 outer s H := ⟨e.frames, e.mod, e.bs, e.bsz, e.funs, e.frf, e.hok, e.bare⟩

section
variable {X : Cx} {pins : List (Addr × Obj)} {σ : St} {H : Hp} {s s' : Shared}
/-- from a body: what a callee wants -/
theorem Inv.env0 (I : Inv X pins σ H s) : Env0 X.prog X.w X.K X.mg X.base X.A X.stack s H :=
  ⟨I.ok.frames, I.ok.mod, I.bs, Nat.le_trans I.ok.bsz I.sz, I.stack, I.stkFree, I.hok, I.bare⟩
/-- behind a call -/
theorem Inv.after {Q : VK} {u : Value} (I : Inv X pins σ H s) (h : CE X.stack X.prog X.w H s Q u s') : EP X pins σ Q u s' := by
  obtain ⟨v, H', os, bare, un, hok, r, q⟩ := h
  obtain ⟨hh, g, d, t, os'⟩ := s'
  obtain rfl : os' = s.os := os
  exact ⟨v, H', I.call (h' := hh) (g' := g) (d' := d) (t' := t) (ch := []) un hok bare (fun b z => absurd z (by simp)), r, q⟩
end

/-! ### calls -/
/-- f(..): the written arguments, then the defaults dvs; E: what is wanted of an exception -/
def tCall (sp : Sp) (dvs : List V) (E : XK) (t : TA) : TE := fun σ H Q => t σ H fun vs H1 => sp (vs ++ dvs) H1 Q E
/-- o.m(..) of an instance of the class at C -/
def tMeth (C : Addr) (m : Str) (sp : Sp) (dvs : List V) (E : XK) (ta : TE) (t : TA) : TE := fun σ H Q => ta σ H fun x H1 => ∃ a dx fs, x = .ref a ∧ H1 a = some (.ins C dx fs) ∧ fs.lookup m = none ∧
  t σ H1 fun vs H2 => sp (x :: (vs ++ dvs)) H2 Q E
/-- C(..): a new instance and its dict, then __init__ -/
def tMake (C : Addr) (sp : Sp) (dvs : List V) (E : XK) (t : TA) : TE := fun σ H Q => t σ H fun vs H1 => ∀ x dx, H1 x = none → H1 dx = none → dx ≠ x →
  sp (.ref x :: (vs ++ dvs)) (upd (upd H1 dx (.own x)) x (.ins C dx [])) (fun v H2 => v = .non ∧ Q (.ref x) H2) E

/-- how the parameters are bound: us the positional arguments, kw the keywords' values by name, ds the defaults that fill up -/
def Binds (K : PySem.W.Frag) (fd : FuncData) (ps : List Str) (ds : List Value) : Prop :=
  ∀ (s : Shared) (us : List Value), K.In s.heap → (us ++ ds).length = ps.length → BindsTo s fd ⟨us, []⟩ (ps.zip (us ++ ds))
/-- every parameter is given -/
theorem Binds.all {K : PySem.W.Frag} {fd : FuncData} {ps : List Str} (h : ∀ us : List Value, us.length = ps.length → bindArgs fd ⟨us, []⟩ = pure (ps.zip us)) : Binds K fd ps [] := fun s us _ hl => by
  rw [List.append_nil] at hl ⊢
  exact .of_eq (h us hl)

/-- an exception of a callee reaches what this body wants of exceptions -/
def Passes (CX : CXT) (X : Cx) (E : XK) : Prop := ∀ (pins : List (Addr × Obj)) (σ : St) (H : Hp) (s : Shared) (e : Value) (s' : Shared), Inv X pins σ H s → CX X.stack H s E e s' → X.xe e s'

section
variable {X : Cx} {CX : CXT} {k : Nat} {f C : Addr} {fd : FuncData} {ps : List Str} {sp : Sp} {dvs : List V} {ds : List Value} {E : XK} {x m : Str} {p pos apos : Pos} {e o : Expr} {es : List Expr} {ta : TE} {t : TA}

/-- the callee runs -/
theorem run_fn {pins : List (Addr × Obj)} {σ : St} {H : Hp} {s : Shared} {Q : VK} {us : List Value} {vs : List V} (F : FnOk X.prog X.w X.K X.mg X.base CX k f fd ps sp) (hr : Room k X.A) (hb : Binds X.K fd ps ds) (hd : Vals dvs ds) (hx : Passes CX X E)
    (I : Inv X pins σ H s) (r : Vals vs us) (h : sp (vs ++ dvs) H Q E) : wpAny (model X.prog X.w) X.A (call (.ref f) us) (EP X pins σ Q) X.xe s := by
  have r2 : Vals (vs ++ dvs) (us ++ ds) := r.append hd
  have hl : (us ++ ds).length = ps.length := by rw [← r2.length]; exact F.len _ _ _ _ h
  refine wpAny_call (codeAny_mono (F.run X.A X.stack s H ⟨us, []⟩ (us ++ ds) (vs ++ dvs) Q E hr I.env0 (hb s us I.kIn hl) r2 h) fun r s' hq => ?_)
  cases r with
  | error e => exact hx pins σ H s e s' I hq
  | ok fl =>
    cases fl with
    | ret u => exact I.after hq
    | next => exact False.elim hq
    | brk => exact False.elim hq
    | cont => exact False.elim hq

theorem pe_call (F : FnOk X.prog X.w X.K X.mg X.base CX k f fd ps sp) (hr : Room k X.A) (hg : Gl X x) (hm : X.mg x = some (.ref f)) (hk : PySem.W.keepIn X.K (.ref f) = true) (hb : Binds X.K fd ps ds) (hd : Vals dvs ds) (hx : Passes CX X E)
    (ha : PA X (e :: es) t) (hdb : (x == ("__debug__" : Str)) = false := by decide) (he : starEach (e :: es) X.env = (false, eval e X.env) :: starEach es X.env := by rfl) (hpl : (backTo pos (starEach es X.env)).any (·.1) = false := by rfl) :
    PE X (.Call (.Name x p) (e :: es) [] pos) (tCall sp dvs E t) := by
  intro pins s σ H Q I h
  refine wpAny_Call_Name_kw (ld_glob I hg hm ?_ hdb)
  refine PySem.W.callWith_K (h₀ := X.base) I.ok.mod.kin hk (thn (ha pos pins s σ H _ I h) fun us s1 ⟨vs, H1, I1, r, q⟩ => ⟨I1.kIn, ?_⟩) he hpl
  exact run_fn F hr hb hd hx I1 r q
theorem pe_call0 (F : FnOk X.prog X.w X.K X.mg X.base CX k f fd ps sp) (hr : Room k X.A) (hg : Gl X x) (hm : X.mg x = some (.ref f)) (hk : PySem.W.keepIn X.K (.ref f) = true) (hb : Binds X.K fd ps ds) (hd : Vals dvs ds) (hx : Passes CX X E)
    (hdb : (x == ("__debug__" : Str)) = false := by decide) : PE X (.Call (.Name x p) [] [] pos) (tCall sp dvs E tNil) := by
  intro pins s σ H Q I h
  refine wpAny_Call_Name_kw (ld_glob I hg hm ?_ hdb)
  exact PySem.W.callWith_K0 I.kIn hk (run_fn (us := []) F hr hb hd hx I .nil h)

/-- o.m(e, ..) -/
theorem pe_meth {pl : Sem Bool} (he : PE X o ta) (c : Cls X.K C) (hm : Meth X.K C m f) (F : FnOk X.prog X.w X.K X.mg X.base CX k f fd ps sp) (hr : Room k X.A) (hb : Binds X.K fd ps ds) (hd : Vals dvs ds) (hx : Passes CX X E) (ha : PA X (e :: es) t)
    (hst : starEach (e :: es) X.env = (false, eval e X.env) :: starEach es X.env := by rfl) (hpl : (backTo pos (starEach es X.env)).any (·.1) = false := by rfl)
    (ht : eval (.Call (.Attribute o m apos) (e :: es) [] pos) X.env = (do
      let ov ← eval o X.env
      standAt apos.atName
      let (f, first) ← holding [ov] (getMethod ov m pl)
      callWith pos f first (backTo pos (starEach (e :: es) X.env)) (backToKw pos (keywordEach [] X.env))) := by rfl) :
    PE X (.Call (.Attribute o m apos) (e :: es) [] pos) (tMeth C m sp dvs E ta t) := by
  intro pins s σ H Q I h
  refine PySem.W.methodCall_KW (pl := pl) (thn (he pins s σ H _ I h) fun u s1 ⟨x, H1, I1, rx, a, dx, fs, ex, ea, l, q⟩ => ?_) ht
  subst ex
  obtain rfl : u = Value.ref a := rx
  refine getmeth_ok I1 ea c hm l ?_
  refine PySem.W.callWith_K (first := [.ref a]) (h₀ := X.base) I.ok.mod.kin hm.kp (thn (ha pos pins s1 σ H1 _ I1 q) fun us s2 ⟨vs, H2, I2, r, q2⟩ => ⟨I2.kIn, ?_⟩) hst hpl
  exact run_fn (us := .ref a :: us) (vs := .ref a :: vs) F hr hb hd hx I2 (.cons rfl r) q2
/-- o.m() -/
theorem pe_meth0 {pl : Sem Bool} (he : PE X o ta) (c : Cls X.K C) (hm : Meth X.K C m f) (F : FnOk X.prog X.w X.K X.mg X.base CX k f fd ps sp) (hr : Room k X.A) (hb : Binds X.K fd ps ds) (hd : Vals dvs ds) (hx : Passes CX X E)
    (ht : eval (.Call (.Attribute o m apos) [] [] pos) X.env = (do
      let ov ← eval o X.env
      standAt apos.atName
      let (f, first) ← holding [ov] (getMethod ov m pl)
      callWith pos f first (backTo pos (starEach [] X.env)) (backToKw pos (keywordEach [] X.env))) := by rfl) :
    PE X (.Call (.Attribute o m apos) [] [] pos) (tMeth C m sp dvs E ta tNil) := by
  intro pins s σ H Q I h
  refine PySem.W.methodCall_KW (pl := pl) (thn (he pins s σ H _ I h) fun u s1 ⟨x, H1, I1, rx, a, dx, fs, ex, ea, l, q⟩ => ?_) ht
  subst ex
  obtain rfl : u = Value.ref a := rx
  refine getmeth_ok I1 ea c hm l ?_
  exact PySem.W.callWith_K0 (first := [.ref a]) I1.kIn hm.kp (run_fn (us := [.ref a]) (vs := [.ref a]) F hr hb hd hx I1 (.cons rfl .nil) q)

/-- what a class must have to be made -/
structure Mk (K : PySem.W.Frag) (C f : Addr) : Prop where
  makes : PySem.W.makesIn K C = true
  init : PySem.W.findIn K (.ref C) "__init__" = some (some (.ref f))
  fn : PySem.W.isFn K (.ref f) = true
  kp : PySem.W.keepIn K (.ref C) = true

theorem run_make {pins : List (Addr × Obj)} {σ : St} {H : Hp} {s : Shared} {Q : VK} {us : List Value} {vs : List V} (M : Mk X.K C f) (F : FnOk X.prog X.w X.K X.mg X.base CX k f fd ps sp) (hr : Room (k + 1) X.A) (hb : Binds X.K fd ps ds) (hd : Vals dvs ds)
    (hx : Passes CX X E) (I : Inv X pins σ H s) (r : Vals vs us)
    (h : ∀ x dx, H x = none → H dx = none → dx ≠ x → sp (.ref x :: (vs ++ dvs)) (upd (upd H dx (.own x)) x (.ins C dx [])) (fun v H2 => v = .non ∧ Q (.ref x) H2) E) :
    wpAny (model X.prog X.w) X.A (call (.ref C) us) (EP X pins σ Q) X.xe s := by
  have hq := h (s.heap.objs.size + 1) s.heap.objs.size (I.hok.fresh (Nat.le_succ _)) (I.hok.fresh (Nat.le_refl _)) (Nat.ne_of_lt (Nat.lt_succ_self _))
  have I2 := Inv.made (C := C) I
  have r2 : Vals (V.ref (s.heap.objs.size + 1) :: (vs ++ dvs)) (Value.ref (s.heap.objs.size + 1) :: (us ++ ds)) := .cons rfl (r.append hd)
  have hl : (Value.ref (s.heap.objs.size + 1) :: us ++ ds).length = ps.length := by
    have e := r2.length
    rw [F.len _ _ _ _ hq] at e
    exact e.symm
  refine wpAny_call (make_map (f := f) I.kIn M.makes M.init (beq_iff_eq.mp M.fn) (codeAny_mono (F.run _ X.stack _ _ ⟨Value.ref (s.heap.objs.size + 1) :: us, []⟩ (Value.ref (s.heap.objs.size + 1) :: (us ++ ds)) _ _ E (hr.make C us [])
    (I2.env0.make C us []) (hb _ (Value.ref (s.heap.objs.size + 1) :: us) I2.kIn hl) r2 hq) fun r s' hq' => ?_))
  cases r with
  | error e => exact hx pins σ _ _ e s' I2 hq'
  | ok fl =>
    cases fl with
    | ret u =>
      obtain ⟨v, H', I3, rv, ev, q3⟩ := I2.after hq'
      subst ev
      exact ⟨rv, ⟨V.ref (s.heap.objs.size + 1), H', I3, rfl, q3⟩⟩
    | next => exact False.elim hq'
    | brk => exact False.elim hq'
    | cont => exact False.elim hq'
theorem pe_make (M : Mk X.K C f) (F : FnOk X.prog X.w X.K X.mg X.base CX k f fd ps sp) (hr : Room (k + 1) X.A) (hg : Gl X x) (hm : X.mg x = some (.ref C)) (hb : Binds X.K fd ps ds) (hd : Vals dvs ds) (hx : Passes CX X E)
    (ha : PA X (e :: es) t) (hdb : (x == ("__debug__" : Str)) = false := by decide) (he : starEach (e :: es) X.env = (false, eval e X.env) :: starEach es X.env := by rfl) (hpl : (backTo pos (starEach es X.env)).any (·.1) = false := by rfl) :
    PE X (.Call (.Name x p) (e :: es) [] pos) (tMake C sp dvs E t) := by
  intro pins s σ H Q I h
  refine wpAny_Call_Name_kw (ld_glob I hg hm ?_ hdb)
  refine PySem.W.callWith_K (h₀ := X.base) I.ok.mod.kin M.kp (thn (ha pos pins s σ H _ I h) fun us s1 ⟨vs, H1, I1, r, q⟩ => ⟨I1.kIn, ?_⟩) he hpl
  exact run_make M F hr hb hd hx I1 r q
theorem pe_make0 (M : Mk X.K C f) (F : FnOk X.prog X.w X.K X.mg X.base CX k f fd ps sp) (hr : Room (k + 1) X.A) (hg : Gl X x) (hm : X.mg x = some (.ref C)) (hb : Binds X.K fd ps ds) (hd : Vals dvs ds) (hx : Passes CX X E)
    (hdb : (x == ("__debug__" : Str)) = false := by decide) : PE X (.Call (.Name x p) [] [] pos) (tMake C sp dvs E tNil) := by
  intro pins s σ H Q I h
  refine wpAny_Call_Name_kw (ld_glob I hg hm ?_ hdb)
  exact PySem.W.callWith_K0 I.kIn M.kp (run_make (us := []) M F hr hb hd hx I .nil h)
end

/-! ### keywords -/
/-- the values of the keywords, from the left -/
def PK (X : Cx) (kws : List Keyword) (t : TA) : Prop :=
  ∀ (pos : Pos) (pins : List (Addr × Obj)) (s : Shared) (σ : St) (H : Hp) (Q : List V → Hp → Prop), Inv X pins σ H s → t σ H Q → wpAny (model X.prog X.w) X.A (evalAll ((backToKw pos (keywordEach kws X.env)).map (·.2))) (AP X pins σ Q) X.xe s
section
variable {X : Cx} {CX : CXT} {k : Nat} {f C : Addr} {fd : FuncData} {ps ks : List Str} {sp : Sp} {E : XK} {x m : Str} {p pos apos kpos : Pos} {e o : Expr} {es : List Expr} {kws : List Keyword} {te ta : TE} {t tk : TA} {nm : Option Str}
theorem pk_nil : PK X [] tNil := fun _ _ _ _ H Q I h => wpAny_evalAll_nil ⟨[], H, I, .nil, h⟩
theorem pk_cons (ha : PE X e te) (hr : PK X kws t) : PK X (⟨nm, e, kpos⟩ :: kws) (tCons te t) := by
  intro pos pins s σ H Q I h
  show wpAny _ _ (evalAll ((do let v ← eval e X.env; standAt pos; pure v) :: (backToKw pos (keywordEach kws X.env)).map (·.2))) _ _ s
  refine wpAny_evalAll_cons (wpAny_bind (thn (ha pins s σ H _ I h) fun u s1 ⟨x, H1, I1, r1, q1⟩ => wpAny_bind (wpAny_standAt (wpAny_pure ?_))))
  exact thn (hr pos pins s1 σ H1 _ I1 q1) fun us s2 ⟨xs, H2, I2, r2, q2⟩ => ⟨x :: xs, H2, I2, .cons r1 r2, q2⟩

/-- how a call with keywords binds: g puts the positional values us and the keywords' values ws (names ks) in the parameters' order, defaults among them -/
structure KBinds (K : PySem.W.Frag) (fd : FuncData) (ps ks : List Str) (g : List Value → List Value → List Value) (gV : List V → List V → List V) : Prop where
  to : ∀ (s : Shared) (us ws : List Value), K.In s.heap → (g us ws).length = ps.length → BindsTo s fd ⟨us, ks.zip ws⟩ (ps.zip (g us ws))
  rel : ∀ {vs : List V} {us : List Value} {zs : List V} {ws : List Value}, Vals vs us → Vals zs ws → Vals (gV vs zs) (g us ws)
def tCallK (sp : Sp) (gV : List V → List V → List V) (E : XK) (t tk : TA) : TE := fun σ H Q => t σ H fun vs H1 => tk σ H1 fun zs H2 => sp (gV vs zs) H2 Q E
variable {g : List Value → List Value → List Value} {gV : List V → List V → List V}
theorem run_fnk {pins : List (Addr × Obj)} {σ : St} {H : Hp} {s : Shared} {Q : VK} {us ws : List Value} {vs zs : List V} (F : FnOk X.prog X.w X.K X.mg X.base CX k f fd ps sp) (hr : Room k X.A) (hb : KBinds X.K fd ps ks g gV) (hx : Passes CX X E)
    (I : Inv X pins σ H s) (r : Vals vs us) (rz : Vals zs ws) (h : sp (gV vs zs) H Q E) : wpAny (model X.prog X.w) X.A (call (.ref f) us (ks.zip ws)) (EP X pins σ Q) X.xe s := by
  have r2 := hb.rel r rz
  have hl : (g us ws).length = ps.length := by rw [← r2.length]; exact F.len _ _ _ _ h
  refine wpAny_call (codeAny_mono (F.run X.A X.stack s H ⟨us, ks.zip ws⟩ (g us ws) (gV vs zs) Q E hr I.env0 (hb.to s us ws I.kIn hl) r2 h) fun r s' hq => ?_)
  cases r with
  | error e => exact hx pins σ H s e s' I hq
  | ok fl =>
    cases fl with
    | ret u => exact I.after hq
    | next => exact False.elim hq
    | brk => exact False.elim hq
    | cont => exact False.elim hq
/-- f(e, .., k = v, ..) -/
theorem pe_callK (F : FnOk X.prog X.w X.K X.mg X.base CX k f fd ps sp) (hr : Room k X.A) (hg : Gl X x) (hm : X.mg x = some (.ref f)) (hk : PySem.W.keepIn X.K (.ref f) = true) (hb : KBinds X.K fd ps ks g gV) (hx : Passes CX X E)
    (ha : PA X (e :: es) t) (hkw : PK X kws tk) (hall : (backToKw pos (keywordEach kws X.env)).all (·.1.isSome) = true := by rfl) (hks : (backToKw pos (keywordEach kws X.env)).filterMap (·.1) = ks := by rfl)
    (hdb : (x == ("__debug__" : Str)) = false := by decide) (he : starEach (e :: es) X.env = (false, eval e X.env) :: starEach es X.env := by rfl)
    (hpl : ((backTo pos (starEach (e :: es) X.env)).any (·.1) || (backToKw pos (keywordEach kws X.env)).any (·.1.isNone)) = false := by rfl) :
    PE X (.Call (.Name x p) (e :: es) kws pos) (tCallK sp gV E t tk) := by
  intro pins s σ H Q I h
  refine wpAny_Call_Name_kw (ld_glob I hg hm ?_ hdb)
  refine PySem.W.callWith_KW (h₀ := X.base) I.ok.mod.kin hk hall (thn (ha pos pins s σ H _ I h) fun us s1 ⟨vs, H1, I1, r, q⟩ => ?_) hpl he
  refine thn (hkw pos pins s1 σ H1 _ I1 q) fun ws s2 ⟨zs, H2, I2, rz, q2⟩ => ⟨I2.kIn, ?_⟩
  rw [hks]
  exact run_fnk F hr hb hx I2 r rz q2
end

/-! ### a def's body keeps its promise -/
/-- names: the parameters first -/
structure FnScope (N P : List Str) (sc : Scope) : Prop where
  kind : sc.kind = .function
  co : sc.isCoroutine = false
  gen : sc.isGenerator = false
  nd : N.Nodup
  pre : N.take P.length = P
  par : ∀ x ∈ P, sc.names.lookup x = some .local ∨ sc.names.lookup x = some .cell
  nofree : ∀ y ∈ sc.names, y.2 ≠ .free

theorem bindL_out {kindOf : Str → Option NameKind} {x : Str} : ∀ {binds : List (Str × Value)} {m : Str → Option Value}, (∀ v, (x, v) ∉ binds) → bindL kindOf binds m x = m x
  | [], _, _ => rfl
  | (n, v) :: r, m, h => by
    unfold bindL
    rw [bindL_out fun w hw => h w (List.mem_cons_of_mem _ hw)]
    split
    · have : x ≠ n := by rintro rfl; exact h v List.mem_cons_self
      simp [this]
    · rfl
theorem bindC_out {kindOf : Str → Option NameKind} {x : Str} : ∀ {binds : List (Str × Value)} {m : Str → Option Value}, (∀ v, (x, v) ∉ binds) → bindC kindOf binds m x = m x
  | [], _, _ => rfl
  | (n, v) :: r, m, h => by
    unfold bindC
    rw [bindC_out fun w hw => h w (List.mem_cons_of_mem _ hw)]
    split
    · rfl
    · have : x ≠ n := by rintro rfl; exact h v List.mem_cons_self
      simp [this]
theorem bindL_get {kindOf : Str → Option NameKind} {x : Str} {v : Value} : ∀ {P : List Str} {vs : List Value} {i : Nat} {m : Str → Option Value}, P.Nodup → P[i]? = some x → vs[i]? = some v → kindOf x = some .local →
    bindL kindOf (P.zip vs) m x = some v
  | [], _, _, _, _, h, _, _ => by simp at h
  | _ :: _, [], _, _, _, _, h, _ => by simp at h
  | p :: P, w :: vs, 0, m, nd, h1, h2, hk => by
    simp at h1 h2; subst h1; subst h2
    show bindL kindOf ((p, w) :: P.zip vs) m p = _
    unfold bindL
    rw [bindL_out fun v hv => (List.nodup_cons.mp nd).1 (List.of_mem_zip hv).1, if_pos hk]
    simp
  | p :: P, w :: vs, i + 1, m, nd, h1, h2, hk => by
    show bindL kindOf ((p, w) :: P.zip vs) m x = _
    unfold bindL
    exact bindL_get (i := i) (List.nodup_cons.mp nd).2 (by simpa using h1) (by simpa using h2) hk
theorem bindC_get {kindOf : Str → Option NameKind} {x : Str} {v : Value} : ∀ {P : List Str} {vs : List Value} {i : Nat} {m : Str → Option Value}, P.Nodup → P[i]? = some x → vs[i]? = some v → kindOf x ≠ some .local →
    bindC kindOf (P.zip vs) m x = some v
  | [], _, _, _, _, h, _, _ => by simp at h
  | _ :: _, [], _, _, _, _, h, _ => by simp at h
  | p :: P, w :: vs, 0, m, nd, h1, h2, hk => by
    simp at h1 h2; subst h1; subst h2
    show bindC kindOf ((p, w) :: P.zip vs) m p = _
    unfold bindC
    rw [bindC_out fun v hv => (List.nodup_cons.mp nd).1 (List.of_mem_zip hv).1, if_neg hk]
    simp
  | p :: P, w :: vs, i + 1, m, nd, h1, h2, hk => by
    show bindC kindOf ((p, w) :: P.zip vs) m x = _
    unfold bindC
    exact bindC_get (i := i) (List.nodup_cons.mp nd).2 (by simpa using h1) (by simpa using h2) hk

/-- the names' values at the entry -/
def start (N : List Str) (vs : List V) : St := vs.map some ++ List.replicate (N.length - vs.length) none

/-- the context of a def's body, at its entry; an exception leaves the frame, then lies as CX says -/
def cxOf (CX : CXT) (P : Program) (w : World) (K : PySem.W.Frag) (mg : Str → Option Value) (base : Heap) (N : List Str) (qual : Str) (scope : Scope) (f : Addr) (cd : Value) (A : Around) (outer : List Env) (s : Shared) (H : Hp) (E : XK) : Cx where
  prog := P
  w := w
  K := K
  mg := mg
  base := base
  A := A.deeper (envOfC qual scope s.heap.objs.size f cd)
  N := N
  s₀ := s
  H₀ := H
  env := envOfC qual scope s.heap.objs.size f cd
  outer := outer
  stack := envOfC qual scope s.heap.objs.size f cd :: outer
  ex := []
  calm := true
  fn := fun _ => true
  pn := []
  xe := fun e s' => wpAny (model P w) (A.deeper (envOfC qual scope s.heap.objs.size f cd)) (leaving (envOfC qual scope s.heap.objs.size f cd) e) (fun _ s'' => CX outer H s E e s'') (fun e' s'' => CX outer H s E e' s'') s'

theorem cell_has {sc : Scope} {n : Nat} {x : Str} (h : sc.names.lookup x = some .cell) : ∃ c, (cellsFrom n sc.names []).lookup x = some c := by
  have q := PySem.W.cellsFrom_some sc.names n [] (.inl h)
  exact Option.isSome_iff_exists.mp q

theorem inv_start {CX : CXT} {P : Program} {w : World} {K : PySem.W.Frag} {mg : Str → Option Value} {base : Heap} {N ps : List Str} {qual : Str} {scope : Scope} {f : Addr} {cd : Value} {A : Around} {outer : List Env} {s s1 : Shared} {H : Hp} {E : XK} {us : List Value} {vs : List V}
    (S : FnScope N ps scope) (hd : A.handled = none) (e0 : Env0 P w K mg base A outer s H) (hl : vs.length = ps.length) (r : Vals vs us)
    (x : InCallC s s.heap.objs.size (bindL (envOfC qual scope s.heap.objs.size f cd).kindOf (ps.zip us) fun _ => none) (cellsFrom (s.heap.objs.size + 1) scope.names []) (bindC (envOfC qual scope s.heap.objs.size f cd).kindOf (ps.zip us) fun _ => none) s1) :
    Inv (cxOf CX P w K mg base N qual scope f cd A outer s H E) [] (start N vs) H s1 := by
  have hpl : ps.length ≤ N.length := by have := congrArg List.length S.pre; rw [List.length_take] at this; omega
  obtain ⟨h1, tk, rfl, hk⟩ := x.done
  have noA : ∀ b : Addr, b ∉ (cxOf CX P w K mg base N qual scope f cd A outer s H E).ex := fun b z => absurd (show b ∈ ([] : List Addr) from z) (by simp)
  refine ⟨⟨e0.mod, S.kind, rfl, rfl, Nat.le_refl _, fun y z c h1 h2 => ?_, fun y hy => ?_, fun y c _ h => ?_, fun _ => hd, Around.frames_deeper e0.frames, .inr ⟨rfl, rfl⟩, fun b z => absurd z (noA b), e0.bs, e0.bsz, fun b _ _ => noA b, fun b z => absurd z (noA b), e0.funs, e0.frf⟩,
    rfl, e0.bare, Un.kept hk, ⟨_, x.toInCall.ns, fun i y v h1 h2 h3 => ?_⟩, fun y c h => ⟨_, x.cell y c h⟩, e0.hok.fresh (Nat.le_refl _), fun y c h => ?_, fun p hp => absurd (show p ∈ ([] : List (Addr × Obj)) from hp) (by simp), e0.hok.kept hk, ?_⟩
  · exact name_of_addr x.apart (PySem.mem_of_lookup h1) (PySem.mem_of_lookup h2)
  · have hy : scope.names.lookup y = some .cell ∨ scope.names.lookup y = some .free := hy
    rcases hy with hy | hy
    · exact cell_has hy
    · exact absurd rfl (S.nofree _ (PySem.mem_of_lookup hy))
  · exact Nat.le_of_lt (x.above y c (PySem.mem_of_lookup h))
  · have hi : i < vs.length := by
      unfold start at h2
      by_cases hi : i < vs.length
      · exact hi
      · rw [List.getElem?_append_right (by simpa using hi)] at h2
        rw [List.getElem?_replicate] at h2
        split at h2 <;> cases h2
    have ha : vs[i]? = some v := by
      unfold start at h2
      rw [List.getElem?_append_left (by simpa using hi), List.getElem?_map] at h2
      cases e : vs[i]? with
      | none => rw [e] at h2; cases h2
      | some a => rw [e] at h2; cases h2; rfl
    obtain ⟨u, hu, rv⟩ := r.get ha
    have hp : ps[i]? = some y := by
      rw [← S.pre, List.getElem?_take_of_lt (by omega)]; exact h1
    have ndP : ps.Nodup := by rw [← S.pre]; exact S.nd.sublist (List.take_sublist _ _)
    refine ⟨u, rv, ?_⟩
    rcases S.par y (List.mem_of_getElem? hp) with k | k
    · exact .inl ⟨k, bindL_get ndP hp hu k⟩
    · obtain ⟨c, e⟩ := cell_has (n := s.heap.objs.size + 1) k
      refine .inr ⟨.inl k, c, e, ?_⟩
      have q := x.cell y c e
      rw [bindC_get ndP hp hu (by show scope.names.lookup y ≠ _; rw [k]; decide)] at q
      exact q
  · exact e0.hok.fresh (Nat.le_of_lt (x.above y c (PySem.mem_of_lookup h)))
  · unfold start
    show _ = N.length
    rw [List.length_append, List.length_map, List.length_replicate]
    omega

/-- THE RULE: a def (or a method) of the text, by its body. The body's reading t is chosen for each entry; it is run at the parameters' values -/
theorem fn_of {CX : CXT} {P : Program} {w : World} {K : PySem.W.Frag} {mg : Str → Option Value} {base : Heap} {k : Nat} {f : Addr} {name qual : Str} {params : Arguments} {body : List Stmt} {scope : Scope} {dV kV doc pm cdv ct oc : Value} {an od : Option Addr}
    {osl : Array (Option Value)} {N ps : List Str} {sp : Sp} (lk : K.lookup f = some ⟨oc, od, .func (PySem.W.fnOf name qual params body scope dV kV doc pm an cdv ct), osl⟩) (hcd : PySem.W.codeIn K cdv qual = true) (S : FnScope N ps scope)
    (len : ∀ vs H Q E, sp vs H Q E → vs.length = ps.length)
    (hbody : ∀ (A : Around) (outer : List Env) (s : Shared) (H : Hp) (vs : List V) (Q : VK) (E : XK), Room k (A.deeper (envOfC qual scope s.heap.objs.size f cdv)) → sp vs H Q E →
      ∃ t, PSs (cxOf CX P w K mg base N qual scope f cdv A outer s H E) body t ∧ t { nx := fun _ H' => Q .non H', rt := Q } (start N vs) H) :
    FnOk P w K mg base CX (k + 1) f (PySem.W.fnOf name qual params body scope dV kV doc pm an cdv ct) ps sp := by
  refine ⟨len, fun A outer s H args us vs Q E hr e0 hb r hsp => ?_⟩
  have hl := len _ _ _ _ hsp
  have KX : K.In s.heap := e0.mod.kin.keeps fun b o e => (e0.bs b o e).1
  have lim : s.heap.NoLimit := e0.mod.nolimit.keeps fun b o e => (e0.bs b o e).1
  have hkind : ∀ y ∈ ps.zip us, scope.names.lookup y.1 = some .local ∨ (scope.names.lookup y.1 = some .cell ∧ ((cellsFrom (s.heap.objs.size + 1) scope.names []).lookup y.1).isSome = true) := fun ⟨n, v⟩ hy => by
    rcases S.par n (List.of_mem_zip hy).1 with q | q
    · exact .inl q
    · exact .inr ⟨q, PySem.W.cellsFrom_some _ _ _ (.inl q)⟩
  refine codeAny_call_function hr.depth (KX _ _ lk) rfl S.co S.gen rfl (PySem.W.codeRec_of KX hcd) (hb _ _ _ _ ?_)
  refine wpAny_newFunctionEnv_cells S.kind hkind fun env he s1 x => ?_
  subst he
  refine ⟨lim.keeps x.toInCall.keep, codeAny_func ?_⟩
  obtain ⟨t, ht, hq⟩ := hbody A outer s H vs Q E (hr.deeper _) hsp
  have I : Inv (cxOf CX P w K mg base N qual scope f cdv A outer s H E) [] (start N vs) H s1 := inv_start S hr.hd e0 hl r x
  refine wpAny_mono (ht [] s1 (start N vs) H _ I hq) (fun fl s' hs => ?_) fun e s' hs => hs
  have fin : ∀ {σ' : St} {H' : Hp} {v : V} {u : Value}, Inv (cxOf CX P w K mg base N qual scope f cdv A outer s H E) [] σ' H' s' → RelV v u → Q v H' → CE outer P w H s Q u s' :=
    fun {σ' H' v u} J rv q => ⟨v, H', J.os, J.bare, J.base, J.hok, rv, q⟩
  cases fl with
  | ret u =>
    obtain ⟨v, σ', H', J, rv, q⟩ := hs
    exact fin J rv q
  | next =>
    obtain ⟨σ', H', J, q⟩ := hs
    exact fin (v := V.non) (u := Value.none) J rfl q
  | brk =>
    obtain ⟨_, _, _, q⟩ := hs
    exact False.elim q
  | cont =>
    obtain ⟨_, _, _, q⟩ := hs
    exact False.elim q
end L2

namespace L2
open PySem PySem.Spec PyProof.Rows
section
variable {X : Cx} {x : Str} {p pos : Pos} {e : Expr} {es : List Expr} {t : TA} {id T : String} {r : List V → Hp → VK → Prop}

def tCB (r : List V → Hp → VK → Prop) (t : TA) : TE := fun σ H Q => t σ H fun vs H1 => r vs H1 Q
/-- f(e, ..), f a built-in function -/
theorem pe_callB (hc : CallR X (.builtin id) r) (hg : Gl X x) (hm : X.mg x = none) (hv : bootBuiltins x = some (.builtin id)) (ha : PA X (e :: es) t) (hn : x ≠ "__name__" := by decide) (hdb : (x == ("__debug__" : Str)) = false := by decide)
    (he : starEach (e :: es) X.env = (false, eval e X.env) :: starEach es X.env := by rfl) (hpl : (backTo pos (starEach es X.env)).any (·.1) = false := by rfl) : PE X (.Call (.Name x p) (e :: es) [] pos) (tCB r t) := by
  intro pins s σ H Q I h
  refine wpAny_Call_Name_kw (ld_blt I hg hm hv ?_ hn hdb)
  exact PyProof.Rows.callWith_builtin1 (thn (ha pos pins s σ H _ I h) fun us s1 ⟨vs, H1, I1, r1, q1⟩ => hc pins s1 σ H1 vs us Q I1 r1 q1) he hpl
/-- T(e, ..), T a built-in type -/
theorem pe_callTy (hc : CallR X (.type T) r) (hg : Gl X x) (hm : X.mg x = none) (hv : bootBuiltins x = some (.type T)) (ha : PA X (e :: es) t) (hn : x ≠ "__name__" := by decide) (hdb : (x == ("__debug__" : Str)) = false := by decide)
    (he : starEach (e :: es) X.env = (false, eval e X.env) :: starEach es X.env := by rfl) (hpl : (backTo pos (starEach es X.env)).any (·.1) = false := by rfl) : PE X (.Call (.Name x p) (e :: es) [] pos) (tCB r t) := by
  intro pins s σ H Q I h
  refine wpAny_Call_Name_kw (ld_blt I hg hm hv ?_ hn hdb)
  exact PyProof.Rows.callWith_type1 (thn (ha pos pins s σ H _ I h) fun us s1 ⟨vs, H1, I1, r1, q1⟩ => hc pins s1 σ H1 vs us Q I1 r1 q1) he hpl
/-- T() -/
theorem pe_callTy0 (hc : CallR X (.type T) r) (hg : Gl X x) (hm : X.mg x = none) (hv : bootBuiltins x = some (.type T)) (hn : x ≠ "__name__" := by decide) (hdb : (x == ("__debug__" : Str)) = false := by decide) :
    PE X (.Call (.Name x p) [] [] pos) (tCB r tNil) := by
  intro pins s σ H Q I h
  refine wpAny_Call_Name_kw (ld_blt I hg hm hv ?_ hn hdb)
  exact PyProof.Rows.callWith_type0 (hc pins s σ H [] [] Q I .nil h)
end
end L2

namespace HT
open PySem PyProof.Rows

/-- t < u of tuples of ints -/
def lexLt : List Int → List Int → Bool
  | [], [] => false
  | [], _ :: _ => true
  | _ :: _, [] => false
  | x :: xs, y :: ys => if x = y then lexLt xs ys else decide (x < y)
theorem lexLt_cons (x y : Int) (xs ys : List Int) : lexLt (x :: xs) (y :: ys) = if x = y then lexLt xs ys else decide (x < y) := rfl
theorem lexLt_nil_nil : lexLt [] [] = false := rfl
theorem lexLt_nil_cons (y : Int) (ys : List Int) : lexLt [] (y :: ys) = true := rfl
theorem lexLt_cons_nil (x : Int) (xs : List Int) : lexLt (x :: xs) [] = false := rfl

theorem eqAt_int (A : Around) (s : Shared) (a : Int) (t : Tok) (c : Int) (u : Tok) : ∃ e, SeqAt.EqAt A s (.int a t) (.int c u) e ∧ (e = true ↔ a = c) :=
  ⟨(a == c), SeqAt.EqAt.int_int a t c u, by simp⟩
theorem rcLt_int (A : Around) (s : Shared) (a : Int) (t : Tok) (c : Int) (u : Tok) (prog : Program) (w : World) (E : Value → Shared → Prop) (Q : Value → Shared → Prop) (h : Q (.bool (decide (a < c))) s) :
    wpAny (model prog w) A (richCompare .Lt (.int a t) (.int c u)) Q E s :=
  (PyProof.Rows.lt_int h : wpAny (model prog w) A (compareOp .Lt (.int a t) (.int c u)) Q E s)

section
open PySem.SeqAt
open PySem.AutoSeq1 (wpAny_loadPart')
open PySem.MeetsSeq PySem.MeetsSeq2 PySem.MeetsSeq3

theorem tuple_lt_ints (l b : Addr) (items items2 : Array Value) (n n2 : Nat) (dd dd2 : Option Addr) (sl sl2 : Array (Option Value)) (ns ms : List Int) (hi : IntsAre items.toList ns) (hj : IntsAre items2.toList ms) :
    Meets (Builtin.«tuple.__lt__» ⟨[.ref l, .ref b], []⟩)
      (fun _ R s => s.heap.get? l = some { cls := .type "tuple", dict := dd, data := .seq items n, slots := sl } ∧ s.heap.get? b = some { cls := .type "tuple", dict := dd2, data := .seq items2 n2, slots := sl2 } ∧
        R (.ok (.ret (.bool (lexLt ns ms)))) s) :=
  .of_wp fun prog w A R s h => by
    obtain ⟨hp, g, d, tk, os⟩ := s; obtain ⟨hl, hb, h⟩ := h
    have f2 := AutoSeq1.sub_tuple_tuple
    have z1 : items.size = ns.length := by rw [← hi.length]; simp
    have z2 : items2.size = ms.length := by rw [← hj.length]; simp
    wp_walk using wpAny_loadPart' hl, wpAny_loadPart' hb, wpAny_forIn_list _ (fun rest b s' => b.1 = none ∧ s' = ⟨hp, g, d, tk, os⟩ ∧ ∃ (vs ws : List Value) (ns' ms' : List Int), rest = vs.zip ws ∧
      IntsAre vs ns' ∧ IntsAre ws ms' ∧ ns'.length + items2.size = ms'.length + items.size ∧ R (.ok (.ret (.bool (lexLt ns' ms')))) ⟨hp, g, d, tk, os⟩) _
    case turn =>
      rintro ⟨y, x⟩ rest b s' ⟨hb', rfl, vs, ws, ns', ms', hz, hvi, hwi, hlen, hR⟩
      cases hvi with
      | nil => rw [List.zip_nil_left] at hz; cases hz
      | cons a t hvi' =>
        cases hwi with
        | nil => rw [List.zip_nil_right] at hz; cases hz
        | cons c u hwi' =>
          rw [List.zip_cons_cons] at hz
          injection hz with hyx hrest
          injection hyx with hy hx
          subst hy hx
          rw [lexLt_cons] at hR
          simp only [List.length_cons] at hlen
          obtain ⟨e, he, hiff⟩ := eqAt_int A.in1 ⟨hp, g, d, tk, os⟩ a t c u
          refine wpAny_bind (he prog w _ _ ?_)
          cases e with
          | true =>
            rw [if_pos (hiff.mp rfl)] at hR
            wp_walk
            exact ⟨rfl, rfl, _, _, _, _, hrest, hvi', hwi', by omega, hR⟩
          | false =>
            rw [if_neg (fun q => absurd (hiff.mpr q) Bool.false_ne_true)] at hR
            have hri := rcLt_int A.in1 ⟨hp, g, d, tk, os⟩ a t c u prog w
            wp_walk using hri
            exact ⟨_, rfl, by simpa using hR⟩
    case fin =>
      rintro ⟨b1, b2⟩ s' ⟨hb', rfl, vs, ws, ns', ms', hz, hvi, hwi, hlen, hR⟩
      simp only at hb'
      subst hb'
      have hv : lexLt ns' ms' = decide (items.size < items2.size) := by
        cases hvi with
        | nil =>
          cases hwi with
          | nil =>
            simp only [List.length_nil] at hlen
            rw [lexLt_nil_nil]
            exact (decide_eq_false (by omega)).symm
          | cons c u hw =>
            simp only [List.length_nil, List.length_cons] at hlen
            rw [lexLt_nil_cons]
            exact (decide_eq_true (by omega)).symm
        | cons a t hv =>
          cases hwi with
          | nil =>
            simp only [List.length_nil, List.length_cons] at hlen
            rw [lexLt_cons_nil]
            exact (decide_eq_false (by omega)).symm
          | cons c u hw =>
            rw [List.zip_cons_cons] at hz
            cases hz
      rw [hv] at hR
      wp_walk
      exact ⟨_, rfl, by simpa [Builtin.Tuple.tupleCompareSizes] using hR⟩
    case h =>
      exact ⟨rfl, rfl, items.toList, items2.toList, ns, ms, rfl, hi, hj, by omega, h⟩
end

section
variable {prog : Program} {w : World} {A : Around} {E : Value → Shared → Prop} {s : Shared}

theorem lt_tupInts {l b : Addr} {items items2 : Array Value} {ns ms : List Int} {Q : Value → Shared → Prop} (hl : IsTup s.heap l items) (hb : IsTup s.heap b items2) (hi : IntsAre items.toList ns) (hj : IntsAre items2.toList ms)
    (hu : A.units < cLine) (h : Q (.bool (lexLt ns ms)) s) : wpAny (model prog w) A (compareOp .Lt (.ref l) (.ref b)) Q E s := by
  obtain ⟨⟨cls, dd, data, sl⟩, ho, hc, n, hd⟩ := id hl
  obtain ⟨⟨cls2, dd2, data2, sl2⟩, ho2, hc2, n2, hd2⟩ := id hb
  simp only at hc hd hc2 hd2
  subst hc hd hc2 hd2
  exact richCompare_meets_room (op := .Lt) ⟨_, ho, rfl⟩ ⟨_, ho2, rfl⟩ PySem.F.slot_tuple_lt PySem.F.entry_tuple_lt (PySem.F.args_tuple_lt_2 _ _) (tuple_lt_ints l b items items2 n n2 dd dd2 sl sl2 ns ms hi hj)
    ⟨ho, ho2, show Value.bool (lexLt ns ms) ≠ Value.notImplemented ∧ Q (.bool (lexLt ns ms)) s from ⟨(fun x => nomatch x), h⟩⟩ hu

/-- t + u, t not empty -/
theorem cat_tup {t b : Addr} {vs ws : List Value} {Q : Value → Shared → Prop} (ht : IsTup s.heap t vs.toArray) (hb : IsTup s.heap b ws.toArray) (hv : vs ≠ [])
    (h1 : ws = [] → Q (.ref t) s) (h2 : ws ≠ [] → Q (.ref s.heap.objs.size) { s with heap := s.heap.push { cls := .type "tuple", data := .seq (vs ++ ws).toArray } })
    (hsz : vs.length + ws.length ≤ sizeLine) : wpAny (model prog w) A (binaryOp .Add (.ref t) (.ref b)) Q E s := by
  obtain ⟨⟨cls, dd, data, sl⟩, ho, hc, n, hd⟩ := id ht
  obtain ⟨⟨cls2, dd2, data2, sl2⟩, ho2, hc2, n2, hd2⟩ := id hb
  simp only at hc hd hc2 hd2
  subst hc hd hc2 hd2
  have e : vs.toArray ++ ws.toArray = (vs ++ ws).toArray := by simp
  by_cases hw : ws = []
  · exact concat_meets ⟨_, ho, rfl⟩ ⟨_, ho2, rfl⟩ noFill_tuple_add seq_tuple_add PySem.F.slot_tuple_add PySem.F.entry_tuple_add (PySem.F.args_tuple_add_2 _ _)
      (tuple_addW1 t b vs.toArray ws.toArray n n2 dd dd2 sl sl2 (by simpa using hv) (by simp [hw])) ⟨ho, ho2, h1 hw⟩
  · refine concat_meets ⟨_, ho, rfl⟩ ⟨_, ho2, rfl⟩ noFill_tuple_add seq_tuple_add PySem.F.slot_tuple_add PySem.F.entry_tuple_add (PySem.F.args_tuple_add_2 _ _)
      (tuple_addW2 t b vs.toArray ws.toArray n n2 dd dd2 sl sl2 (by simpa using hv) (by simpa using hw) (by rw [List.size_toArray, List.size_toArray]; exact hsz)) ⟨ho, ho2, ?_⟩
    rw [e]
    exact h2 hw

/-! ### t[a:b], not the whole -/
/-- a slice's bound as a place among n (d where it is left out) -/
def sIx (n d : Nat) : Option Int → Nat
  | none => d
  | some v => if v < 0 then (v + (n : Int)).toNat else min v.toNat n
theorem sIx_none (n d : Nat) : sIx n d none = d := rfl
theorem sIx_nat (n d k : Nat) : sIx n d (some (k : Int)) = min k n := by
  show (if (k : Int) < 0 then ((k : Int) + (n : Int)).toNat else min (k : Int).toNat n) = min k n
  rw [if_neg (by omega), Int.toNat_natCast]
theorem sIx_le (n d : Nat) (hd : d ≤ n) (o : Option Int) : sIx n d o ≤ n := by
  cases o with
  | none => exact hd
  | some v =>
    show (if v < 0 then (v + (n : Int)).toNat else min v.toNat n) ≤ n
    by_cases hv : v < 0
    · rw [if_pos hv]; omega
    · rw [if_neg hv]; exact Nat.min_le_right _ _
theorem clip_eq (v : Int) (n d : Nat) : (if v < 0 then max (v + (n : Int)) 0 else min v (n : Int)) = ((sIx n d (some v) : Nat) : Int) := by
  show (if v < 0 then max (v + (n : Int)) 0 else min v (n : Int)) = (((if v < 0 then (v + (n : Int)).toNat else min v.toNat n) : Nat) : Int)
  by_cases hv : v < 0
  · simp only [if_pos hv]; omega
  · simp only [if_neg hv]; omega
theorem adjust_gen (lo hi : Option Int) (n : Nat) : Builtin.Slice.sliceAdjust lo hi 1 (n : Int) = (((sIx n 0 lo : Nat) : Int), ((sIx n n hi : Nat) : Int)) := by
  have h1 : ¬ ((1 : Int) < 0) := by omega
  unfold Builtin.Slice.sliceAdjust
  simp only [h1, if_false]
  refine Prod.ext ?_ ?_
  · cases lo with
    | none => rfl
    | some v => exact clip_eq v n 0
  · cases hi with
    | none => rfl
    | some v => exact clip_eq v n n
theorem places_gen (i j : Nat) : Builtin.Slice.slicePlaces (i : Int) (j : Int) 1 = j - i := by
  unfold Builtin.Slice.slicePlaces
  have h1 : (1 : Int) > 0 := by omega
  simp only [h1, if_true, Int.ediv_one]
  split <;> omega
theorem slicePart_ {v : Value} {o : Option Int} {Q : Option Int → Shared → Prop} (p : IsPart v o) (h : Q o s) : wpAny (model prog w) A (Builtin.Slice.slicePartIndex v) Q E s := by
  cases p with
  | none => exact slicePart_none h
  | int i t => exact slicePart_int h
theorem sliceApplied_gen {sl : Addr} {vl vu : Value} {lo hi : Option Int} {n : Nat} {Q : Int × Int × Nat → Shared → Prop} (hs : s.heap.IsSliceOf sl vl vu .none) (pl : IsPart vl lo) (pu : IsPart vu hi)
    (h : Q (((sIx n 0 lo : Nat) : Int), 1, sIx n n hi - sIx n 0 lo) s) : wpAny (model prog w) A (Builtin.Slice.sliceApplied (.ref sl) (pure (n : Int))) Q E s := by
  obtain ⟨os, hos, hcs, hds⟩ := id hs
  unfold Builtin.Slice.sliceApplied Builtin.Slice.sliceFields
  refine wpAny_bind (wpAny_bind (wpAny_field hos hds (x := vl) rfl (wpAny_bind (wpAny_field hos hds (x := vu) rfl (wpAny_bind (wpAny_field hos hds (x := .none) rfl (wpAny_pure ?_)))))))
  refine wpAny_bind (slicePart_none ?_)
  show wpAny _ _ (if ((1 : Int) == 0) = true then _ else _) _ _ s
  rw [if_neg (by decide)]
  refine wpAny_bind (slicePart_ pl (wpAny_bind (slicePart_ pu (wpAny_bind (wpAny_pure ?_)))))
  show wpAny _ _ (match Builtin.Slice.sliceAdjust lo hi 1 (n : Int) with | (lo, hi) => pure (lo, (1 : Int), Builtin.Slice.slicePlaces lo hi 1)) _ _ s
  rw [adjust_gen lo hi n]
  show wpAny _ _ (pure (((sIx n 0 lo : Nat) : Int), (1 : Int), Builtin.Slice.slicePlaces ((sIx n 0 lo : Nat) : Int) ((sIx n n hi : Nat) : Int) 1)) _ _ s
  rw [places_gen]
  exact wpAny_pure h
theorem pick_gen (xs : Array Value) (i k : Nat) : ((List.range k).filterMap fun (m : Nat) => xs[((i : Int) + (m : Int) * 1).toNat]?).toArray = ((xs.toList.drop i).take k).toArray := by
  have e : (fun (m : Nat) => xs[((i : Int) + (m : Int) * 1).toNat]?) = fun m => xs[i + m]? := by
    funext m
    have : ((i : Int) + (m : Int) * 1).toNat = i + m := by omega
    rw [this]
  rw [e]
  have := pick_run xs i k
  rw [List.filterMap_map] at this
  have e2 : ((fun x => xs[x]?) ∘ fun x => i + x) = fun m => xs[i + m]? := rfl
  rw [e2] at this
  rw [this]

theorem getItem_tuple_cut {t sl : Addr} {items : Array Value} {vl vu : Value} {lo hi : Option Int} {Q : Value → Shared → Prop} (ht : IsTup s.heap t items) (hs : s.heap.IsSliceOf sl vl vu .none) (pl : IsPart vl lo) (pu : IsPart vu hi)
    (hw : ¬ (sIx items.size 0 lo = 0 ∧ sIx items.size items.size hi = items.size))
    (h : Q (.ref s.heap.objs.size) { s with heap := s.heap.push { cls := .type "tuple", data := .seq ((items.toList.drop (sIx items.size 0 lo)).take (sIx items.size items.size hi - sIx items.size 0 lo)).toArray } })
    (hsz : items.size ≤ sizeLine) : wpAny (model prog w) A (getItem (.ref t) (.ref sl)) Q E s := by
  have htake : sizeOk (.seq ((items.toList.drop (sIx items.size 0 lo)).take (sIx items.size items.size hi - sIx items.size 0 lo)).toArray) := by
    show ((items.toList.drop (sIx items.size 0 lo)).take (sIx items.size items.size hi - sIx items.size 0 lo)).toArray.size ≤ sizeLine
    rw [List.size_toArray, List.length_take, List.length_drop, Array.length_toList]
    omega
  have hj : sIx items.size items.size hi ≤ items.size := sIx_le _ _ (Nat.le_refl _) hi
  obtain ⟨os, hos, hcs, hds⟩ := id hs
  have hTs : s.TypeIs (.ref sl) "slice" := ⟨os, hos, hcs⟩
  unfold getItem
  try with_reducible refine wpAny_holding ?_
  first | refine wpAny_bind (wpAny_pure ?_) | skip
  refine wpAny_bind (wpAny_sequenceKey ht.typeIs (by decide) ?_)
  refine wpAny_bind (wpAny_callSpecial?_slot (name := Str.ofString "__getitem__") ht.typeIs PyProof.Rows.slot_tuple_getitem
    (wpAny_call_entry PyProof.Rows.slot_tuple_getitem ht.typeIs entry_tuple_getitem ?_ (args_tuple_getitem _ _)))
  show wpAny _ _ (Builtin.Tuple.tupleItemsOf (.ref t) >>= _) _ _ s
  refine wpAny_bind (tupleItemsOf_ ht ?_)
  refine wpAny_bind (wpAny_typeOf hTs ?_)
  rw [if_pos (by decide)]
  refine wpAny_bind (sliceApplied_gen hs pl pu ?_)
  have hno : ¬ ((((sIx items.size 0 lo : Nat) : Int) == 0 && (1 : Int) == 1 && (sIx items.size items.size hi - sIx items.size 0 lo) == items.size) = true) := by
    intro q
    rw [Bool.and_eq_true, Bool.and_eq_true] at q
    have q1 : ((sIx items.size 0 lo : Nat) : Int) = 0 := eq_of_beq q.1.1
    have q2 : sIx items.size items.size hi - sIx items.size 0 lo = items.size := eq_of_beq q.2
    exact hw ⟨by omega, by omega⟩
  show wpAny _ _ (if (((sIx items.size 0 lo : Nat) : Int) == 0 && (1 : Int) == 1 && (sIx items.size items.size hi - sIx items.size 0 lo) == items.size) = true then _ else _) _ _ s
  rw [if_neg hno, pick_gen]
  first
    | exact wpAny_bind (m := Builtin.Tuple.tupleExact _) (wpAny_newObj_type (wpAny_pure ⟨_, rfl, wpAny_pure h⟩) htake)
    | exact wpAny_bind (m := Builtin.Tuple.tupleExact _) (wpAny_newObj_type (wpAny_bind (wpAny_pure (wpAny_pure ⟨_, rfl, wpAny_pure h⟩))) htake)
    | exact wpAny_bind (wpAny_bind (m := Builtin.Tuple.tupleExact _) (wpAny_newObj_type (wpAny_pure (wpAny_pure ⟨_, rfl, wpAny_pure h⟩)) htake))
    | exact wpAny_bind (wpAny_bind (m := Builtin.Tuple.tupleExact _) (wpAny_newObj_type (wpAny_pure ⟨_, rfl, wpAny_pure h⟩) htake))
end
end HT

namespace L2
open PySem PySem.Spec PyProof.Rows

/-! ### the parts of a slice -/
abbrev TO := St → Hp → (Option Int → Hp → Prop) → Prop
/-- a slice's part (left out, or an int) -/
def PO (X : Cx) (e : Option Expr) (t : TO) : Prop :=
  ∀ (pins : List (Addr × Obj)) (s : Shared) (σ : St) (H : Hp) (Q : Option Int → Hp → Prop), Inv X pins σ H s → t σ H Q →
    wpAny (model X.prog X.w) X.A (evalPart e X.env) (fun u s' => ∃ o H', Inv X pins σ H' s' ∧ IsPart u o ∧ Q o H') X.xe s
def tNoPart : TO := fun _ H Q => Q none H
def tPart (t : TE) : TO := fun σ H Q => t σ H fun x H1 => ∃ i, x = .int i ∧ Q (some i) H1

theorem intsAre_of {ns : List Int} : ∀ {us : List Value}, Vals (ns.map V.int) us → IntsAre us ns := by
  induction ns with
  | nil => intro us r; rw [List.map_nil] at r; cases r; exact .nil
  | cons n ns ih =>
    intro us r
    rw [List.map_cons] at r
    cases r with
    | cons r1 r2 =>
      obtain ⟨t, e⟩ := r1
      subst e
      exact .cons n t (ih r2)

section
variable {X : Cx} {e : Expr} {te : TE} {lo hi : Option Expr} {tl th : TO} {pos p2 : Pos}

theorem po_none : PO X none tNoPart := by
  intro pins s σ H Q I h
  rw [evalPart_none]
  exact wpAny_pure ⟨none, H, I, .none, h⟩
theorem po_some (h : PE X e te) : PO X (some e) (tPart te) := by
  intro pins s σ H Q I hw
  rw [evalPart_some]
  refine thn (h pins s σ H _ I hw) fun u s1 ⟨x, H1, I1, r1, q1⟩ => ?_
  obtain ⟨i, rfl, q⟩ := q1
  obtain ⟨t, rfl⟩ := r1
  exact ⟨some i, H1, I1, .int i t, q⟩

/-- what a slice of a value is, by values: the slice object stands at sl -/
def SlR (X : Cx) (r : V → Option Int → Option Int → Hp → VK → Prop) : Prop :=
  ∀ (pins : List (Addr × Obj)) (s : Shared) (σ : St) (H : Hp) (x : V) (v vl vu : Value) (lo hi : Option Int) (sl : Addr) (Q : VK), Inv X pins σ H s → RelV x v → s.heap.IsSliceOf sl vl vu .none → IsPart vl lo → IsPart vu hi → r x lo hi H Q →
    ∃ T id, typeLookup (.type T) "__getitem__" = pure (some (.builtin id)) ∧ s.TypeIs v T ∧ wpAny (model X.prog X.w) X.A (getItem v (.ref sl)) (EP X pins σ Q) X.xe s
theorem SlR.or {r r' : V → Option Int → Option Int → Hp → VK → Prop} (h : SlR X r) (h' : SlR X r') : SlR X (fun x lo hi H Q => r x lo hi H Q ∨ r' x lo hi H Q) := by
  intro pins s σ H x v vl vu lo hi sl Q I rx hs pl pu q
  rcases q with q | q
  · exact h pins s σ H x v vl vu lo hi sl Q I rx hs pl pu q
  · exact h' pins s σ H x v vl vu lo hi sl Q I rx hs pl pu q
def tSl (r : V → Option Int → Option Int → Hp → VK → Prop) (te : TE) (tl th : TO) : TE := fun σ H Q => te σ H fun x H1 => tl σ H1 fun l H2 => th σ H2 fun u H3 => r x l u H3 Q
/-- a[lo:hi], any a -/
theorem pe_slice {r : V → Option Int → Option Int → Hp → VK → Prop} (hr : SlR X r) (he : PE X e te) (hl : PO X lo tl) (hu : PO X hi th) : PE X (.Subscript e (.Slice lo hi none p2) pos) (tSl r te tl th) := by
  intro pins s σ H Q I h
  refine Subscript_ (thn (he pins s σ H _ I h) fun v s1 ⟨x, H1, I1, r1, q1⟩ => ?_)
  refine wpAny_Slice (thn (hl pins s1 σ H1 _ I1 q1) fun vl s2 ⟨l, H2, I2, pl, q2⟩ => thn (hu pins s2 σ H2 _ I2 q2) fun vu s3 ⟨u, H3, I3, pu, q3⟩ => ?_)
  rw [evalPart_none]
  refine wpAny_pure ?_
  have I4 : Inv X pins σ H3 { s3 with heap := s3.heap.push { cls := .type "slice", data := .fields #[vl, vu, .none] } } := I3.kept (t' := s3.toks) fun b ob q => Heap.get?_push_of_some _ q
  obtain ⟨T, id, hT, ht, hg⟩ := hr pins { s3 with heap := s3.heap.push { cls := .type "slice", data := .fields #[vl, vu, .none] } } σ H3 x v vl vu l u s3.heap.objs.size Q I4 r1 (Heap.IsSliceOf.new ..) pl pu q3
  show wpAny (model X.prog X.w) X.A (subscriptTail e (.Slice lo hi none p2) v (.ref s3.heap.objs.size)) (EP X pins σ Q) X.xe { s3 with heap := s3.heap.push { cls := .type "slice", data := .fields #[vl, vu, .none] } }
  exact tail_any (ops := [.ref s3.heap.objs.size, v]) ht hT hg (by with_unfolding_all rfl)

/-- the items of xs[lo:hi] -/
def cutV (xs : List V) (lo hi : Option Int) : List V := (xs.drop (HT.sIx xs.length 0 lo)).take (HT.sIx xs.length xs.length hi - HT.sIx xs.length 0 lo)
theorem cutV_length (xs : List V) (lo hi : Option Int) : (cutV xs lo hi).length ≤ xs.length := by
  unfold cutV
  rw [List.length_take, List.length_drop]
  omega
/-- t[lo:hi], not the whole of it (the whole would be t itself) -/
def rSlT (K : PySem.W.Frag) : V → Option Int → Option Int → Hp → VK → Prop := fun x lo hi H Q => ∃ a xs, x = .ref a ∧ SqT K H a xs ∧
  ¬ (HT.sIx xs.length 0 lo = 0 ∧ HT.sIx xs.length xs.length hi = xs.length) ∧ ∀ p, H p = none → Q (.ref p) (upd H p (.tup (cutV xs lo hi)))
theorem sl_tup : SlR X (rSlT X.K) := by
  intro pins s σ H x v vl vu lo hi sl Q I rx hs pl pu h
  obtain ⟨a, xs, rfl, hx, hw, q⟩ := h
  cases rx
  obtain ⟨its, r, ht, hz⟩ := I.tuple hx
  have hlen : its.toArray.size = xs.length := by rw [List.size_toArray]; exact r.length.symm
  refine ⟨"tuple", _, PyProof.Rows.slot_tuple_getitem.lookup, ht.typeIs, ?_⟩
  refine HT.getItem_tuple_cut ht hs pl pu (by rw [hlen]; exact hw) ?_ (by rw [hlen]; exact hz)
  rw [hlen]
  refine ⟨.ref s.heap.objs.size, _, I.laid (t' := s.toks) (o := .tup (cutV xs lo hi)) (fun b ob q => Heap.get?_push_of_some _ q) (Nat.le_refl _) ?_, rfl, q _ (I.hok.fresh (Nat.le_refl _))⟩
  exact ⟨Nat.le_trans (cutV_length xs lo hi) hz, _, (r.drop (HT.sIx xs.length 0 lo)).take (HT.sIx xs.length xs.length hi - HT.sIx xs.length 0 lo), IsTup.new _ _⟩

/-! ### t < u, t + u -/
def rLtT (K : PySem.W.Frag) : R2 := fun x y H Q => ∃ a b ns ms, x = .ref a ∧ y = .ref b ∧ SqT K H a (ns.map V.int) ∧ SqT K H b (ms.map V.int) ∧ Q (.bl (HT.lexLt ns ms)) H
theorem op_ltT (hu : X.A.units < cLine) : OpR X (compareOp .Lt) (rLtT X.K) := by
  intro pins s σ H x y v u Q I rx ry h
  obtain ⟨a, b, ns, ms, rfl, rfl, ha, hb, q⟩ := h
  cases rx
  cases ry
  obtain ⟨its, r1, p1, _⟩ := I.tuple ha
  obtain ⟨its2, r2, p2, _⟩ := I.tuple hb
  have i1 : IntsAre its.toArray.toList ns := intsAre_of r1
  have i2 : IntsAre its2.toArray.toList ms := intsAre_of r2
  exact HT.lt_tupInts p1 p2 i1 i2 hu ⟨.bl (HT.lexLt ns ms), H, I, rfl, q⟩
/-- t + u, t not empty: u empty gives t itself -/
def rCatT (K : PySem.W.Frag) : R2 := fun x y H Q => ∃ a b xs ys, x = .ref a ∧ y = .ref b ∧ SqT K H a xs ∧ SqT K H b ys ∧ xs ≠ [] ∧ xs.length + ys.length ≤ sizeLine ∧
  (ys = [] → Q (.ref a) H) ∧ (ys ≠ [] → ∀ p, H p = none → Q (.ref p) (upd H p (.tup (xs ++ ys))))
theorem Vals.nil_iff {xs : List V} {us : List Value} (r : Vals xs us) : us = [] ↔ xs = [] := by
  cases r with
  | nil => simp
  | cons _ _ => simp
theorem op_catT : OpR X (binaryOp .Add) (rCatT X.K) := by
  intro pins s σ H x y v u Q I rx ry h
  obtain ⟨a, b, xs, ys, rfl, rfl, ha, hb, hx, hz, q1, q2⟩ := h
  cases rx
  cases ry
  obtain ⟨its, r1, p1, _⟩ := I.tuple ha
  obtain ⟨its2, r2, p2, _⟩ := I.tuple hb
  refine HT.cat_tup p1 p2 (fun z => hx (r1.nil_iff.mp z)) (fun z => ⟨.ref a, H, I, rfl, q1 (r2.nil_iff.mp z)⟩) (fun z => ?_) (by rw [← r1.length, ← r2.length]; exact hz)
  refine ⟨.ref s.heap.objs.size, _, I.laid (t' := s.toks) (o := .tup (xs ++ ys)) (fun b ob q => Heap.get?_push_of_some _ q) (Nat.le_refl _) ?_, rfl, q2 (fun w => z (r2.nil_iff.mpr w)) _ (I.hok.fresh (Nat.le_refl _))⟩
  exact ⟨by rw [List.length_append]; exact hz, _, r1.append r2, IsTup.new _ _⟩
/-- tuple(t) -/
theorem call_tupleT : CallR X (.type "tuple") (fun xs H Q => ∃ a ys, xs = [.ref a] ∧ SqT X.K H a ys ∧ Q (.ref a) H) := by
  intro pins s σ H xs us Q I r h
  obtain ⟨a, ys, rfl, ha, q⟩ := h
  obtain ⟨u, rfl, ru⟩ := vals1 r
  cases ru
  obtain ⟨its, _, p1, _⟩ := I.tuple ha
  exact call_tuple_same (items := its.toArray) p1 ⟨.ref a, H, I, rfl, q⟩
end
end L2

namespace L2
open PySem PySem.Spec PyProof.Rows

/-! ### places -/
/-- the place that an index of any sign means -/
def ixN (n : Nat) (i : Int) : Option Nat := if 0 ≤ i then (if i < n then some i.toNat else none) else if -(n : Int) ≤ i then some (i + n).toNat else none
def atI {α : Type} (xs : List α) (i : Int) : Option α := (ixN xs.length i).bind fun j => xs[j]?
theorem ixN_seq {n : Nat} {i : Int} {j : Nat} (h : ixN n i = some j) : seqIndex? i n = some j ∧ j < n ∧ -(n : Int) ≤ i ∧ i < n := by
  unfold ixN at h
  by_cases h0 : 0 ≤ i
  · rw [if_pos h0] at h
    by_cases h1 : i < n
    · rw [if_pos h1] at h
      have e : i.toNat = j := Option.some.inj h
      exact ⟨by rw [seqIndex_of h0 h1, e], by omega, by omega, h1⟩
    · rw [if_neg h1] at h; cases h
  · rw [if_neg h0] at h
    by_cases h1 : -(n : Int) ≤ i
    · rw [if_pos h1] at h
      have e : (i + n).toNat = j := Option.some.inj h
      exact ⟨by rw [seqIndex_neg (by omega) h1, e], by omega, h1, by omega⟩
    · rw [if_neg h1] at h; cases h
theorem atI_get {α : Type} {xs : List α} {i : Int} {v : α} (h : atI xs i = some v) : ∃ j, seqIndex? i xs.length = some j ∧ xs[j]? = some v ∧ j < xs.length ∧ -(xs.length : Int) ≤ i ∧ i < xs.length := by
  unfold atI at h
  cases e : ixN xs.length i with
  | none => rw [e] at h; cases h
  | some j =>
    rw [e] at h
    obtain ⟨h1, h2, h3, h4⟩ := ixN_seq e
    exact ⟨j, h1, h, h2, h3, h4⟩
theorem atI_nat {α : Type} {xs : List α} {j : Nat} {v : α} (h : xs[j]? = some v) : atI xs (j : Int) = some v := by
  have hj : j < xs.length := (List.getElem?_eq_some_iff.mp h).1
  have e : ixN xs.length (j : Int) = some j := by
    unfold ixN
    rw [if_pos (by omega), if_pos (by omega)]; simp
  unfold atI; rw [e]; exact h
theorem atI_last {α : Type} (xs : List α) (v : α) : atI (xs ++ [v]) (-1) = some v := by
  have hl : (xs ++ [v]).length = xs.length + 1 := by simp
  have e : ixN (xs ++ [v]).length (-1) = some xs.length := by
    unfold ixN
    rw [hl, if_neg (by decide), if_pos (by omega)]
    congr 1
    omega
  unfold atI
  rw [e]
  show (xs ++ [v])[xs.length]? = some v
  simp

/-! ### what may be subscripted -/
/-- what stands as an index of a plain subscript -/
def PlainIx (b : Expr) : Prop := ∀ o i, subscripted b false o i = operate [o, i] (getItem o i)
/-- a subscript by values -/
def IxR (X : Cx) (r : R2) : Prop :=
  ∀ (value slice : Expr) (pins : List (Addr × Obj)) (s : Shared) (σ : St) (H : Hp) (x y : V) (v u : Value) (Q : VK), Inv X pins σ H s → RelV x v → RelV y u → r x y H Q →
    subscripted slice false v u = operate [v, u] (getItem v u) → wpAny (model X.prog X.w) X.A (subscriptTail value slice v u) (EP X pins σ Q) X.xe s
/-- a call of a builtin's method by values: the receiver, the arguments -/
def MtR (X : Cx) (id : String) (r : V → List V → Hp → VK → Prop) : Prop :=
  ∀ (pins : List (Addr × Obj)) (s : Shared) (σ : St) (H : Hp) (x : V) (xs : List V) (v : Value) (us : List Value) (Q : VK), Inv X pins σ H s → RelV x v → Vals xs us → r x xs H Q →
    wpAny (model X.prog X.w) X.A (call (.builtin id) (v :: us)) (EP X pins σ Q) X.xe s
section
variable {X : Cx} {a b : Expr} {ta tb : TE} {pos : Pos}
theorem IxR.or {r r' : R2} (h : IxR X r) (h' : IxR X r') : IxR X (fun x y H Q => r x y H Q ∨ r' x y H Q) := by
  intro value slice pins s σ H x y v u Q I rx ry q hs
  rcases q with q | q
  · exact h value slice pins s σ H x y v u Q I rx ry q hs
  · exact h' value slice pins s σ H x y v u Q I rx ry q hs
theorem MtR.or {id : String} {r r' : V → List V → Hp → VK → Prop} (h : MtR X id r) (h' : MtR X id r') : MtR X id (fun x xs H Q => r x xs H Q ∨ r' x xs H Q) := by
  intro pins s σ H x xs v us Q I rx rs q
  rcases q with q | q
  · exact h pins s σ H x xs v us Q I rx rs q
  · exact h' pins s σ H x xs v us Q I rx rs q
/-- a[b] -/
theorem pe_ix {r : R2} (hr : IxR X r) (ha : PE X a ta) (hb : PE X b tb) (hs : PlainIx b) : PE X (.Subscript a b pos) (tOp r ta tb) := by
  intro pins s σ H Q I h
  exact Subscript_ (binT ha hb I h fun v u s2 x y H2 I2 rx ry q => hr a b pins s2 σ H2 x y v u Q I2 rx ry q (hs _ _))

def rIxL (K : PySem.W.Frag) : R2 := fun x y H Q => ∃ p xs i v, x = .ref p ∧ y = .int i ∧ SqL K H p xs ∧ atI xs i = some v ∧ Q v H
def rIxT (K : PySem.W.Frag) : R2 := fun x y H Q => ∃ p xs i v, x = .ref p ∧ y = .int i ∧ SqT K H p xs ∧ atI xs i = some v ∧ Q v H
def rIxS : R2 := fun x y H Q => ∃ z i c, x = .str z ∧ y = .int i ∧ z.length ≤ sizeLine ∧ atI z.cps.toList i = some c ∧ Q (.str ⟨#[c]⟩) H
theorem ix_list : IxR X (rIxL X.K) := by
  intro value slice pins s σ H x y v u Q I rx ry h hs
  obtain ⟨p, xs, i, z, rfl, rfl, hq, he, q⟩ := h
  cases rx
  obtain ⟨t, rfl⟩ := ry
  obtain ⟨its, r, pl, hz⟩ := I.list hq
  obtain ⟨j, h1, h2, h3, h4, h5⟩ := atI_get he
  obtain ⟨w, ew, rw'⟩ := r.get h2
  have hl := r.length
  have hn := line63
  have fin : EP X pins σ Q w s := ⟨z, H, I, rw', q⟩
  by_cases h0 : 0 ≤ i
  · have hj : i.toNat = j := by
      rw [seqIndex_of h0 h5] at h1
      exact Option.some.inj h1
    exact item_listR pl.isList h0 (by omega) (by rw [hj]; simpa using ew) fin hs
  · have hj : (i + (its.toArray.size : Int)).toNat = j := by
      rw [seqIndex_neg (by omega) h4] at h1
      rw [List.size_toArray, ← hl]
      exact Option.some.inj h1
    exact subscriptTail_builtinR (x := w) pl.isList.typeIs slot_list_getitem.lookup
      (wpAny_getItem_list_neg (Q := fun r s' => r = w ∧ EP X pins σ Q r s') pl.isList (by omega) (by rw [List.size_toArray] <;> omega) (by omega) (by rw [hj]; simpa using ew) ⟨rfl, fin⟩) hs
theorem ix_tup : IxR X (rIxT X.K) := by
  intro value slice pins s σ H x y v u Q I rx ry h hs
  obtain ⟨p, xs, i, z, rfl, rfl, hq, he, q⟩ := h
  cases rx
  obtain ⟨t, rfl⟩ := ry
  obtain ⟨its, r, pl, hz⟩ := I.tuple hq
  obtain ⟨j, h1, h2, h3, h4, h5⟩ := atI_get he
  obtain ⟨w, ew, rw'⟩ := r.get h2
  have hl := r.length
  have hn := line63
  have fin : EP X pins σ Q w s := ⟨z, H, I, rw', q⟩
  exact subscriptTail_builtinR (x := w) pl.typeIs slot_tuple_getitem.lookup
    (getItem_tuple (j := j) (Q := fun r s' => r = w ∧ EP X pins σ Q r s') pl (by omega) (by omega) (by rw [List.size_toArray, ← hl]; exact h1) (by simpa using ew) ⟨rfl, fin⟩) hs
theorem ix_str : IxR X rIxS := by
  intro value slice pins s σ H x y v u Q I rx ry h hs
  obtain ⟨z, i, c, rfl, rfl, hz, he, q⟩ := h
  obtain ⟨t, rfl⟩ := rx
  obtain ⟨t', rfl⟩ := ry
  obtain ⟨j, h1, h2, h3, h4, h5⟩ := atI_get he
  have hl : z.cps.toList.length = z.length := by simp [Str.length]
  rw [hl] at h1 h4 h5
  have hn := line63
  exact tail_any (typeIs_str s z t) slot_str_getitem.lookup (getItem_str (c := c) (by
    have e1 : decide (i < -(2 ^ 63 : Int)) = false := decide_eq_false (by omega)
    have e2 : decide (i ≥ 2 ^ 63) = false := decide_eq_false (by omega)
    rw [e1, e2, Bool.or_false]) (by rw [h1]; simpa using h2) ⟨.str ⟨#[c]⟩, H, I.tok _, ⟨_, rfl⟩, q⟩) hs
/-- list, tuple or str -/
def rIx (K : PySem.W.Frag) : R2 := fun x y H Q => rIxL K x y H Q ∨ rIxT K x y H Q ∨ rIxS x y H Q
theorem ix_seq : IxR X (rIx X.K) := ix_list.or (ix_tup.or ix_str)

/-! ### xs[i] = v, any sign -/
/-- the list's object behind a store -/
theorem mapSeq_set (its : List Value) (n j : Nat) (u : Value) : Obj.mapSeq (·.setIfInBounds j u) { cls := .type "list", data := .seq its.toArray n } = { cls := .type "list", data := .seq (its.set j u).toArray n } := by
  simp [Obj.mapSeq]
theorem Inv.lst {pins : List (Addr × Obj)} {σ : St} {H : Hp} {s : Shared} {p : Addr} {xs : List V} (I : Inv X pins σ H s) (h : H p = some (.lst xs)) :
    ∃ (its : List Value) (n : Nat), Vals xs its ∧ s.heap.get? p = some { cls := .type "list", data := .seq its.toArray n } ∧ xs.length ≤ sizeLine := by
  obtain ⟨z, its, n, r, e⟩ := I.hok p _ h
  exact ⟨its, n, r, e, z⟩
/-- the list at p is written by an update of its object -/
theorem Inv.lstUpd {pins : List (Addr × Obj)} {σ : St} {H : Hp} {s : Shared} {p : Addr} {xs ys : List V} {its its' : List Value} {n n' : Nat} {f : Obj → Obj} (I : Inv X pins σ H s) (h : H p = some (.lst xs))
    (ho : s.heap.get? p = some { cls := .type "list", data := .seq its.toArray n }) (hf : f { cls := .type "list", data := .seq its.toArray n } = { cls := .type "list", data := .seq its'.toArray n' }) (r : Vals ys its') (hz : ys.length ≤ sizeLine) (t : Nat) :
    Inv X pins σ (upd H p (.lst ys)) { s with heap := s.heap.update p f, toks := t } := by
  have e : (s.heap.update p f).get? p = some { cls := .type "list", data := .seq its'.toArray n' } := by
    rw [Heap.get?_update_self f ho (by rw [hf] <;> rfl), hf]
  refine I.write (x := p) (e := p) (by rw [h]; trivial) (.inl rfl) (fun b u hb q => (Heap.get?_update_other _ _ (Ne.symm hb)).trans q) ⟨_, e⟩ ?_
  exact ⟨hz, its', n', r, e⟩
def rSetL : V → V → V → Hp → (Hp → Prop) → Prop := fun o i v H Q => ∃ p xs k j, o = .ref p ∧ i = .int k ∧ H p = some (.lst xs) ∧ ixN xs.length k = some j ∧ Q (upd H p (.lst (xs.set j v)))
theorem set_list : PSet X rSetL := by
  intro pins s σ H o i v ov iv u Q I ro ri rv h
  obtain ⟨p, xs, k, j, rfl, rfl, hp, hj, q⟩ := h
  cases ro
  obtain ⟨t, rfl⟩ := ri
  obtain ⟨its, n, r, ho, hz⟩ := I.lst hp
  obtain ⟨h1, h2, h3, h4⟩ := ixN_seq hj
  have hl := r.length
  have hn := line63
  have I' : Inv X pins σ (upd H p (.lst (xs.set j v))) { s with heap := s.heap.update p (Obj.mapSeq (·.setIfInBounds j u)) } :=
    I.lstUpd hp ho (mapSeq_set its n j u) (r.set rv j) (by rw [List.length_set]; exact hz) s.toks
  by_cases h0 : 0 ≤ k
  · have hk : k.toNat = j := by
      rw [seqIndex_of h0 h4] at h1
      exact Option.some.inj h1
    exact PySem.W.ki_setAt ho h0 (by omega) (by rw [List.size_toArray, ← hl]; exact h4) (by rw [hk]; exact ⟨_, I', q⟩)
  · have hk : (k + (its.toArray.size : Int)).toNat = j := by
      rw [seqIndex_neg (by omega) h3] at h1
      rw [List.size_toArray, ← hl]
      exact Option.some.inj h1
    exact PySem.W.ki_setBack ho (by omega) (by rw [List.size_toArray, ← hl]; exact h3) (by omega) (by rw [hk]; exact ⟨_, I', q⟩)

/-! ### slices -/
theorem slice_bounds (lo hi : Option Int) (n : Nat) : (sliceBounds lo hi none n).1 = ((HT.sIx n 0 lo : Nat) : Int) ∧ (sliceBounds lo hi none n).2.1 = ((HT.sIx n n hi : Nat) : Int) ∧ (sliceBounds lo hi none n).2.2 = 1 := by
  refine ⟨?_, ?_, rfl⟩
  · cases lo with
    | none => simp [sliceBounds, HT.sIx]
    | some i =>
      simp only [sliceBounds, HT.sIx, Option.getD_none, show (1 : Int) > 0 by decide, if_true]
      by_cases h : i < 0
      · simp only [h, if_true] <;> omega
      · simp only [h, if_false] <;> omega
  · cases hi with
    | none => simp [sliceBounds, HT.sIx]
    | some i =>
      simp only [sliceBounds, HT.sIx, Option.getD_none, show (1 : Int) > 0 by decide, if_true]
      by_cases h : i < 0
      · simp only [h, if_true] <;> omega
      · simp only [h, if_false] <;> omega
theorem slicePick_cut (its : List Value) (lo hi : Option Int) : slicePick its.toArray lo hi none = ((its.drop (HT.sIx its.length 0 lo)).take (HT.sIx its.length its.length hi - HT.sIx its.length 0 lo)).toArray := by
  obtain ⟨h1, h2, h3⟩ := slice_bounds lo hi its.toArray.size
  unfold slicePick
  rw [h1, h2, h3]
  simp only [sliceRange_one, pick_run, List.size_toArray] <;> rfl
/-- xs[lo:hi] of a list: a new list -/
def rSlL (K : PySem.W.Frag) : V → Option Int → Option Int → Hp → VK → Prop := fun x lo hi H Q => ∃ a xs, x = .ref a ∧ SqL K H a xs ∧ ∀ p, H p = none → Q (.ref p) (upd H p (.lst (cutV xs lo hi)))
theorem sl_list : SlR X (rSlL X.K) := by
  intro pins s σ H x v vl vu lo hi sl Q I rx hs pl pu h
  obtain ⟨a, xs, rfl, hx, q⟩ := h
  cases rx
  obtain ⟨its, r, ht, hz⟩ := I.list hx
  have hlen := r.length
  refine ⟨"list", _, slot_list_getitem.lookup, ht.isList.typeIs, ?_⟩
  refine wpAny_getItem_list_slice ht.isList hs pl pu .none (by simp) ?_ (by rw [List.size_toArray] <;> omega)
  rw [slicePick_cut, ← hlen]
  refine ⟨.ref s.heap.objs.size, _, I.laid (t' := s.toks) (o := .lst (cutV xs lo hi)) (fun b ob q => Heap.get?_push_of_some _ q) (Nat.le_refl _) ?_, rfl, q _ (I.hok.fresh (Nat.le_refl _))⟩
  exact ⟨Nat.le_trans (cutV_length xs lo hi) hz, _, 0, (r.drop (HT.sIx xs.length 0 lo)).take (HT.sIx xs.length xs.length hi - HT.sIx xs.length 0 lo), Heap.get?_push_size _ rfl⟩

/-! ### in, not in: flat items -/
def flatV : V → Bool
  | .non => true
  | .bl _ => true
  | .int _ => true
  | .str _ => true
  | _ => false
/-- == of flat values -/
def eqV : V → V → Bool
  | .non, .non => true
  | .bl a, .bl b => a == b
  | .bl a, .int b => (if a then 1 else 0) == b
  | .int a, .bl b => a == (if b then 1 else 0)
  | .int a, .int b => a == b
  | .str a, .str b => a == b
  | _, _ => false
theorem eqAt_V {A : Around} {s : Shared} {y x : V} {u v : Value} (ry : RelV y u) (rx : RelV x v) (fy : flatV y = true) (fx : flatV x = true) : SeqAt.EqAt A s u v (eqV y x) := by
  cases y with
  | non =>
    cases ry
    cases x with
    | non => cases rx; exact SeqAt.EqAt.same _
    | bl b => cases rx; exact SeqAt.EqAt.none_bool b
    | int b => obtain ⟨t, rfl⟩ := rx; exact SeqAt.EqAt.none_int b t
    | str b => obtain ⟨t, rfl⟩ := rx; exact SeqAt.EqAt.none_str b t
    | _ => exact absurd (show false = true from fx) Bool.false_ne_true
  | bl a =>
    cases ry
    cases x with
    | non => cases rx; exact SeqAt.EqAt.bool_none a
    | bl b => cases rx; exact SeqAt.EqAt.bool_bool a b
    | int b => obtain ⟨t, rfl⟩ := rx; exact SeqAt.EqAt.bool_int a b t
    | str b => obtain ⟨t, rfl⟩ := rx; exact SeqAt.EqAt.bool_str a b t
    | _ => exact absurd (show false = true from fx) Bool.false_ne_true
  | int a =>
    obtain ⟨t', rfl⟩ := ry
    cases x with
    | non => cases rx; exact SeqAt.EqAt.int_none a t'
    | bl b => cases rx; exact SeqAt.EqAt.int_bool a t' b
    | int b => obtain ⟨t, rfl⟩ := rx; exact SeqAt.EqAt.int_int a t' b t
    | str b => obtain ⟨t, rfl⟩ := rx; exact SeqAt.EqAt.int_str a t' b t
    | _ => exact absurd (show false = true from fx) Bool.false_ne_true
  | str a =>
    obtain ⟨t', rfl⟩ := ry
    cases x with
    | non => cases rx; exact SeqAt.EqAt.str_none a t'
    | bl b => cases rx; exact SeqAt.EqAt.str_bool a t' b
    | int b => obtain ⟨t, rfl⟩ := rx; exact SeqAt.EqAt.str_int a t' b t
    | str b => obtain ⟨t, rfl⟩ := rx; exact SeqAt.EqAt.str_str a t' b t
    | _ => exact absurd (show false = true from fx) Bool.false_ne_true
  | _ => exact absurd (show false = true from fy) Bool.false_ne_true
/-- the items' answers, read off the values (a value's own answer does not lean on its token) -/
def eqU (x : V) (u : Value) : Bool := match u with
  | .none => eqV .non x
  | .bool b => eqV (.bl b) x
  | .int i _ => eqV (.int i) x
  | .str z _ => eqV (.str z) x
  | _ => false
theorem eqU_of {x y : V} {u : Value} (r : RelV y u) (f : flatV y = true) : eqU x u = eqV y x := by
  cases y with
  | non => cases r; rfl
  | bl b => cases r; rfl
  | int i => obtain ⟨t, rfl⟩ := r; rfl
  | str z => obtain ⟨t, rfl⟩ := r; rfl
  | _ => exact absurd (show false = true from f) Bool.false_ne_true
theorem any_eqU {x : V} : ∀ {xs : List V} {us : List Value}, Vals xs us → xs.all flatV = true → us.any (eqU x) = xs.any fun y => eqV y x
  | _, _, .nil, _ => rfl
  | y :: xs, u :: us, .cons r t, f => by
    rw [List.all_cons, Bool.and_eq_true] at f
    rw [List.any_cons, List.any_cons, eqU_of r f.1, any_eqU t f.2]
theorem mem_eqAt {A : Around} {s : Shared} {x : V} {v : Value} (rx : RelV x v) (fx : flatV x = true) : ∀ {xs : List V} {us : List Value}, Vals xs us → xs.all flatV = true → ∀ u ∈ us, SeqAt.EqAt A s u v (eqU x u)
  | _, _, .nil, _ => fun u hu => by cases hu
  | y :: xs, u :: us, .cons r t, f => fun u' hu => by
    rw [List.all_cons, Bool.and_eq_true] at f
    rcases List.mem_cons.mp hu with rfl | hu
    · rw [eqU_of r f.1]; exact eqAt_V r rx f.1 fx
    · exact mem_eqAt rx fx t f.2 u' hu
def inV (x : V) (xs : List V) : Bool := xs.any fun y => eqV y x
/-- x in a list or tuple of flat items -/
def rIn (K : PySem.W.Frag) (neg : Bool) : R2 := fun x y H Q => ∃ p xs, y = .ref p ∧ (SqL K H p xs ∨ SqT K H p xs) ∧ flatV x = true ∧ xs.all flatV = true ∧ Q (.bl (if neg then !inV x xs else inV x xs)) H
theorem op_in_seq : OpR X (compareOp .In) (rIn X.K false) := by
  intro pins s σ H x y v u Q I rx ry h
  obtain ⟨p, xs, rfl, hq, fx, fs, q⟩ := h
  cases ry
  rcases hq with hq | hq
  · obtain ⟨its, r, pl, hz⟩ := I.list hq
    refine SeqAt.in_listAt (eqU x) pl.isList (fun w hw => mem_eqAt rx fx r fs w (by simpa using hw)) ⟨.bl _, H, I, rfl, ?_⟩
    rw [show its.toArray.any (eqU x) = its.any (eqU x) by simp, any_eqU r fs]
    exact q
  · obtain ⟨its, r, pl, hz⟩ := I.tuple hq
    refine SeqAt.in_tupleAt (eqU x) pl (fun w hw => mem_eqAt rx fx r fs w (by simpa using hw)) ⟨.bl _, H, I, rfl, ?_⟩
    rw [show its.toArray.any (eqU x) = its.any (eqU x) by simp, any_eqU r fs]
    exact q
theorem op_notIn_seq : OpR X (compareOp .NotIn) (rIn X.K true) := by
  intro pins s σ H x y v u Q I rx ry h
  obtain ⟨p, xs, rfl, hq, fx, fs, q⟩ := h
  cases ry
  rcases hq with hq | hq
  · obtain ⟨its, r, pl, hz⟩ := I.list hq
    refine SeqAt.notIn_listAt (eqU x) pl.isList (fun w hw => mem_eqAt rx fx r fs w (by simpa using hw)) ⟨.bl _, H, I, rfl, ?_⟩
    rw [show its.toArray.any (eqU x) = its.any (eqU x) by simp, any_eqU r fs]
    exact q
  · obtain ⟨its, r, pl, hz⟩ := I.tuple hq
    refine SeqAt.notIn_tupleAt (eqU x) pl (fun w hw => mem_eqAt rx fx r fs w (by simpa using hw)) ⟨.bl _, H, I, rfl, ?_⟩
    rw [show its.toArray.any (eqU x) = its.any (eqU x) by simp, any_eqU r fs]
    exact q
theorem op_notIn_str : OpR X (compareOp .NotIn) (fun x y H Q => ∃ i j, x = .str i ∧ y = .str j ∧ Q (.bl (!(!(Builtin.Str.occurrences j i 0 j.length 1).isEmpty))) H) := by
  intro pins s σ H x y v u Q I rx ry h
  obtain ⟨i, j, rfl, rfl, q⟩ := h
  obtain ⟨t, rfl⟩ := rx
  obtain ⟨t', rfl⟩ := ry
  exact notIn_str ⟨.bl _, H, I, rfl, q⟩

/-! ### len, list(x), tuple(x) of any list or tuple that is read -/
theorem call_len_seq : CallR X (.builtin "len") (fun xs H Q => ∃ p ys, xs = [.ref p] ∧ (SqL X.K H p ys ∨ SqT X.K H p ys) ∧ Q (.int ys.length) H) := by
  intro pins s σ H xs us Q I r h
  obtain ⟨p, ys, rfl, hq, q⟩ := h
  obtain ⟨u, rfl, rx⟩ := vals1 r
  cases rx
  have hn := line63
  rcases hq with hq | hq
  · obtain ⟨its, r', pl, hz⟩ := I.list hq
    have hlen := r'.length
    exact Calls.call_len_list pl.isList (by simp only [List.size_toArray] <;> omega) ⟨.int ys.length, H, I.tok _, ⟨s.toks + 1, by rw [List.size_toArray, hlen]⟩, q⟩
  · obtain ⟨its, r', pl, hz⟩ := I.tuple hq
    have hlen := r'.length
    exact len_tuple pl (by simp only [List.size_toArray] <;> omega) ⟨.int ys.length, H, I.tok _, ⟨s.toks + 1, by rw [List.size_toArray, hlen]⟩, q⟩
theorem call_len_str : CallR X (.builtin "len") (fun xs H Q => ∃ z, xs = [.str z] ∧ z.length ≤ sizeLine ∧ Q (.int z.length) H) := by
  intro pins s σ H xs us Q I r h
  obtain ⟨z, rfl, hz, q⟩ := h
  obtain ⟨u, rfl, t, rfl⟩ := vals1 r
  have hn := line63
  exact len_str (by omega) ⟨.int z.length, H, I.tok _, ⟨_, rfl⟩, q⟩
theorem CallR.or {f : Value} {r r' : List V → Hp → VK → Prop} (h : CallR X f r) (h' : CallR X f r') : CallR X f (fun xs H Q => r xs H Q ∨ r' xs H Q) := by
  intro pins s σ H xs us Q I rs q
  rcases q with q | q
  · exact h pins s σ H xs us Q I rs q
  · exact h' pins s σ H xs us Q I rs q
theorem call_list_of : CallR X (.type "list") (fun xs H Q => ∃ p ys, xs = [.ref p] ∧ (SqL X.K H p ys ∨ SqT X.K H p ys) ∧ ∀ l, H l = none → Q (.ref l) (upd H l (.lst ys))) := by
  intro pins s σ H xs us Q I r h
  obtain ⟨p, ys, rfl, hq, q⟩ := h
  obtain ⟨u, rfl, rx⟩ := vals1 r
  cases rx
  have fin : ∀ (its : List Value), Vals ys its → ys.length ≤ sizeLine → ∀ (h' : Heap) (c' : Nat), (∀ b o', s.heap.get? b = some o' → h'.get? b = some o') →
      h'.get? s.heap.objs.size = some { cls := .type "list", dict := none, data := .seq its.toArray c', slots := #[] } → EP X pins σ Q (.ref s.heap.objs.size) { s with heap := h' } := fun its r' hz h' c' kp e =>
    ⟨.ref s.heap.objs.size, _, I.laid (t' := s.toks) kp (Nat.le_refl _) (show ObjOk X.prog X.w _ h' _ (.lst ys) from ⟨hz, its, c', r', e⟩), rfl, q _ (I.hok.fresh (Nat.le_refl _))⟩
  rcases hq with hq | hq
  · obtain ⟨its, r', pl, hz⟩ := I.list hq
    have hlen := r'.length
    obtain ⟨o, ho, hc, n, hd⟩ := pl.isList
    exact call_list_seq p (.inl rfl) ho hc hd (fun h' c' kp e => fin its r' hz h' c' kp e) (by simp only [List.size_toArray] <;> omega)
  · obtain ⟨its, r', pl, hz⟩ := I.tuple hq
    have hlen := r'.length
    obtain ⟨o, ho, hc, n, hd⟩ := pl
    exact call_list_seq p (.inr rfl) ho hc hd (fun h' c' kp e => fin its r' hz h' c' kp e) (by simp only [List.size_toArray] <;> omega)
theorem call_tuple_of : CallR X (.type "tuple") (fun xs H Q => ∃ p ys, xs = [.ref p] ∧ ((SqL X.K H p ys ∧ ∀ l, H l = none → Q (.ref l) (upd H l (.tup ys))) ∨ (SqT X.K H p ys ∧ Q (.ref p) H))) := by
  intro pins s σ H xs us Q I r h
  obtain ⟨p, ys, rfl, h⟩ := h
  obtain ⟨u, rfl, rx⟩ := vals1 r
  cases rx
  rcases h with ⟨hq, q⟩ | ⟨hq, q⟩
  · obtain ⟨its, r', pl, hz⟩ := I.list hq
    have hlen := r'.length
    refine call_tuple_list pl.isList (fun h' kp => ?_) (by simp only [List.size_toArray] <;> omega)
    have I1 : Inv X pins σ H { s with heap := h' } := I.kept (t' := s.toks) kp
    have I2 : Inv X pins σ (upd H h'.objs.size (.tup ys)) { s with heap := h'.push { cls := .type "tuple", data := .seq its.toArray } } :=
      I1.laid (t' := s.toks) (fun b o e => Heap.get?_push_of_some _ e) (Nat.le_refl _) (show ObjOk X.prog X.w _ _ _ (.tup ys) from ⟨hz, its, r', IsTup.new _ _⟩)
    exact ⟨.ref h'.objs.size, _, I2, rfl, q _ (I1.hok.fresh (Nat.le_refl _))⟩
  · obtain ⟨its, r', pl, hz⟩ := I.tuple hq
    exact call_tuple_same pl ⟨.ref p, H, I, rfl, q⟩

/-! ### the call of a builtin's method: o.m(..) -/
/-- the value is of that builtin type -/
def tyV (K : PySem.W.Frag) (T : String) (x : V) (H : Hp) : Prop := match x with
  | .str _ => T = "str"
  | .int _ => T = "int"
  | .ref p => (T = "list" ∧ ∃ xs, SqL K H p xs) ∨ (T = "tuple" ∧ ∃ o, K.lookup p = some o ∧ o.cls = .type "tuple" ∧ o.dict = none) ∨
      (T = "dict" ∧ ((∃ kvs, H p = some (.dK kvs)) ∨ ∃ kvs, H p = some (.dT kvs))) ∨ (T = "set" ∧ ∃ S n, H p = some (.set S n))
  | _ => False
theorem tyV_is {pins : List (Addr × Obj)} {σ : St} {H : Hp} {s : Shared} {T : String} {x : V} {v : Value} (I : Inv X pins σ H s) (r : RelV x v) (ty : tyV X.K T x H) :
    s.TypeIs v T ∧ ∀ a, v = .ref a → ∃ ob, s.heap.get? a = some ob ∧ ob.dict = none := by
  cases x with
  | str z =>
    obtain ⟨t, rfl⟩ := r
    cases (show T = "str" from ty)
    exact ⟨typeIs_str s z t, fun _ e => nomatch e⟩
  | int i =>
    obtain ⟨t, rfl⟩ := r
    cases (show T = "int" from ty)
    exact ⟨typeIs_int s i t, fun _ e => nomatch e⟩
  | ref p =>
    cases r
    rcases ty with ⟨rfl, xs, hq⟩ | ⟨rfl, o, hk, hc, hd⟩ | ⟨rfl, hk⟩ | ⟨rfl, S, n, hk⟩
    · obtain ⟨its, _, pl, _⟩ := I.list hq
      refine ⟨pl.isList.typeIs, fun a e => ?_⟩
      cases e
      obtain ⟨o, n, e, c, hd, _⟩ := pl
      exact ⟨o, e, hd⟩
    · refine ⟨⟨o, I.kIn p o hk, hc⟩, fun a e => ?_⟩
      cases e
      exact ⟨o, I.kIn _ o hk, hd⟩
    · have z : ∃ o, s.heap.get? p = some o ∧ o.ExactDict := by
        rcases hk with ⟨kvs, hk⟩ | ⟨kvs, hk⟩
        · obtain ⟨_, _, _, _, o, _, _, e, ex, _⟩ := I.hok p _ hk
          exact ⟨o, e, ex⟩
        · obtain ⟨_, _, _, _, o, _, _, e, ex, _⟩ := I.hok p _ hk
          exact ⟨o, e, ex⟩
      obtain ⟨o, e, ex⟩ := z
      refine ⟨⟨o, e, ex.1⟩, fun a e2 => ?_⟩
      cases e2
      exact ⟨o, e, ex.2.1⟩
    · obtain ⟨o, _, _, _, e, ex, _⟩ := I.hok p _ hk
      refine ⟨⟨o, e, ex.1⟩, fun a e2 => ?_⟩
      cases e2
      exact ⟨o, e, ex.2.1⟩
  | _ => exact False.elim ty
def tBM0 (K : PySem.W.Frag) (T : String) (r : V → List V → Hp → VK → Prop) (to : TE) : TE := fun σ H Q => to σ H fun x H1 => tyV K T x H1 ∧ r x [] H1 Q
def tBM (K : PySem.W.Frag) (T : String) (r : V → List V → Hp → VK → Prop) (to : TE) (t : TA) : TE := fun σ H Q => to σ H fun x H1 => tyV K T x H1 ∧ t σ H1 fun xs H2 => r x xs H2 Q
variable {o e : Expr} {es : List Expr} {to : TE} {t : TA} {name : Str} {apos cpos : Pos} {T id : String} {r : V → List V → Hp → VK → Prop}
theorem pe_bm0 (pa : PlainAttrs T) (slot : Slot T name id) (hty : typeOf (.builtin id) = pure (.type "method_descriptor")) (hm : MtR X id r) (ho : PE X o to)
    (hbase : attributeBase o name X.env (eval o X.env) = eval o X.env := by rfl) (hline : (apos.endLine == cpos.line) = true := by rfl) : PE X (.Call (.Attribute o name apos) [] [] cpos) (tBM0 X.K T r to) := by
  intro pins s σ H Q I h
  refine wpAny_Call_method0_late hbase hline (thn (ho pins s σ H _ I h) fun v s1 ⟨x, H1, I1, r1, ty, q1⟩ => ?_)
  obtain ⟨h1, h2⟩ := tyV_is I1 r1 ty
  exact ⟨T, id, pa, slot, hty, h1, h2, Calls.callWith_builtin rfl (PySem.evalArgs_none (hm pins s1 σ H1 x [] v [] Q I1 r1 .nil q1))⟩
theorem pe_bm (pa : PlainAttrs T) (slot : Slot T name id) (hty : typeOf (.builtin id) = pure (.type "method_descriptor")) (hm : MtR X id r) (ho : PE X o to) (ha : PA X (e :: es) t)
    (hbase : attributeBase o name X.env (eval o X.env) = eval o X.env := by rfl)
    (hfew : ((backTo cpos (starEach (e :: es) X.env)).all (fun x => !x.1) && (backToKw cpos (keywordEach [] X.env)).all (fun x => x.1.isSome)
      && decide ((e :: es).length + ([] : List Keyword).length + (if ([] : List Keyword).isEmpty then 0 else 1) < 30)) = true := by rfl)
    (hline : (apos.endLine == cpos.line) = true := by rfl) (hs : starEach (e :: es) X.env = (false, eval e X.env) :: starEach es X.env := by rfl) (hplain : (backTo cpos (starEach es X.env)).any (·.1) = false := by rfl) :
    PE X (.Call (.Attribute o name apos) (e :: es) [] cpos) (tBM X.K T r to t) := by
  intro pins s σ H Q I h
  refine wpAny_Call_method_late hbase hfew hline rfl (thn (ho pins s σ H _ I h) fun v s1 ⟨x, H1, I1, r1, ty, q1⟩ => ?_)
  obtain ⟨h1, h2⟩ := tyV_is I1 r1 ty
  refine ⟨T, id, pa, slot, hty, h1, h2, ?_⟩
  have hA := ha cpos pins s1 σ H1 _ I1 q1
  rw [hs] at hA ⊢
  refine Calls.callWith_builtin (by show (false || (backTo cpos (starEach es X.env)).any (·.1)) = false; rw [hplain] <;> rfl) (Calls.evalArgs_plain ?_)
  exact thn hA fun us s2 ⟨vs, H2, I2, r2, q2⟩ => hm pins s2 σ H2 x vs v us Q I2 r1 r2 q2
/- xs.append(e), list.index on a module's tuple .. are MtR facts of 06m -/
end
end L2

namespace L2
open PySem PySem.Spec PyProof.Rows

def MtM (X : Cx) (id : String) (r : V → List V → Hp → VK → Prop) : Prop :=
  ∀ (pins : List (Addr × Obj)) (s : Shared) (σ : St) (H : Hp) (x : V) (xs : List V) (v : Value) (us : List Value) (Q : VK), Inv X pins σ H s → RelV x v → Vals xs us → r x xs H Q →
    wpAny (model X.prog X.w) X.A (call (.builtin id) (v :: us)) (EP X pins σ Q) X.xe s

/-! ### lists of values -/
theorem Vals.one : ∀ {x : V} {us : List Value}, Vals [x] us → ∃ u, us = [u] ∧ RelV x u
  | _, _, .cons r .nil => ⟨_, rfl, r⟩
theorem Vals.two : ∀ {x y : V} {us : List Value}, Vals [x, y] us → ∃ u v, us = [u, v] ∧ RelV x u ∧ RelV y v
  | _, _, _, .cons r (.cons q .nil) => ⟨_, _, rfl, r, q⟩
theorem Vals.zero : ∀ {us : List Value}, Vals [] us → us = []
  | _, .nil => rfl
theorem Vals.dropLast {xs : List V} {us : List Value} (h : Vals xs us) : Vals xs.dropLast us.dropLast := by
  induction h with
  | nil => exact .nil
  | cons r t ih =>
    cases t with
    | nil => exact .nil
    | cons q t' => exact .cons r ih
theorem Vals.eraseIdx : ∀ {xs : List V} {us : List Value} (i : Nat), Vals xs us → Vals (xs.eraseIdx i) (us.eraseIdx i)
  | _, _, _, .nil => .nil
  | _, _, 0, .cons _ t => t
  | _, _, i + 1, .cons r t => .cons r (Vals.eraseIdx i t)
theorem Vals.reverse {xs : List V} {us : List Value} (h : Vals xs us) : Vals xs.reverse us.reverse := by
  induction h with
  | nil => exact .nil
  | cons r t ih => rw [List.reverse_cons, List.reverse_cons]; exact Vals.append ih (.cons r .nil)
theorem Vals.rep {xs : List V} {us : List Value} (h : Vals xs us) : ∀ k : Nat, Vals (List.replicate k xs).flatten (List.replicate k us).flatten
  | 0 => .nil
  | k + 1 => by
    rw [List.replicate_succ, List.replicate_succ, List.flatten_cons, List.flatten_cons]
    exact Vals.append h (Vals.rep h k)
theorem erase_last {α : Type} (l : List α) : l.eraseIdx (l.length - 1) = l.dropLast := by
  induction l with
  | nil => rfl
  | cons a r ih =>
    cases r with
    | nil => rfl
    | cons b r =>
      have e : (a :: b :: r).length - 1 = ((b :: r).length - 1) + 1 := by
        have h1 : (a :: b :: r).length = r.length + 2 := rfl
        have h2 : (b :: r).length = r.length + 1 := rfl
        omega
      rw [e, List.eraseIdx_cons_succ, ih]
      all_goals rfl
theorem len_erase {α : Type} : ∀ (l : List α) (i : Nat), (l.eraseIdx i).length ≤ l.length
  | [], _ => Nat.le_refl _
  | _ :: _, 0 => Nat.le_succ _
  | _ :: r, i + 1 => Nat.succ_le_succ (len_erase r i)
theorem foldl_rep (its : List Value) : ∀ (k : Nat) (acc : List Value),
    List.foldl (fun x1 x2 => x1 ++ x2) acc.toArray (List.replicate k its.toArray) = (acc ++ (List.replicate k its).flatten).toArray
  | 0, acc => by simp
  | k + 1, acc => by
    have e : acc.toArray ++ its.toArray = (acc ++ its).toArray := by simp
    have e2 : (acc ++ its) ++ (List.replicate k its).flatten = acc ++ (List.replicate (k + 1) its).flatten := by
      rw [List.replicate_succ, List.flatten_cons, List.append_assoc]
    rw [← e2, ← foldl_rep its k (acc ++ its), ← e, List.replicate_succ, List.foldl_cons]

section
variable {X : Cx} {pins : List (Addr × Obj)} {σ : St} {H : Hp} {s : Shared} {l b : Addr} {xs ys zs : List V}

/-! ### the two steps: a tracked list is rewritten, a new list is laid -/
theorem Inv.lset {its its' : List Value} {n : Nat} {f : Array Value → Array Value} {t' : Nat} (I : Inv X pins σ H s) (hH : H l = some (.lst xs))
    (e : s.heap.get? l = some { cls := .type "list", data := .seq its.toArray n }) (hf : f its.toArray = its'.toArray) (hv : Vals ys its') (hz : ys.length ≤ sizeLine) :
    Inv X pins σ (upd H l (.lst ys)) { s with heap := s.heap.update l (Obj.mapSeq f), toks := t' } := by
  have q := PySem.IsL.update e f
  rw [hf] at q
  refine I.write (x := l) (e := l) (by rw [hH]; exact trivial) (.inl rfl) (fun b' u hb hu => (Heap.get?_update_other s.heap (Obj.mapSeq f) (Ne.symm hb)).trans hu) ⟨_, q⟩ ?_
  exact ⟨hz, its', _, hv, q⟩
theorem Inv.lnew {its : List Value} {t' : Nat} (I : Inv X pins σ H s) (hv : Vals ys its) (hz : ys.length ≤ sizeLine) :
    Inv X pins σ (upd H s.heap.objs.size (.lst ys)) { s with heap := s.heap.push { cls := .type "list", data := .seq its.toArray }, toks := t' } :=
  I.laid (fun _ _ q => Heap.get?_push_of_some _ q) (Nat.le_refl _) ⟨hz, its, 0, hv, Heap.get?_push_size _ rfl⟩
theorem Inv.fresh (I : Inv X pins σ H s) : H s.heap.objs.size = none := I.hok.fresh (Nat.le_refl _)
theorem Inv.lstM (I : Inv X pins σ H s) (hH : H l = some (.lst xs)) : xs.length ≤ sizeLine ∧ ∃ (its : List Value) (n : Nat), Vals xs its ∧ xs.length = its.length ∧ s.heap.get? l = some { cls := .type "list", data := .seq its.toArray n } := by
  obtain ⟨z, its, n, r, e⟩ := I.hok l _ hH
  exact ⟨z, its, n, r, r.length, e⟩

theorem notLongL {n : Nat} (h : n ≤ sizeLine) : Builtin.List.listTooLong n = false := by
  unfold Builtin.List.listTooLong
  exact decide_eq_false (by omega)
end

section
variable {X : Cx}

/-! ### methods -/
def rAppend : V → List V → Hp → VK → Prop := fun x vs H Q => ∃ l xs y, x = .ref l ∧ vs = [y] ∧ H l = some (.lst xs) ∧ xs.length < sizeLine ∧ Q .non (upd H l (.lst (xs ++ [y])))
theorem mt_append : MtM X "list.append" rAppend := by
  intro pins s σ H x vs v us Q I rx rv h
  obtain ⟨l, xs, y, rfl, rfl, hH, hz, q⟩ := h
  cases rx
  obtain ⟨u, rfl, ru⟩ := rv.one
  obtain ⟨z, its, n, r, hl, e⟩ := I.lstM hH
  refine call_meets F.slot_list_append ⟨_, e, rfl⟩ F.entry_list_append (F.args_list_append_2 _ _) (PySem.list_append l its.toArray n u (by rw [List.size_toArray]; omega)) ⟨e, ?_⟩
  refine ⟨.non, _, I.lset (its' := its ++ [u]) hH e (by simp) (r.append (.cons ru .nil)) ?_, rfl, q⟩
  rw [List.length_append, List.length_singleton]
  omega

def rExtend : V → List V → Hp → VK → Prop := fun x vs H Q => ∃ l b xs zs, x = .ref l ∧ vs = [.ref b] ∧ H l = some (.lst xs) ∧ H b = some (.lst zs) ∧ xs.length + zs.length ≤ sizeLine ∧ Q .non (upd H l (.lst (xs ++ zs)))
theorem mt_extend : MtM X "list.extend" rExtend := by
  intro pins s σ H x vs v us Q I rx rv h
  obtain ⟨l, b, xs, zs, rfl, rfl, hH, hB, hz, q⟩ := h
  cases rx
  obtain ⟨u, rfl, ru⟩ := rv.one
  cases ru
  obtain ⟨z, its, n, r, hl, e⟩ := I.lstM hH
  obtain ⟨z2, its2, n2, r2, hl2, e2⟩ := I.lstM hB
  have hsz : its.toArray.size + its2.toArray.size ≤ sizeLine := by rw [List.size_toArray, List.size_toArray]; omega
  have hlong : ¬ (!its.toArray.isEmpty && Builtin.List.listTooLong (its.toArray.size + its2.toArray.size)) = true := by
    rw [notLongL hsz, Bool.and_false]
    exact Bool.false_ne_true
  refine call_meets F.slot_list_extend ⟨_, e, rfl⟩ F.entry_list_extend (F.args_list_extend_2 _ _)
    (AutoSeq1.list_extend_list_list_0 l its.toArray n b its2.toArray n2 hlong (by rw [List.size_toArray]; omega) (by omega)) ⟨e, e2, ?_⟩
  refine ⟨.non, _, I.lset (its' := its ++ its2) hH e (by simp) (r.append r2) ?_, rfl, q⟩
  rw [List.length_append]
  omega

def rPop : V → List V → Hp → VK → Prop := fun x vs H Q => ∃ l xs y, x = .ref l ∧ vs = [] ∧ H l = some (.lst xs) ∧ xs[xs.length - 1]? = some y ∧ Q y (upd H l (.lst xs.dropLast))
theorem mt_pop : MtM X "list.pop" rPop := by
  intro pins s σ H x vs v us Q I rx rv h
  obtain ⟨l, xs, y, rfl, rfl, hH, hy, q⟩ := h
  cases rx
  have hus := rv.zero
  subst hus
  obtain ⟨z, its, n, r, hl, e⟩ := I.lstM hH
  obtain ⟨u, hu, ru⟩ := r.get hy
  have hy' : its.toArray[its.toArray.size - 1]? = some u := by
    show its.toArray[its.length - 1]? = some u
    rw [← Array.getElem?_toList, ← hl]
    exact hu
  refine call_meets F.slot_list_pop ⟨_, e, rfl⟩ F.entry_list_pop (F.args_list_pop_1 _) (MeetsSeq.list_pop_last l its.toArray n u hy' (by rw [List.size_toArray]; omega)) ⟨e, ?_⟩
  refine ⟨y, _, I.lset (its' := its.dropLast) hH e ?_ r.dropLast ?_, ru, q⟩
  · show its.toArray.eraseIdxIfInBounds (its.toArray.size - 1) = its.dropLast.toArray
    rw [List.size_toArray, List.eraseIdxIfInBounds_toArray, erase_last]
  · rw [List.length_dropLast]
    omega

def rPopAt : V → List V → Hp → VK → Prop := fun x vs H Q => ∃ l xs i k y, x = .ref l ∧ vs = [.int i] ∧ H l = some (.lst xs) ∧ -(2 ^ 63) ≤ i ∧ i < 2 ^ 63 ∧ seqIndex? i xs.length = some k ∧ xs[k]? = some y ∧ Q y (upd H l (.lst (xs.eraseIdx k)))
theorem mt_popAt : MtM X "list.pop" rPopAt := by
  intro pins s σ H x vs v us Q I rx rv h
  obtain ⟨l, xs, i, k, y, rfl, rfl, hH, h1, h2, hk, hy, q⟩ := h
  cases rx
  obtain ⟨u, rfl, ru⟩ := rv.one
  obtain ⟨t, rfl⟩ := ru
  obtain ⟨z, its, n, r, hl, e⟩ := I.lstM hH
  obtain ⟨w, hw, rw'⟩ := r.get hy
  refine call_meets F.slot_list_pop ⟨_, e, rfl⟩ F.entry_list_pop (F.args_list_pop_2 _ _)
    (MeetsSeq.list_pop_at l its.toArray n i t k w (fitsIndex_both h1 h2) (by rw [List.size_toArray, ← hl]; exact hk) (by rw [← Array.getElem?_toList]; exact hw) (by rw [List.size_toArray]; omega)) ⟨e, ?_⟩
  refine ⟨y, _, I.lset (its' := its.eraseIdx k) hH e ?_ (r.eraseIdx k) ?_, rw', q⟩
  · show its.toArray.eraseIdxIfInBounds k = (its.eraseIdx k).toArray
    rw [List.eraseIdxIfInBounds_toArray]
  · have := len_erase xs k
    omega

def rReverse : V → List V → Hp → VK → Prop := fun x vs H Q => ∃ l xs, x = .ref l ∧ vs = [] ∧ H l = some (.lst xs) ∧ Q .non (upd H l (.lst xs.reverse))
theorem mt_reverse : MtM X "list.reverse" rReverse := by
  intro pins s σ H x vs v us Q I rx rv h
  obtain ⟨l, xs, rfl, rfl, hH, q⟩ := h
  cases rx
  have hus := rv.zero
  subst hus
  obtain ⟨z, its, n, r, hl, e⟩ := I.lstM hH
  refine call_meets F.slot_list_reverse ⟨_, e, rfl⟩ F.entry_list_reverse (F.args_list_reverse_1 _) (AutoSeq1.list_reverse_list_0 l its.toArray n (by rw [List.size_toArray]; omega)) ⟨e, ?_⟩
  refine ⟨.non, _, I.lset (its' := its.reverse) hH e (by simp) r.reverse ?_, rfl, q⟩
  rw [List.length_reverse]
  omega

def rClear : V → List V → Hp → VK → Prop := fun x vs H Q => ∃ l xs, x = .ref l ∧ vs = [] ∧ H l = some (.lst xs) ∧ Q .non (upd H l (.lst []))
theorem mt_clear : MtM X "list.clear" rClear := by
  intro pins s σ H x vs v us Q I rx rv h
  obtain ⟨l, xs, rfl, rfl, hH, q⟩ := h
  cases rx
  have hus := rv.zero
  subst hus
  obtain ⟨z, its, n, r, hl, e⟩ := I.lstM hH
  refine call_meets F.slot_list_clear ⟨_, e, rfl⟩ F.entry_list_clear (F.args_list_clear_1 _) (AutoSeq1.list_clear_list_0 l its.toArray n (by rw [List.size_toArray]; omega)) ⟨e, ?_⟩
  exact ⟨.non, _, I.lset (its' := []) (ys := []) hH e rfl .nil (Nat.zero_le _), rfl, q⟩

/-! ### list + list, list += list, list * int -/
def rCat : R2 := fun x y H Q => ∃ l b xs zs, x = .ref l ∧ y = .ref b ∧ H l = some (.lst xs) ∧ H b = some (.lst zs) ∧ xs.length + zs.length ≤ sizeLine ∧ ∀ p, H p = none → Q (.ref p) (upd H p (.lst (xs ++ zs)))
theorem op_cat : OpR X (binaryOp .Add) rCat := by
  intro pins s σ H x y v u Q I rx ry h
  obtain ⟨l, b, xs, zs, rfl, rfl, hH, hB, hz, q⟩ := h
  cases rx
  cases ry
  obtain ⟨z, its, n, r, hl, e⟩ := I.lstM hH
  obtain ⟨z2, its2, n2, r2, hl2, e2⟩ := I.lstM hB
  refine PySem.P.add_list e e2 ?_ (by rw [List.size_toArray, List.size_toArray]; omega)
  have ea : its.toArray ++ its2.toArray = (its ++ its2).toArray := by simp
  rw [ea]
  exact ⟨.ref _, _, I.lnew (t' := s.toks) (r.append r2) (by rw [List.length_append]; omega), rfl, q _ I.fresh⟩
/-- a list times an int (a negative one is nothing) -/
def rRep : R2 := fun x y H Q => ∃ l k xs, x = .ref l ∧ y = .int k ∧ H l = some (.lst xs) ∧ -(2 ^ 63) ≤ k ∧ k < 2 ^ 63 ∧ xs.length * k.toNat ≤ sizeLine ∧
  ∀ p, H p = none → Q (.ref p) (upd H p (.lst (List.replicate k.toNat xs).flatten))
theorem len_rep {α : Type} (xs : List α) (k : Nat) : (List.replicate k xs).flatten.length = k * xs.length := by
  induction k with
  | zero => simp
  | succ k ih => rw [List.replicate_succ, List.flatten_cons, List.length_append, ih, Nat.succ_mul, Nat.add_comm]
theorem op_rep : OpR X (binaryOp .Mult) rRep := by
  intro pins s σ H x y v u Q I rx ry h
  obtain ⟨l, k, xs, rfl, rfl, hH, h1, h2, hz, q⟩ := h
  cases rx
  obtain ⟨t, rfl⟩ := ry
  obtain ⟨z, its, n, r, hl, e⟩ := I.lstM hH
  have hlen : its.toArray.size * k.toNat ≤ sizeLine := by rw [List.size_toArray, ← hl]; exact hz
  have hcap : ¬ its.toArray.size * k.toNat > (2 ^ 63 - 1) / 8 := by
    have : (sizeLine : Nat) ≤ (2 ^ 63 - 1) / 8 := by decide
    omega
  have hfit : ¬ (!Builtin.List.listFitsIndex k) = true := by
    rw [fitsIndex_both h1 h2]
    exact Bool.false_ne_true
  have hlong : ¬ Builtin.List.listTooLong (its.toArray.size * k.toNat) = true := by
    rw [notLongL hlen]
    exact Bool.false_ne_true
  have hnew : List.foldl (fun x1 x2 => x1 ++ x2) #[] (List.replicate (if its.toArray.isEmpty = true then 0 else k.toNat) its.toArray) = (List.replicate k.toNat its).flatten.toArray := by
    have f0 : ∀ m : Nat, List.foldl (fun x1 x2 => x1 ++ x2) #[] (List.replicate m its.toArray) = (List.replicate m its).flatten.toArray := fun m => by
      have := foldl_rep its m []
      rw [List.nil_append] at this
      exact this
    rw [f0]
    cases its with
    | nil => simp
    | cons a r' => rw [if_neg (by simp)]
  refine wpAny_binaryOp_repeat_ref (T := "list") (U := "int") (by decide) ⟨_, e, rfl⟩ (fun s' => typeIs_int s' k t) noFill_list_mul F.fills_int_mul F.slot_int_rmul repeat_list F.slot_int_index.lookup
    (call_meets F.slot_int_rmul (typeIs_int s k t) F.entry_int_rmul (F.args_int_rmul_2 _ _) (int___rmul___int_list k t l its.toArray n)
      ⟨e, rfl, ⟨_, e, rfl⟩, call_meets F.slot_list_mul ⟨_, e, rfl⟩ F.entry_list_mul (F.args_list_mul_2 _ _) (AutoListH.list___mul___list_int_3 l its.toArray n k t hfit hcap hlong) ⟨e, ?_⟩⟩)
  rw [hnew]
  exact ⟨.ref _, _, I.lnew (t' := s.toks) (r.rep k.toNat) (by rw [len_rep, Nat.mul_comm]; exact hz), rfl, q _ I.fresh⟩

/-! ### del xs[i] -/
theorem del_list {pins : List (Addr × Obj)} {s : Shared} {σ : St} {H : Hp} {l : Addr} {xs : List V} {i : Int} {t : Tok} {k : Nat} {Q : Unit → Shared → Prop} (I : Inv X pins σ H s) (hH : H l = some (.lst xs))
    (h1 : -(2 ^ 63) ≤ i) (h2 : i < 2 ^ 63) (hk : seqIndex? i xs.length = some k) (h : ∀ s', Inv X pins σ (upd H l (.lst (xs.eraseIdx k))) s' → Q () s') :
    wpAny (model X.prog X.w) X.A (delItem (.ref l) (.int i t)) Q X.xe s := by
  obtain ⟨z, its, n, r, hl, e⟩ := I.lstM hH
  refine PySem.P.delItem_list (k := k) e (fitsIndex_both h1 h2) (by rw [List.size_toArray, ← hl]; exact hk) (h _ ?_) (by rw [List.size_toArray]; omega)
  refine I.lset (its' := its.eraseIdx k) (t' := s.toks) hH e ?_ (r.eraseIdx k) ?_
  · show its.toArray.eraseIdxIfInBounds k = (its.eraseIdx k).toArray
    rw [List.eraseIdxIfInBounds_toArray]
  · have := len_erase xs k
    omega
end

/-! ### xs[a:b] = ys -/
section
variable {prog : Program} {w : World} {A : Around} {E : Value → Shared → Prop} {s : Shared}
theorem splice_eq (its its2 : List Value) (a c : Nat) : its.toArray.extract 0 a ++ its2.toArray ++ its.toArray.extract c its.toArray.size = (its.take a ++ its2 ++ its.drop c).toArray := by
  apply Array.toList_inj.mp
  first
    | (simp
       exact List.take_of_length_le (by simp))
    | simp [List.take_of_length_le]
    | simp
theorem bounds_run {a c n : Nat} (hac : a ≤ c) (hc : c ≤ n) : sliceBounds (some (a : Int)) (some (c : Int)) none n = ((a : Int), (c : Int), 1) := by
  simp only [sliceBounds, Option.getD_none]
  have h1 : ¬ ((a : Int) < 0) := by omega
  have h2 : ¬ ((c : Int) < 0) := by omega
  simp only [h1, h2, if_false, show (1 : Int) > 0 by decide, if_true]
  congr 1
  · omega
  · congr 1; omega
set_option maxRecDepth 100000 in
/-- list.__setitem__ with a slice of step one and another list -/
theorem setItem_slice {l b sl : Addr} {items new : Array Value} {n n2 : Nat} {vl vu : Value} {a c : Nat} {Q : Unit → Shared → Prop}
    (e : s.heap.get? l = some { cls := .type "list", data := .seq items n }) (e2 : s.heap.get? b = some { cls := .type "list", data := .seq new n2 }) (hne : l ≠ b)
    (hs : s.heap.IsSliceOf sl vl vu .none) (pl : IsPart vl (some (a : Int))) (pu : IsPart vu (some (c : Int))) (hac : a ≤ c) (hc : c ≤ items.size)
    (hsz : items.size + new.size ≤ sizeLine) (h : Q () { s with heap := s.heap.update l (Obj.mapSeq fun xs => xs.extract 0 a ++ new ++ xs.extract c xs.size) }) :
    wpAny (model prog w) A (setItem (.ref l) (.ref sl) (.ref b)) Q E s := by
  have hl : s.heap.IsList l items := PySem.IsL.isList e
  have hb : s.heap.IsList b new := PySem.IsL.isList e2
  obtain ⟨os, hos, hcs, hds⟩ := id hs
  have hTs : s.TypeIs (.ref sl) "slice" := ⟨os, hos, hcs⟩
  have hstep : ¬ ((rawPart none == rawInt 0) = true) := Bool.false_ne_true
  have hsame : Builtin.List.listSameRef (.ref l) (.ref b) = false := by
    unfold Builtin.List.listSameRef
    exact beq_eq_false_iff_ne.mpr hne
  have hmax : (max (a : Int) (c : Int)).toNat = c := by omega
  have hz' : ((fun xs : Array Value => xs.extract 0 a ++ new ++ xs.extract c xs.size) items).size ≤ sizeLine + 1 := by
    simp only [Array.size_append, Array.size_extract]
    omega
  unfold setItem
  try with_reducible refine wpAny_holding ?_
  first | refine wpAny_bind (wpAny_pure ?_) | skip
  refine wpAny_bind (wpAny_sequenceKey hl.typeIs (by decide) ?_)
  refine wpAny_bind (wpAny_callSpecial?_slot (name := Str.ofString "__setitem__") hl.typeIs slot_list_setitem
    (wpAny_call_entry slot_list_setitem hl.typeIs entry_list_setitem ?_ (args_list_setitem _ _ _)))
  show wpAny _ _ (Builtin.List.listSubscript? (.ref sl) >>= _) _ _ s
  refine wpAny_bind ?_
  unfold Builtin.List.listSubscript?
  refine wpAny_bind (wpAny_specialOf hTs slice_no_index ?_)
  simp only [Option.isNone_none, if_true]
  refine wpAny_pure ?_
  show wpAny _ _ (typeOf (.ref sl) >>= _) _ _ s
  refine wpAny_bind (wpAny_typeOf hTs ?_)
  first
    | rw [if_neg (by decide)]
    | refine PySem.W.KFB.if_not (by decide) ?_
  rw [listSliceParts_eq]
  refine wpAny_bind (wpAny_bind (wpAny_field hos hds (x := .none) rfl (wpAny_bind (wpAny_listPart .none ?_))))
  rw [if_neg hstep]
  refine wpAny_bind (wpAny_field hos hds (x := vl) rfl (wpAny_bind (wpAny_listPart pl ?_)))
  refine wpAny_bind (wpAny_field hos hds (x := vu) rfl (wpAny_bind (wpAny_listPart pu (wpAny_pure ?_))))
  first
    | simp only [hsame, Bool.false_eq_true, if_false]
    | refine PySem.W.KFB.if_not hsame ?_
    | (dsimp only
       rw [if_neg (by rw [hsame]; exact Bool.false_ne_true)])
  refine wpAny_bind (m := Builtin.List.listAllItems (.ref b) "must assign iterable to extended slice") ?_
  unfold Builtin.List.listAllItems
  refine wpAny_bind (wpAny_typeOf hb.typeIs ?_)
  first
    | refine PySem.W.KFB.if_so (by decide) ?_
    | rw [if_pos (by decide)]
    | simp only [beq_self_eq_true, Bool.true_or, if_true]
  unfold Builtin.List.listItems
  refine wpAny_bind (wpAny_seqItems e2 rfl (wpAny_pure ?_))
  refine wpAny_bind (wpAny_bind (wpAny_seqItems e rfl (wpAny_pure ?_)))
  refine wpAny_bind (wpAny_of_eq ((sliceIndices_raw (some (a : Int)) (some (c : Int)) none items.size (by simp)).trans (congrArg (pure : Int × Int × Int → Sem (Int × Int × Int)) (bounds_run hac hc))) ?_)
  show wpAny _ _ (if ((1 : Int) == 1) = true then _ else _) _ _ s
  rw [if_pos (by decide)]
  refine wpAny_bind (wpAny_rule ?_)
  first
    | simp only [notLongL hsz, Bool.false_eq_true, if_false]
    | refine PySem.W.KFB.if_not (notLongL hsz) ?_
  first | refine wpAny_bind (wpAny_pure ?_) | skip
  show wpAny _ _ (updateSeq l (fun xs => xs.extract 0 ((a : Int)).toNat ++ new ++ xs.extract (max (a : Int) (c : Int)).toNat xs.size) >>= _) _ _ s
  rw [hmax, Int.toNat_natCast]
  refine wpAny_bind (wpAny_updateSeq (hz := Nat.le_trans (Nat.le_add_right _ _) hsz) (_hz' := hz') e rfl ?_)
  refine wpAny_bind (wpAny_letGo ?_)
  first
    | exact wpAny_bind (wpAny_pure (wpAny_pure ⟨.none, rfl, wpAny_pure h⟩))
    | exact wpAny_pure ⟨.none, rfl, wpAny_pure h⟩
end

section
variable {X : Cx}
/-- xs[a:c] = ys of another list, at the value level: sl is the slice object that was just made -/
theorem set_slice {pins : List (Addr × Obj)} {s : Shared} {σ : St} {H : Hp} {l b sl : Addr} {xs ys : List V} {a c : Int} {vl vu : Value} {Q : Unit → Shared → Prop} (I : Inv X pins σ H s)
    (hH : H l = some (.lst xs)) (hB : H b = some (.lst ys)) (hne : l ≠ b) (hs : s.heap.IsSliceOf sl vl vu .none) (ra : RelV (.int a) vl) (rc : RelV (.int c) vu) (h0 : 0 ≤ a) (hac : a ≤ c) (hc : c ≤ xs.length)
    (hz : xs.length + ys.length ≤ sizeLine) (h : ∀ s', Inv X pins σ (upd H l (.lst (xs.take a.toNat ++ ys ++ xs.drop c.toNat))) s' → Q () s') :
    wpAny (model X.prog X.w) X.A (setItem (.ref l) (.ref sl) (.ref b)) Q X.xe s := by
  obtain ⟨ta, rfl⟩ := ra
  obtain ⟨tc, rfl⟩ := rc
  obtain ⟨z, its, n, r, hl, e⟩ := I.lstM hH
  obtain ⟨z2, its2, n2, r2, hl2, e2⟩ := I.lstM hB
  obtain ⟨a', rfl⟩ := Int.eq_ofNat_of_zero_le h0
  obtain ⟨c', rfl⟩ := Int.eq_ofNat_of_zero_le (Int.le_trans h0 hac)
  simp only [Int.toNat_natCast] at h
  refine setItem_slice (a := a') (c := c') e e2 hne hs (.int _ _) (.int _ _) (by omega) (by rw [List.size_toArray]; omega) (by rw [List.size_toArray, List.size_toArray]; omega) (h _ ?_)
  refine I.lset (its' := its.take a' ++ its2 ++ its.drop c') (t' := s.toks) hH e ?_ (Vals.append (Vals.append (r.take _) r2) (r.drop _)) ?_
  · exact splice_eq its its2 a' c'
  · rw [List.length_append, List.length_append, List.length_take, List.length_drop]
    omega
end
end L2

namespace Att
open PySem PySem.W PySem.Calls PyProof.Rows

/-! ### the script -/
theorem ints_of_wellAll {P : Params} {h : Heap} : ∀ (ns : List Int) (vs : List Value), WellAll P h vs (ns.map WData.int) → IntsAre vs ns := by
  intro ns
  induction ns with
  | nil =>
    intro vs w
    rw [List.map_nil] at w
    cases w
    exact .nil
  | cons n ns ih =>
    intro vs w
    rw [List.map_cons] at w
    cases w with
    | cons a b =>
      cases a
      exact .cons _ _ (ih _ b)

theorem script_of {l : OpenLaw} {n : Nat} (hn : l.most = some n) {P : Params} {h : Heap} {args : List WData} {vals : List Value}
    (hpre : l.row.toRowW.claim.pre args = true) (hwl : WellAll P h vals args) :
    ∃ a vs ns, vals = [Value.ref a] ∧ args = [WData.list (ns.map WData.int)] ∧ h.get? a = some { cls := .type "list", data := .seq vs.toArray } ∧ IntsAre vs ns ∧ ns.length ≤ n := by
  have hsh : WShape.hasAll [] args [.list .int] = true := (pre_splitW hpre).1
  have hc : l.pre.holds [] { args := args } = true := (pre_splitW hpre).2
  obtain ⟨d, r, rfl, h1, h2⟩ := hasAllW_cons hsh
  obtain rfl := hasAllW_nil h2
  obtain ⟨xs, rfl, h3⟩ := hasW_list h1
  obtain ⟨ns, rfl⟩ := items_int h3
  have hlen : ns.length ≤ n := by
    unfold OpenLaw.pre at hc
    have h4 : (WTm.not (.lt (.lit (.int (n : Int))) (.len (.arg 0)))).holds [] { args := [.list (ns.map .int)] } = true := by
      have h4 := (holds_andW hc).1
      rw [hn] at h4
      exact h4
    have h5 := condW_of h4 (w_not (w_lt w_lit (w_len_list (w_arg rfl))))
    rw [List.length_map] at h5
    refine Nat.le_of_not_lt fun q => ?_
    have q' : (n : Int) < ((ns.length : Nat) : Int) := by omega
    first
      | (rw [decide_eq_true q'] at h5; exact absurd h5 (by decide))
      | (simp at h5; omega)
  cases hwl with
  | cons w1 w2 =>
    cases w2
    cases w1 with
    | list ho hall => exact ⟨_, _, ns, rfl, rfl, ho, ints_of_wellAll ns _ hall, hlen⟩

theorem post_true (l : OpenLaw) (args : List WData) : l.row.toRowW.claim.post args (.bool true) args = true :=
  postW_of (r := l.row.toRowW) (X := (true == true))
    (show WShape.has [] (.bool true) .bool = true by first | rfl | decide | simp [WShape.has, WShape.arms, WShape.armsAll])
    (show (WTm.eq .res (.lit (.bool true))).value [] { args := args, res := some (.bool true), after := args } = some (.bool (true == true)) from w_eq_bool (w_res rfl) w_lit) rfl

/-! ### the attachment: holds_open's last premise (the goal 'hc' behind k_head) from a wpAny of the law's body -/
theorem attach {l : OpenLaw} {n : Nat} {q : Program} {loose : List Str} {XP : (Str → Option Value) → Heap → Prop} {YP : World → Heap → Prop} {d : DefRec} {x : Str}
    (hn : l.most = some n) (hdf : d.params.defaults = [])
    (hbind : ∀ pm cd doc v : Value, bindArgs (docDef d.name d.params d.body d.scope pm cd doc) ⟨[v], []⟩ = pure [(x, v)])
    (hx : d.scope.names.lookup x = some .local ∨ d.scope.names.lookup x = some .cell)
    (hk : d.scope.kind = .function) (hco : d.scope.isCoroutine = false) (hgen : d.scope.isGenerator = false)
    (body : ∀ (w : World) (s₀ s₁ s : Shared) (mg mb : Str → Option Value) (fa : Addr) (o : Obj) (pm cd doc : Value) (a : Addr) (vs : List Value) (ns : List Int),
      Ground q loose [] XP w s₀ mg mb s₁.heap → YP w s₁.heap →
      s₁.heap.get? fa = some o → o.data = .func (docDef d.name d.params d.body d.scope pm cd doc) → s₁.heap.CodeRec cd d.name → mg d.name = some (.ref fa) →
      s₁.heap.get? a = some { cls := .type "list", data := .seq vs.toArray } → IntsAre vs ns → ns.length ≤ n →
      s.gens = #[] → s.os = s₁.os →
      Fr s₁.heap s₁.heap.objs.size s.heap (bindL (envOfC d.name d.scope s₁.heap.objs.size fa cd).kindOf [(x, .ref a)] fun _ => none) →
      Cl s₁.heap.objs.size (cellsFrom (s₁.heap.objs.size + 1) d.scope.names []) s.heap (bindC (envOfC d.name d.scope s₁.heap.objs.size fa cd).kindOf [(x, .ref a)] fun _ => none) →
      wpAny (model l.prog w) (callerA.deeper (envOfC d.name d.scope s₁.heap.objs.size fa cd)) (execs d.body (envOfC d.name d.scope s₁.heap.objs.size fa cd))
        (fun f s' => f = .ret (.bool true) ∧ OldK s₁.heap s'.heap ∧ s'.os = s₁.os ∧ AllBare s'.gens) (fun _ _ => False) s) :
    WalkO q loose XP YP l.row.toRowW d [] (fun f vs => PySem.call f vs) := by
  intro w s₀ s₁ mg mb G Y fa o pm cd doc dV kV ho hd hcd hD hmg hg args vals as hpre hlay hrd hwl hlo
  obtain rfl : dV = .none := Dflts.none hD hdf
  obtain rfl : kV = .none := Dflts.noKw hD
  obtain ⟨a, vs, ns, rfl, rfl, hobj, hints, hlen⟩ := script_of hn hpre hwl
  refine enter_call ?_
  refine call_cells_ret (o := o) (by rw [depth_caller]; decide) ho (fd_plain hd) G.T.nolimit hcd (hbind pm cd doc (.ref a)) (fun y hy => ?_) (fun h₁ tk F X => ?_) hco hgen hk
  · obtain rfl : y = (x, Value.ref a) := List.mem_singleton.mp hy
    rcases hx with e | e
    · exact .inl e
    · exact .inr ⟨e, cellsFrom_some _ _ _ (.inl e)⟩
  · refine wpAny_mono (body w s₀ s₁ { s₁ with heap := h₁, toks := tk } mg mb fa o pm cd doc a vs ns G Y ho (fd_plain hd) hcd hmg hobj hints hlen hg rfl F X) (fun f s' hq => ?_) (fun _ _ hq => hq)
    obtain ⟨rfl, h2, h3, h4⟩ := hq
    exact ⟨.inl ⟨.bool true, .bool true, [], rfl, fun _ => rfl, .bool true, post_true l _, fun _ => ⟨List.Pairwise.nil, fun _ hm => (nomatch hm)⟩⟩, h2, h3, h4⟩

/-- the same from a codeAny of the CALL (for a layer whose function contracts speak of calls) -/
theorem attach_call {l : OpenLaw} {n : Nat} {q : Program} {loose : List Str} {XP : (Str → Option Value) → Heap → Prop} {YP : World → Heap → Prop} {d : DefRec}
    (hn : l.most = some n) (hdf : d.params.defaults = [])
    (call : ∀ (w : World) (s₀ s₁ : Shared) (mg mb : Str → Option Value) (fa : Addr) (o : Obj) (pm cd doc : Value) (a : Addr) (vs : List Value) (ns : List Int),
      Ground q loose [] XP w s₀ mg mb s₁.heap → YP w s₁.heap →
      s₁.heap.get? fa = some o → o.data = .func (docDef d.name d.params d.body d.scope pm cd doc) → s₁.heap.CodeRec cd d.name → mg d.name = some (.ref fa) →
      s₁.heap.get? a = some { cls := .type "list", data := .seq vs.toArray } → IntsAre vs ns → ns.length ≤ n → s₁.gens = #[] →
      codeAny (model l.prog w) callerA (.call (.ref fa) ⟨[.ref a], []⟩) (fun r s' => r = .ok (.ret (.bool true)) ∧ OldK s₁.heap s'.heap ∧ s'.os = s₁.os ∧ AllBare s'.gens) s₁) :
    WalkO q loose XP YP l.row.toRowW d [] (fun f vs => PySem.call f vs) := by
  intro w s₀ s₁ mg mb G Y fa o pm cd doc dV kV ho hd hcd hD hmg hg args vals as hpre hlay hrd hwl hlo
  obtain rfl : dV = .none := Dflts.none hD hdf
  obtain rfl : kV = .none := Dflts.noKw hD
  obtain ⟨a, vs, ns, rfl, rfl, hobj, hints, hlen⟩ := script_of hn hpre hwl
  refine enter_call (codeAny_mono (call w s₀ s₁ mg mb fa o pm cd doc a vs ns G Y ho (fd_plain hd) hcd hmg hobj hints hlen hg) fun r s' hq => ?_)
  obtain ⟨rfl, h2, h3, h4⟩ := hq
  exact ⟨.inl ⟨.bool true, .bool true, [], rfl, fun _ => rfl, .bool true, post_true l _, fun _ => ⟨List.Pairwise.nil, fun _ hm => (nomatch hm)⟩⟩, h2, h3, h4⟩

/-- the same where the top left finished generators (o_head chose holds_openN): nothing may have changed at all and no generator may be left -/
theorem attachN {l : OpenLaw} {n : Nat} {q : Program} {loose : List Str} {XP : (Str → Option Value) → Heap → Prop} {YP : World → Heap → Prop} {d : DefRec} {x : Str}
    (hn : l.most = some n) (hdf : d.params.defaults = [])
    (hbind : ∀ pm cd doc v : Value, bindArgs (docDef d.name d.params d.body d.scope pm cd doc) ⟨[v], []⟩ = pure [(x, v)])
    (hx : d.scope.names.lookup x = some .local ∨ d.scope.names.lookup x = some .cell)
    (hk : d.scope.kind = .function) (hco : d.scope.isCoroutine = false) (hgen : d.scope.isGenerator = false)
    (body : ∀ (w : World) (s₀ s₁ s : Shared) (mg mb : Str → Option Value) (fa : Addr) (o : Obj) (pm cd doc : Value) (a : Addr) (vs : List Value) (ns : List Int),
      Ground q loose [] XP w s₀ mg mb s₁.heap → YP w s₁.heap →
      s₁.heap.get? fa = some o → o.data = .func (docDef d.name d.params d.body d.scope pm cd doc) → s₁.heap.CodeRec cd d.name → mg d.name = some (.ref fa) →
      s₁.heap.get? a = some { cls := .type "list", data := .seq vs.toArray } → IntsAre vs ns → ns.length ≤ n →
      s.gens = #[] → s.os = s₁.os →
      Fr s₁.heap s₁.heap.objs.size s.heap (bindL (envOfC d.name d.scope s₁.heap.objs.size fa cd).kindOf [(x, .ref a)] fun _ => none) →
      Cl s₁.heap.objs.size (cellsFrom (s₁.heap.objs.size + 1) d.scope.names []) s.heap (bindC (envOfC d.name d.scope s₁.heap.objs.size fa cd).kindOf [(x, .ref a)] fun _ => none) →
      wpAny (model l.prog w) (callerA.deeper (envOfC d.name d.scope s₁.heap.objs.size fa cd)) (execs d.body (envOfC d.name d.scope s₁.heap.objs.size fa cd))
        (fun f s' => f = .ret (.bool true) ∧ (∀ b o, s₁.heap.get? b = some o → s'.heap.get? b = some o) ∧ s'.os = s₁.os ∧ s'.gens = #[]) (fun _ _ => False) s) :
    WalkN q loose XP YP l.row.toRowW d [] (fun f vs => PySem.call f vs) := by
  intro w s₀ s₁ mg mb G Y fa o pm cd doc dV kV ho hd hcd hD hmg hg args vals as hpre hlay hrd hwl hlo
  obtain rfl : dV = .none := Dflts.none hD hdf
  obtain rfl : kV = .none := Dflts.noKw hD
  obtain ⟨a, vs, ns, rfl, rfl, hobj, hints, hlen⟩ := script_of hn hpre hwl
  refine enter_callW ?_
  refine call_cells_ret (o := o) (by rw [depth_caller]; decide) ho (fd_plain hd) G.T.nolimit hcd (hbind pm cd doc (.ref a)) (fun y hy => ?_) (fun h₁ tk F X => ?_) hco hgen hk
  · obtain rfl : y = (x, Value.ref a) := List.mem_singleton.mp hy
    rcases hx with e | e
    · exact .inl e
    · exact .inr ⟨e, cellsFrom_some _ _ _ (.inl e)⟩
  · refine wpAny_mono (body w s₀ s₁ { s₁ with heap := h₁, toks := tk } mg mb fa o pm cd doc a vs ns G Y ho (fd_plain hd) hcd hmg hobj hints hlen hg rfl F X) (fun f s' hq => ?_) (fun _ _ hq => hq)
    obtain ⟨rfl, h2, h3, h4⟩ := hq
    exact ⟨.inl ⟨.bool true, .bool true, [], rfl, fun _ => rfl, .bool true, post_true l _, fun _ => ⟨List.Pairwise.nil, fun _ hm => (nomatch hm)⟩⟩, h2, h3, h4⟩

/-! ### rules over ANY heap (no ledger) from facts about the written part K: the library's own take a ledger (News) for what they write -/
section
variable {prog : Program} {w : World} {A : Around} {E : Value → Shared → Prop} {s : Shared} {K : Frag}

/-- a def of the module, or a method (qual 'C.m'), entered: the frame is the next address; cells behind it -/
theorem call_fn {R : Result → Shared → Prop} {name qual : Str} {params : Arguments} {body : List Stmt} {scope : Scope} {dV kV doc pm cdv ct oc : Value} {an od : Option Addr} {osl : Array (Option Value)} {f : Addr} {args : Args} {binds : List (Str × Value)}
    (X : K.In s.heap) (hlim : s.heap.NoLimit) (ho : K.lookup f = some ⟨oc, od, .func (fnOf name qual params body scope dV kV doc pm an cdv ct), osl⟩) (hcd : codeIn K cdv qual = true) (hroom : A.depth < recursionLimit)
    (hbind : BindsTo s (fnOf name qual params body scope dV kV doc pm an cdv ct) args binds)
    (hkind : (binds.all fun y => scope.names.lookup y.1 == some .local || scope.names.lookup y.1 == some .cell) = true)
    (h : ∀ s₁, InCallC s s.heap.objs.size (bindL (envOfC qual scope s.heap.objs.size f cdv).kindOf binds fun _ => none) (cellsFrom (s.heap.objs.size + 1) scope.names [])
        (bindC (envOfC qual scope s.heap.objs.size f cdv).kindOf binds fun _ => none) s₁ →
      wpAny (model prog w) (A.deeper (envOfC qual scope s.heap.objs.size f cdv)) (execs body (envOfC qual scope s.heap.objs.size f cdv))
        (fun fl s' => R (.ok (.ret (match fl with | .ret v => v | _ => .none))) s')
        (fun e s' => wpAny (model prog w) (A.deeper (envOfC qual scope s.heap.objs.size f cdv)) (leaving (envOfC qual scope s.heap.objs.size f cdv) e) (fun _ s'' => R (.error e) s'') (fun e' s'' => R (.error e') s'') s') s₁)
    (hco : scope.isCoroutine = false) (hgen : scope.isGenerator = false) (hk : scope.kind = .function) : codeAny (model prog w) A (.call (.ref f) args) R s := by
  refine codeAny_call_function hroom (X _ _ ho) rfl hco hgen rfl (codeRec_of X hcd) (hbind _ _ _ _ ?_)
  refine wpAny_newFunctionEnv_cells hk (kindsX hkind _) fun env he s₁ x => ?_
  subst he
  exact ⟨hlim.keeps x.toInCall.keep, codeAny_func (h s₁ x)⟩

/-- C(..): dict at size, instance at size + 1, then __init__ -/
theorem make_obj {R : Result → Shared → Prop} {C fI : Addr} {rest : List Value} {kw : List (Str × Value)}
    (X : K.In s.heap) (hm : makesIn K C = true) (hi : findIn K (.ref C) "__init__" = some (some (.ref fI))) (hf : isFn K (.ref fI) = true)
    (h : codeAny (model prog w) (A.under (.builtin "type.__call__" ⟨.ref C :: rest, kw⟩)) (.call (.ref fI) ⟨.ref (s.heap.objs.size + 1) :: rest, kw⟩) (InitBack (s.heap.objs.size + 1) R)
      { s with heap := (s.heap.push emptyDict).push (instObj C s.heap.objs.size) }) : codeAny (model prog w) A (.call (.ref C) ⟨rest, kw⟩) R s := by
  obtain ⟨hh, g, d, t, os⟩ := s
  exact make_core (makes_of X hm) (looks_findIn X hi) (fun self => bind_fn X self (beq_iff_eq.mp hf)) (.inl rfl) h

/-- x.name where the instance's dict holds the name and the class does not -/
theorem get_field {x C : Addr} {ox : Obj} {es : List DictEntry} {n : Nat} {name : Str} {expr : Bool} {v : Value} {Q : Value → Shared → Prop}
    (X : K.In s.heap) (I : PySem.W.InstAt s.heap x ox C (some (dictOf es n))) (hg : plainGet K C name = true) (hh : hasDictIn K C = true) (ha : findIn K (.ref C) name = some none)
    (hl : getL name es = some (some v)) (hv : handedIn v = true) (h : Q v { s with toks := s.toks + 1 }) : wpAny (model prog w) A (getAttr (.ref x) name expr) Q E s :=
  get_value X I (plainGet_of hg).1 (findObj_own hh ha rfl hl) hv h

/-- x.m(..): the method found in the class -/
theorem get_method {x C f : Addr} {ox : Obj} {es : List DictEntry} {n : Nat} {name : Str} {pl : Sem Bool} {Q : Value × List Value → Shared → Prop}
    (X : K.In s.heap) (I : PySem.W.InstAt s.heap x ox C (some (dictOf es n))) (hg : plainGet K C name = true) (hf : findIn K (.ref C) name = some (some (.ref f))) (ht : isFn K (.ref f) = true)
    (hl : getL name es = some none) (h : Q (.ref f, [.ref x]) s) : wpAny (model prog w) A (getMethod (.ref x) name pl) Q E s :=
  method_fn X I (plainGet_of hg).1 (plainGet_of hg).2 hf (beq_iff_eq.mp ht) (by show (lookIn name (dictOf es n)).map _ = _; rw [lookIn_dict, hl]; rfl) h

/-! the whole heap as the ledger: makes every rule that writes through a ledger a rule over any heap -/
def noObjs (h : Heap) : Heap := { h with objs := #[] }
theorem noObjs_get (h : Heap) (b : Addr) : (noObjs h).get? b = none := by
  cases e : (noObjs h).get? b with
  | none => rfl
  | some o => exact absurd (Heap.lt_size e) (Nat.not_lt_zero _)
def ledger (h : Heap) (L d : Addr) : List (Addr × Obj) := (List.range h.objs.size).filterMap fun a => if a = L ∨ a = d then none else (h.get? a).map fun o => (a, o)
theorem mem_ledger {h : Heap} {L d a : Addr} {o : Obj} : (a, o) ∈ ledger h L d ↔ a ≠ L ∧ a ≠ d ∧ h.get? a = some o := by
  unfold ledger
  rw [List.mem_filterMap]
  constructor
  · rintro ⟨b, _, e⟩
    split at e
    · cases e
    · rename_i hb
      obtain ⟨o', ho, e'⟩ := Option.map_eq_some_iff.mp e
      cases e'
      exact ⟨fun q => hb (.inl q), fun q => hb (.inr q), ho⟩
  · rintro ⟨n1, n2, ho⟩
    refine ⟨a, List.mem_range.mpr (Heap.lt_size ho), ?_⟩
    rw [if_neg (show ¬ (a = L ∨ a = d) from fun q => q.elim n1 n2), ho] <;> rfl
theorem news_ledger {h : Heap} {L d : Addr} {od : Obj} (hne : d ≠ L) (ho : h.get? d = some od) : News (noObjs h) L h ([] ++ (d, od) :: ledger h L d) := by
  rintro ⟨a, o⟩ hp
  rcases List.mem_cons.mp hp with e | hp
  · cases e
    exact ⟨ho, hne, noObjs_get _ _⟩
  · obtain ⟨n1, n2, e⟩ := mem_ledger.mp hp
    exact ⟨e, n1, noObjs_get _ _⟩
theorem fr_all {h : Heap} {L : Addr} {m : Str → Option Value} (n : h.Ns L m) : Fr (noObjs h) L h m :=
  ⟨n, fun b o e => (by rw [noObjs_get] at e; cases e), Nat.zero_le _⟩
/-- Upd of the head entry (for append_K, setItem_K ..) -/
theorem upd_ledger {h : Heap} {L d : Addr} {o o' : Obj} : Upd d o o' ((d, o) :: ledger h L d) ((d, o') :: ledger h L d) :=
  .head fun ⟨_, _⟩ hp => (mem_ledger.mp hp).2.1

/-- x.name = v over any heap: L is any namespace of the heap (the frame's, say): its map stays, its object is not told; all else but the dict stays -/
theorem set_field {x C dx L : Addr} {ox : Obj} {m : Str → Option Value} {es es' : List DictEntry} {n n' : Nat} {name : Str} {v : Value} {Q : Unit → Shared → Prop}
    (X : K.In s.heap) (I : PySem.W.InstAt s.heap x ox C (some (dictOf es n))) (hd : ox.dict = some dx) (hL : s.heap.Ns L m) (hne : dx ≠ L)
    (hs : findIn K (.ref C) "__setattr__" = some (some (.builtin "object.__setattr__"))) (hp : plainOver K C = true) (ht : takerIn K C name = some none) (hh : hasDictIn K C = true) (hl : (getL name es).isSome = true)
    (e : (putL name (PyData.keyHash w.params name) (.str name (s.toks + 1)) v es, putN name es n) = (es', n')) (hz : es'.length ≤ 1000)
    (h : ∀ h' : Heap, h'.Ns L m → h'.get? dx = some (dictOf es' n') → (∀ b o, b ≠ dx → b ≠ L → s.heap.get? b = some o → h'.get? b = some o) → Q () { s with heap := h', toks := s.toks + 2 }) :
    wpAny (model prog w) A (setAttr (.ref x) name v) Q E s := by
  obtain ⟨e1, e2⟩ := Prod.mk.inj e
  have hdx : s.heap.get? dx = some (dictOf es n) := by
    have := I.dict
    rw [hd] at this
    exact this
  refine set_plain X I hs (osa_dict (s := { s with toks := s.toks + 1 }) (h₀ := noObjs s.heap) (L := L) (m := m) (od := dictOf es n) (od' := dictOf es' n') (es := es') (n := n') (pre := []) (post := ledger s.heap L dx)
    (fr_all hL) (news_ledger hne hdx) X I hd hp ht hh hl (fun _ q => nomatch q) (fun ⟨_, _⟩ q => (mem_ledger.mp q).2.1) (by rw [putName_dict, e1, e2]) rfl hz fun h' F' N' => ?_)
  exact h h' F'.ns (N'.get (List.Mem.head _)) fun b o n1 n2 ho => N'.get (List.Mem.tail _ (mem_ledger.mpr ⟨n2, n1, ho⟩))
end
end Att

namespace L2
open PySem PySem.Spec PyProof.Rows

theorem vals_ints : ∀ {vs : List Value} {ns : List Int}, IntsAre vs ns → Vals (ns.map V.int) vs
  | _, _, .nil => .nil
  | _, _, .cons n t h => .cons ⟨t, rfl⟩ (vals_ints h)

/-- nothing is tracked but the script, known to the object (or it is an object of the module) -/
def Only (H : Hp) : Prop := ∀ b, H b = none ∨ ∃ o xs, H b = some (.frz o (.lst xs))

/-- THE HEAD: the law's promise, at the heap behind the top. F, the promise of the law's def, may use that base is part of the heap (so K.In base, base.Ns mainGlobals mg stand in Mod) -/
theorem law_call {P : Program} {w : World} {K : PySem.W.Frag} {mg mb : Str → Option Value} {CX : CXT} {k : Nat} {fa a : Addr} {fd : FuncData} {x : Str} {sp : Sp} {s₁ : Shared} {vs : List Value} {ns : List Int}
    (KX : K.In s₁.heap) (hns : s₁.heap.Ns mainGlobals mg) (hb : s₁.heap.Ns builtinsNs mb) (hbb : ∀ x : Str, x ≠ "__name__" → mb x = bootBuiltins x) (hlim : s₁.heap.NoLimit) (hg : s₁.gens = #[])
    (ha : s₁.heap.get? a = some { cls := .type "list", data := .seq vs.toArray }) (hi : IntsAre vs ns) (hl : ns.length ≤ sizeLine) (hr : Room k callerA)
    (F : ∀ base : Heap, K.In base → base.Ns mainGlobals mg → FnOk P w K mg base CX k fa fd [x] sp) (hbind : ∀ (s : Shared) (u : Value), BindsTo s fd ⟨[u], []⟩ [(x, u)])
    (hsp : ∀ H : Hp, Only H → SqL K H a (ns.map V.int) → sp [.ref a] H (fun v _ => v = .bl true) fun _ _ _ => False)
    (hCX : ∀ H e s', CX [] H s₁ (fun _ _ _ => False) e s' → False) :
    codeAny (model P w) callerA (.call (.ref fa) ⟨[.ref a], []⟩) (fun r s' => r = .ok (.ret (.bool true)) ∧ OldK s₁.heap s'.heap ∧ s'.os = s₁.os ∧ AllBare s'.gens) s₁ := by
  have rv := vals_ints hi
  have lenV := hi.length
  -- from an abstract heap in which nothing but the script may be tracked
  have core : ∀ H : Hp, Only H → SqL K H a (ns.map V.int) → HOk P w H s₁.heap → (∀ b, H b ≠ none → b = a) → (H a ≠ none → K.lookup a = none) →
      codeAny (model P w) callerA (.call (.ref fa) ⟨[.ref a], []⟩) (fun r s' => r = .ok (.ret (.bool true)) ∧ OldK s₁.heap s'.heap ∧ s'.os = s₁.os ∧ AllBare s'.gens) s₁ := by
    intro H hO hS hok hA hK
    have base_of : ∀ {b : Addr} {o : Obj}, s₁.heap.get? b = some o → H b = none → (hidT s₁.heap H).get? b = some o := fun e n => hidT_get e n
    have noA : ∀ {b : Addr} {o : Obj} {es : Array DictEntry} {ep : Nat}, s₁.heap.get? b = some o → o.data = .dict es ep → H b = none := fun {b o es ep} e d => by
      cases q : H b with
      | none => rfl
      | some u =>
        have e' : b = a := hA b (by rw [q]; simp)
        subst e'
        rw [ha] at e; cases e
        have d' : Data.seq vs.toArray _ = Data.dict es ep := d
        cases d'
    have nsK : ∀ {b : Addr} {m : Str → Option Value}, s₁.heap.Ns b m → (hidT s₁.heap H).Ns b m := fun {b m} ⟨o, es, ep, e, d, r⟩ => ⟨o, es, ep, base_of e (noA e d), d, r⟩
    have hKb : K.In (hidT s₁.heap H) := fun b o e => base_of (KX b o e) (by
      cases q : H b with
      | none => rfl
      | some u =>
        have e' : b = a := hA b (by rw [q]; simp)
        subst e'
        rw [hK (by rw [q]; simp)] at e; cases e)
    have hM : Mod K mg (hidT s₁.heap H) := ⟨hKb, nsK hns, ⟨mb, nsK hb, hbb⟩, let ⟨mc, h1, h2⟩ := hlim; ⟨mc, nsK h1, h2⟩⟩
    have e0 : Env0 P w K mg (hidT s₁.heap H) callerA [] s₁ H := ⟨rfl, hM, fun b o e => of_hidT e, Nat.le_of_eq (hidT_size _ _), trivial, fun b hb => absurd (show b ∈ ([] : List Addr) from hb) (by simp), hok, .of_eq hg⟩
    refine codeAny_mono ((F _ hKb (nsK hns)).run callerA [] s₁ H ⟨[.ref a], []⟩ [.ref a] [.ref a] _ _ hr e0 (hbind s₁ (.ref a)) (.cons rfl .nil) (hsp H hO hS)) fun r s' h => ?_
    cases r with
    | error e => exact (hCX H e s' h).elim
    | ok fl =>
      cases fl with
      | next => exact False.elim h
      | brk => exact False.elim h
      | cont => exact False.elim h
      | ret u =>
        obtain ⟨v, H', os, bare, un, hok', r', q⟩ := h
        have q' : v = .bl true := q
        subst q'
        obtain rfl : u = Value.bool true := r'
        refine ⟨rfl, OldK.of_keep fun b o e => ?_, os, bare⟩
        cases q : H b with
        | none => exact un.keep b o e q (by intro z; exact absurd (show b ∈ ([] : List Addr) from z) (by simp)) (by simp)
        | some u =>
          rcases hO b with z | ⟨ob, xs, z⟩
          · rw [q] at z; cases z
          · have z2 := un.frzs b ob _ z
            obtain ⟨e1, _⟩ := hok b _ z
            obtain ⟨e2, _⟩ := hok' b _ z2
            rw [e] at e1; cases e1
            exact e2
  cases hk : K.lookup a with
  | some o =>
    -- the script is one of the module's own objects
    have e := KX a o hk
    rw [ha] at e
    cases e
    refine core (fun _ => none) (fun _ => .inl rfl) (.inr ⟨_, vs.toArray, _, hk, rfl, rfl, rfl, by rw [List.size_toArray, lenV]; exact hl, by simpa using rv⟩) (fun b u z => by have z' : (none : Option HO) = some u := z; cases z') (fun b z => absurd rfl z) fun z => absurd rfl z
  | none =>
    refine core (fun b => if b = a then some (.frz { cls := .type "list", data := .seq vs.toArray } (.lst (ns.map V.int))) else none) (fun b => ?_) (.inl (.inr ⟨{ cls := .type "list", data := .seq vs.toArray }, if_pos rfl⟩)) (fun b u z => ?_) (fun b z => ?_) fun _ => hk
    · by_cases hb : b = a
      · exact .inr ⟨_, _, if_pos hb⟩
      · exact .inl (if_neg hb)
    · by_cases hb : b = a
      · have z' := (if_pos hb).symm.trans z
        cases z'
        subst hb
        exact ⟨ha, by rw [List.length_map]; exact hl, vs, _, rv, ha⟩
      · have z' := (if_neg hb).symm.trans z
        cases z'
    · by_cases hb : b = a
      · exact hb
      · exact absurd (if_neg hb) z
end L2

namespace L2
open PySem PySem.Spec PyProof.Rows

abbrev KOf {K : PySem.W.Frag} {h : Heap} (_ : K.In h) : PySem.W.Frag := K

/-- the goal that k_head leaves (case hc), from the law's promise. F gives the function object fd (K's own) once, then the promise over every base -/
theorem walk_of {l : PySem.W.OpenLaw} {n k : Nat} {q : Program} {loose : List Str} {XP : (Str → Option Value) → Heap → Prop} {YP : World → Heap → Prop} {d : DefRec} {K : Params → PySem.W.Frag} {CX : World → CXT} {sp : World → Sp} {x : Str}
    (hn : l.most = some n) (hn2 : n ≤ sizeLine) (hdf : d.params.defaults = []) (hr : Room k callerA)
    (hY : ∀ (w : World) (h : Heap), YP w h → (K w.params).In h)
    (F : ∀ (w : World) (mg : Str → Option Value) (fa : Addr) (h : Heap), (K w.params).In h → h.Ns mainGlobals mg → mg d.name = some (.ref fa) →
      ∃ fd : FuncData, (∀ (s : Shared) (u : Value), BindsTo s fd ⟨[u], []⟩ [(x, u)]) ∧
        ∀ base : Heap, (K w.params).In base → base.Ns mainGlobals mg → FnOk l.prog w (K w.params) mg base (CX w) k fa fd [x] (sp w))
    (hsp : ∀ (w : World) (H : Hp) (a : Addr) (ns : List Int), ns.length ≤ n → Only H → SqL (K w.params) H a (ns.map V.int) → sp w [.ref a] H (fun v _ => v = .bl true) fun _ _ _ => False)
    (hCX : ∀ (w : World) (H : Hp) (s : Shared) (e : Value) (s' : Shared), CX w [] H s (fun _ _ _ => False) e s' → False) :
    PySem.W.WalkO q loose XP YP l.row.toRowW d [] (fun f vs => PySem.call f vs) := by
  refine Att.attach_call hn hdf fun w s₀ s₁ mg mb fa o pm cd doc a vs ns G Y ho hd hcd hmg hobj hints hlen hg => ?_
  have KX := hY w _ Y
  obtain ⟨fd, hb, hF⟩ := F w mg fa _ KX G.T.g hmg
  exact law_call KX G.T.g G.T.b G.T.builtins G.T.nolimit hg hobj hints (Nat.le_trans hlen hn2) hr hF hb (fun H hO hS => hsp w H a ns hlen hO hS) fun H e s' => hCX w H s₁ e s'
/-- the same where the promise hangs on the written part alone: (sp := My.sp_law), no hole under a binder -/
theorem walk_ofK {l : PySem.W.OpenLaw} {n k : Nat} {q : Program} {loose : List Str} {XP : (Str → Option Value) → Heap → Prop} {YP : World → Heap → Prop} {d : DefRec} {K : Params → PySem.W.Frag} {CX : CXT} {sp : PySem.W.Frag → Sp} {x : Str}
    (hn : l.most = some n) (hn2 : n ≤ sizeLine) (hdf : d.params.defaults = []) (hr : Room k callerA)
    (hY : ∀ (w : World) (h : Heap), YP w h → (K w.params).In h)
    (F : ∀ (w : World) (mg : Str → Option Value) (fa : Addr) (h : Heap), (K w.params).In h → h.Ns mainGlobals mg → mg d.name = some (.ref fa) →
      ∃ fd : FuncData, (∀ (s : Shared) (u : Value), BindsTo s fd ⟨[u], []⟩ [(x, u)]) ∧
        ∀ base : Heap, (K w.params).In base → base.Ns mainGlobals mg → FnOk l.prog w (K w.params) mg base CX k fa fd [x] (sp (K w.params)))
    (hsp : ∀ (K : PySem.W.Frag) (H : Hp) (a : Addr) (ns : List Int), ns.length ≤ n → Only H → SqL K H a (ns.map V.int) → sp K [.ref a] H (fun v _ => v = .bl true) fun _ _ _ => False)
    (hCX : ∀ (H : Hp) (s : Shared) (e : Value) (s' : Shared), CX [] H s (fun _ _ _ => False) e s' → False) :
    PySem.W.WalkO q loose XP YP l.row.toRowW d [] (fun f vs => PySem.call f vs) :=
  walk_of (K := K) (CX := fun _ => CX) (sp := fun w => sp (K w.params)) hn hn2 hdf hr hY F (fun w H a ns h1 h2 h3 => hsp (K w.params) H a ns h1 h2 h3) fun _ H s e s' => hCX H s e s'
end L2

/- THE LAST THEOREM (shape; LID, My.* are yours):
   My.Adr: a structure of the addresses that your layer names (classes, functions); My.Txt K t: a structure (Prop) of the equations over K;
   My.txt_mk : {K} {implicit addresses ..} (e1 : nsIn K mainGlobals "law" = some (some (.ref f))) (e2 : K.lookup f = some ⟨oc, od, .func (fnOf "law" "law" params body scope dV kV doc pm an cdv ct), sl⟩) (e3 : codeIn K cdv "law" = true) .. : ∃ t, My.Txt K t

set_option maxRecDepth 100000 in
set_option maxHeartbeats 0 in
theorem PySem.Challenge.cw_LID_holds : PySem.Challenge.rw_LID.Holds := by
  w_on; o_law; k_head; (case hw => w_witness2)
  k_fill
  refine L2.walk_of (l := PySem.Challenge.rw_LID) (n := 63) (k := 40) (x := "script") (CX := fun w => ..) (sp := fun _ => My.sp_law) rfl (by decide) rfl ⟨rfl, by decide, by decide⟩ (fun w h Y => PySem.W.kIn_of Y) ?F ?S ?C
  case F =>
    intro w mg fa h KX G hmg
    have T : ∃ t, My.Txt (L2.KOf KX) t := by
      dsimp only [L2.KOf]                          -- K must stand as «<heap const> w.params» for k_is
      refine' My.txt_mk ?e1 ?e2 ?e3 ..
      (case e1 => PySem.W.k_is)                    -- in the order: a name -> its address -> its object -> its parts
      (case e2 => PySem.W.k_is)
      ..
    obtain ⟨t, T⟩ := T
    have e0 := hmg.symm.trans (PySem.W.mg_of KX G T.law)
    cases e0                                       -- fa is the law's own address
    exact ⟨_, fun s u => .of_eq rfl, fun base kb nb => My.law_fn T kb nb⟩     -- if «.of_eq rfl» comes too early: refine' ⟨_, ?b, fun base kb nb => My.law_fn T kb nb⟩; exact fun s u => .of_eq rfl
  case S => exact fun w H a ns hl hO hS => ..
  case C => exact ..
(the tactic k_is has no namespace: write k_is) -/

/-! SHORT WORDS over the layer: a def of the text, its body, what a loop and a test want. -/
namespace L2
open PySem PySem.Spec PyProof.Rows

/-! ### the text by places -/
/-- the j-th statement of a class's body -/
def inClass (s : Stmt) (j : Nat) : Stmt := match s with
  | .ClassDef _ _ _ body _ _ _ _ _ _ _ => body.getD j (.Pass ⟨0, 0, 0, 0⟩)
  | _ => .Pass ⟨0, 0, 0, 0⟩
def defArgs (s : Stmt) : Arguments := match s with
  | .FunctionDef _ a _ _ _ _ _ _ _ _ => a
  | _ => { posonlyargs := [], args := [], vararg := none, kwonlyargs := [], kw_defaults := [], kwarg := none, defaults := [] }
def defBody (s : Stmt) : List Stmt := match s with
  | .FunctionDef _ _ b _ _ _ _ _ _ _ => b
  | _ => []
def defScope (s : Stmt) : Scope := match s with
  | .FunctionDef _ _ _ _ _ _ sc _ _ _ => sc
  | _ => { kind := .function, names := [], isGenerator := false, isCoroutine := false }

/-! ### no exception leaves a def -/
abbrev CX0 : CXT := fun _ _ _ _ _ _ => False
abbrev E0 : XK := fun _ _ _ => False
theorem pass0 {X : Cx} : Passes CX0 X E0 := fun _ _ _ _ _ _ _ h => h.elim

/-! ### a def (or method) of the text as it stands behind the top -/
structure Fun (K : PySem.W.Frag) (x qual : Str) (st : Stmt) (f : Addr) (fd : FuncData) : Prop where
  ex : ∃ (oc : Value) (od : Option Addr) (kV doc pm : Value) (an : Option Addr) (cdv ct : Value) (osl : Array (Option Value)),
    fd = PySem.W.fnOf x qual (defArgs st) (defBody st) (defScope st) .none kV doc pm an cdv ct ∧ K.lookup f = some ⟨oc, od, .func fd, osl⟩ ∧ PySem.W.codeIn K cdv qual = true
  kp : PySem.W.keepIn K (.ref f) = true
section
variable {P : Program} {w : World} {K : PySem.W.Frag} {mg : Str → Option Value} {base : Heap}
/-- THE RULE for a def: its body as a term of rules, and the reading of that term -/
theorem Fun.ok {x qual : Str} {st : Stmt} {f : Addr} {fd : FuncData} {N ps : List Str} {k : Nat} {sp : Sp} (F : Fun K x qual st f fd) (S : FnScope N ps (defScope st)) (len : ∀ vs H Q E, sp vs H Q E → vs.length = ps.length)
    (hbody : ∀ (cdv : Value) (A : Around) (outer : List Env) (s : Shared) (H : Hp) (vs : List V) (Q : VK) (E : XK), Room k (A.deeper (envOfC qual (defScope st) s.heap.objs.size f cdv)) → sp vs H Q E →
      ∃ t, PSs (cxOf CX0 P w K mg base N qual (defScope st) f cdv A outer s H E).nox (defBody st) t ∧ t { nx := fun _ H' => Q .non H', rt := Q } (start N vs) H) : FnOk P w K mg base CX0 (k + 1) f fd ps sp := by
  obtain ⟨oc, od, kV, doc, pm, an, cdv, ct, osl, rfl, lk, hcd⟩ := F.ex
  refine fn_of lk hcd S len fun A outer s H vs Q E hr hsp => ?_
  obtain ⟨t, h, q⟩ := hbody cdv A outer s H vs Q E hr hsp
  exact ⟨t, h.nox, q⟩
/-- how its arguments bind (no defaults): h is «fun _ _ _ _ _ _ us hl => match us, hl with | [_, _], _ => rfl», one _ a parameter -/
theorem Fun.binds {x qual : Str} {st : Stmt} {f : Addr} {fd : FuncData} {ps : List Str} (F : Fun K x qual st f fd)
    (h : ∀ (kV doc pm : Value) (an : Option Addr) (cdv ct : Value) (us : List Value), us.length = ps.length → bindArgs (PySem.W.fnOf x qual (defArgs st) (defBody st) (defScope st) .none kV doc pm an cdv ct) ⟨us, []⟩ = pure (ps.zip us)) : Binds K fd ps [] := by
  obtain ⟨oc, od, kV, doc, pm, an, cdv, ct, osl, rfl, lk, hcd⟩ := F.ex
  exact .all (h kV doc pm an cdv ct)
theorem fun_mk {x qual : Str} {st : Stmt} {f : Addr} {oc : Value} {od an : Option Addr} {osl : Array (Option Value)} {kV doc pm cdv ct : Value} (l : K.lookup f = some ⟨oc, od, .func (PySem.W.fnOf x qual (defArgs st) (defBody st) (defScope st) .none kV doc pm an cdv ct), osl⟩)
    (c : PySem.W.codeIn K cdv qual = true) (k : PySem.W.keepIn K (.ref f) = true) : Fun K x qual st f (PySem.W.fnOf x qual (defArgs st) (defBody st) (defScope st) .none kV doc pm an cdv ct) := ⟨⟨oc, od, kV, doc, pm, an, cdv, ct, osl, rfl, l, c⟩, k⟩
end
theorem hu_of {A : Around} {k : Nat} (hr : Room k A) : A.units + 1 < cLine := Nat.lt_of_le_of_lt (Nat.add_le_add_left (by decide : 1 ≤ 64) _) hr.units
theorem small1000 {n : Nat} (h : n ≤ 1000) : n < sizeLine := Nat.lt_of_le_of_lt h (by decide)

/-! ### expressions in short: the name that stands in the i-th slot -/
section
variable {X : Cx}
theorem pv (i : Nat) {x : Str} {pos : Pos} (hN : X.N[i]? = some x := by rfl) (hv : Vis X.env.scope x := by first | exact Or.inl rfl | exact Or.inr (Or.inl rfl) | exact Or.inr (Or.inr rfl)) (hd : (x == ("__debug__" : Str)) = false := by decide)
    (hcd : (x == ("__classdict__" : Str)) = false := by decide) : PE X (.Name x pos) (tVar i) := pe_var hN hv hd hcd
end

/-! ### tests -/
theorem iteF {A B : Prop} (h : B) : if false = true then A else B := by
  rw [if_neg Bool.false_ne_true]
  exact h
theorem iteT {A B : Prop} (h : A) : if true = true then A else B := by
  rw [if_pos rfl]
  exact h
theorem ite2 {c A B : Prop} [Decidable c] (h1 : c → A) (h2 : ¬ c → B) : if c then A else B := by
  by_cases h : c
  · rw [if_pos h]
    exact h1 h
  · rw [if_neg h]
    exact h2 h
theorem iteNS {c A B : Prop} [Decidable c] (hc : c) (h : B) : if (!decide c) = true then A else B := by
  rw [decide_eq_true hc]
  exact iteF h

/-! ### heaps -/
/-- all that was tracked is as it was -/
def Same (H H' : Hp) : Prop := ∀ b o, H b = some o → H' b = some o
theorem Same.refl (H : Hp) : Same H H := fun _ _ h => h
theorem Same.trans {H H1 H2 : Hp} (a : Same H H1) (b : Same H1 H2) : Same H H2 := fun c o h => b c o (a c o h)
theorem Same.free {H H' : Hp} (e : Same H H') {l : Addr} (h : H' l = Option.none) : H l = Option.none := by
  cases q : H l with
  | none => rfl
  | some o =>
    rw [e l o q] at h
    cases h
theorem Same.seq {K : PySem.W.Frag} {H H' : Hp} {a : Addr} {xs : List V} (e : Same H H') (h : SqL K H a xs) : SqL K H' a xs := by
  rcases h with (h | ⟨o, h⟩) | h
  · exact .inl (.inl (e _ _ h))
  · exact .inl (.inr ⟨o, e _ _ h⟩)
  · exact .inr h

end L2
set_option Elab.async false
set_option linter.all false
set_option maxRecDepth 100000
set_option maxHeartbeats 4000000
namespace L2
open PySem PySem.Spec PyProof.Rows

/-! ### a list comprehension of one clause -/
theorem closure_ex {env : Env} (names : List (Str × NameKind)) (hf : ∀ x ∈ names, x.2 = .free → ∃ c, env.cells.lookup x.1 = some c) : ∀ acc : List (Str × Addr),
    ∃ cl : List (Str × Addr), (forIn names acc (fun (x : Str × NameKind) cs => if (x.2 == .free) = true then do let a ← cellOf env x.1; pure (ForInStep.yield ((x.1, a) :: cs)) else pure (ForInStep.yield cs)) : Sem (List (Str × Addr))) = pure cl ∧
      (∀ p ∈ cl, p ∈ acc ∨ env.cells.lookup p.1 = some p.2) ∧ (∀ p ∈ acc, p ∈ cl) ∧ ∀ x, (x, NameKind.free) ∈ names → ∃ c, (x, c) ∈ cl := by
  induction names with
  | nil => intro acc; exact ⟨acc, rfl, fun p hp => .inl hp, fun _ hp => hp, fun x hx => by simp at hx⟩
  | cons n r ih =>
    intro acc
    obtain ⟨n, k⟩ := n
    have hr : ∀ x ∈ r, x.2 = .free → ∃ c, env.cells.lookup x.1 = some c := fun x hx => hf x (List.mem_cons_of_mem _ hx)
    by_cases hk : k = .free
    · subst hk
      obtain ⟨c, hc⟩ := hf (n, .free) List.mem_cons_self rfl
      obtain ⟨cl, e, h1, h2, h3⟩ := ih hr ((n, c) :: acc)
      refine ⟨cl, ?_, fun p hp => ?_, fun p hp => h2 p (List.mem_cons_of_mem _ hp), fun x hx => ?_⟩
      · rw [List.forIn_cons, ← e]
        have q : cellOf env n = pure c := by unfold cellOf; rw [hc]
        simp [q]
      · rcases h1 p hp with z | z
        · rcases List.mem_cons.mp z with rfl | z
          · exact .inr hc
          · exact .inl z
        · exact .inr z
      · rcases List.mem_cons.mp hx with z | z
        · cases z; exact ⟨c, h2 _ List.mem_cons_self⟩
        · exact h3 x z
    · obtain ⟨cl, e, h1, h2, h3⟩ := ih hr acc
      refine ⟨cl, ?_, h1, h2, fun x hx => ?_⟩
      · rw [List.forIn_cons, ← e]
        have q : (k == NameKind.free) = false := by simpa using hk
        simp [q]
      · rcases List.mem_cons.mp hx with z | z
        · cases z; exact absurd rfl hk
        · exact h3 x z
theorem lookup_of_mem {cl : List (Str × Addr)} {cells : List (Str × Addr)} (h : ∀ p ∈ cl, cells.lookup p.1 = some p.2) : ∀ x c, cl.lookup x = some c → cells.lookup x = some c := fun x c e => h (x, c) (PySem.mem_of_lookup e)
theorem lookup_has {cl : List (Str × Addr)} {x : Str} {c : Addr} : (x, c) ∈ cl → ∃ c', cl.lookup x = some c' := by
  induction cl with
  | nil => intro h; simp at h
  | cons p r ih =>
    intro h
    rw [List.lookup_cons]
    cases e : x == p.1 with
    | true => exact ⟨_, rfl⟩
    | false =>
      rcases List.mem_cons.mp h with z | z
      · subst z; simp at e
      · exact ih z
theorem closureFor_ex {scope : Scope} {env : Env} (hf : ∀ x ∈ scope.names, x.2 = .free → ∃ c, env.cells.lookup x.1 = some c) :
    ∃ cl, closureFor scope env = pure cl ∧ (∀ x c, cl.lookup x = some c → env.cells.lookup x = some c) ∧ ∀ x, (x, NameKind.free) ∈ scope.names → ∃ c, cl.lookup x = some c := by
  obtain ⟨cl, e, h1, _, h3⟩ := closure_ex (env := env) scope.names hf []
  refine ⟨cl, ?_, lookup_of_mem fun p hp => (h1 p hp).elim (fun z => by simp at z) id, fun x hx => ?_⟩
  · unfold closureFor
    simp only
    rw [← e]
    simp
  · obtain ⟨c, hc⟩ := h3 x hx
    exact lookup_has hc

theorem relabel_has {env : Env} : ∀ {names : List (Str × NameKind)} {x : Str} {k : NameKind}, (∀ y ∈ names, y.2 ≠ .cell) →
    (names.map fun (n, k) => if (k == NameKind.free && env.scope.kind == .function && env.kindOf n == some .cell) then (n, NameKind.cell) else (n, k)).lookup x = some k → (k = .cell ∨ k = .free) → (x, NameKind.free) ∈ names
  | [], _, _, _, h, _ => by simp at h
  | (n, k) :: r, x, kk, hc, h, hk => by
    have ih := @relabel_has env r x kk (fun y hy => hc y (List.mem_cons_of_mem _ hy))
    have h : List.lookup x ((if (k == NameKind.free && env.scope.kind == .function && env.kindOf n == some .cell) = true then (n, NameKind.cell) else (n, k)) :: _) = _ := h
    by_cases hb : (k == NameKind.free && env.scope.kind == .function && env.kindOf n == some .cell) = true
    · rw [if_pos hb] at h
      have kf : k = .free := by
        simp only [Bool.and_eq_true, beq_iff_eq] at hb
        exact hb.1.1
      rw [List.lookup_cons] at h
      cases e : x == n with
      | true =>
        have : x = n := by simpa using e
        subst this; subst kf
        exact List.mem_cons_self
      | false =>
        simp only [e] at h
        exact List.mem_cons_of_mem _ (ih h hk)
    · rw [if_neg hb] at h
      rw [List.lookup_cons] at h
      cases e : x == n with
      | true =>
        have kk' : k = kk := by simpa [e] using h
        have : x = n := by simpa using e
        subst this
        subst kk'
        rcases hk with rfl | rfl
        · exact absurd rfl (hc _ List.mem_cons_self)
        · exact List.mem_cons_self
      | false =>
        simp only [e] at h
        exact List.mem_cons_of_mem _ (ih h hk)

/-- the block's own context -/
def cxComp (X : Cx) (scope : Scope) (N' : List Str) (cl : List (Str × Addr)) (C : Addr) (s0 : Shared) (H0 : Hp) (fp : List Addr) : Cx where
  prog := X.prog
  w := X.w
  K := X.K
  mg := X.mg
  base := X.base
  A := X.A
  N := N'
  s₀ := s0
  H₀ := H0
  env := compEnvC scope cl C X.env
  outer := X.stack
  stack := X.stack
  ex := fp
  fn := fun _ => false
  calm := X.calm
  pn := []
  xe := fun _ _ => False

/-- the values of the block's names at its start: those of the captured names -/
def capSt (cap : List (Option Nat)) (σ : St) : St := cap.map fun o => o.bind fun i => (σ[i]?).join
/-- the names of the block: cap says at which place of the def's names a captured one stands -/
structure CompScope (N : List Str) (sc scope : Scope) (N' : List Str) (cap : List (Option Nat)) : Prop where
  kind : scope.kind = .function
  nocell : ∀ y ∈ scope.names, y.2 ≠ .cell
  names : ∀ x ∈ scope.names, x.2 = .local → scope.names.lookup x.1 = some .local
  free : ∀ x ∈ scope.names, x.2 = .free → sc.names.lookup x.1 = some .cell
  fst : ∀ x ∈ scope.names, x.2 = .free → scope.names.lookup x.1 = some .free
  nd : N'.Nodup
  len : cap.length = N'.length
  at_ : ∀ p ∈ cap.zip N', ∀ i, p.1 = some i → N[i]? = some p.2 ∧ (p.2, NameKind.free) ∈ scope.names

def PIfs (X : Cx) (ifs : List Expr) (t : TT) : Prop :=
  ∀ (pins : List (Addr × Obj)) (s : Shared) (σ : St) (H : Hp) (Q : Bool → Hp → Prop), Inv X pins σ H s → t σ H Q →
    wpAny (model X.prog X.w) X.A (forIn ifs true fun c r => if r = true then do let ok ← isTrue c X.env (eval c X.env); pure (ForInStep.yield ok) else pure (ForInStep.yield r)) (TP X pins σ Q) X.xe s
def tTru : TT := fun _ H Q => Q true H
theorem pifs_nil {X : Cx} : PIfs X [] tTru := fun _ _ _ H _ I h => wpAny_tests_nil ⟨H, I, h⟩
theorem pifs_one {X : Cx} {c : Expr} {t : TT} (h : PT X c t) : PIfs X [c] t := fun pins s σ H Q I hw => wpAny_tests_one (h pins s σ H Q I hw)

def tComp (wi : TI) (cap : List (Option Nat)) (g : TG) (tc : TT) (te : TE) : TE := fun σ H Q => wi σ H fun J H1 => ∀ D, H1 D = none → ∃ W : Nat → Nat → St → Hp → Prop, (∃ m, W 0 m (capSt cap σ) (upd H1 D (.lst []))) ∧
  ∀ i m σ' H', W i m σ' H' → (J.stop i H' ∧ Q (.ref D) H') ∨ (J.go i H' ∧ ∃ N : St → Hp → Prop, (∀ σ2 H2, N σ2 H2 → ∃ m', m' < m ∧ W (i + 1) m' σ2 H2) ∧
    ∀ x H2, J.yld i H' x H2 → g x σ' H2 fun σ3 H3 => tc σ3 H3 fun b H4 => if b = true then te σ3 H4 fun y H5 => ∃ ys, H5 D = some (.lst ys) ∧ ys.length < sizeLine ∧ N σ3 (upd H5 D (.lst (ys ++ [y]))) else N σ3 H4)

theorem compLoop_go {prog : Program} {w : World} {A : Around} {R : Result → Shared → Prop} {s : Shared} {elt target iter : Expr} {ifs : List Expr} {scope : Scope} {pos : Pos} {it acc : Value} {env : Env} (I : Nat → Shared → Prop)
    (turn : ∀ n s, I n s → wpAny (model prog w) A (pyNext it) (fun r s₁ => match r with
      | none => R (.ok .next) s₁
      | some v => wpAny (model prog w) A (letOwnedTupleGo target it v) (fun _ s₁' => wpAny (model prog w) A (assign target env v) (fun _ s₂ =>
          wpAny (model prog w) A (forIn ifs true fun c r => if r = true then do let ok ← isTrue c env (eval c env); pure (ForInStep.yield ok) else pure (ForInStep.yield r)) (fun ok s₃ =>
            if ok = true then wpAny (model prog w) A (eval elt env) (fun x s₄ =>
              wpAny (model prog w) A (call (.builtin "list.append") [acc, x]) (fun _ s₅ => ∃ m, m < n ∧ I m s₅) (fun _ _ => False) s₄) (fun _ _ => False) s₃
            else ∃ m, m < n ∧ I m s₃) (fun _ _ => False) s₂) (fun _ _ => False) s₁') (fun _ _ => False) s₁) (fun _ _ => False) s)
    (n : Nat) (h : I n s) : codeAny (model prog w) A (.compLoop (.ListComp elt [⟨target, iter, ifs, 0⟩] scope pos) 0 it acc env) R s := by
  refine codeAny_loop rfl I (fun n s hI => ?_) n h
  show wpAny _ A ((compTurn (.ListComp elt [⟨target, iter, ifs, 0⟩] scope pos) 0 it acc env).onRaise (fun x => do noteFrame x env; theTreesLotGoes x)) _ _ s
  refine wpAny_noted ?_
  rw [compTurn_list]
  refine wpAny_bind (wpAny_standAt (wpAny_bind (wpAny_mono (turn n s hI) (fun r s₁ h₁ => ?_) fun _ _ h' => h'.elim)))
  cases r with
  | none => exact wpAny_pure h₁
  | some v =>
    refine wpAny_bind (wpAny_mono h₁ (fun _ s₁' h₁' => ?_) fun _ _ h' => h'.elim)
    refine wpAny_bind (wpAny_mono h₁' (fun _ s₂ h₂ => wpAny_bind (wpAny_mono h₂ (fun ok s₃ h₃ => ?_) fun _ _ h' => h'.elim)) fun _ _ h' => h'.elim)
    cases ok with
    | false => exact wpAny_pure ⟨rfl, h₃⟩
    | true =>
      exact wpAny_bind (wpAny_bind (wpAny_mono h₃ (fun x s₄ h₄ => wpAny_bind (wpAny_mono h₄ (fun _ s₅ h₅ => wpAny_pure (wpAny_pure ⟨rfl, h₅⟩)) fun _ _ h' => h'.elim)) fun _ _ h' => h'.elim))

section
variable {X : Cx} {elt tg iter : Expr} {ifs : List Expr} {scope : Scope} {pos : Pos} {N' : List Str} {cap : List (Option Nat)} {wi : TI} {g : TG} {tc : TT} {te : TE}

/-- the block's invariant at its start -/
theorem inv_comp {pins : List (Addr × Obj)} {σ : St} {H : Hp} {s s4 : Shared} {cl : List (Str × Addr)} {C : Addr} {fp : List Addr} {m : Str → Option Value} (S : CompScope X.N X.env.scope scope N' cap) (I : Inv X pins σ H s)
    (hcl : ∀ x c, cl.lookup x = some c → X.env.cells.lookup x = some c) (hfr : ∀ x, (x, NameKind.free) ∈ scope.names → ∃ c, cl.lookup x = some c) (hC : s.heap.objs.size ≤ C) (hos : s4.os = s.os) (hg : s4.gens = s.gens)
    (hk : ∀ b o, s.heap.get? b = some o → s4.heap.get? b = some o) (hn : s4.heap.Ns C m) (hfp : ∀ b ∈ fp, FpOk X pins H b) (hfz : ∀ b ∈ fp, b < s.heap.objs.size) :
    Inv (cxComp X scope N' cl C s H fp) [] (capSt cap σ) H s4 := by
  refine ⟨⟨I.ok.mod, S.kind, I.ok.glob, I.ok.blt, hC, fun x y c h1 h2 => I.ok.inj x y c (hcl x c h1) (hcl y c h2), fun x hx => ?_, fun x c hx _ => absurd hx (by show ¬ (false = true); decide), I.ok.hd, I.ok.frames, .inl rfl,
      fun b hb => ⟨Nat.ne_of_lt (Nat.lt_of_lt_of_le (hfz b hb) hC), fun x c e => (hfp b hb).2.2.2.2.1 x c (hcl x c e)⟩, I.bs, Nat.le_trans I.ok.bsz I.sz, fun b o e hb => ?_, fun b hb hf => ?_, I.stack, I.stkFree⟩,
    hos, by rw [hg]; exact I.bare, Un.kept hk, ⟨m, hn, fun i x v h1 h2 h3 => ?_⟩, fun x c e => ?_, I.hok.fresh hC, fun x c e => I.freeC x c (hcl x c e), fun p hp => absurd (show p ∈ ([] : List (Addr × Obj)) from hp) (by simp), I.hok.kept hk, ?_⟩
  · have q : (x, NameKind.free) ∈ scope.names := by
      rcases hx with hx | hx
      · exact relabel_has S.nocell hx (.inl rfl)
      · exact relabel_has S.nocell hx (.inr rfl)
    exact hfr x q
  · rcases (hfp b hb).2.2.2.1 with z | z
    · exact I.ok.noex b o e z
    · exact absurd (Nat.lt_of_lt_of_le (Heap.lt_size e) (Nat.le_trans I.ok.bsz z)) (Nat.lt_irrefl _)
  · rcases List.mem_cons.mp (I.stkSub b hf) with z | z
    · exact (hfp b hb).2.1 z
    · exact (hfp b hb).2.2.1 z
  · have h2 : (cap.map fun o => o.bind fun i => (σ[i]?).join)[i]? = some (some v) := h2
    rw [List.getElem?_map] at h2
    cases ec : cap[i]? with
    | none => rw [ec] at h2; cases h2
    | some o =>
      rw [ec] at h2
      have h2 : (o.bind fun i => (σ[i]?).join) = some v := by simpa using h2
      cases o with
      | none => cases h2
      | some j =>
        have h2 : (σ[j]?).join = some v := h2
        have hj : σ[j]? = some (some v) := by
          cases ej : σ[j]? with
          | none => rw [ej] at h2; cases h2
          | some y => rw [ej] at h2; exact congrArg some h2
        have hz : (cap.zip N')[i]? = some (some j, x) := by rw [List.getElem?_zip_eq_some]; exact ⟨ec, h1⟩
        obtain ⟨q1, q2⟩ := S.at_ _ (List.mem_of_getElem? hz) j rfl
        obtain ⟨mx, hnx, hl⟩ := I.loc
        have kc := S.free _ q2 rfl
        obtain ⟨u, r, lk⟩ := hl j x v q1 hj (.inr (.inl kc))
        refine ⟨u, r, ?_⟩
        rcases lk with ⟨k1, _⟩ | ⟨_, c, e, z⟩
        · have : X.env.scope.names.lookup x = some .local := k1
          rw [kc] at this; cases this
        · obtain ⟨c', hc'⟩ := hfr x q2
          have := hcl x c' hc'
          rw [e] at this; cases this
          have kx : (compEnvC scope cl C X.env).kindOf x = some .cell ∨ (compEnvC scope cl C X.env).kindOf x = some .free ∨ (compEnvC scope cl C X.env).kindOf x = some .local := by
            rcases h3 with z | z | z
            · exact .inr (.inr z)
            · exact .inl z
            · exact .inr (.inl z)
          rcases kx with kx | kx | kx
          · exact .inr ⟨.inl kx, c, hc', let ⟨o, ho, hd⟩ := z; ⟨o, hk c o ho, hd⟩⟩
          · exact .inr ⟨.inr kx, c, hc', let ⟨o, ho, hd⟩ := z; ⟨o, hk c o ho, hd⟩⟩
          · exfalso
            have kl : (relabel scope X.env).names.lookup x = some .local := kx
            have ml := PySem.mem_of_lookup kl
            obtain ⟨⟨n, k⟩, hm, e2⟩ := List.mem_map.mp ml
            have e2 : (if (k == NameKind.free && X.env.scope.kind == .function && X.env.kindOf n == some .cell) = true then (n, NameKind.cell) else (n, k)) = (x, NameKind.local) := e2
            split at e2
            · cases e2
            · cases e2
              have a1 := S.names _ hm rfl
              have a3 : scope.names.lookup x = some .free := S.fst _ q2 rfl
              have a1 : scope.names.lookup x = some .local := a1
              rw [a3] at a1; cases a1
  · obtain ⟨v, o, ho, hd⟩ := I.cell x c (hcl x c e)
    exact ⟨v, o, hk c o ho, hd⟩
  · show (capSt cap σ).length = N'.length
    unfold capSt
    rw [List.length_map, S.len]
/-- the block run: from the iterator to the list -/
theorem comp_block {pins : List (Addr × Obj)} {σ : St} {H2 : Hp} {s2 : Shared} {it : Addr} {fp : List Addr} {tn : Nat → Heap → Prop} {J : It} {cl : List (Str × Addr)} {RR : Value → Addr → Result → Shared → Prop} {E : Value → Shared → Prop} (hcalm : X.calm = true) (S : CompScope X.N X.env.scope scope N' cap)
    (hg : ∀ (C : Addr) (s0 : Shared) (H0 : Hp), PG (cxComp X scope N' cl C s0 H0 fp) tg g) (ht : ∀ (C : Addr) (s0 : Shared) (H0 : Hp), PIfs (cxComp X scope N' cl C s0 H0 fp) ifs tc) (he : ∀ (C : Addr) (s0 : Shared) (H0 : Hp), PE (cxComp X scope N' cl C s0 H0 fp) elt te)
    (I2 : Inv X pins σ H2 s2) (T : Turn X.prog X.w X.K tg J fp it tn) (st2 : tn 0 s2.heap) (f2 : ∀ b ∈ fp, FpOk X pins H2 b)
    (hcl : ∀ x c, cl.lookup x = some c → X.env.cells.lookup x = some c) (hfr : ∀ x, (x, NameKind.free) ∈ scope.names → ∃ c, cl.lookup x = some c)
    {P : V → Hp → Prop}
    (w : ∀ D, H2 D = none → ∃ W : Nat → Nat → St → Hp → Prop, (∃ m, W 0 m (capSt cap σ) (upd H2 D (.lst []))) ∧
      ∀ i m σ' H', W i m σ' H' → (J.stop i H' ∧ P (.ref D) H') ∨ (J.go i H' ∧ ∃ N : St → Hp → Prop, (∀ σ2 H2, N σ2 H2 → ∃ m', m' < m ∧ W (i + 1) m' σ2 H2) ∧
        ∀ x H2, J.yld i H' x H2 → g x σ' H2 fun σ3 H3 => tc σ3 H3 fun b H4 => if b = true then te σ3 H4 fun y H5 => ∃ ys, H5 D = some (.lst ys) ∧ ys.length < sizeLine ∧ N σ3 (upd H5 D (.lst (ys ++ [y]))) else N σ3 H4))
    (hRR : ∀ D C H' s' m', X.env.locals ≠ C → X.s₀.heap.objs.size ≤ C → (∀ x c, X.env.cells.lookup x = some c → c ≠ C) → (∀ p ∈ X.pn ++ pins, p.1 ≠ C) → H' C = none → s'.heap.Ns C m' → Inv X pins σ H' s' → P (.ref D) H' → RR (.ref D) C (.ok .next) s') :
    wpAny (model X.prog X.w) X.A (newList []) (fun acc s₃ => wpAny (model X.prog X.w) X.A (newFunctionEnv scope X.env.globals cl [] X.env.qual none .none (some X.env)) (fun cenv s₄ =>
      codeAny (model X.prog X.w) X.A (.compStart (.ListComp elt [⟨tg, iter, ifs, 0⟩] scope pos) 0 (.ref it) acc { cenv with scope := relabel scope X.env }) (RR acc cenv.locals) s₄) E s₃) E s2 := by
  refine wpAny_newObj_type ?_ (by show 0 ≤ sizeLine; decide)
  have I3 : Inv X pins σ (upd H2 s2.heap.objs.size (.lst [])) { s2 with heap := s2.heap.push { cls := .type "list", data := .seq ([] : List Value).toArray } } := I2.lnew (t' := s2.toks) .nil (by show 0 ≤ sizeLine; decide)
  have k3 : ∀ b o, s2.heap.get? b = some o → (s2.heap.push { cls := .type "list", data := .seq ([] : List Value).toArray }).get? b = some o := fun b o e => Heap.get?_push_of_some _ e
  have z3 : (s2.heap.push { cls := .type "list", data := .seq ([] : List Value).toArray }).objs.size = s2.heap.objs.size + 1 := Heap.size_push ..
  have hD0 : H2 s2.heap.objs.size = none := I2.fresh
  generalize hs3 : ({ s2 with heap := s2.heap.push { cls := .type "list", data := .seq ([] : List Value).toArray } } : Shared) = s3 at I3 ⊢
  have eh3 : s3.heap = s2.heap.push { cls := .type "list", data := .seq ([] : List Value).toArray } := by rw [← hs3]
  have eo3 : s3.os = s2.os := by rw [← hs3]
  generalize hDD : s2.heap.objs.size = D at I3 hD0 z3 ⊢
  rw [← eh3] at k3 z3
  have live : ∀ b ∈ fp, ∃ o, s2.heap.get? b = some o ∧ ∀ v, o.data ≠ .cell v := fun b hb => T.obj 0 _ st2 b hb
  have ltD : ∀ b ∈ fp, b < D := fun b hb => by obtain ⟨o, e, _⟩ := live b hb; rw [← hDD]; exact Heap.lt_size e
  have f3 : ∀ b ∈ fp, FpOk X pins (upd H2 D (.lst [])) b := fun b hb => ⟨by rw [upd_ne (Nat.ne_of_lt (ltD b hb))]; exact (f2 b hb).1, (f2 b hb).2⟩
  refine wpAny_newFunctionEnv S.nocell (by intro y hy; simp at hy) (fun h4 hn4 hs4 => ?_) S.kind
  have k4 : ∀ b o, s3.heap.get? b = some o → h4.get? b = some o := fun b o e => hs4.extBut b o (Nat.ne_of_lt (Heap.lt_size e)) (Heap.get?_push_of_some _ e)
  have st4 : tn 0 h4 := T.keep 0 _ _ st2 fun b _ o e => k4 b o (k3 b o e)
  have I4 : Inv (cxComp X scope N' cl s3.heap.objs.size s3 (upd H2 D (.lst [])) fp) [] (capSt cap σ) (upd H2 D (.lst [])) { s3 with heap := h4, toks := s3.toks + ([] : List (Str × Value)).length } :=
    inv_comp S I3 hcl hfr (Nat.le_refl _) rfl rfl k4 hn4 f3 fun b hb => by rw [z3]; exact Nat.lt_succ_of_lt (ltD b hb)
  obtain ⟨W, ⟨m0, w0⟩, turn⟩ := w D hD0
  have fpY : ∀ {H' : Hp}, (∀ b ∈ fp, H' b = none) → ∀ b ∈ fp, FpOk (cxComp X scope N' cl s3.heap.objs.size s3 (upd H2 D (.lst [])) fp) [] H' b := fun hn b hb =>
    ⟨hn b hb, Nat.ne_of_lt (by show b < s3.heap.objs.size; rw [z3]; exact Nat.lt_succ_of_lt (ltD b hb)), fun hf => I4.ok.exfs b hb hf, .inl hb, fun x c e => (I4.ok.exf b hb).2 x c e, fun p hp => absurd (show p ∈ ([] : List (Addr × Obj)) from hp) (by simp)⟩
  have loop : ∀ s₃ : Shared, s₃ = { s3 with heap := h4, toks := s3.toks + ([] : List (Str × Value)).length } →
      codeAny (model X.prog X.w) X.A (.compLoop (.ListComp elt [⟨tg, iter, ifs, 0⟩] scope pos) 0 (.ref it) (.ref D) (compEnvC scope cl s3.heap.objs.size X.env)) (RR (.ref D) s3.heap.objs.size) s₃ := by
    rintro s₃ rfl
    refine compLoop_go (fun n s' => ∃ i σ' H', Inv (cxComp X scope N' cl s3.heap.objs.size s3 (upd H2 D (.lst [])) fp) [] σ' H' s' ∧ tn i s'.heap ∧ (∀ b ∈ fp, H' b = none) ∧ W i n σ' H') ?_ m0
      ⟨0, capSt cap σ, upd H2 D (.lst []), I4, st4, fun b hb => (f3 b hb).1, w0⟩
    rintro n s5 ⟨i, σ5, H5, I5, st5, fr5, w5⟩
    rcases turn i n σ5 H5 w5 with ⟨stop, qn⟩ | ⟨go, N, hN, step⟩
    · refine thn (T.done (cxComp X scope N' cl s3.heap.objs.size s3 (upd H2 D (.lst [])) fp) rfl rfl rfl hcalm i [] s5 σ5 H5 _ I5 (fpY fr5) st5 stop) fun r s6 ⟨hr, I6⟩ => ?_
      subst hr
      obtain ⟨m6, hn6, _⟩ := I6.loc
      have un : Un (frs X.stack) fp (upd H2 D (.lst [])) H5 s3.heap s6.heap := I6.base
      refine hRR D s3.heap.objs.size H5 s6 m6 (Nat.ne_of_lt I3.lt) I3.sz (fun x c e => ?_) (fun p hp => ?_) I6.free hn6 ?_ qn
      · obtain ⟨v, q⟩ := I3.cell x c e
        exact Nat.ne_of_lt q.lt
      · exact Nat.ne_of_lt (Heap.lt_size (I3.pin p hp).1)
      · exact I3.call' I6.os un I6.hok I6.bare fun b hb => ⟨(f3 b hb).2.2.2.1, (f3 b hb).2.1, (f3 b hb).2.2.2.2.1, (f3 b hb).2.2.2.2.2⟩
    · refine thn (T.item (cxComp X scope N' cl s3.heap.objs.size s3 (upd H2 D (.lst [])) fp) rfl rfl rfl hcalm i [] s5 σ5 H5 (fun _ _ => False) I5 (fpY fr5) st5 go) fun r s6 ⟨u, hr, h6⟩ => ?_
      subst hr
      refine thn h6 fun _ s7 ⟨x, H7, I7, r7, y7, st7, fr7⟩ => ?_
      have I7' := I7.pinned (fpY fr7) (T.obj _ _ st7)
      refine thn (hg _ _ _ _ s7 σ5 H7 x u _ I7' r7 (step x H7 y7)) fun _ s8 ⟨σ8, H8, I8, q8⟩ => ?_
      refine thn (ht _ _ _ _ s8 σ8 H8 _ I8 q8) fun b s9 ⟨H9, I9, q9⟩ => ?_
      have again : ∀ {σ9 : St} {H9 : Hp} {s9 : Shared}, Inv (cxComp X scope N' cl s3.heap.objs.size s3 (upd H2 D (.lst [])) fp) ([] ++ pinsAt fp s7.heap) σ9 H9 s9 → N σ9 H9 → ∃ m, m < n ∧ ∃ i σ' H', Inv (cxComp X scope N' cl s3.heap.objs.size s3 (upd H2 D (.lst [])) fp) [] σ' H' s9 ∧ tn i s9.heap ∧ (∀ b ∈ fp, H' b = none) ∧ W i m σ' H' := fun {σ9 H9 s9} I9 n9 => by
        obtain ⟨m', hm, w9⟩ := hN σ9 H9 n9
        refine ⟨m', hm, i + 1, σ9, H9, I9.unpinned, T.keep _ _ _ st7 fun b hb o e => (I9.pin (b, o) (List.mem_append_right _ (List.mem_append_right _ (mem_pinsAt hb e)))).1, fun b hb => ?_, w9⟩
        obtain ⟨o, e, d⟩ := T.obj _ _ st7 b hb
        exact (I9.pin (b, o) (List.mem_append_right _ (List.mem_append_right _ (mem_pinsAt hb e)))).2.1
      cases b with
      | false =>
        rw [if_neg (by decide)] at q9 ⊢
        exact again I9 q9
      | true =>
        rw [if_pos rfl] at q9 ⊢
        refine thn (he _ _ _ _ s9 σ8 H9 _ I9 q9) fun yv s10 ⟨y, H10, I10, r10, ys, hD10, hz10, q10⟩ => ?_
        refine thn (mt_append _ s10 σ8 H10 (.ref D) [y] (.ref D) [yv] (fun _ H' => N σ8 H') I10 rfl (.cons r10 .nil) ⟨D, ys, y, rfl, rfl, hD10, hz10, q10⟩) fun _ s11 ⟨_, H11, I11, _, q11⟩ => ?_
        exact again I11 q11
  exact codeAny_compStart_list (loop _ rfl) (T.self _ 0 _ _ _ st4 (loop _ rfl))

theorem pe_comp (hcalm : X.calm = true) (S : CompScope X.N X.env.scope scope N' cap) (hi : PI X tg iter wi)
    (hg : ∀ (cl : List (Str × Addr)) (fp : List Addr) (C : Addr) (s0 : Shared) (H0 : Hp), PG (cxComp X scope N' cl C s0 H0 fp) tg g) (ht : ∀ (cl : List (Str × Addr)) (fp : List Addr) (C : Addr) (s0 : Shared) (H0 : Hp), PIfs (cxComp X scope N' cl C s0 H0 fp) ifs tc)
    (he : ∀ (cl : List (Str × Addr)) (fp : List Addr) (C : Addr) (s0 : Shared) (H0 : Hp), PE (cxComp X scope N' cl C s0 H0 fp) elt te) (hs : ∀ x, foldedSetIterable iter X.env x = pure x := by intro _; rfl) :
    PE X (.ListComp elt [⟨tg, iter, ifs, 0⟩] scope pos) (tComp wi cap g tc te) := by
  intro pins s σ H Q I h
  obtain ⟨cl, ecl, hcl, hfr⟩ := closureFor_ex (scope := scope) (env := X.env) fun x hx hf => I.ok.has x.1 (.inl (S.free x hx hf))
  rw [eval_ListComp]
  refine wpAny_comprehension_free (use := none) rfl hs ecl S.kind S.names (thn (hi pins s σ H _ I h) fun v s1 h1 => thn h1 fun itv s2 h2 => ?_)
  obtain ⟨it, fp, tn, J, H2, e, I2, T, st2, f2, w⟩ := h2
  subst e
  refine comp_block (RR := fun acc C => compPost (model X.prog X.w) X.A X.xe none (EP X pins σ Q) acc C) hcalm S (hg cl fp) (ht cl fp) (he cl fp) I2 T st2 f2 hcl hfr (P := Q) w ?_
  intro D C H' s' m' hL hz hcc hpp hC hn I' q
  refine ⟨m', hn, fun h' hs' => ⟨.ref D, H', I'.turned (t' := s'.toks) (fun b o hb e => (hs'.2 b hb).trans e) hC (Ne.symm hL) (.inr hz) hcc hpp, rfl, q⟩⟩

/-- name = [..]: the name is stored ahead of the block's names being let go -/
theorem ps_comp {i : Nat} {y : Str} {py spos : Pos} (hcalm : X.calm = true) (hN : X.N.Nodup) (hy : X.N[i]? = some y) (hx : Loc X.env.scope y) (S : CompScope X.N X.env.scope scope N' cap) (hi : PI X tg iter wi)
    (hg : ∀ (cl : List (Str × Addr)) (fp : List Addr) (C : Addr) (s0 : Shared) (H0 : Hp), PG (cxComp X scope N' cl C s0 H0 fp) tg g) (ht : ∀ (cl : List (Str × Addr)) (fp : List Addr) (C : Addr) (s0 : Shared) (H0 : Hp), PIfs (cxComp X scope N' cl C s0 H0 fp) ifs tc)
    (he : ∀ (cl : List (Str × Addr)) (fp : List Addr) (C : Addr) (s0 : Shared) (H0 : Hp), PE (cxComp X scope N' cl C s0 H0 fp) elt te) (hsw : swapsWith (.ListComp elt [⟨tg, iter, ifs, 0⟩] scope pos) (some (.Name y py)) spos.line X.env = pure true := by rfl)
    (hs : ∀ x, foldedSetIterable iter X.env x = pure x := by intro _; rfl) (hf : X.fn y = true ∨ X.env.scope.names.lookup y = some .local := by first | exact .inl rfl | exact .inr rfl | assumption) :
    PS X (.Assign [.Name y py] (.ListComp elt [⟨tg, iter, ifs, 0⟩] scope pos) spos) (tAsg (tComp wi cap g tc te) (gName i)) := by
  intro pins s σ H D I h
  obtain ⟨cl, ecl, hcl, hfr⟩ := closureFor_ex (scope := scope) (env := X.env) fun x hx hf => I.ok.has x.1 (.inl (S.free x hx hf))
  rw [exec_Assign_Name_used _ _ _ _ hsw]
  refine wpAny_bind (wpAny_standAt (wpAny_bind ?_))
  show wpAny _ X.A (do let _ ← comprehension (.ListComp elt [⟨tg, iter, ifs, 0⟩] scope pos) scope X.env _ (newList []) false (eval iter X.env) (some (assign (.Name y py) X.env))) _ _ s
  refine wpAny_bind (wpAny_mono (wpAny_comprehension_free (use := some (assign (.Name y py) X.env)) (Q := fun _ s' => SP X pins D .next s') rfl hs ecl S.kind S.names
    (thn (hi pins s σ H _ I h) fun v s1 h1 => thn h1 fun itv s2 h2 => ?_)) (fun _ s' hq => wpAny_pure (wpAny_pure hq)) fun _ _ e => e)
  obtain ⟨it, fp, tn, J, H2, e, I2, T, st2, f2, w⟩ := h2
  subst e
  refine comp_block (RR := fun acc C => compPost (model X.prog X.w) X.A X.xe (some (assign (.Name y py) X.env)) (fun _ s' => SP X pins D .next s') acc C) hcalm S (hg cl fp) (ht cl fp) (he cl fp) I2 T st2 f2 hcl hfr (P := fun v H' => D.nx (σ.set i (some v)) H') w ?_
  intro Dd C H' s' m' hL hz hcc hpp hC hn I' q
  show wpAny _ X.A (assign (.Name y py) X.env (.ref Dd)) _ _ s'
  refine wpAny_assign_Name (store_ok2 (v := .ref Dd) I' hN hy hx rfl (fun s'' I'' hsb => ?_) hf)
  obtain ⟨a, sb, ha⟩ := hsb
  have hCa : C ≠ a := by
    rcases ha with z | z
    · rw [z]; exact Ne.symm hL
    · exact Ne.symm (hcc y a z)
  refine ⟨m', hn.sameBut sb hCa, fun h' hs' => ?_⟩
  exact ⟨_, H', I''.turned (t' := s''.toks) (fun b o hb e => (hs'.2 b hb).trans e) hC (Ne.symm hL) (.inr hz) hcc hpp, q⟩
end
end L2
set_option Elab.async false
set_option linter.all false
set_option maxRecDepth 100000
set_option maxHeartbeats 4000000
namespace L2
open PySem PySem.Spec PyProof.Rows
open AutoSeq1 (wpAny_loadPart')

/-! ### several untracked records have turned -/
theorem Inv.turnedL {X : Cx} {pins : List (Addr × Obj)} {σ : St} {H : Hp} {s : Shared} {h' : Heap} {ch : List Addr} {t' : Nat} (I : Inv X pins σ H s) (k : ∀ b o, b ∉ ch → s.heap.get? b = some o → h'.get? b = some o) (hf : ∀ b ∈ ch, FpOk X pins H b) :
    Inv X pins σ H { s with heap := h', toks := t' } := by
  have nit : ∀ b u, H b = some u → b ∉ ch := fun b u e z => by rw [(hf b z).1] at e; cases e
  refine I.step (g' := s.gens) (d' := s.drawn) (ch := ch) (fun b hb => ⟨(hf b hb).2.2.2.1, (hf b hb).2.1, (hf b hb).2.2.2.2.1, (hf b hb).2.2.2.2.2⟩) (fun b o _ _ hc e _ => k b o hc e) (fun b o _ _ hc e _ => ⟨o.slots, k b o hc e⟩) (fun _ _ _ _ n => n)
    (fun b o hc e => ⟨o, k b o hc e⟩) (fun _ _ e => e) (fun _ _ _ e => e) (fun b ps e => ⟨#[], by rw [e]; simp⟩) (fun m hm => ?_) (fun b u e => ?_) I.bare
  · obtain ⟨o, es, ep, ho, r⟩ := hm
    exact ⟨o, es, ep, k _ o (fun z => (hf _ z).2.1 rfl) ho, r⟩
  · refine (I.hok b u e).stay (fun c v hc q => k c v ?_ q) (fun _ q => q) fun _ _ q => q
    rcases hc with z | z
    · rw [z]; exact nit b u e
    · exact nit c _ z

/-! ### walking a list or a tuple, by one word: b says which -/
def SqI (b : Bool) (h : Heap) (it a : Addr) (i : Nat) : Prop := match b with | true => h.IsListIter it a i | false => h.IsTupleIter it a i
def SqO (b : Bool) (h : Heap) (a : Addr) (its : Array Value) : Prop := match b with | true => h.IsList a its | false => h.IsTuple a its
def SqB (K : PySem.W.Frag) (b : Bool) (H : Hp) (a : Addr) (xs : List V) : Prop := match b with | true => SqL K H a xs | false => SqT K H a xs
def itObj (b : Bool) (a : Addr) : Obj := match b with
  | true => { cls := .type "list_iterator", data := .fields #[.ref a, .int 0 0] }
  | false => { cls := .type "tuple_iterator", data := .fields #[.ref a, .int 0 0] }
theorem SqI.at {b : Bool} {h h' : Heap} {it a : Addr} {i : Nat} (x : SqI b h it a i) (k : ∀ o, h.get? it = some o → h'.get? it = some o) : SqI b h' it a i := by
  cases b <;> (obtain ⟨o, e, r⟩ := x; exact ⟨o, k o e, r⟩)
theorem SqO.at {b : Bool} {h h' : Heap} {a : Addr} {its : Array Value} (x : SqO b h a its) (k : ∀ o, h.get? a = some o → h'.get? a = some o) : SqO b h' a its := by
  cases b <;> (obtain ⟨o, e, r⟩ := x; exact ⟨o, k o e, r⟩)
theorem SqI.obj {b : Bool} {h : Heap} {it a : Addr} {i : Nat} (x : SqI b h it a i) : ∃ o, h.get? it = some o ∧ ∀ v, o.data ≠ .cell v := by
  cases b <;> (obtain ⟨o, e, _, d⟩ := x; exact ⟨o, e, fun v z => by rw [d] at z; cases z⟩)
theorem SqI.lt {b : Bool} {h : Heap} {it a : Addr} {i : Nat} (x : SqI b h it a i) : it < h.objs.size := by obtain ⟨o, e, _⟩ := x.obj; exact Heap.lt_size e
theorem SqO.lt {b : Bool} {h : Heap} {a : Addr} {its : Array Value} (x : SqO b h a its) : a < h.objs.size := by
  cases b <;> (obtain ⟨o, e, _⟩ := x; exact Heap.lt_size e)
theorem Inv.sqb {X : Cx} {pins : List (Addr × Obj)} {σ : St} {H : Hp} {s : Shared} {b : Bool} {a : Addr} {xs : List V} (I : Inv X pins σ H s) (h : SqB X.K b H a xs) : ∃ its : List Value, Vals xs its ∧ SqO b s.heap a its.toArray ∧ xs.length ≤ sizeLine := by
  cases b with
  | true => obtain ⟨its, rv, p, hz⟩ := I.list h; exact ⟨its, rv, p.isList, hz⟩
  | false => obtain ⟨its, rv, p, hz⟩ := I.tuple h; exact ⟨its, rv, p, hz⟩
theorem Inv.sqb_inj {X : Cx} {pins : List (Addr × Obj)} {σ : St} {H : Hp} {s : Shared} {b : Bool} {a : Addr} {xs ys : List V} (I : Inv X pins σ H s) (h : SqB X.K b H a xs) (h' : SqB X.K b H a ys) : xs = ys := by
  cases b with
  | true => exact I.list_inj h h'
  | false => exact I.tuple_inj h h'
theorem SqB.same {K : PySem.W.Frag} {b : Bool} {H H' : Hp} {a : Addr} {xs : List V} (e : Same H H') (h : SqB K b H a xs) : SqB K b H' a xs := by
  cases b with
  | true => exact e.seq h
  | false =>
    rcases h with (h | ⟨o, h⟩) | h
    · exact .inl (.inl (e _ _ h))
    · exact .inl (.inr ⟨o, e _ _ h⟩)
    · exact .inr h

section
variable {prog : Program} {w : World} {A : Around} {E : Value → Shared → Prop} {s : Shared}
theorem iter_sq {b : Bool} {a : Addr} {its : Array Value} {Q : Value → Shared → Prop} (h : SqO b s.heap a its) (q : Q (.ref s.heap.objs.size) { s with heap := s.heap.push (itObj b a) }) : wpAny (model prog w) A (pyIter (.ref a)) Q E s := by
  cases b with
  | true => exact wpAny_pyIter_list h q
  | false => exact wpAny_pyIter_tuple h q
theorem itObj_is {b : Bool} {h : Heap} {it a : Addr} (e : h.get? it = some (itObj b a)) : SqI b h it a 0 := by
  cases b <;> exact ⟨_, e, rfl, rfl⟩

theorem next_sq {b : Bool} {it a : Addr} {i : Nat} {its : Array Value} {x : Value} {Q : Value → Shared → Prop} (hit : SqI b s.heap it a i) (hl : SqO b s.heap a its) (hx : its[i]? = some x)
    (hQ : ∀ h', SqI b h' it a (i + 1) → Heap.SameBut it s.heap h' → Q x { s with heap := h' }) : wpAny (model prog w) A (Builtin.SmallTypes.nextOf (.ref it)) Q E s := by
  cases b with
  | true => exact wpAny_nextOf_list_item hit hl hx hQ
  | false =>
    have hit : s.heap.IsTupleIter it a i := hit
    obtain ⟨o, ho, hc, hd⟩ := id hit
    obtain ⟨ol, hol, _, nl, hdl⟩ := hl
    unfold Builtin.SmallTypes.nextOf
    refine wpAny_bind (wpAny_callSpecial?_slot (name := Str.ofString "__next__") hit.typeIs F.slot_tuple_iterator_next (wpAny_call_entry F.slot_tuple_iterator_next hit.typeIs F.entry_tuple_iterator_next ?_ (F.args_tuple_iterator_next_1 _)))
    show wpAny _ _ (field (.ref it) 0 >>= _) _ _ s
    refine wpAny_bind (wpAny_field ho hd (x := .ref a) rfl ?_)
    show wpAny _ _ (if (Value.ref a == Value.none) = true then _ else _) _ _ s
    rw [if_neg (show ¬ ((Value.ref a == Value.none) = true) from Bool.false_ne_true)]
    show wpAny _ _ (field (.ref it) 1 >>= _) _ _ s
    refine wpAny_bind (wpAny_field ho hd (x := .int i 0) rfl ?_)
    show wpAny _ _ (seqItems? (.ref a) >>= _) _ _ s
    refine wpAny_bind (wpAny_seqItems hol hdl ?_)
    simp only [Int.toNat_natCast, hx]
    refine wpAny_bind (wpAny_setField ho hd (by simp) (wpAny_pure ⟨x, rfl, wpAny_pure (hQ _ ?_ (Heap.SameBut.update ..))⟩))
    exact ⟨_, Heap.get?_update_self _ ho (Obj.isFreed_of_fields (Obj.data_mapFields hd _)), (Obj.cls_mapFields ..).trans hc, by rw [Obj.data_mapFields hd]; simp [rawInt]⟩
theorem end_sq {b : Bool} {it a : Addr} {i : Nat} {its : Array Value} {Q : Value → Shared → Prop} (hh : A.handled = none) (hit : SqI b s.heap it a i) (hl : SqO b s.heap a its) (hx : its[i]? = none)
    (hE : ∀ h' e, Heap.ExtBut it s.heap h' → (∃ o, h'.get? e = some o ∧ o.cls = .type "StopIteration") → E (.ref e) { s with heap := h' }) : wpAny (model prog w) A (Builtin.SmallTypes.nextOf (.ref it)) Q E s := by
  cases b with
  | true => exact wpAny_nextOf_list_end hh hit hl hx hE
  | false =>
    have hit : s.heap.IsTupleIter it a i := hit
    obtain ⟨o, ho, hc, hd⟩ := id hit
    obtain ⟨ol, hol, _, nl, hdl⟩ := hl
    unfold Builtin.SmallTypes.nextOf
    refine wpAny_bind (wpAny_callSpecial?_slot (name := Str.ofString "__next__") hit.typeIs F.slot_tuple_iterator_next (wpAny_call_entry F.slot_tuple_iterator_next hit.typeIs F.entry_tuple_iterator_next ?_ (F.args_tuple_iterator_next_1 _)))
    show wpAny _ _ (field (.ref it) 0 >>= _) _ _ s
    refine wpAny_bind (wpAny_field ho hd (x := .ref a) rfl ?_)
    show wpAny _ _ (if (Value.ref a == Value.none) = true then _ else _) _ _ s
    rw [if_neg (show ¬ ((Value.ref a == Value.none) = true) from Bool.false_ne_true)]
    show wpAny _ _ (field (.ref it) 1 >>= _) _ _ s
    refine wpAny_bind (wpAny_field ho hd (x := .int i 0) rfl ?_)
    show wpAny _ _ (seqItems? (.ref a) >>= _) _ _ s
    refine wpAny_bind (wpAny_seqItems hol hdl ?_)
    simp only [Int.toNat_natCast, hx]
    refine wpAny_bind (wpAny_rule (wpAny_bind (wpAny_setField ho hd (by simp) ?_)))
    show wpAny _ _ (newExc (.type "StopIteration") [] >>= _) _ _ _
    refine wpAny_bind ?_
    simp only [newExc, newTuple]
    refine wpAny_bind (wpAny_newObj_type ?_ (by size_fits))
    refine wpAny_bind (m := firstArgMember _ _) (wpAny_of_eq (a := Value.none) (by first | rfl | (simp only [firstArgMember]; rfl)) ?_)
    refine wpAny_newObj_type ?_ (by size_fits)
    simp only [raiseNew]
    refine wpAny_bind (wpAny_handled ?_)
    first | rw [show A.in1.handled = none from hh] | rw [hh]
    refine wpAny_bind (wpAny_pure (wpAny_throw ?_))
    exact hE _ _ (((Heap.SameBut.update ..).extBut.push _).push _) ⟨_, Heap.get?_push_size _ rfl, rfl⟩
/-- the walk as the library's enumerate asks it -/
theorem draws_sq (hh : A.handled = none) (b : Bool) (it a : Addr) (hne : a ≠ it) (its : Array Value) : Draws prog w A it [it, a] its.size (fun i v => its[i]? = some v) (fun i h => SqI b h it a i ∧ SqO b h a its) where
  live := fun _ _ st => let ⟨o, e, _⟩ := st.1.obj; ⟨o, e⟩
  frame := fun _ _ _ st k => ⟨st.1.at fun o e => k it (by simp) o e, st.2.at fun o e => k a (by simp) o e⟩
  item := fun i s Q E hi st hQ => next_sq st.1 st.2 (x := its[i]) (by simp [hi]) fun h' q sb => hQ _ h' s.toks (by simp [hi]) ⟨q, st.2.at fun o e => (sb.2 a hne).trans e⟩ sb
  done := fun s Q E st hE => end_sq hh st.1 st.2 (by simp) hE

theorem new_enumT (l : Addr) (items : Array Value) (n : Nat) (dct : Option Addr) (sl : Array (Option Value)) :
    Meets (Builtin.«enumerate.__new__» ⟨[.type "enumerate", .ref l], []⟩) (fun _ R s => s.heap.get? l = some { cls := .type "tuple", dict := dct, data := .seq items n, slots := sl } ∧
      R (.ok (.ret (.ref (s.heap.push (itObj false l)).objs.size)))
        { s with heap := (s.heap.push (itObj false l)).push { cls := .type "enumerate", data := .fields #[.none, .bool false, .ref s.heap.objs.size, rawInt 0, .none, .none] } }) :=
  .of_wp fun prog w A R s h => by
    obtain ⟨hp, g, d, tk, os⟩ := s; obtain ⟨hl, h⟩ := h
    have hsub := sub_enumerate
    have hL : Heap.IsTuple (Shared.heap ⟨hp, g, d, tk, os⟩) l items := ⟨_, hl, rfl, n, rfl⟩
    wp_walk using wpAny_loadPart' hl
    refine wpAny_stack_any fun st => wpAny_pure ?_
    split
    · rename_i c _ _ _ _ _
      cases (c == Value.type "enumerate")
      · (wp_walk using wpAny_loadPart' hl, wpAny_pyIter_tuple hL); exact ⟨_, rfl, h⟩
      · (wp_walk using wpAny_loadPart' hl, wpAny_pyIter_tuple hL); exact ⟨_, rfl, h⟩
    · (wp_walk using wpAny_loadPart' hl, wpAny_pyIter_tuple hL); exact ⟨_, rfl, h⟩
theorem call_enum {b : Bool} {l : Addr} {items : Array Value} {Q : Value → Shared → Prop} (hL : SqO b s.heap l items)
    (h : ∀ h', IsEnum h' (s.heap.objs.size + 1) s.heap.objs.size 0 .none → SqI b h' s.heap.objs.size l 0 → h'.objs.size = s.heap.objs.size + 2 → (∀ b o, s.heap.get? b = some o → h'.get? b = some o) → Q (.ref (s.heap.objs.size + 1)) { s with heap := h' }) :
    wpAny (model prog w) A (call (.type "enumerate") [.ref l]) Q E s := by
  cases b with
  | true => exact call_enumerate_list hL h
  | false =>
    obtain ⟨⟨c, dct, dt, sl⟩, hl, hc, n, hd⟩ := hL
    replace hc : c = .type "tuple" := hc
    replace hd : dt = .seq items n := hd
    subst hc hd
    refine callType_new F.called_enumerate (by decide) (F.typeCall_enumerate_1 _) (F.newCall_enumerate_1 _) (fun obj => F.args_object_init_2 obj _) F.entry_enumerate_new (new_enumT l items n dct sl) ⟨hl, ?_⟩
    have hz : (s.heap.push (itObj false l)).objs.size = s.heap.objs.size + 1 := Heap.size_push ..
    show _ ∧ _
    rw [hz]
    have he := Heap.get?_push_size (s.heap.push (itObj false l)) (o := { cls := .type "enumerate", data := .fields #[.none, .bool false, .ref s.heap.objs.size, rawInt 0, .none, .none] }) rfl
    rw [hz] at he
    have hi : (s.heap.push (itObj false l)).get? s.heap.objs.size = some (itObj false l) := Heap.get?_push_size _ rfl
    exact ⟨⟨_, he, rfl⟩, h _ he (itObj_is (Heap.get?_push_of_some _ hi)) (by rw [Heap.size_push, hz]) fun b o x => Heap.get?_push_of_some _ (Heap.get?_push_of_some _ x)⟩
theorem enum_end {b : Bool} {e it a : Addr} {i : Nat} {j : Int} {its : Array Value} {old : Value} {Q : Option Value → Shared → Prop} (hh : A.handled = none) (he : IsEnum s.heap e it j old) (hit : SqI b s.heap it a i) (hl : SqO b s.heap a its) (hx : its[i]? = none)
    (hQ : ∀ h', Heap.ExtBut it s.heap h' → Q none { s with heap := h' }) : wpAny (model prog w) A (pyNext (.ref e)) Q E s := by
  have hT : s.TypeIs (.ref e) "enumerate" := ⟨_, he, rfl⟩
  unfold pyNext
  refine wpAny_bind (wpAny_attempt (wpAny_callSpecial?_slot (name := Str.ofString "__next__") hT F.slot_enumerate_next (wpAny_call_entry F.slot_enumerate_next hT F.entry_enumerate_next ?_ (F.args_enumerate_next_1 _))))
  show wpAny _ _ (field (.ref e) 2 >>= _) _ _ _
  refine wpAny_bind (wpAny_field he rfl (x := .ref it) rfl (wpAny_bind (end_sq hh hit hl hx fun h' x he' hx' => ?_)))
  obtain ⟨o, ho, hc⟩ := hx'
  exact wpAny_bind (wpAny_isInstance (T := "StopIteration") (b := true) ⟨o, ho, hc⟩ isSubtype_stop (wpAny_pure (hQ _ he')))
end

/-- (0, x), (1, y), ..: each a new pair -/
def Ite (K : PySem.W.Frag) (b : Bool) (a : Addr) : It :=
  ⟨fun i H => ∃ xs x, SqB K b H a xs ∧ xs[i]? = some x, fun i H x H' => ∃ t y, H t = none ∧ x = .ref t ∧ H' = upd H t (.tup [.int i, y]) ∧ ∀ xs, SqB K b H a xs → xs[i]? = some y, fun i H => ∃ xs, SqB K b H a xs ∧ xs.length ≤ i⟩
theorem turn_enum {P : Program} {w : World} {K : PySem.W.Frag} {es : List Expr} {k : Nat} {pos : Pos} (b : Bool) (a e it : Addr) (hei : e ≠ it) : Turn P w K (.Tuple es k pos) (Ite K b a) [e, it] e (fun i h => (∃ old, IsEnum h e it i old) ∧ SqI b h it a i) where
  mem := by simp
  obj := fun i h st c hc => by
    obtain ⟨⟨old, he⟩, hs⟩ := st
    rcases List.mem_cons.mp hc with rfl | hc
    · exact ⟨_, he, fun v z => by have z' : Data.fields _ = Data.cell v := z; cases z'⟩
    · rw [List.mem_singleton.mp hc]; exact hs.obj
  keep := fun i h h' st k => by
    obtain ⟨⟨old, he⟩, hs⟩ := st
    exact ⟨⟨old, k e (by simp) _ he⟩, hs.at fun o q => k it (by simp) o q⟩
  item := by
    intro X hP hw hK hc i pins s σ H E I hf st hg
    subst hP hw hK
    obtain ⟨xs, x, hq, hx⟩ := hg
    obtain ⟨⟨old, he⟩, hs⟩ := st
    obtain ⟨its, rv, p, hz⟩ := I.sqb hq
    obtain ⟨u, hu, ru⟩ := rv.get hx
    have hne : a ≠ it := fun z => by
      subst z
      have h1 := p; have h2 := hs
      cases b <;> (obtain ⟨o1, e1, c1, _⟩ := h1; obtain ⟨o2, e2, c2, _⟩ := h2; rw [e1] at e2; cases e2; rw [c1] at c2; exact absurd c2 (by simp))
    have hne2 : a ≠ e := fun z => by
      subst z
      have h1 := p
      cases b <;> (obtain ⟨o1, e1, c1, _⟩ := h1; rw [he] at e1; cases e1; exact absurd c1 (by simp))
    have hil : i < its.toArray.size := by
      have : i < its.length := (List.getElem?_eq_some_iff.mp hu).1
      simpa using this
    have hh : X.A.in1.handled = none := I.ok.hd hc
    refine wpAny_pyNext_enum_itemD (draws_sq hh b it a hne its.toArray) he ⟨hs, p⟩ hil hei (by simp [hei, Ne.symm hne2]) fun y h' tk hP' ho hst hT hsz hk => ?_
    have hy : y = u := by
      have : its.toArray[i]? = some u := by simpa using hu
      rw [this] at hP'; exact (Option.some.inj hP').symm
    subst hy
    refine ⟨.ref s.heap.objs.size, rfl, wpAny_letOwnedTupleGo_enum ho fun h2 he2 hs2 => ?_⟩
    have zn : H s.heap.objs.size = none := I.fresh
    have I1 : Inv X pins σ (upd H s.heap.objs.size (.tup [.int i, x])) { s with heap := s.heap.push { cls := .type "tuple", data := .seq #[.int i tk, y] }, toks := tk } :=
      I.laid (fun c o q => Heap.get?_push_of_some _ q) (Nat.le_refl _) ⟨by show 2 ≤ sizeLine; decide, [.int i tk, y], .cons ⟨tk, rfl⟩ (.cons ru .nil), _, Heap.get?_push_size _ rfl, rfl, 0, rfl⟩
    have lts : ∀ c ∈ [e, it], c < s.heap.objs.size := fun c hc => by
      rcases List.mem_cons.mp hc with rfl | hc
      · exact Heap.lt_size he
      · rw [List.mem_singleton.mp hc]; exact hs.lt
    have f1 : ∀ c ∈ [e, it], FpOk X pins (upd H s.heap.objs.size (.tup [.int i, x])) c := fun c hc => ⟨by rw [upd_ne (Nat.ne_of_lt (lts c hc))]; exact (hf c hc).1, (hf c hc).2⟩
    have I2 := I1.turnedL (h' := h2) (ch := [e, it]) (t' := tk + 1) (fun c o hc q => ?_) f1
    · refine ⟨.ref s.heap.objs.size, _, I2, rfl, ⟨s.heap.objs.size, x, zn, rfl, rfl, fun ys hy => by rw [I.sqb_inj hy hq]; exact hx⟩, ⟨⟨_, by simpa using he2⟩, hst.1.at fun o q => (hs2.2 it (Ne.symm hei)).trans q⟩, fun c hc => (f1 c hc).1⟩
    · have hce : c ≠ e := fun z => hc (by simp [z])
      have hci : c ≠ it := fun z => hc (by simp [z])
      refine (hs2.2 c hce).trans ?_
      rcases Heap.get?_push_cases q with ⟨z, z'⟩ | q'
      · subst z; subst z'; exact hT
      · exact hk c o hce hci q'
  done := by
    intro X hP hw hK hc i pins s σ H E I hf st hg
    subst hP hw hK
    obtain ⟨xs, hq, hx⟩ := hg
    obtain ⟨⟨old, he⟩, hs⟩ := st
    obtain ⟨its, rv, p, hz⟩ := I.sqb hq
    have hl := rv.length
    refine enum_end (I.ok.hd hc) he hs p (by simp; omega) fun h' eb => ⟨rfl, ?_⟩
    exact I.turnedL (ch := [e, it]) (t' := s.toks) (fun c o hc q => eb c o (fun z => hc (by simp [z])) q) hf
  self := fun _ _ _ _ _ st h => by obtain ⟨⟨old, he⟩, _⟩ := st; exact wpAny_pyIter_enum he h
end L2
set_option Elab.async false
set_option linter.all false
set_option maxRecDepth 100000
set_option maxHeartbeats 4000000
namespace L2
open PySem PySem.Spec PyProof.Rows
open AutoSeq1 (wpAny_loadPart')
section
variable {X : Cx}
def iEnum (K : PySem.W.Frag) (b : Bool) (ta : TA) : TI := fun σ H R => ta σ H fun vs H1 => ∃ a xs, vs = [.ref a] ∧ SqB K b H1 a xs ∧ R (Ite K b a) H1
theorem pi_enum (b : Bool) {a : Expr} {ta : TA} {p pos tp : Pos} {es : List Expr} {k : Nat} (hg : Gl X "enumerate") (hm : X.mg "enumerate" = none) (ha : PA X [a] ta) (hs : starEach [a] X.env = [(false, eval a X.env)] := by rfl) :
    PI X (.Tuple es k tp) (.Call (.Name "enumerate" p) [a] [] pos) (iEnum X.K b ta) := by
  intro pins s σ H R I h
  refine Call_ (ld_blt I hg hm boot_enumerate (PyProof.Rows.callWith_type1 (thn (ha pos pins s σ H _ I h) fun us s1 ⟨vs, H1, I1, r1, q1⟩ => ?_) hs rfl))
  obtain ⟨l, xs, e, hq, q⟩ := q1
  subst e
  cases r1 with
  | cons r rr =>
    cases rr
    cases r
    obtain ⟨its, rv, p, hz⟩ := I1.sqb hq
    refine call_enum p fun h' he hi hsz hk => wpAny_pyIter_enum he ?_
    have I2 : Inv X pins σ H1 { s1 with heap := h' } := I1.kept (t' := s1.toks) hk
    have fr : ∀ c, s1.heap.objs.size ≤ c → FpOk X pins H1 c := fun c hc => I1.fpOk hc (I1.hok.fresh hc)
    exact ⟨s1.heap.objs.size + 1, [s1.heap.objs.size + 1, s1.heap.objs.size], _, _, H1, rfl, I2, turn_enum b l _ _ (Nat.succ_ne_self _), ⟨⟨_, he⟩, hi⟩, fun c hc => by
      rcases List.mem_cons.mp hc with rfl | hc
      · exact fr _ (Nat.le_succ _)
      · rw [List.mem_singleton.mp hc]; exact fr _ (Nat.le_refl _), q⟩
end

/-! ### zip of two -/
structure ZAp (z TI TO i1 i2 : Addr) : Prop where
  a1 : TI ≠ z
  a2 : TO ≠ z
  a3 : i1 ≠ z
  a4 : i2 ≠ z
  a5 : TI ≠ TO
  a6 : TI ≠ i1
  a7 : TI ≠ i2
  a8 : TO ≠ i1
  a9 : TO ≠ i2
  a0 : i1 ≠ i2
theorem SqI.but {b : Bool} {h h' : Heap} {it a c : Addr} {i : Nat} (x : SqI b h it a i) (s : Heap.SameBut c h h') (n : it ≠ c) : SqI b h' it a i := x.at fun o e => (s.2 it n).trans e
theorem SqO.but {b : Bool} {h h' : Heap} {a c : Addr} {its : Array Value} (x : SqO b h a its) (s : Heap.SameBut c h h') (n : a ≠ c) : SqO b h' a its := x.at fun o e => (s.2 a n).trans e
theorem SqO.ne {b : Bool} {h : Heap} {a c : Addr} {its : Array Value} {o : Obj} (x : SqO b h a its) (e : h.get? c = some o) (n1 : o.cls ≠ .type "list") (n2 : o.cls ≠ .type "tuple") : a ≠ c := fun z => by
  subst z
  cases b <;> (obtain ⟨o', e', c', _⟩ := x; rw [e] at e'; cases e')
  · exact n2 c'
  · exact n1 c'
theorem SqO.ne_it {b b' : Bool} {h : Heap} {a it l : Addr} {its : Array Value} {i : Nat} (x : SqO b h a its) (y : SqI b' h it l i) : a ≠ it := by
  cases b' <;> (obtain ⟨o, e, c, _⟩ := y; exact x.ne e (by rw [c]; simp) (by rw [c]; simp))
section
variable {prog : Program} {w : World} {A : Around} {E : Value → Shared → Prop} {s : Shared}
theorem zip_item {b1 b2 : Bool} {z TI TO i1 i2 l1 l2 : Addr} {k1 k2 : Nat} {xs ys : Array Value} {x y a b : Value} {Q : Value → Shared → Prop} (D : ZAp z TI TO i1 i2)
    (hz : IsZip s.heap z TI TO .none) (hTI : IsPair s.heap TI (.ref i1) (.ref i2)) (hTO : IsPair s.heap TO a b) (n1 : l1 ≠ TO) (n2 : l2 ≠ TO)
    (h1 : SqI b1 s.heap i1 l1 k1) (h2 : SqI b2 s.heap i2 l2 k2) (hl1 : SqO b1 s.heap l1 xs) (hl2 : SqO b2 s.heap l2 ys) (hx : xs[k1]? = some x) (hy : ys[k2]? = some y)
    (hQ : ∀ h', IsZip h' z TI TO (rawInt s.heap.objs.size) → IsPair h' TO x y → SqI b1 h' i1 l1 (k1 + 1) → SqI b2 h' i2 l2 (k2 + 1) → IsPair h' s.heap.objs.size x y → h'.objs.size = s.heap.objs.size + 1 →
      (∀ c o, c ∉ [z, TO, i1, i2] → s.heap.get? c = some o → h'.get? c = some o) → Q (.ref s.heap.objs.size) { s with heap := h' }) :
    wpAny (model prog w) A (Builtin.«zip.__next__» ⟨[.ref z], []⟩) (fun fin s' => ∃ v, fin = .done (.ret v) ∧ Q v s') E s := by
  have l1z : l1 ≠ z := hl1.ne hz (by simp) (by simp)
  have l2z : l2 ≠ z := hl2.ne hz (by simp) (by simp)
  have l2i1 : l2 ≠ i1 := hl2.ne_it h1
  show wpAny _ _ (field (.ref z) 2 >>= _) _ _ _
  refine wpAny_bind (wpAny_field hz rfl (x := .bool false) rfl ?_)
  show wpAny _ _ (field (.ref z) 3 >>= _) _ _ _
  refine wpAny_bind (wpAny_field hz rfl (x := .ref TI) rfl (wpAny_bind (wpAny_seqItems hTI rfl ?_)))
  show wpAny _ _ (Builtin.SmallTypes.ownedTupleIsFree (.ref z) >>= _) _ _ _
  refine wpAny_bind ?_
  unfold Builtin.SmallTypes.ownedTupleIsFree
  refine wpAny_bind (wpAny_field hz rfl (x := .none) rfl (wpAny_pure ?_))
  simp only [if_true]
  refine wpAny_bind (wpAny_rule (wpAny_bind (wpAny_field hz rfl (x := .ref TO) rfl (wpAny_bind (wpAny_setField_rec hz (by simp) fun g1 z1 s1 => ?_)))))
  replace z1 : IsZip g1 z TI TO .ellipsis := z1
  refine wpAny_bind ?_
  simp only [List.zipIdx_cons, List.zipIdx_nil, List.forIn_cons, List.forIn_nil]
  refine wpAny_bind (wpAny_bind (wpAny_onRaise ?_))
  show wpAny _ _ (Builtin.SmallTypes.nextOf (.ref i1) >>= _) _ _ _
  refine wpAny_bind (next_sq (h1.but s1 D.a3) (hl1.but s1 l1z) hx fun g2 p2 s2 => wpAny_pure ?_)
  have t2 : IsPair g2 TO a b := s2.extBut _ _ D.a8 (s1.extBut _ _ D.a2 hTO)
  refine wpAny_bind (wpAny_seqItems t2 rfl (wpAny_bind (wpAny_updateSeq_pair t2 fun g3 t3 s3 => wpAny_bind (wpAny_letGo (wpAny_pure ?_)))))
  replace t3 : IsPair g3 TO x b := t3
  refine wpAny_bind (wpAny_bind (wpAny_onRaise ?_))
  show wpAny _ _ (Builtin.SmallTypes.nextOf (.ref i2) >>= _) _ _ _
  refine wpAny_bind (next_sq (((h2.but s1 D.a4).but s2 D.a0.symm).but s3 D.a9.symm) (((hl2.but s1 l2z).but s2 l2i1).but s3 n2) hy fun g4 p4 s4 => wpAny_pure ?_)
  have t4 : IsPair g4 TO x b := s4.extBut _ _ D.a9 t3
  refine wpAny_bind (wpAny_seqItems t4 rfl (wpAny_bind (wpAny_updateSeq_pair t4 fun g5 t5 s5 => wpAny_bind (wpAny_letGo (wpAny_pure (wpAny_pure ?_))))))
  replace t5 : IsPair g5 TO x y := t5
  refine wpAny_bind (wpAny_seqItems t5 rfl (wpAny_bind (wpAny_newTuple ?_)))
  have sz : g5.objs.size = s.heap.objs.size := by rw [s5.1, s4.1, s3.1, s2.1, s1.1]
  have z5 : IsZip g5 z TI TO .ellipsis := s5.extBut _ _ D.a2.symm (s4.extBut _ _ D.a4.symm (s3.extBut _ _ D.a2.symm (s2.extBut _ _ D.a3.symm z1)))
  have k5 : ∀ c o, c ∉ [z, TO, i1, i2] → s.heap.get? c = some o → g5.get? c = some o := fun c o hc e => by
    have c1 : c ≠ z := fun q => hc (by simp [q])
    have c2 : c ≠ TO := fun q => hc (by simp [q])
    have c3 : c ≠ i1 := fun q => hc (by simp [q])
    have c4 : c ≠ i2 := fun q => hc (by simp [q])
    exact s5.extBut _ _ c2 (s4.extBut _ _ c4 (s3.extBut _ _ c2 (s2.extBut _ _ c3 (s1.extBut _ _ c1 e))))
  have q1 : SqI b1 g5 i1 l1 (k1 + 1) := ((p2.but s3 D.a8.symm).but s4 D.a0).but s5 D.a8.symm
  have q2 : SqI b2 g5 i2 l2 (k2 + 1) := p4.but s5 D.a9.symm
  show wpAny _ _ (Builtin.SmallTypes.ownedTupleHandOut (.ref z) (.ref g5.objs.size) >>= _) _ _ _
  refine wpAny_bind ?_
  unfold Builtin.SmallTypes.ownedTupleHandOut
  have z6 : IsZip (g5.push { cls := .type "tuple", data := .seq #[x, y] }) z TI TO .ellipsis := Heap.get?_push_of_some _ z5
  refine wpAny_bind (wpAny_setField_rec z6 (by simp) fun g7 z7 s7 => ?_)
  replace z7 : IsZip g7 z TI TO (rawInt g5.objs.size) := z7
  refine wpAny_setField_rec z7 (by simp) fun g8 z8 s8 => ?_
  replace z8 : IsZip g8 z TI TO (rawInt g5.objs.size) := z8
  have up : ∀ c o, c ≠ z → g5.get? c = some o → g8.get? c = some o := fun c o c1 e => s8.extBut _ _ c1 (s7.extBut _ _ c1 (Heap.get?_push_of_some _ e))
  have zl : g5.objs.size ≠ z := Nat.ne_of_gt (Heap.lt_size z5)
  have t8 : IsPair g8 g5.objs.size x y := s8.extBut _ _ zl (s7.extBut _ _ zl (Heap.get?_push_size _ rfl))
  have e8 : g8.objs.size = g5.objs.size + 1 := by rw [s8.1, s7.1, Heap.size_push]
  rw [sz] at z8 t8 e8
  refine wpAny_pure ⟨_, rfl, ?_⟩
  show Q (.ref g5.objs.size) _
  rw [sz]
  exact hQ g8 z8 (up _ _ D.a2 t5) (q1.at fun o e => up _ o D.a3 e) (q2.at fun o e => up _ o D.a4 e) t8 e8 fun c o hc e => up c o (fun q => hc (by simp [q])) (k5 c o hc e)

theorem zip_end {b1 b2 : Bool} {z TI TO i1 i2 l1 l2 : Addr} {k1 k2 : Nat} {xs ys : Array Value} {a b : Value} {Q : Fin → Shared → Prop} (hh : A.handled = none) (D : ZAp z TI TO i1 i2)
    (hz : IsZip s.heap z TI TO .none) (hTI : IsPair s.heap TI (.ref i1) (.ref i2)) (hTO : IsPair s.heap TO a b) (n1 : l1 ≠ TO) (n2 : l2 ≠ TO)
    (h1 : SqI b1 s.heap i1 l1 k1) (h2 : SqI b2 s.heap i2 l2 k2) (hl1 : SqO b1 s.heap l1 xs) (hl2 : SqO b2 s.heap l2 ys) (hend : xs[k1]? = none ∨ ys[k2]? = none)
    (hE : ∀ h' e, (∀ c o, c ∉ [z, TO, i1, i2] → s.heap.get? c = some o → h'.get? c = some o) → (∃ o, h'.get? e = some o ∧ o.cls = .type "StopIteration") → E (.ref e) { s with heap := h' }) :
    wpAny (model prog w) A (Builtin.«zip.__next__» ⟨[.ref z], []⟩) Q E s := by
  have l1z : l1 ≠ z := hl1.ne hz (by simp) (by simp)
  have l2z : l2 ≠ z := hl2.ne hz (by simp) (by simp)
  have l2i1 : l2 ≠ i1 := hl2.ne_it h1
  show wpAny _ _ (field (.ref z) 2 >>= _) _ _ _
  refine wpAny_bind (wpAny_field hz rfl (x := .bool false) rfl ?_)
  show wpAny _ _ (field (.ref z) 3 >>= _) _ _ _
  refine wpAny_bind (wpAny_field hz rfl (x := .ref TI) rfl (wpAny_bind (wpAny_seqItems hTI rfl ?_)))
  show wpAny _ _ (Builtin.SmallTypes.ownedTupleIsFree (.ref z) >>= _) _ _ _
  refine wpAny_bind ?_
  unfold Builtin.SmallTypes.ownedTupleIsFree
  refine wpAny_bind (wpAny_field hz rfl (x := .none) rfl (wpAny_pure ?_))
  simp only [if_true]
  refine wpAny_bind (wpAny_rule (wpAny_bind (wpAny_field hz rfl (x := .ref TO) rfl (wpAny_bind (wpAny_setField_rec hz (by simp) fun g1 z1 s1 => ?_)))))
  replace z1 : IsZip g1 z TI TO .ellipsis := z1
  refine wpAny_bind ?_
  simp only [List.zipIdx_cons, List.zipIdx_nil, List.forIn_cons, List.forIn_nil]
  refine wpAny_bind (wpAny_bind (wpAny_onRaise ?_))
  show wpAny _ _ (Builtin.SmallTypes.nextOf (.ref i1) >>= _) _ _ _
  cases hx : xs[k1]? with
  | none =>
    refine wpAny_bind (end_sq hh (h1.but s1 D.a3) (hl1.but s1 l1z) hx fun g2 e s2 he => ?_)
    obtain ⟨oe, hoe, hce⟩ := he
    have z2 : IsZip g2 z TI TO .ellipsis := s2 _ _ D.a3.symm z1
    have ez : e ≠ z := fun q => by subst q; rw [z2] at hoe; cases hoe; simp at hce
    refine wpAny_setField_rec z2 (by simp) fun g3 _ s3 => hE g3 e (fun c o hc q => ?_) ⟨oe, s3.extBut _ _ ez hoe, hce⟩
    have c1 : c ≠ z := fun q => hc (by simp [q])
    exact s3.extBut _ _ c1 (s2 _ _ (fun q => hc (by simp [q])) (s1.extBut _ _ c1 q))
  | some x =>
    have hy : ys[k2]? = none := by
      rcases hend with h | h
      · rw [hx] at h; cases h
      · exact h
    refine wpAny_bind (next_sq (h1.but s1 D.a3) (hl1.but s1 l1z) hx fun g2 p2 s2 => wpAny_pure ?_)
    have t2 : IsPair g2 TO a b := s2.extBut _ _ D.a8 (s1.extBut _ _ D.a2 hTO)
    refine wpAny_bind (wpAny_seqItems t2 rfl (wpAny_bind (wpAny_updateSeq_pair t2 fun g3 t3 s3 => wpAny_bind (wpAny_letGo (wpAny_pure ?_)))))
    refine wpAny_bind (wpAny_bind (wpAny_onRaise ?_))
    show wpAny _ _ (Builtin.SmallTypes.nextOf (.ref i2) >>= _) _ _ _
    refine wpAny_bind (end_sq hh (((h2.but s1 D.a4).but s2 D.a0.symm).but s3 D.a9.symm) (((hl2.but s1 l2z).but s2 l2i1).but s3 n2) hy fun g4 e s4 he => ?_)
    obtain ⟨oe, hoe, hce⟩ := he
    have z4 : IsZip g4 z TI TO .ellipsis := s4 _ _ D.a4.symm (s3.extBut _ _ D.a2.symm (s2.extBut _ _ D.a3.symm z1))
    have ez : e ≠ z := fun q => by subst q; rw [z4] at hoe; cases hoe; simp at hce
    refine wpAny_setField_rec z4 (by simp) fun g5 _ s5 => hE g5 e (fun c o hc q => ?_) ⟨oe, s5.extBut _ _ ez hoe, hce⟩
    have c1 : c ≠ z := fun q => hc (by simp [q])
    exact s5.extBut _ _ c1 (s4 _ _ (fun q => hc (by simp [q])) (s3.extBut _ _ (fun q => hc (by simp [q])) (s2.extBut _ _ (fun q => hc (by simp [q])) (s1.extBut _ _ c1 q))))

theorem new_zip (b1 b2 : Bool) (l1 l2 : Addr) (xs ys : Array Value) :
    Meets (Builtin.«zip.__new__» ⟨[.type "zip", .ref l1, .ref l2], []⟩) (fun _ R s => SqO b1 s.heap l1 xs ∧ SqO b2 s.heap l2 ys ∧
      R (.ok (.ret (.ref (s.heap.objs.size + 4)))) { s with heap := ((((s.heap.push (itObj b1 l1)).push (itObj b2 l2)).push { cls := .type "tuple", data := .seq #[.ref s.heap.objs.size, .ref (s.heap.objs.size + 1)] }).push { cls := .type "tuple", data := .seq #[.none, .none] }).push { cls := .type "zip", data := .fields #[.none, .bool false, .bool false, .ref (s.heap.objs.size + 2), .ref (s.heap.objs.size + 3)] } }) :=
  .of_wp fun prog w A R s h => by
    obtain ⟨hp, g, d, tk, os⟩ := s; obtain ⟨hl1, hl2, h⟩ := h
    have hsub := sub_zip
    have hL1 : SqO b1 (Shared.heap ⟨hp, g, d, tk, os⟩) l1 xs := hl1
    have hL2 : SqO b2 (Shared.heap ⟨hp.push (itObj b1 l1), g, d, tk, os⟩) l2 ys := SqO.at hl2 fun o e => Heap.get?_push_of_some _ e
    wp_walk using iter_sq hL1, iter_sq hL2
    have e1 : (hp.push (itObj b1 l1)).objs.size = hp.objs.size + 1 := Heap.size_push ..
    have e2 : ((hp.push (itObj b1 l1)).push (itObj b2 l2)).objs.size = hp.objs.size + 2 := by rw [Heap.size_push, e1]
    refine ⟨_, rfl, ?_⟩
    simp only [Heap.size_push]
    exact h

theorem call_zip {b1 b2 : Bool} {l1 l2 : Addr} {xs ys : Array Value} {Q : Value → Shared → Prop} (hl1 : SqO b1 s.heap l1 xs) (hl2 : SqO b2 s.heap l2 ys)
    (h : ∀ h', IsZip h' (s.heap.objs.size + 4) (s.heap.objs.size + 2) (s.heap.objs.size + 3) .none → IsPair h' (s.heap.objs.size + 2) (.ref s.heap.objs.size) (.ref (s.heap.objs.size + 1)) → IsPair h' (s.heap.objs.size + 3) .none .none →
      SqI b1 h' s.heap.objs.size l1 0 → SqI b2 h' (s.heap.objs.size + 1) l2 0 → (∀ c o, s.heap.get? c = some o → h'.get? c = some o) → Q (.ref (s.heap.objs.size + 4)) { s with heap := h' }) :
    wpAny (model prog w) A (call (.type "zip") [.ref l1, .ref l2]) Q E s := by
  refine callType_new F.called_zip (by decide) (F.typeCall_zip_2 _ _) (F.newCall_zip_2 _ _) (fun obj => F.args_object_init_3 obj _ _) F.entry_zip_new (new_zip b1 b2 l1 l2 xs ys) ⟨hl1, hl2, ?_⟩
  have f1 : (itObj b1 l1).isFreed = false := by cases b1 <;> rfl
  have f2 : (itObj b2 l2).isFreed = false := by cases b2 <;> rfl
  have z1 : (s.heap.push (itObj b1 l1)).objs.size = s.heap.objs.size + 1 := Heap.size_push ..
  have z2 : ((s.heap.push (itObj b1 l1)).push (itObj b2 l2)).objs.size = s.heap.objs.size + 2 := by rw [Heap.size_push, z1]
  generalize hg2 : (s.heap.push (itObj b1 l1)).push (itObj b2 l2) = g2 at z2 ⊢
  have e0 : g2.get? s.heap.objs.size = some (itObj b1 l1) := by rw [← hg2]; exact Heap.get?_push_of_some _ (Heap.get?_push_size _ f1)
  have e1 : g2.get? (s.heap.objs.size + 1) = some (itObj b2 l2) := by rw [← hg2, ← z1]; exact Heap.get?_push_size _ f2
  have k2 : ∀ c o, s.heap.get? c = some o → g2.get? c = some o := fun c o q => by rw [← hg2]; exact Heap.get?_push_of_some _ (Heap.get?_push_of_some _ q)
  generalize hg3 : g2.push { cls := .type "tuple", data := .seq #[.ref s.heap.objs.size, .ref (s.heap.objs.size + 1)] } = g3
  have z3 : g3.objs.size = s.heap.objs.size + 3 := by rw [← hg3, Heap.size_push, z2]
  have e2 : IsPair g3 (s.heap.objs.size + 2) (.ref s.heap.objs.size) (.ref (s.heap.objs.size + 1)) := by rw [← hg3, ← z2]; exact Heap.get?_push_size _ rfl
  have k3 : ∀ c o, g2.get? c = some o → g3.get? c = some o := fun c o q => by rw [← hg3]; exact Heap.get?_push_of_some _ q
  generalize hg4 : g3.push { cls := .type "tuple", data := .seq #[.none, .none] } = g4
  have z4 : g4.objs.size = s.heap.objs.size + 4 := by rw [← hg4, Heap.size_push, z3]
  have e3 : IsPair g4 (s.heap.objs.size + 3) .none .none := by rw [← hg4, ← z3]; exact Heap.get?_push_size _ rfl
  have k4 : ∀ c o, g3.get? c = some o → g4.get? c = some o := fun c o q => by rw [← hg4]; exact Heap.get?_push_of_some _ q
  generalize hg5 : g4.push { cls := .type "zip", data := .fields #[.none, .bool false, .bool false, .ref (s.heap.objs.size + 2), .ref (s.heap.objs.size + 3)] } = g5
  have e4 : IsZip g5 (s.heap.objs.size + 4) (s.heap.objs.size + 2) (s.heap.objs.size + 3) .none := by rw [← hg5, ← z4]; exact Heap.get?_push_size _ rfl
  have k5 : ∀ c o, g4.get? c = some o → g5.get? c = some o := fun c o q => by rw [← hg5]; exact Heap.get?_push_of_some _ q
  show _ ∧ _
  exact ⟨⟨_, e4, rfl⟩, h _ e4 (k5 _ _ (k4 _ _ e2)) (k5 _ _ e3) (itObj_is (k5 _ _ (k4 _ _ (k3 _ _ e0)))) (itObj_is (k5 _ _ (k4 _ _ (k3 _ _ e1)))) fun c o q => k5 _ _ (k4 _ _ (k3 _ _ (k2 _ _ q)))⟩
theorem zip_nexts {b1 b2 : Bool} {z TI TO i1 i2 l1 l2 : Addr} {k1 k2 : Nat} {xs ys : Array Value} {x y a b : Value} {Q : Option Value → Shared → Prop} (D : ZAp z TI TO i1 i2)
    (hz : IsZip s.heap z TI TO .none) (hTI : IsPair s.heap TI (.ref i1) (.ref i2)) (hTO : IsPair s.heap TO a b) (n1 : l1 ≠ TO) (n2 : l2 ≠ TO)
    (h1 : SqI b1 s.heap i1 l1 k1) (h2 : SqI b2 s.heap i2 l2 k2) (hl1 : SqO b1 s.heap l1 xs) (hl2 : SqO b2 s.heap l2 ys) (hx : xs[k1]? = some x) (hy : ys[k2]? = some y)
    (hQ : ∀ h', IsZip h' z TI TO (rawInt s.heap.objs.size) → IsPair h' TO x y → SqI b1 h' i1 l1 (k1 + 1) → SqI b2 h' i2 l2 (k2 + 1) → IsPair h' s.heap.objs.size x y → h'.objs.size = s.heap.objs.size + 1 →
      (∀ c o, c ∉ [z, TO, i1, i2] → s.heap.get? c = some o → h'.get? c = some o) → Q (some (.ref s.heap.objs.size)) { s with heap := h' }) : wpAny (model prog w) A (pyNext (.ref z)) Q E s := by
  have hT : s.TypeIs (.ref z) "zip" := ⟨_, hz, rfl⟩
  unfold pyNext
  exact wpAny_bind (wpAny_attempt (wpAny_callSpecial?_slot (name := Str.ofString "__next__") hT F.slot_zip_next (wpAny_call_entry F.slot_zip_next hT F.entry_zip_next
    (zip_item D hz hTI hTO n1 n2 h1 h2 hl1 hl2 hx hy fun h' c1 c2 c3 c4 c5 c6 c7 => wpAny_pure (hQ h' c1 c2 c3 c4 c5 c6 c7)) (F.args_zip_next_1 _))))
theorem zip_ends {b1 b2 : Bool} {z TI TO i1 i2 l1 l2 : Addr} {k1 k2 : Nat} {xs ys : Array Value} {a b : Value} {Q : Option Value → Shared → Prop} (hh : A.handled = none) (D : ZAp z TI TO i1 i2)
    (hz : IsZip s.heap z TI TO .none) (hTI : IsPair s.heap TI (.ref i1) (.ref i2)) (hTO : IsPair s.heap TO a b) (n1 : l1 ≠ TO) (n2 : l2 ≠ TO)
    (h1 : SqI b1 s.heap i1 l1 k1) (h2 : SqI b2 s.heap i2 l2 k2) (hl1 : SqO b1 s.heap l1 xs) (hl2 : SqO b2 s.heap l2 ys) (hend : xs[k1]? = none ∨ ys[k2]? = none)
    (hQ : ∀ h', (∀ c o, c ∉ [z, TO, i1, i2] → s.heap.get? c = some o → h'.get? c = some o) → Q none { s with heap := h' }) : wpAny (model prog w) A (pyNext (.ref z)) Q E s := by
  have hT : s.TypeIs (.ref z) "zip" := ⟨_, hz, rfl⟩
  unfold pyNext
  refine wpAny_bind (wpAny_attempt (wpAny_callSpecial?_slot (name := Str.ofString "__next__") hT F.slot_zip_next (wpAny_call_entry F.slot_zip_next hT F.entry_zip_next (zip_end hh D hz hTI hTO n1 n2 h1 h2 hl1 hl2 hend fun h' e hk he => ?_) (F.args_zip_next_1 _))))
  obtain ⟨o, ho, hc⟩ := he
  exact wpAny_bind (wpAny_isInstance (T := "StopIteration") (b := true) ⟨o, ho, hc⟩ isSubtype_stop (wpAny_pure (hQ _ hk)))
end

theorem Inv.sqb_ne {X : Cx} {pins : List (Addr × Obj)} {σ : St} {H : Hp} {s : Shared} {b : Bool} {a c : Addr} {xs : List V} (I : Inv X pins σ H s) (h : SqB X.K b H a xs) (f : FpOk X pins H c) : a ≠ c := fun z => by
  subst z
  have nk : ∀ o, X.K.lookup a = some o → False := fun o e => by
    have e' := I.mod.kin a o e
    rcases f.2.2.2.1 with q | q
    · exact I.ok.noex a o e' q
    · exact absurd (Nat.lt_of_lt_of_le (Heap.lt_size e') (Nat.le_trans I.ok.bsz q)) (Nat.lt_irrefl _)
  cases b with
  | true =>
    rcases h with (h | ⟨o, h⟩) | ⟨o, _, _, h, _⟩
    · rw [f.1] at h; cases h
    · rw [f.1] at h; cases h
    · exact nk o h
  | false =>
    rcases h with (h | ⟨o, h⟩) | ⟨o, _, _, h, _⟩
    · rw [f.1] at h; cases h
    · rw [f.1] at h; cases h
    · exact nk o h

/-- pairs of two walks: each a new pair -/
def Itz (K : PySem.W.Frag) (b1 : Bool) (a1 : Addr) (b2 : Bool) (a2 : Addr) : It :=
  ⟨fun i H => ∃ xs ys x y, SqB K b1 H a1 xs ∧ SqB K b2 H a2 ys ∧ xs[i]? = some x ∧ ys[i]? = some y,
   fun i H v H' => ∃ t x y, H t = none ∧ v = .ref t ∧ H' = upd H t (.tup [x, y]) ∧ (∀ xs, SqB K b1 H a1 xs → xs[i]? = some x) ∧ ∀ ys, SqB K b2 H a2 ys → ys[i]? = some y,
   fun i H => ∃ xs ys, SqB K b1 H a1 xs ∧ SqB K b2 H a2 ys ∧ (xs.length ≤ i ∨ ys.length ≤ i)⟩
theorem turn_zip {P : Program} {w : World} {K : PySem.W.Frag} {es : List Expr} {k : Nat} {pos : Pos} (b1 b2 : Bool) (a1 a2 z TI TO i1 i2 : Addr) (D : ZAp z TI TO i1 i2) :
    Turn P w K (.Tuple es k pos) (Itz K b1 a1 b2 a2) [z, TI, TO, i1, i2] z (fun i h => IsZip h z TI TO .none ∧ IsPair h TI (.ref i1) (.ref i2) ∧ (∃ a b, IsPair h TO a b) ∧ SqI b1 h i1 a1 i ∧ SqI b2 h i2 a2 i) where
  mem := by simp
  obj := fun i h st c hc => by
    obtain ⟨h1, h2, ⟨a, b, h3⟩, h4, h5⟩ := st
    simp only [List.mem_cons, List.not_mem_nil, or_false] at hc
    rcases hc with rfl | rfl | rfl | rfl | rfl
    · exact ⟨_, h1, fun v q => by have q' : Data.fields _ = Data.cell v := q; cases q'⟩
    · exact ⟨_, h2, fun v q => by have q' : Data.seq _ _ = Data.cell v := q; cases q'⟩
    · exact ⟨_, h3, fun v q => by have q' : Data.seq _ _ = Data.cell v := q; cases q'⟩
    · exact h4.obj
    · exact h5.obj
  keep := fun i h h' st k => by
    obtain ⟨h1, h2, ⟨a, b, h3⟩, h4, h5⟩ := st
    exact ⟨k z (by simp) _ h1, k TI (by simp) _ h2, ⟨a, b, k TO (by simp) _ h3⟩, h4.at fun o q => k i1 (by simp) o q, h5.at fun o q => k i2 (by simp) o q⟩
  item := by
    intro X hP hw hK hc i pins s σ H E I hf st hg
    subst hP hw hK
    obtain ⟨xs, ys, x, y, hq1, hq2, hx, hy⟩ := hg
    obtain ⟨h1, h2, ⟨a, b, h3⟩, h4, h5⟩ := st
    obtain ⟨its1, rv1, p1, _⟩ := I.sqb hq1
    obtain ⟨its2, rv2, p2, _⟩ := I.sqb hq2
    obtain ⟨u, hu, ru⟩ := rv1.get hx
    obtain ⟨v, hv, rv⟩ := rv2.get hy
    refine zip_nexts D h1 h2 h3 (I.sqb_ne hq1 (hf TO (by simp))) (I.sqb_ne hq2 (hf TO (by simp))) h4 h5 p1 p2 (x := u) (y := v) (by simpa using hu) (by simpa using hv) fun h' z1 z2 z3 z4 z5 z6 hk => ?_
    refine ⟨.ref s.heap.objs.size, rfl, wpAny_letOwnedTupleGo_zip z1 fun g2 zz hs2 => ?_⟩
    have zn : H s.heap.objs.size = none := I.fresh
    have I1 : Inv X pins σ (upd H s.heap.objs.size (.tup [x, y])) { s with heap := s.heap.push { cls := .type "tuple", data := .seq #[u, v] }, toks := s.toks } :=
      I.laid (fun c o q => Heap.get?_push_of_some _ q) (Nat.le_refl _) ⟨by show 2 ≤ sizeLine; decide, [u, v], .cons ru (.cons rv .nil), _, Heap.get?_push_size _ rfl, rfl, 0, rfl⟩
    have lts : ∀ c ∈ [z, TI, TO, i1, i2], c < s.heap.objs.size := fun c hc => by
      simp only [List.mem_cons, List.not_mem_nil, or_false] at hc
      rcases hc with rfl | rfl | rfl | rfl | rfl
      · exact Heap.lt_size h1
      · exact Heap.lt_size h2
      · exact Heap.lt_size h3
      · exact h4.lt
      · exact h5.lt
    have f1 : ∀ c ∈ [z, TI, TO, i1, i2], FpOk X pins (upd H s.heap.objs.size (.tup [x, y])) c := fun c hc => ⟨by rw [upd_ne (Nat.ne_of_lt (lts c hc))]; exact (hf c hc).1, (hf c hc).2⟩
    have I2 := I1.turnedL (h' := g2) (ch := [z, TI, TO, i1, i2]) (t' := s.toks) (fun c o hc q => ?_) f1
    · refine ⟨.ref s.heap.objs.size, _, I2, rfl, ⟨s.heap.objs.size, x, y, zn, rfl, rfl, fun xs' hy' => by rw [I.sqb_inj hy' hq1]; exact hx, fun ys' hy' => by rw [I.sqb_inj hy' hq2]; exact hy⟩,
        ⟨zz, hs2.extBut _ _ D.a1 (hk TI _ (by simp [D.a1, D.a5, D.a6, D.a7]) h2), ⟨_, _, hs2.extBut _ _ D.a2 z2⟩, z3.but hs2 D.a3, z4.but hs2 D.a4⟩, fun c hc => (f1 c hc).1⟩
    · have hcz : c ≠ z := fun e => hc (by simp [e])
      refine (hs2.2 c hcz).trans ?_
      rcases Heap.get?_push_cases q with ⟨e, e'⟩ | q'
      · subst e; subst e'; exact z5
      · exact hk c o (fun e => hc (by
          simp only [List.mem_cons, List.not_mem_nil, or_false] at e ⊢
          rcases e with e | e | e | e
          · exact .inl e
          · exact .inr (.inr (.inl e))
          · exact .inr (.inr (.inr (.inl e)))
          · exact .inr (.inr (.inr (.inr e))))) q'
  done := by
    intro X hP hw hK hc i pins s σ H E I hf st hg
    subst hP hw hK
    obtain ⟨xs, ys, hq1, hq2, hend⟩ := hg
    obtain ⟨h1, h2, ⟨a, b, h3⟩, h4, h5⟩ := st
    obtain ⟨its1, rv1, p1, _⟩ := I.sqb hq1
    obtain ⟨its2, rv2, p2, _⟩ := I.sqb hq2
    have l1 := rv1.length
    have l2 := rv2.length
    have he : its1.toArray[i]? = none ∨ its2.toArray[i]? = none := by
      rcases hend with q | q
      · exact .inl (by simp; omega)
      · exact .inr (by simp; omega)
    refine zip_ends (I.ok.hd hc) D h1 h2 h3 (I.sqb_ne hq1 (hf TO (by simp))) (I.sqb_ne hq2 (hf TO (by simp))) h4 h5 p1 p2 he fun h' hk => ⟨rfl, ?_⟩
    refine I.turnedL (ch := [z, TI, TO, i1, i2]) (t' := s.toks) (fun c o hc q => hk c o (fun e => hc ?_) q) hf
    simp only [List.mem_cons, List.not_mem_nil, or_false] at e ⊢
    rcases e with e | e | e | e
    · exact .inl e
    · exact .inr (.inr (.inl e))
    · exact .inr (.inr (.inr (.inl e)))
    · exact .inr (.inr (.inr (.inr e)))
  self := fun _ _ _ _ _ st h => wpAny_pyIter_zip st.1 h
theorem zap (n : Nat) : ZAp (n + 4) (n + 2) (n + 3) n (n + 1) :=
  ⟨(by omega : n + 2 ≠ n + 4), (by omega : n + 3 ≠ n + 4), (by omega : n ≠ n + 4), (by omega : n + 1 ≠ n + 4), (by omega : n + 2 ≠ n + 3), (by omega : n + 2 ≠ n), (by omega : n + 2 ≠ n + 1), (by omega : n + 3 ≠ n), (by omega : n + 3 ≠ n + 1), (by omega : n ≠ n + 1)⟩
section
variable {X : Cx}
def iZip (K : PySem.W.Frag) (b1 b2 : Bool) (ta : TA) : TI := fun σ H R => ta σ H fun vs H1 => ∃ a1 a2 xs ys, vs = [.ref a1, .ref a2] ∧ SqB K b1 H1 a1 xs ∧ SqB K b2 H1 a2 ys ∧ R (Itz K b1 a1 b2 a2) H1
theorem pi_zip (b1 b2 : Bool) {a b : Expr} {ta : TA} {p pos tp : Pos} {es : List Expr} {k : Nat} (hg : Gl X "zip") (hm : X.mg "zip" = none) (ha : PA X [a, b] ta) (hs : starEach [a, b] X.env = [(false, eval a X.env), (false, eval b X.env)] := by rfl) (hs2 : starEach [b] X.env = [(false, eval b X.env)] := by rfl) :
    PI X (.Tuple es k tp) (.Call (.Name "zip" p) [a, b] [] pos) (iZip X.K b1 b2 ta) := by
  intro pins s σ H R I h
  refine Call_ (ld_blt I hg hm boot_zip (PyProof.Rows.callWith_type1 (thn (ha pos pins s σ H _ I h) fun us s1 ⟨vs, H1, I1, r1, q1⟩ => ?_) (by rw [hs, hs2]) (by rw [hs2]; rfl)))
  obtain ⟨l1, l2, xs, ys, e, hq1, hq2, q⟩ := q1
  subst e
  cases r1 with
  | cons r rr =>
    cases rr with
    | cons r' rr =>
      cases rr
      cases r
      cases r'
      obtain ⟨its1, rv1, p1, _⟩ := I1.sqb hq1
      obtain ⟨its2, rv2, p2, _⟩ := I1.sqb hq2
      refine call_zip p1 p2 fun h' z1 z2 z3 z4 z5 hk => wpAny_pyIter_zip z1 ?_
      have I2 : Inv X pins σ H1 { s1 with heap := h' } := I1.kept (t' := s1.toks) hk
      have fr : ∀ c, s1.heap.objs.size ≤ c → FpOk X pins H1 c := fun c hc => I1.fpOk hc (I1.hok.fresh hc)
      generalize s1.heap.objs.size = n at *
      refine ⟨n + 4, [n + 4, n + 2, n + 3, n, n + 1], _, _, H1, rfl, I2, turn_zip b1 b2 l1 l2 (n + 4) (n + 2) (n + 3) n (n + 1) (zap n), ⟨z1, z2, ⟨_, _, z3⟩, z4, z5⟩, fun c hc => fr c ?_, q⟩
      simp only [List.mem_cons, List.not_mem_nil, or_false] at hc
      rcases hc with rfl | rfl | rfl | rfl | rfl
      · exact Nat.le_add_right _ _
      · exact Nat.le_add_right _ _
      · exact Nat.le_add_right _ _
      · exact Nat.le_refl _
      · exact Nat.le_add_right _ _
end
end L2
set_option Elab.async false
set_option linter.all false
set_option maxRecDepth 100000
set_option maxHeartbeats 4000000
namespace L2
open PySem PySem.Spec PyProof.Rows

/-! ### numbers of any size -/
section
variable {X : Cx}
theorem op_mulB : OpR X (binaryOp .Mult) (rI IntMulOk fun i j => .int (i * j)) := opI fun _ _ _ _ _ _ _ hc q => mul_int q hc
def CDivB (i j : Int) : Prop := 0 < j ∧ j.natAbs.log2 < 9000
theorem op_fdivB : OpR X (binaryOp .FloorDiv) (rI CDivB fun i j => .int (i / j)) := opI fun i j _ _ _ _ _ hc q => by
  have h1 : (0 : Int) < j := hc.1
  exact floordiv_int (by omega) (by rw [Int.fdiv_eq_ediv_of_nonneg i (by omega)]; exact q) (.inl (PyProof.noPylong_of_log2 hc.2))
end
theorem log2_of_lt {n k : Nat} (hk : 0 < k) (h : n < 2 ^ k) : n.log2 < k := by
  rcases Nat.eq_zero_or_pos n with z | z
  · subst z; simpa using hk
  · exact (Nat.log2_lt (Nat.ne_of_gt z)).mpr h
theorem CDivB.of {i j : Int} (h0 : 0 < j) (h : j < 2 ^ 9000) : CDivB i j := ⟨h0, log2_of_lt (by decide) (by
  have e : (j.natAbs : Int) = j := Int.natAbs_of_nonneg (Int.le_of_lt h0)
  have : (j.natAbs : Int) < ((2 ^ 9000 : Nat) : Int) := by rw [e]; exact_mod_cast h
  exact_mod_cast this)⟩
theorem intBits_le {a : Int} {k : Nat} (hk : 0 < k) (h : a.natAbs < 2 ^ k) : Builtin.Int.intBits a ≤ k := by
  unfold Builtin.Int.intBits
  split
  · exact Nat.zero_le _
  · exact log2_of_lt hk h
theorem mulOk_of {a b : Int} {m n : Nat} (hm : 0 < m) (hn : 0 < n) (ha : a.natAbs < 2 ^ m) (hb : b.natAbs < 2 ^ n) (h : m + n ≤ 134217728) : IntMulOk a b := PyProof.Rows.mulOk_of_bits (intBits_le hm ha) (intBits_le hn hb) h
theorem mulOk_l {a b : Int} (h1 : -(2 ^ 64) < a) (h2 : a < 2 ^ 64) : IntMulOk a b := .of_left (intBits_le_64 h1 h2)
theorem mulOk_r {a b : Int} (h1 : -(2 ^ 64) < b) (h2 : b < 2 ^ 64) : IntMulOk a b := .of_right (intBits_le_64 h1 h2)

/-! ### a, b, .. = a list -/
section
variable {prog : Program} {w : World} {A : Around} {E : Value → Shared → Prop} {s : Shared}
theorem draw_list {it t : Addr} {items : Array Value} (hne : t ≠ it) : ∀ (n i : Nat) (s : Shared) (Q : List Value → Shared → Prop), s.heap.IsListIter it t i → s.heap.IsList t items → i + n ≤ items.size →
    (∀ h', h'.IsListIter it t (i + n) → Heap.SameBut it s.heap h' → Q ((items.toList.drop i).take n) { s with heap := h' }) → wpAny (model prog w) A (draw (.ref it) n) Q E s
  | 0, i, s, Q, hit, _, _, hQ => by
    show wpAny _ _ (pure []) Q E s
    exact wpAny_pure (by simpa using hQ s.heap hit (Heap.SameBut.refl ..))
  | n + 1, i, s, Q, hit, ht, hle, hQ => by
    have hlt : i < items.size := by omega
    show wpAny _ _ (pyNext (.ref it) >>= _) Q E s
    refine wpAny_bind (wpAny_pyNext_list_item hit ht (x := items[i]) (by simp [hlt]) fun g1 hit1 s1 => ?_)
    refine wpAny_bind (wpAny_holding (draw_list hne n (i + 1) _ _ hit1 (ht.extBut s1.extBut hne) (by omega) fun g2 hit2 s2 => wpAny_pure ?_))
    have hd : items.toList.drop i = items[i] :: items.toList.drop (i + 1) := by simp [List.drop_eq_getElem_cons, hlt]
    have := hQ g2 (by rw [show i + (n + 1) = i + 1 + n by omega]; exact hit2) (s1.trans s2)
    rw [hd, List.take_succ_cons] at this
    exact this
theorem unpackItems_list {t : Addr} {items : Array Value} {Q : List Value → Shared → Prop} (hh : A.handled = none) (ht : s.heap.IsList t items)
    (hQ : ∀ h', Heap.ExtBut s.heap.objs.size s.heap h' → Q items.toList { s with heap := h' }) : wpAny (model prog w) A (unpackItems (.ref t) items.size none) Q E s := by
  have hlt : t ≠ s.heap.objs.size := by obtain ⟨o, ho, _⟩ := ht; exact Nat.ne_of_lt (Heap.lt_size ho)
  unfold unpackItems
  refine wpAny_bind ?_
  unfold notIterableAtAll
  refine wpAny_bind (wpAny_specialOf ht.typeIs slot_list_iter.lookup (wpAny_pure ?_))
  simp only [Bool.false_eq_true, if_false]
  refine wpAny_bind (wpAny_holding (wpAny_pyIter_list ht (wpAny_bind (wpAny_holding (draw_list hlt items.size 0 _ _ ⟨_, Heap.get?_push_size _ rfl, rfl, rfl⟩ (ht.push _) (by omega) fun g1 hit1 s1 => ?_)))))
  have hall : List.take items.size (List.drop 0 items.toList) = items.toList := by
    rw [List.drop_zero]; exact List.take_of_length_le (by simp)
  rw [hall, if_neg (by simp)]
  have ht1 : g1.IsList t items := (ht.push _).extBut s1.extBut hlt
  refine wpAny_bind (wpAny_holding (wpAny_pyNext_list_end hh hit1 ht1 (by simp) fun g2 e2 => ?_))
  simp only [Option.isSome_none, Bool.false_eq_true, if_false]
  exact wpAny_pure (hQ g2 fun b o hb e => e2 b o hb (s1.extBut b o hb (Heap.get?_push_of_some _ e)))
end
section
variable {X : Cx} {pos : Pos}
def gLst (K : PySem.W.Frag) (n : Nat) (t : TGs) : TG := fun v σ H Q => ∃ a xs, v = .ref a ∧ SqL K H a xs ∧ xs.length = n ∧ t xs σ H Q
theorem pg_lst {es : List Expr} {k : Nat} {t : TGs} {n : Nat} (hc : X.calm = true) (h : PGs X es t)
    (hn : (assignEach es X.env).length = n := by rfl) (hst : (assignEach es X.env).findIdx? (·.1) = none := by rfl) : PG X (.Tuple es k pos) (gLst X.K n t) := by
  intro pins s σ H v u Q I r hw
  obtain ⟨a, xs, e1, hq, hl, hw⟩ := hw
  subst e1
  cases r
  obtain ⟨its, rv, ht, hz⟩ := I.list hq
  rw [assign_Tuple]
  refine wpAny_bind (wpAny_standAt ?_)
  unfold unpack
  have e0 : (assignEach es X.env).length = its.toArray.size := by simp [hn, ← hl, rv.length]
  rw [e0, hst]
  refine wpAny_bind (wpAny_holding (unpackItems_list (I.ok.hd hc) ht.isList fun h' hx => ?_))
  have I1 : Inv X pins σ H { s with heap := h' } := I.kept (t' := s.toks) fun b o e => hx b o (Nat.ne_of_lt (Heap.lt_size e)) e
  exact h pins _ σ H xs _ Q I1 (by simpa using rv) hw
end

/-! ### isinstance with a built-in class -/
inductive IsiV (K : PySem.W.Frag) (H : Hp) : V → String → Bool → Prop where
  | int_int (i) : IsiV K H (.int i) "int" true
  | int_bool (i) : IsiV K H (.int i) "bool" false
  | int_tuple (i) : IsiV K H (.int i) "tuple" false
  | int_str (i) : IsiV K H (.int i) "str" false
  | bl_int (b) : IsiV K H (.bl b) "int" true
  | bl_bool (b) : IsiV K H (.bl b) "bool" true
  | bl_tuple (b) : IsiV K H (.bl b) "tuple" false
  | str_str (x) : IsiV K H (.str x) "str" true
  | str_tuple (x) : IsiV K H (.str x) "tuple" false
  | tup_tuple {a xs} : SqT K H a xs → IsiV K H (.ref a) "tuple" true
  | tup_int {a xs} : SqT K H a xs → IsiV K H (.ref a) "int" false
  | lst_tuple {a xs} : SqL K H a xs → IsiV K H (.ref a) "tuple" false
  | lst_list {a xs} : SqL K H a xs → IsiV K H (.ref a) "list" true
def rIsi (K : PySem.W.Frag) : List V → Hp → VK → Prop := fun vs H Q => ∃ x T b, vs = [x, .ty T] ∧ IsiV K H x T b ∧ Q (.bl b) H
theorem vls2 {x y : V} {us : List Value} (r : Vals [x, y] us) : ∃ u v, us = [u, v] ∧ RelV x u ∧ RelV y v := by
  cases r with
  | cons r rr =>
    cases rr with
    | cons r' rr => cases rr; exact ⟨_, _, rfl, r, r'⟩
theorem call_isi {X : Cx} : CallR X (.builtin "isinstance") (rIsi X.K) := by
  intro pins s σ H xs us Q I r h
  obtain ⟨x, T, b, rfl, hi, q⟩ := h
  obtain ⟨u, v, rfl, ru, rv⟩ := vls2 r
  have rv : v = .type T := rv
  subst rv
  have fin : ∀ (c : Bool) (t : Nat), Q (.bl c) H → EP X pins σ Q (.bool c) { s with toks := t } := fun c t q => ⟨.bl c, H, I.tok t, rfl, q⟩
  cases hi with
  | int_int i => obtain ⟨t, rfl⟩ := ru; exact IsiPair.int_int (fin _ s.toks q)
  | int_bool i => obtain ⟨t, rfl⟩ := ru; exact IsiPair.int_bool (fin _ _ q)
  | int_tuple i => obtain ⟨t, rfl⟩ := ru; exact IsiPair.int_tuple (fin _ _ q)
  | int_str i => obtain ⟨t, rfl⟩ := ru; exact IsiPair.int_str (fin _ _ q)
  | bl_int b => cases ru; exact IsiPair.bool_int (fin _ s.toks q)
  | bl_bool b => cases ru; exact IsiPair.bool_bool (fin _ s.toks q)
  | bl_tuple b => cases ru; exact IsiPair.bool_tuple (fin _ _ q)
  | str_str x => obtain ⟨t, rfl⟩ := ru; exact IsiPair.str_str (fin _ s.toks q)
  | str_tuple x => obtain ⟨t, rfl⟩ := ru; exact IsiPair.str_tuple (fin _ _ q)
  | tup_tuple h =>
    cases ru
    obtain ⟨its, _, p, _⟩ := I.tuple h
    exact call_isinstance (isinstance_true (Tx := "tuple") F.isi_meta_tuple F.sub_tuple_tuple) ⟨p.typeIs, fin _ s.toks q⟩
  | tup_int h =>
    cases ru
    obtain ⟨its, _, ⟨o, e, c, _⟩, _⟩ := I.tuple h
    exact call_isinstance (isinstance_false_tuple (by decide +kernel) F.isi_meta_int F.sub_tuple_int) ⟨⟨o, e, c⟩, fin _ _ q⟩
  | lst_tuple h =>
    cases ru
    obtain ⟨its, _, p, _⟩ := I.list h
    obtain ⟨o, e, c, _⟩ := p.isList
    exact call_isinstance (isinstance_false_list (by decide +kernel) F.isi_meta_tuple F.sub_list_tuple) ⟨⟨o, e, c⟩, fin _ _ q⟩
  | lst_list h =>
    cases ru
    obtain ⟨its, _, p, _⟩ := I.list h
    exact call_isinstance (isinstance_true (Tx := "list") F.isi_meta_list F.sub_list_list) ⟨p.isList.typeIs, fin _ s.toks q⟩

/-! ### sum, all, any over a list or a tuple -/
theorem walks_sq {prog : Program} {w : World} {A : Around} (hh : A.handled = none) (b : Bool) (it a : Addr) (hne : a ≠ it) (its : Array Value) : Walks prog w A it [it, a] [it] its.size (fun i v => its[i]? = some v) (fun i h => SqI b h it a i ∧ SqO b h a its) where
  sub := fun c hc => by rw [List.mem_singleton.mp hc]; simp
  frame := fun _ _ _ st k => ⟨st.1.at fun o e => k it (by simp) o e, st.2.at fun o e => k a (by simp) o e⟩
  item := fun i s Q E hi st hQ => by
    cases b with
    | true => exact wpAny_pyNext_list_item st.1 st.2 (x := its[i]) (by simp [hi]) fun h' q sb => hQ _ h' s.toks (by simp [hi]) ⟨q, SqO.at (b := true) st.2 fun o e => (sb.2 a hne).trans e⟩ fun c o hc e => (sb.2 c fun z => hc (by simp [z])).trans e
    | false => exact wpAny_pyNext_tuple_item st.1 st.2 (x := its[i]) (by simp [hi]) fun h' q sb => hQ _ h' s.toks (by simp [hi]) ⟨q, SqO.at (b := false) st.2 fun o e => (sb.2 a hne).trans e⟩ fun c o hc e => (sb.2 c fun z => hc (by simp [z])).trans e
  done := fun s Q E st hQ => by
    cases b with
    | true => exact wpAny_pyNext_list_end hh st.1 st.2 (by simp) fun h' eb => hQ h' s.toks fun c o hc e => eb c o (fun z => hc (by simp [z])) e
    | false => exact wpAny_pyNext_tuple_end hh st.1 st.2 (by simp) fun h' eb => hQ h' s.toks fun c o hc e => eb c o (fun z => hc (by simp [z])) e
  self := fun i s Q E st hQ => by
    cases b with
    | true => exact wpAny_pyIter_listiter st.1 hQ
    | false => exact wpAny_pyIter_tupleiter st.1 hQ
theorem vls1 {x : V} {us : List Value} (r : Vals [x] us) : ∃ u, us = [u] ∧ RelV x u := by
  cases r with
  | cons r rr => cases rr; exact ⟨_, rfl, r⟩
theorem preSum_list (val : Nat → Int) (ns : List Int) (h : ∀ i n, ns[i]? = some n → val i = n) : ∀ k, k ≤ ns.length → preSum val k = (ns.take k).sum
  | 0, _ => by simp [preSum]
  | k + 1, hk => by
    have hlt : k < ns.length := hk
    have e := h k ns[k] (by simp [hlt])
    rw [preSum, preSum_list val ns h k (Nat.le_of_lt hlt), e, List.take_succ_eq_append_getElem hlt, List.sum_append]
    simp
def rSum (K : PySem.W.Frag) (b : Bool) : List V → Hp → VK → Prop := fun vs H Q => ∃ (a : Addr) (ns : List Int), vs = [.ref a] ∧ SqB K b H a (ns.map V.int) ∧ Q (.int ns.sum) H
theorem call_sum (b : Bool) {X : Cx} (hc : X.calm = true) : CallR X (.builtin "sum") (rSum X.K b) := by
  intro pins s σ H xs us Q I r h
  obtain ⟨a, ns, rfl, hq, q⟩ := h
  obtain ⟨u, rfl, ru⟩ := vls1 r
  cases ru
  obtain ⟨its, rv, p, hz⟩ := I.sqb hq
  refine call_sum_walkAnyS (iter_sq p ?_)
  have hne : a ≠ s.heap.objs.size := Nat.ne_of_lt p.lt
  have W := walks_sq (prog := X.prog) (w := X.w) (A := X.A.in1) (I.ok.hd hc) b s.heap.objs.size a hne its.toArray
  have hv : ∀ (i : Nat) (v : Value), its.toArray[i]? = some v → ∃ t, v = .int (ns.getD i 0) t := fun i v e => by
    have e' : its[i]? = some v := by simpa using e
    have hi : i < ns.length := by
      have := (List.getElem?_eq_some_iff.mp e').1
      have := rv.length
      rw [List.length_map] at this
      omega
    obtain ⟨v', h1, h2⟩ := rv.get (i := i) (x := V.int (ns.getD i 0)) (by simp [hi])
    rw [e'] at h1; cases h1
    exact h2
  have ln : its.toArray.size = ns.length := by have := rv.length; rw [List.length_map] at this; simp [this]
  refine ⟨s.heap.objs.size, [s.heap.objs.size, a], [s.heap.objs.size], _, its.toArray.size, _, _, fun i => ns.getD i 0, rfl, W.toS, ⟨itObj_is (Heap.get?_push_size _ (by cases b <;> rfl)), p.at fun o e => Heap.get?_push_of_some _ e⟩, fun c hcm => ?_, hv, fun s' t' hm => ?_⟩
  · rw [Heap.size_push]
    rcases List.mem_cons.mp hcm with rfl | hcm
    · exact Nat.lt_succ_self _
    · rw [List.mem_singleton.mp hcm]; exact Nat.lt_succ_of_lt p.lt
  · obtain ⟨hh, hg, hd, ho, _⟩ := hm
    obtain ⟨h', g', d', tk', os'⟩ := s'
    have e1 : g' = s.gens := hg
    have e2 : d' = s.drawn := hd
    have e3 : os' = s.os := ho
    subst e1 e2 e3
    refine ⟨.int ns.sum, H, I.kept (h' := h') (t' := tk') fun c o e => hh c o (fun z => ?_) (Heap.get?_push_of_some _ e), ⟨t', ?_⟩, q⟩
    · rw [List.mem_singleton.mp z] at e
      exact absurd (Heap.lt_size e) (Nat.lt_irrefl _)
    · rw [ln, preSum_list (fun i => ns.getD i 0) ns (fun i n e => by
        show ns.getD i 0 = n
        rw [List.getD_eq_getElem?_getD, e]; rfl) ns.length (Nat.le_refl _), List.take_length]
def rAll (K : PySem.W.Frag) (b : Bool) (f : List Bool → Bool) : List V → Hp → VK → Prop := fun vs H Q => ∃ (a : Addr) (bs : List Bool), vs = [.ref a] ∧ SqB K b H a (bs.map V.bl) ∧ Q (.bl (f bs)) H
theorem truth_bools {prog : Program} {w : World} {A : Around} {its : Array Value} {bs : List Bool} (rv : Vals (bs.map V.bl) its.toList) : TruthOf prog w A (fun i v => its[i]? = some v) (fun i => bs.getD i false) := by
  intro i v s Q E e q
  have e' : its.toList[i]? = some v := by simpa using e
  have hi : i < bs.length := by
    have := (List.getElem?_eq_some_iff.mp e').1
    have := rv.length
    rw [List.length_map] at this
    omega
  obtain ⟨v', h1, h2⟩ := rv.get (i := i) (x := V.bl (bs.getD i false)) (by simp [hi])
  rw [e'] at h1; cases h1
  have h2 : v = .bool (bs.getD i false) := h2
  subst h2
  exact wpAny_truthy_bool q
theorem range_all (bs : List Bool) : (List.range bs.length).all (fun i => bs.getD i false) = bs.all id := by
  rw [Bool.eq_iff_iff]
  simp only [List.all_eq_true, List.mem_range, id]
  constructor
  · intro h x hx
    obtain ⟨i, hi, rfl⟩ := List.mem_iff_getElem.mp hx
    have := h i hi
    simpa [hi] using this
  · intro h i hi
    have := h bs[i] (List.getElem_mem hi)
    simpa [hi] using this
theorem range_any (bs : List Bool) : (List.range bs.length).any (fun i => bs.getD i false) = bs.any id := by
  rw [Bool.eq_iff_iff]
  simp only [List.any_eq_true, List.mem_range, id]
  constructor
  · rintro ⟨i, hi, h⟩
    exact ⟨bs[i], List.getElem_mem hi, by simpa [hi] using h⟩
  · rintro ⟨x, hx, h⟩
    obtain ⟨i, hi, rfl⟩ := List.mem_iff_getElem.mp hx
    exact ⟨i, hi, by simpa [hi] using h⟩
theorem call_all (b : Bool) {X : Cx} (hc : X.calm = true) : CallR X (.builtin "all") (rAll X.K b fun bs => bs.all id) := by
  intro pins s σ H xs us Q I r h
  obtain ⟨a, bs, rfl, hq, q⟩ := h
  obtain ⟨u, rfl, ru⟩ := vls1 r
  cases ru
  obtain ⟨its, rv, p, hz⟩ := I.sqb hq
  have hne : a ≠ s.heap.objs.size := Nat.ne_of_lt p.lt
  have ln : its.toArray.size = bs.length := by have := rv.length; rw [List.length_map] at this; simp [this]
  have W := walks_sq (prog := X.prog) (w := X.w) (A := X.A.in1) (I.ok.hd hc) b s.heap.objs.size a hne its.toArray
  refine call_all_walk (iter_sq p ⟨s.heap.objs.size, [s.heap.objs.size, a], [s.heap.objs.size], its.toArray.size, _, _, fun i => bs.getD i false, rfl, W, ⟨itObj_is (Heap.get?_push_size _ (by cases b <;> rfl)), p.at fun o e => Heap.get?_push_of_some _ e⟩, truth_bools (by simpa using rv), fun h' tk hk => ?_⟩)
  rw [ln, range_all]
  refine ⟨.bl (bs.all id), H, I.kept (h' := h') (t' := tk) fun c o e => hk c o (fun z => ?_) (Heap.get?_push_of_some _ e), rfl, q⟩
  rw [List.mem_singleton.mp z] at e
  exact absurd (Heap.lt_size e) (Nat.lt_irrefl _)
theorem call_any (b : Bool) {X : Cx} (hc : X.calm = true) : CallR X (.builtin "any") (rAll X.K b fun bs => bs.any id) := by
  intro pins s σ H xs us Q I r h
  obtain ⟨a, bs, rfl, hq, q⟩ := h
  obtain ⟨u, rfl, ru⟩ := vls1 r
  cases ru
  obtain ⟨its, rv, p, hz⟩ := I.sqb hq
  have hne : a ≠ s.heap.objs.size := Nat.ne_of_lt p.lt
  have ln : its.toArray.size = bs.length := by have := rv.length; rw [List.length_map] at this; simp [this]
  have W := walks_sq (prog := X.prog) (w := X.w) (A := X.A.in1) (I.ok.hd hc) b s.heap.objs.size a hne its.toArray
  refine call_any_walk (iter_sq p ⟨s.heap.objs.size, [s.heap.objs.size, a], [s.heap.objs.size], its.toArray.size, _, _, fun i => bs.getD i false, rfl, W, ⟨itObj_is (Heap.get?_push_size _ (by cases b <;> rfl)), p.at fun o e => Heap.get?_push_of_some _ e⟩, truth_bools (by simpa using rv), fun h' tk hk => ?_⟩)
  rw [ln, range_any]
  refine ⟨.bl (bs.any id), H, I.kept (h' := h') (t' := tk) fun c o e => hk c o (fun z => ?_) (Heap.get?_push_of_some _ e), rfl, q⟩
  rw [List.mem_singleton.mp z] at e
  exact absurd (Heap.lt_size e) (Nat.lt_irrefl _)
end L2
namespace L2
open PySem PySem.Spec PyProof.Rows
/-! ### the comprehension's names, checked at once; a block cut behind a statement -/
def compOk (N : List Str) (sc scope : Scope) (N' : List Str) (cap : List (Option Nat)) : Bool :=
  decide (scope.kind = .function) && scope.names.all (fun y => decide (y.2 ≠ .cell)) && scope.names.all (fun x => decide (x.2 = .local → scope.names.lookup x.1 = some .local)) &&
    scope.names.all (fun x => decide (x.2 = .free → sc.names.lookup x.1 = some .cell ∧ scope.names.lookup x.1 = some .free)) && decide N'.Nodup && decide (cap.length = N'.length) &&
    (cap.zip N').all fun p => match p.1 with | none => true | some i => decide (N[i]? = some p.2 ∧ (p.2, NameKind.free) ∈ scope.names)
theorem CompScope.ok {N : List Str} {sc scope : Scope} {N' : List Str} {cap : List (Option Nat)} (h : compOk N sc scope N' cap = true) : CompScope N sc scope N' cap := by
  unfold compOk at h
  simp only [Bool.and_eq_true, decide_eq_true_eq, List.all_eq_true] at h
  obtain ⟨⟨⟨⟨⟨⟨h1, h2⟩, h3⟩, h4⟩, h5⟩, h6⟩, h7⟩ := h
  refine ⟨h1, h2, h3, fun x hx hf => (h4 x hx hf).1, fun x hx hf => (h4 x hx hf).2, h5, h6, fun p hp i hi => ?_⟩
  have := h7 p hp
  rw [hi] at this
  simpa using this
def tCut (t u : TS) : TS := fun D σ H => ∃ R : St → Hp → Prop, t { D with nx := R } σ H ∧ ∀ σ' H', R σ' H' → u D σ' H'
theorem pss_cut {X : Cx} {st : Stmt} {rest : List Stmt} {t u : TS} (h1 : PS X st t) (h2 : PSs X rest u) : PSs X (st :: rest) (tCut t u) := by
  intro pins s σ H D I h
  obtain ⟨R, h, hr⟩ := h
  refine wpAny_execs_cons (thn (h1 pins s σ H _ I h) fun f s1 q => ?_)
  cases f with
  | next => obtain ⟨σ1, H1, I1, q⟩ := q; exact h2 pins s1 σ1 H1 D I1 (hr _ _ q)
  | brk => exact q
  | cont => exact q
  | ret u => exact q
end L2
set_option Elab.async false
set_option linter.all false
set_option maxRecDepth 100000
set_option maxHeartbeats 4000000
namespace L2
open PySem PySem.Spec PyProof.Rows
/-! ### loops and comprehensions alike: B is the turn, End what is wanted behind -/
abbrev Turns (J : It) (B : V → St → Hp → (St → Hp → Prop) → Prop) (End : St → Hp → Prop) (σ : St) (H : Hp) : Prop :=
  ∃ W : Nat → Nat → St → Hp → Prop, (∃ m, W 0 m σ H) ∧ ∀ i m σ H, W i m σ H → (J.stop i H ∧ End σ H) ∨ (J.go i H ∧ ∃ N : St → Hp → Prop, (∀ σ' H', N σ' H' → ∃ m', m' < m ∧ W (i + 1) m' σ' H') ∧ ∀ x H', J.yld i H x H' → B x σ H' N)
section
variable {K : PySem.W.Frag} {B : V → St → Hp → (St → Hp → Prop) → Prop} {End : St → Hp → Prop} {σ : St} {H : Hp}
theorem turns_seq {b : Bool} {J : It} {xs : List V} (n : Nat) (Pv : Nat → St → Hp → Prop) (h0 : Pv 0 σ H)
    (go : ∀ i σ H, i < n → Pv i σ H → J.go i H ∧ ∀ x H', J.yld i H x H' → B x σ H' (Pv (i + 1))) (stop : ∀ σ H, Pv n σ H → J.stop n H ∧ End σ H) : Turns J B End σ H := by
  refine ⟨fun i m σ H => m = n - i ∧ i ≤ n ∧ Pv i σ H, ⟨n, by simp, Nat.zero_le _, h0⟩, ?_⟩
  rintro i m σ H ⟨rfl, hi, p⟩
  by_cases hlt : i < n
  · obtain ⟨g, y⟩ := go i σ H hlt p
    exact .inr ⟨g, Pv (i + 1), fun σ' H' p' => ⟨n - (i + 1), by omega, rfl, hlt, p'⟩, y⟩
  · have e : i = n := by omega
    subst e
    exact .inl (stop σ H p)
/-- over a list or a tuple that stays -/
theorem lp_list {a : Addr} {xs : List V} (Pv : Nat → St → Hp → Prop) (h0 : Pv 0 σ H) (hl : ∀ i σ H, i ≤ xs.length → Pv i σ H → SqL K H a xs) (hs : ∀ i x σ H, xs[i]? = some x → Pv i σ H → B x σ H (Pv (i + 1))) (hd : ∀ σ H, Pv xs.length σ H → End σ H) : Turns (Itl K a) B End σ H :=
  turns_seq (b := true) (xs := xs) xs.length Pv h0 (fun i σ H hi p => ⟨⟨xs, xs[i], hl i σ H (Nat.le_of_lt hi) p, by simp [hi]⟩, fun x H' y => by
    obtain ⟨e, y⟩ := y
    subst e
    exact hs i x σ _ (y xs (hl i σ _ (Nat.le_of_lt hi) p)) p⟩) fun σ H p => ⟨⟨xs, hl _ σ H (Nat.le_refl _) p, Nat.le_refl _⟩, hd σ H p⟩
theorem lp_tup {a : Addr} {xs : List V} (Pv : Nat → St → Hp → Prop) (h0 : Pv 0 σ H) (hl : ∀ i σ H, i ≤ xs.length → Pv i σ H → SqT K H a xs) (hs : ∀ i x σ H, xs[i]? = some x → Pv i σ H → B x σ H (Pv (i + 1))) (hd : ∀ σ H, Pv xs.length σ H → End σ H) : Turns (Itt K a) B End σ H :=
  turns_seq (b := true) (xs := xs) xs.length Pv h0 (fun i σ H hi p => ⟨⟨xs, xs[i], hl i σ H (Nat.le_of_lt hi) p, by simp [hi]⟩, fun x H' y => by
    obtain ⟨e, y⟩ := y
    subst e
    exact hs i x σ _ (y xs (hl i σ _ (Nat.le_of_lt hi) p)) p⟩) fun σ H p => ⟨⟨xs, hl _ σ H (Nat.le_refl _) p, Nat.le_refl _⟩, hd σ H p⟩
theorem lp_range {lo : Int} {n : Nat} (Pv : Nat → St → Hp → Prop) (h0 : Pv 0 σ H) (hs : ∀ i σ H, i < n → Pv i σ H → B (.int (lo + i)) σ H (Pv (i + 1))) (hd : ∀ σ H, Pv n σ H → End σ H) : Turns (Itr lo n) B End σ H :=
  turns_seq (b := true) (xs := []) n Pv h0 (fun i σ H hi p => ⟨hi, fun x H' y => by
    obtain ⟨e, y⟩ := y
    subst e y
    exact hs i σ _ hi p⟩) fun σ H p => ⟨Nat.le_refl _, hd σ H p⟩
theorem lp_enum {b : Bool} {a : Addr} {xs : List V} (Pv : Nat → St → Hp → Prop) (h0 : Pv 0 σ H) (hl : ∀ i σ H, i ≤ xs.length → Pv i σ H → SqB K b H a xs)
    (hs : ∀ i x t σ H, xs[i]? = some x → Pv i σ H → H t = none → B (.ref t) σ (upd H t (.tup [.int i, x])) (Pv (i + 1))) (hd : ∀ σ H, Pv xs.length σ H → End σ H) : Turns (Ite K b a) B End σ H :=
  turns_seq (b := true) (xs := xs) xs.length Pv h0 (fun i σ H hi p => ⟨⟨xs, xs[i], hl i σ H (Nat.le_of_lt hi) p, by simp [hi]⟩, fun x H' y => by
    obtain ⟨t, v, hn, e, e', y⟩ := y
    subst e e'
    exact hs i v t σ _ (y xs (hl i σ _ (Nat.le_of_lt hi) p)) p hn⟩) fun σ H p => ⟨⟨xs, hl _ σ H (Nat.le_refl _) p, Nat.le_refl _⟩, hd σ H p⟩
theorem lp_zip {b1 b2 : Bool} {a1 a2 : Addr} {xs ys : List V} (Pv : Nat → St → Hp → Prop) (h0 : Pv 0 σ H) (hl : ∀ i σ H, i ≤ min xs.length ys.length → Pv i σ H → SqB K b1 H a1 xs ∧ SqB K b2 H a2 ys)
    (hs : ∀ i x y t σ H, xs[i]? = some x → ys[i]? = some y → Pv i σ H → H t = none → B (.ref t) σ (upd H t (.tup [x, y])) (Pv (i + 1))) (hd : ∀ σ H, Pv (min xs.length ys.length) σ H → End σ H) : Turns (Itz K b1 a1 b2 a2) B End σ H :=
  turns_seq (b := true) (xs := xs) (min xs.length ys.length) Pv h0 (fun i σ H hi p => by
    have h1 : i < xs.length := by omega
    have h2 : i < ys.length := by omega
    obtain ⟨q1, q2⟩ := hl i σ H (Nat.le_of_lt hi) p
    refine ⟨⟨xs, ys, xs[i], ys[i], q1, q2, by simp [h1], by simp [h2]⟩, fun x H' y => ?_⟩
    obtain ⟨t, u, v, hn, e, e', y1, y2⟩ := y
    subst e e'
    exact hs i u v t σ _ (y1 xs q1) (y2 ys q2) p hn) fun σ H p => by
    obtain ⟨q1, q2⟩ := hl _ σ H (Nat.le_refl _) p
    exact ⟨⟨xs, ys, q1, q2, by omega⟩, hd σ H p⟩
/-- the end of a comprehension's turn -/
theorem comp_snoc {H : Hp} {D : Addr} {ys : List V} {y : V} {N : Hp → Prop} (h : H D = some (.lst ys)) (hz : ys.length < sizeLine) (n : N (upd H D (.lst (ys ++ [y])))) : ∃ ys, H D = some (.lst ys) ∧ ys.length < sizeLine ∧ N (upd H D (.lst (ys ++ [y]))) := ⟨ys, h, hz, n⟩
end
/-! ### heaps: growth, and growth apart from one list -/
theorem same_new {H : Hp} {p : Addr} (h : H p = none) (o : HO) : Same H (upd H p o) := fun b u q => by rw [upd_ne (ne_of_none q h)]; exact q
theorem same_upd {H H' : Hp} {p : Addr} (s : Same H H') (h : H p = none) (o : HO) : Same H (upd H' p o) := fun b u q => by rw [upd_ne (ne_of_none q h)]; exact s b u q
theorem Same.sqt {K : PySem.W.Frag} {H H' : Hp} {a : Addr} {xs : List V} (e : Same H H') (h : SqT K H a xs) : SqT K H' a xs := SqB.same (b := false) e h
end L2
set_option Elab.async false
set_option linter.all false
set_option maxRecDepth 100000
set_option maxHeartbeats 4000000
namespace L2
open PySem PySem.Spec PyProof.Rows
/-! ### plain words -/
theorem small {n : Nat} (h : n ≤ 1000) : n ≤ sizeLine := Nat.le_of_lt (small1000 h)
theorem dI {i j : Int} (h : (decide (V.int i = V.int j)) = true) : i = j := by simpa using h
theorem dI' {i j : Int} (h : ¬ (decide (V.int i = V.int j)) = true) : i ≠ j := by simpa using h
theorem nI {i j : Int} (h : (!decide (V.int i = V.int j)) = true) : i ≠ j := by simpa using h
theorem nI' {i j : Int} (h : ¬ (!decide (V.int i = V.int j)) = true) : i = j := by simpa using h
theorem dP {p : Prop} [Decidable p] (h : decide p = true) : p := of_decide_eq_true h
theorem dP' {p : Prop} [Decidable p] (h : ¬ decide p = true) : ¬ p := fun c => h (decide_eq_true c)
def ivAt (σ : St) (i : Nat) : Int := match σ[i]? with | some (some (V.int l)) => l | _ => 0
theorem take_snoc {α : Type} {xs : List α} {i : Nat} {x : α} (h : xs[i]? = some x) : xs.take (i + 1) = xs.take i ++ [x] := by
  obtain ⟨hi, e⟩ := List.getElem?_eq_some_iff.mp h
  rw [List.take_succ_eq_append_getElem hi, e]
theorem map_at {α : Type} {f : α → V} {ns : List α} {i : Nat} {x : V} (h : (ns.map f)[i]? = some x) : ∃ k, x = f k ∧ ns[i]? = some k := by
  rw [List.getElem?_map] at h
  cases e : ns[i]? with
  | none => rw [e] at h; cases h
  | some k => rw [e] at h; cases h; exact ⟨k, rfl, rfl⟩
theorem map_int {ns : List Int} {i : Nat} {x : V} (h : (ns.map V.int)[i]? = some x) : ∃ k, x = .int k ∧ ns[i]? = some k := map_at h
theorem lt_of_at {α : Type} {xs : List α} {i : Nat} {x : α} (h : xs[i]? = some x) : i < xs.length := (List.getElem?_eq_some_iff.mp h).1
theorem at_int {ns : List Int} {k : Int} (h0 : 0 ≤ k) (h : k < (ns.length : Int)) : ∃ v : Int, atI (ns.map V.int) k = some (.int v) := by
  have hk : k.toNat < ns.length := by omega
  have ek : k = ((k.toNat : Nat) : Int) := by omega
  have q : atI (ns.map V.int) ((k.toNat : Nat) : Int) = some (.int ns[k.toNat]) := atI_nat (by rw [List.getElem?_map, List.getElem?_eq_getElem hk] <;> rfl)
  rw [← ek] at q
  exact ⟨_, q⟩
theorem atI_of {α : Type} {xs : List α} {i : Nat} {x : α} {k : Int} (h : xs[i]? = some x) (e : k = (i : Int)) : atI xs k = some x := by
  subst e
  exact atI_nat h
/-! ### greatest common divisors -/
def gcds (ns : List Int) : Int := ns.foldl (fun d x => (Int.gcd x d : Int)) 0
theorem gcds_snoc (xs : List Int) (x : Int) : gcds (xs ++ [x]) = (Int.gcd x (gcds xs) : Int) := by unfold gcds; rw [List.foldl_append]; rfl
theorem gcd_step {g l : Int} (hg : 0 ≤ g) (hl : 0 < l) : Int.gcd l (g % l) = Int.gcd g l := by
  rw [Int.gcd_comm g l]
  have e : g % l = g - l * (g / l) := by have := Int.emod_add_mul_ediv g l; omega
  rw [e]
  simpa using Int.gcd_sub_mul_right_right
theorem gcds_nn (ns : List Int) : 0 ≤ gcds ns := by
  have h : ∀ (ns : List Int) (d : Int), 0 ≤ d → 0 ≤ ns.foldl (fun d x => (Int.gcd x d : Int)) d := by
    intro ns
    induction ns with
    | nil => intro d hd; exact hd
    | cons x r ih => intro d _; exact ih _ (Int.natCast_nonneg _)
  exact h ns 0 (by decide)
theorem gcds_dvd (ns : List Int) : ∀ x ∈ ns, gcds ns ∣ x := by
  have h : ∀ (ns : List Int) (d : Int), ns.foldl (fun d x => (Int.gcd x d : Int)) d ∣ d ∧ ∀ x ∈ ns, ns.foldl (fun d x => (Int.gcd x d : Int)) d ∣ x := by
    intro ns
    induction ns with
    | nil => intro d; exact ⟨Int.dvd_refl _, fun x hx => absurd hx List.not_mem_nil⟩
    | cons y r ih =>
      intro d
      obtain ⟨h1, h2⟩ := ih (Int.gcd y d : Int)
      refine ⟨Int.dvd_trans h1 (Int.gcd_dvd_right ..), fun x hx => ?_⟩
      rcases List.mem_cons.mp hx with rfl | hx
      · exact Int.dvd_trans h1 (Int.gcd_dvd_left ..)
      · exact h2 x hx
  exact (h ns 0).2
theorem gcds_zero {ns : List Int} (h : gcds ns = 0) : ∀ x ∈ ns, x = 0 := fun x hx => by
  have := gcds_dvd ns x hx
  rw [h] at this
  exact Int.zero_dvd.mp this
/-! ### sums of products -/
def dot (es ns : List Int) : Int := (List.zipWith (· * ·) es ns).sum
theorem zw_snoc {α β γ : Type} {f : α → β → γ} {es : List α} {ns : List β} {i : Nat} {x : α} {y : β} (hx : es[i]? = some x) (hy : ns[i]? = some y) :
    List.zipWith f (es.take (i + 1)) (ns.take (i + 1)) = List.zipWith f (es.take i) (ns.take i) ++ [f x y] := by
  have h1 := lt_of_at hx
  have h2 := lt_of_at hy
  rw [take_snoc hx, take_snoc hy, List.zipWith_append (by rw [List.length_take, List.length_take]; omega)]
  rfl
theorem zw_len {α β γ : Type} {f : α → β → γ} (es : List α) (ns : List β) (i : Nat) (h1 : i ≤ es.length) (h2 : i ≤ ns.length) : (List.zipWith f (es.take i) (ns.take i)).length = i := by
  rw [List.length_zipWith, List.length_take, List.length_take]
  omega
theorem zw_all {α β γ : Type} {f : α → β → γ} (es : List α) (ns : List β) : List.zipWith f (es.take (min es.length ns.length)) (ns.take (min es.length ns.length)) = List.zipWith f es ns := by
  rcases Nat.le_total es.length ns.length with h | h
  · rw [Nat.min_eq_left h, List.take_length]
    have := List.take_zipWith (f := f) (l := es) (l' := ns) (i := es.length)
    rw [List.take_length] at this
    rw [← this, List.take_of_length_le]
    rw [List.length_zipWith]
    omega
  · rw [Nat.min_eq_right h, List.take_length]
    have := List.take_zipWith (f := f) (l := es) (l' := ns) (i := ns.length)
    rw [List.take_length] at this
    rw [← this, List.take_of_length_le]
    rw [List.length_zipWith]
    omega
theorem dot_snoc {es ns : List Int} {i : Nat} {x y : Int} (hx : es[i]? = some x) (hy : ns[i]? = some y) : dot (es.take (i + 1)) (ns.take (i + 1)) = dot (es.take i) (ns.take i) + x * y := by
  unfold dot
  rw [zw_snoc hx hy, List.sum_append]
  simp
/-! ### cuts of lists -/
def cutL {α : Type} (xs : List α) (lo hi : Option Int) : List α := (xs.drop (HT.sIx xs.length 0 lo)).take (HT.sIx xs.length xs.length hi - HT.sIx xs.length 0 lo)
theorem cutV_map {α : Type} (f : α → V) (xs : List α) (lo hi : Option Int) : cutV (xs.map f) lo hi = (cutL xs lo hi).map f := by
  unfold cutV cutL
  rw [List.length_map, List.map_take, List.map_drop]
theorem cutL_sub {α : Type} {xs : List α} {lo hi : Option Int} {x : α} (h : x ∈ cutL xs lo hi) : x ∈ xs := List.mem_of_mem_drop (List.mem_of_mem_take h)
theorem cutL_le {α : Type} (xs : List α) (lo hi : Option Int) : (cutL xs lo hi).length ≤ xs.length := by
  unfold cutL
  rw [List.length_take, List.length_drop]
  omega
theorem ixN_last {n : Nat} (h : 0 < n) : ixN n (-1) = some (n - 1) := by
  unfold ixN
  rw [if_neg (by decide), if_pos (by omega)]
  congr 1
  omega
theorem set_int (ns : List Int) (j : Nat) (v : Int) : (ns.map V.int).set j (.int v) = (ns.set j v).map V.int := by rw [List.map_set]
/-! ### equal through and through -/
inductive EqT (K : PySem.W.Frag) (H : Hp) : Nat → V → V → Prop where
  | int {d : Nat} (i : Int) : EqT K H d (.int i) (.int i)
  | bl {d : Nat} (b : Bool) : EqT K H d (.bl b) (.bl b)
  | str {d : Nat} (x : Str) : EqT K H d (.str x) (.str x)
  | non {d : Nat} : EqT K H d .non .non
  | sq {d : Nat} (q : Bool) {a b : Addr} {xs ys : List V} : SqB K q H a xs → SqB K q H b ys → xs.length = ys.length → (∀ (i : Nat) (x y : V), xs[i]? = some x → ys[i]? = some y → EqT K H d x y) → EqT K H (d + 1) (.ref a) (.ref b)
theorem EqT.ints {K : PySem.W.Frag} {H : Hp} {d : Nat} (q : Bool) {a b : Addr} {ns : List Int} (ha : SqB K q H a (ns.map V.int)) (hb : SqB K q H b (ns.map V.int)) : EqT K H (d + 1) (.ref a) (.ref b) :=
  .sq q ha hb rfl fun i x y hx hy => by
    rw [hx] at hy
    cases hy
    obtain ⟨k, rfl, _⟩ := map_int hx
    exact .int k
theorem Vals.get' {xs : List V} {us : List Value} (r : Vals xs us) {j : Nat} (h : j < us.length) : ∃ x, xs[j]? = some x ∧ RelV x us[j] := by
  have hl := Vals.length r
  have hj : j < xs.length := by omega
  obtain ⟨u, hu, ru⟩ := Vals.get (i := j) (x := xs[j]) r (by simp [hj])
  refine ⟨xs[j], by simp [hj], ?_⟩
  rw [List.getElem?_eq_getElem h] at hu
  cases hu
  exact ru
open PySem.SeqAt in
theorem eqT_at {X : Cx} {pins : List (Addr × Obj)} {σ : St} {H : Hp} {s : Shared} (I : Inv X pins σ H s) {d : Nat} {x y : V} (h : EqT X.K H d x y) :
    ∀ (A : Around) (u v : Value), A.units + d < cLine → RelV x u → RelV y v → EqAt A s u v true ∧ RcAt A s u v true ∧ (∀ a, x = .ref a → RcNeAt A s u v false) := by
  induction h with
  | int i =>
    rintro A u v _ ⟨t, rfl⟩ ⟨t', rfl⟩
    have e : (i == i) = true := beq_self_eq_true i
    refine ⟨?_, ?_, fun a e => nomatch e⟩
    · have := EqAt.int_int (A := A) (s := s) i t i t'
      rw [e] at this; exact this
    · have := RcAt.int_int (A := A) (s := s) i t i t'
      rw [e] at this; exact this
  | bl b =>
    rintro A u v _ rfl rfl
    have e : (b == b) = true := beq_self_eq_true b
    refine ⟨EqAt.same _, ?_, fun a e => nomatch e⟩
    have := RcAt.bool_bool (A := A) (s := s) b b
    rw [e] at this; exact this
  | str x =>
    rintro A u v _ ⟨t, rfl⟩ ⟨t', rfl⟩
    have e : (x == x) = true := beq_self_eq_true x
    refine ⟨?_, ?_, fun a e => nomatch e⟩
    · have := EqAt.str_str (A := A) (s := s) x t x t'
      rw [e] at this; exact this
    · have := RcAt.str_str (A := A) (s := s) x t x t'
      rw [e] at this; exact this
  | non =>
    rintro A u v _ rfl rfl
    exact ⟨EqAt.same _, RcAt.none_none, fun a e => nomatch e⟩
  | @sq d q a b xs ys ha hb hl _ ih =>
    rintro A u v hu rfl rfl
    obtain ⟨its, rv, p, _⟩ := I.sqb ha
    obtain ⟨its', rv', p', _⟩ := I.sqb hb
    have h1 := Vals.length rv
    have h2 := Vals.length rv'
    have hsz : its.toArray.size = its'.toArray.size := by simp; omega
    have he : ∀ j (h1 : j < its.toArray.size) (h2 : j < its'.toArray.size), EqAt A.in1 s its.toArray[j] its'.toArray[j] ((fun _ => true) j) := by
      intro j j1 j2
      simp only [List.size_toArray] at j1 j2
      obtain ⟨x, hx, rx⟩ := Vals.get' rv j1
      obtain ⟨y, hy, ry⟩ := Vals.get' rv' j2
      exact (ih j x y hx hy A.in1 _ _ (by show A.units + 1 + d < cLine; omega) rx ry).1
    have hu' : A.units < cLine := by omega
    have et : (List.range its.toArray.size).all (fun _ => true) = true := by simp
    cases q with
    | true =>
      have R := RcAt.lists (e := fun _ => true) p p' hsz hu' he
      have R' := RcNeAt.lists (e := fun _ => true) p p' hsz hu' he
      rw [et] at R R'
      refine ⟨?_, R, fun _ _ => R'⟩
      by_cases hab : a = b
      · subst hab; exact EqAt.same _
      · exact EqAt.of_refs hab R
    | false =>
      have R := RcAt.tuples (e := fun _ => true) p p' hu' he
      have R' := RcNeAt.tuples (e := fun _ => true) p p' hu' he
      have et : ((List.range (min its.toArray.size its'.toArray.size)).all (fun _ => true) && its.toArray.size == its'.toArray.size) = true := by rw [hsz]; simp
      rw [et] at R R'
      refine ⟨?_, R, fun _ _ => R'⟩
      by_cases hab : a = b
      · subst hab; exact EqAt.same _
      · exact EqAt.of_refs hab R
theorem op_eqD {X : Cx} (hu : X.A.units + 64 < cLine) : OpR X (compareOp .Eq) (fun x y H Q => EqT X.K H 60 x y ∧ Q (.bl true) H) := by
  intro pins s σ H x y u v Q I rx ry h
  exact (eqT_at I h.1 X.A u v (by omega) rx ry).2.1 X.prog X.w _ _ ⟨.bl true, H, I, rfl, h.2⟩
theorem op_neD {X : Cx} (hu : X.A.units + 64 < cLine) : OpR X (compareOp .NotEq) (fun x y H Q => (∃ a, x = .ref a) ∧ EqT X.K H 60 x y ∧ Q (.bl false) H) := by
  intro pins s σ H x y u v Q I rx ry h
  obtain ⟨⟨a, rfl⟩, h1, h2⟩ := h
  exact (eqT_at I h1 X.A u v (by omega) rx ry).2.2 a rfl X.prog X.w _ _ ⟨.bl false, H, I, rfl, h2⟩
/-! ### t + u of tuples, whatever is empty -/
section
variable {prog : Program} {w : World} {A : Around} {E : Value → Shared → Prop} {s : Shared}
theorem cat_nil {t b : Addr} {vs ws : List Value} {Q : Value → Shared → Prop} (ht : IsTup s.heap t vs.toArray) (hb : IsTup s.heap b ws.toArray) (hv : vs = []) (h : Q (.ref b) s) : wpAny (model prog w) A (binaryOp .Add (.ref t) (.ref b)) Q E s := by
  obtain ⟨⟨cls, dd, data, sl⟩, ho, hc, n, hd⟩ := id ht
  obtain ⟨⟨cls2, dd2, data2, sl2⟩, ho2, hc2, n2, hd2⟩ := id hb
  simp only at hc hd hc2 hd2
  subst hc hd hc2 hd2
  exact concat_meets ⟨_, ho, rfl⟩ ⟨_, ho2, rfl⟩ noFill_tuple_add seq_tuple_add PySem.F.slot_tuple_add PySem.F.entry_tuple_add (PySem.F.args_tuple_add_2 _ _) (tuple_addW0 t b vs.toArray ws.toArray n n2 dd dd2 sl sl2 (by simp [hv])) ⟨ho, ho2, h⟩
end
def rCatG (K : PySem.W.Frag) : R2 := fun x y H Q => ∃ a b xs ys, x = .ref a ∧ y = .ref b ∧ SqT K H a xs ∧ SqT K H b ys ∧ xs.length + ys.length ≤ sizeLine ∧ ∀ p H', Same H H' → SqT K H' p (xs ++ ys) → Q (.ref p) H'
theorem op_catG {X : Cx} : OpR X (binaryOp .Add) (rCatG X.K) := by
  intro pins s σ H x y v u Q I rx ry h
  obtain ⟨a, b, xs, ys, rfl, rfl, ha, hb, hz, q⟩ := h
  by_cases hx : xs = []
  · subst hx
    cases rx
    cases ry
    obtain ⟨its, r1, p1, _⟩ := I.tuple ha
    obtain ⟨its2, r2, p2, _⟩ := I.tuple hb
    exact cat_nil p1 p2 (r1.nil_iff.mpr rfl) ⟨.ref b, H, I, rfl, q b H (Same.refl H) hb⟩
  · refine op_catT pins s σ H _ _ v u Q I rx ry ⟨a, b, xs, ys, rfl, rfl, ha, hb, hx, hz, fun e => ?_, fun _ p hp => q p _ (same_new hp _) (SqT.of upd_same)⟩
    subst e
    exact q a H (Same.refl H) (by rw [List.append_nil]; exact ha)
/-! ### a cut behind an if that only guards -/
theorem cut_grow {t u : TS} {D : Ends} {σ : St} {H : Hp} (h : t { D with nx := fun σ' H' => σ' = σ ∧ Same H H' } σ H) (h2 : ∀ H', Same H H' → u D σ H') : tCut t u D σ H := ⟨_, h, fun σ' H' q => by
  obtain ⟨e, s⟩ := q
  subst e
  exact h2 H' s⟩
/-! ### bits -/
theorem dot_le {A B : Nat} : ∀ {es ns : List Int}, (∀ x ∈ es, x.natAbs ≤ A) → (∀ y ∈ ns, y.natAbs ≤ B) → (dot es ns).natAbs ≤ es.length * (A * B)
  | [], _, _, _ => by simp [dot]
  | _ :: _, [], _, _ => by simp [dot]
  | x :: es, y :: ns, hx, hy => by
    have ih := dot_le (es := es) (ns := ns) (fun z hz => hx z (List.mem_cons_of_mem _ hz)) (fun z hz => hy z (List.mem_cons_of_mem _ hz))
    have e : dot (x :: es) (y :: ns) = x * y + dot es ns := by simp [dot]
    have h1 : (x * y).natAbs ≤ A * B := by
      rw [Int.natAbs_mul]
      exact Nat.mul_le_mul (hx x List.mem_cons_self) (hy y List.mem_cons_self)
    have h2 := Int.natAbs_add_le (x * y) (dot es ns)
    rw [e, List.length_cons, Nat.add_mul]
    omega
theorem at_mem {ns : List Int} {k : Int} (h0 : 0 ≤ k) (h : k < (ns.length : Int)) : ∃ v : Int, atI (ns.map V.int) k = some (.int v) ∧ v ∈ ns := by
  have hk : k.toNat < ns.length := by omega
  have ek : k = ((k.toNat : Nat) : Int) := by omega
  have q : atI (ns.map V.int) ((k.toNat : Nat) : Int) = some (.int ns[k.toNat]) := atI_nat (by rw [List.getElem?_map, List.getElem?_eq_getElem hk] <;> rfl)
  rw [← ek] at q
  exact ⟨_, q, List.getElem_mem hk⟩
/-- the same, nothing laid -/
theorem cut_stay {t u : TS} {D : Ends} {σ : St} {H : Hp} (h : t { D with nx := fun σ' H' => σ' = σ ∧ H' = H } σ H) (h2 : u D σ H) : tCut t u D σ H := ⟨_, h, fun σ' H' q => by
  obtain ⟨e, s⟩ := q
  subst e s
  exact h2⟩
theorem gcds_le {ns : List Int} {m : Nat} (h : ∀ x ∈ ns, x.natAbs < m) (hm : 0 < m) : gcds ns < m := by
  by_cases c : gcds ns = 0
  · omega
  · have hx : ∃ x ∈ ns, x ≠ 0 := by
      refine Classical.byContradiction fun n => c ?_
      have hz : ∀ x ∈ ns, x = 0 := fun x hx => Classical.byContradiction fun z => n ⟨x, hx, z⟩
      have : ∀ (l : List Int) , (∀ x ∈ l, x = 0) → l.foldl (fun d x => (Int.gcd x d : Int)) 0 = 0 := by
        intro l
        induction l with
        | nil => intro _; rfl
        | cons y r ih =>
          intro hl
          have := hl y List.mem_cons_self
          subst this
          exact ih fun x hx => hl x (List.mem_cons_of_mem _ hx)
      exact this ns hz
    obtain ⟨x, hx, x0⟩ := hx
    have h1 := gcds_dvd ns x hx
    have h2 := Int.natAbs_dvd_natAbs.mpr h1
    have h3 := Nat.le_of_dvd (by omega) h2
    have h4 := h x hx
    have h5 := gcds_nn ns
    omega
theorem dot_div {g : Int} (hg : g ≠ 0) : ∀ {es ns : List Int}, (∀ x ∈ es, g ∣ x) → dot es ns = g * dot (es.map (· / g)) ns
  | [], _, _ => by simp [dot]
  | _ :: _, [], _ => by simp [dot]
  | x :: es, y :: ns, h => by
    have ih := dot_div hg (es := es) (ns := ns) fun z hz => h z (List.mem_cons_of_mem _ hz)
    have e : ∀ (x y : Int) (es ns : List Int), dot (x :: es) (y :: ns) = x * y + dot es ns := fun x y es ns => by simp [dot]
    obtain ⟨k, hk⟩ := h x List.mem_cons_self
    subst hk
    rw [List.map_cons, e, e, ih, Int.mul_ediv_cancel_left _ hg, Int.mul_add, Int.mul_assoc]
theorem ceil_le {b g m : Int} (hg : 0 < g) : -(-b / g) ≤ m ↔ b ≤ g * m := by
  have := Int.le_ediv_iff_mul_le (a := -m) (b := -b) hg
  rw [Int.neg_mul, Int.mul_comm m g] at this
  omega
end L2
set_option Elab.async false
set_option linter.all false
set_option maxRecDepth 100000
set_option maxHeartbeats 4000000
namespace L2
open PySem PySem.Spec PyProof.Rows
/-! ### tuples stay -/
def TSame (K : PySem.W.Frag) (H H' : Hp) : Prop := ∀ b xs, SqT K H b xs → SqT K H' b xs
theorem TSame.refl {K : PySem.W.Frag} (H : Hp) : TSame K H H := fun _ _ h => h
theorem TSame.trans {K : PySem.W.Frag} {H H1 H2 : Hp} (a : TSame K H H1) (b : TSame K H1 H2) : TSame K H H2 := fun c o h => b c o (a c o h)
theorem Same.ts {K : PySem.W.Frag} {H H' : Hp} (s : Same H H') : TSame K H H' := fun b xs h => s.sqt h
theorem TSame.lst {K : PySem.W.Frag} {H : Hp} {D : Addr} {ys zs : List V} (h : H D = some (.lst ys)) : TSame K H (upd H D (.lst zs)) := by
  rintro b xs ((q | ⟨o, q⟩) | q)
  · have : b ≠ D := fun e => by subst e; rw [h] at q; cases q
    exact .inl (.inl (by rw [upd_ne this]; exact q))
  · have : b ≠ D := fun e => by subst e; rw [h] at q; cases q
    exact .inl (.inr ⟨o, by rw [upd_ne this]; exact q⟩)
  · exact .inr q
/-! ### walks whose ground stays -/
structure Steady (J : It) (H : Hp) (n : Nat) (El : Nat → V → Hp → Prop) : Prop where
  go : ∀ i H', Same H H' → i < n → J.go i H'
  yl : ∀ i H' x H2, Same H H' → i < n → J.yld i H' x H2 → El i x H2 ∧ Same H' H2
  stop : ∀ H', Same H H' → J.stop n H'
theorem steady_list {K : PySem.W.Frag} {H : Hp} {a : Addr} {xs : List V} (h : SqL K H a xs) : Steady (Itl K a) H xs.length (fun i x _ => xs[i]? = some x) :=
  ⟨fun i H' s hi => ⟨xs, xs[i], s.seq h, by simp [hi]⟩, fun i H' x H2 s hi y => by
    obtain ⟨e, y⟩ := y
    subst e
    exact ⟨y xs (s.seq h), Same.refl _⟩, fun H' s => ⟨xs, s.seq h, Nat.le_refl _⟩⟩
theorem steady_tup {K : PySem.W.Frag} {H : Hp} {a : Addr} {xs : List V} (h : SqT K H a xs) : Steady (Itt K a) H xs.length (fun i x _ => xs[i]? = some x) :=
  ⟨fun i H' s hi => ⟨xs, xs[i], s.sqt h, by simp [hi]⟩, fun i H' x H2 s hi y => by
    obtain ⟨e, y⟩ := y
    subst e
    exact ⟨y xs (s.sqt h), Same.refl _⟩, fun H' s => ⟨xs, s.sqt h, Nat.le_refl _⟩⟩
theorem steady_range {H : Hp} {lo : Int} {n : Nat} : Steady (Itr lo n) H n (fun i x _ => x = .int (lo + i)) :=
  ⟨fun i H' s hi => hi, fun i H' x H2 s hi y => by
    obtain ⟨e, y⟩ := y
    subst e y
    exact ⟨rfl, Same.refl _⟩, fun H' s => Nat.le_refl _⟩
theorem steady_enum {K : PySem.W.Frag} {H : Hp} {b : Bool} {a : Addr} {xs : List V} (h : SqB K b H a xs) : Steady (Ite K b a) H xs.length (fun i v H2 => ∃ t x, v = .ref t ∧ H2 t = some (.tup [.int i, x]) ∧ xs[i]? = some x) :=
  ⟨fun i H' s hi => ⟨xs, xs[i], SqB.same s h, by simp [hi]⟩, fun i H' x H2 s hi y => by
    obtain ⟨t, v, hn, e, e', y⟩ := y
    subst e e'
    exact ⟨⟨t, v, rfl, upd_same, y xs (SqB.same s h)⟩, same_new hn _⟩, fun H' s => ⟨xs, SqB.same s h, Nat.le_refl _⟩⟩
theorem steady_zip {K : PySem.W.Frag} {H : Hp} {b1 b2 : Bool} {a1 a2 : Addr} {xs ys : List V} (h1 : SqB K b1 H a1 xs) (h2 : SqB K b2 H a2 ys) :
    Steady (Itz K b1 a1 b2 a2) H (min xs.length ys.length) (fun i v H2 => ∃ t x y, v = .ref t ∧ H2 t = some (.tup [x, y]) ∧ xs[i]? = some x ∧ ys[i]? = some y) :=
  ⟨fun i H' s hi => by
    have i1 : i < xs.length := by omega
    have i2 : i < ys.length := by omega
    exact ⟨xs, ys, xs[i], ys[i], SqB.same s h1, SqB.same s h2, by simp [i1], by simp [i2]⟩, fun i H' x H2 s hi y => by
    obtain ⟨t, u, v, hn, e, e', y1, y2⟩ := y
    subst e e'
    exact ⟨⟨t, u, v, rfl, upd_same, y1 xs (SqB.same s h1), y2 ys (SqB.same s h2)⟩, same_new hn _⟩, fun H' s => ⟨xs, ys, SqB.same s h1, SqB.same s h2, by omega⟩⟩
/-- what closes the turn of a comprehension: y goes behind the list at D -/
abbrev Snoc (D : Addr) (N : St → Hp → Prop) (y : V) (σ : St) (H : Hp) : Prop := ∃ ys, H D = some (.lst ys) ∧ ys.length < sizeLine ∧ N σ (upd H D (.lst (ys ++ [y])))
section
variable {J : It} {B : V → St → Hp → (St → Hp → Prop) → Prop} {End : St → Hp → Prop} {σ : St} {H : Hp} {D : Addr} {n : Nat} {El : Nat → V → Hp → Prop}
theorem comp_all (K : PySem.W.Frag) (S : Steady J H n El) (hD : H D = none) (hn : n ≤ 1000) (Sh : St → Prop) (h0 : Sh σ) (Pr : Nat → V → Hp → Prop) (mono : ∀ i y H1 H2, TSame K H1 H2 → Pr i y H1 → Pr i y H2)
    (hb : ∀ i x σ H' N, i < n → El i x H' → Sh σ → Same H H' → (∀ y σ3 H5, Sh σ3 → Same H' H5 → Pr i y H5 → Snoc D N y σ3 H5) → B x σ H' N)
    (hd : ∀ σ H' vs, Sh σ → Same H H' → H' D = some (.lst vs) → vs.length = n → (∀ i y, vs[i]? = some y → Pr i y H') → End σ H') : Turns J B End σ (upd H D (.lst [])) := by
  refine turns_seq (b := true) (xs := []) n (fun i σ H' => ∃ vs, Sh σ ∧ Same H H' ∧ H' D = some (.lst vs) ∧ vs.length = i ∧ ∀ j y, vs[j]? = some y → Pr j y H') ⟨[], h0, same_new hD _, upd_same, rfl, fun j y h => by simp at h⟩ ?_ ?_
  · rintro i σ H' hi ⟨vs, hsh, s, hv, hl, hp⟩
    refine ⟨S.go i H' s hi, fun x H2 y => ?_⟩
    obtain ⟨he, s2⟩ := S.yl i H' x H2 s hi y
    refine hb i x σ H2 _ hi he hsh (s.trans s2) fun y σ3 H5 hs3 s5 hy => ?_
    have hv5 := s5 _ _ (s2 _ _ hv)
    refine ⟨vs, hv5, small1000 (by omega), vs ++ [y], hs3, same_upd ((s.trans s2).trans s5) hD _, upd_same, by rw [List.length_append, hl]; rfl, fun j z hj => ?_⟩
    rcases Nat.lt_or_ge j vs.length with h | h
    · rw [List.getElem?_append_left h] at hj
      exact mono j z _ _ (((s2.trans s5).ts).trans (TSame.lst hv5)) (hp j z hj)
    · rw [List.getElem?_append_right h] at hj
      have hj0 : j - vs.length = 0 := by
        rcases Nat.eq_zero_or_pos (j - vs.length) with h | h
        · exact h
        · rw [List.getElem?_eq_none (by simp only [List.length_cons, List.length_nil]; omega)] at hj; cases hj
      rw [hj0] at hj
      cases hj
      have : j = i := by omega
      subst this
      exact mono _ _ _ _ (TSame.lst hv5) hy
  · rintro σ H' ⟨vs, hsh, s, hv, hl, hp⟩
    exact ⟨S.stop H' s, hd σ H' vs hsh s hv hl hp⟩
/-- values told by their places -/
theorem comp_val (K : PySem.W.Frag) (S : Steady J H n El) (hD : H D = none) (hn : n ≤ 1000) (Sh : St → Prop) (h0 : Sh σ) (ws : List V) (hw : ws.length = n)
    (hb : ∀ i x σ H' N, i < n → El i x H' → Sh σ → Same H H' → (∀ y σ3 H5, Sh σ3 → Same H' H5 → ws[i]? = some y → Snoc D N y σ3 H5) → B x σ H' N)
    (hd : ∀ σ H', Sh σ → Same H H' → H' D = some (.lst ws) → End σ H') : Turns J B End σ (upd H D (.lst [])) := by
  refine comp_all K S hD hn Sh h0 (fun i y _ => ws[i]? = some y) (fun _ _ _ _ _ h => h) hb fun σ H' vs hs s hv hl hp => hd σ H' hs s ?_
  have : vs = ws := by
    refine List.ext_getElem? fun i => ?_
    rcases Nat.lt_or_ge i vs.length with h | h
    · have e : vs[i]? = some vs[i] := by simp [h]
      rw [e, hp i _ e]
    · rw [List.getElem?_eq_none h, List.getElem?_eq_none (by omega)]
  rw [← this]
  exact hv
end
section
variable {K : PySem.W.Frag} {B : V → St → Hp → (St → Hp → Prop) → Prop} {End : St → Hp → Prop} {σ : St} {H : Hp} {D a : Addr}
theorem map_map_at {α : Type} {f : α → V} {xs : List α} {i : Nat} {x : α} (h : xs[i]? = some x) : (xs.map f)[i]? = some (f x) := by rw [List.getElem?_map, h]; rfl
/-- over whole numbers of a list, a tuple: a value of each -/
theorem comp_mapL {xs : List Int} (h : SqL K H a (xs.map V.int)) (hD : H D = none) (hn : xs.length ≤ 1000) (Sh : St → Prop) (h0 : Sh σ) (g : Int → V)
    (hb : ∀ x σ H' N, x ∈ xs → Sh σ → Same H H' → (∀ σ3 H5, Sh σ3 → Same H' H5 → Snoc D N (g x) σ3 H5) → B (.int x) σ H' N)
    (hd : ∀ σ H', Sh σ → Same H H' → H' D = some (.lst (xs.map g)) → End σ H') : Turns (Itl K a) B End σ (upd H D (.lst [])) := by
  have S := steady_list h
  rw [List.length_map] at S
  refine comp_val K S hD hn Sh h0 (xs.map g) (List.length_map _) (fun i x σ H' N hi he hs s k => ?_) hd
  obtain ⟨y, rfl, hy⟩ := map_int he
  exact hb y σ H' N (List.mem_of_getElem? hy) hs s fun σ3 H5 h3 s5 => k _ σ3 H5 h3 s5 (map_map_at hy)
theorem comp_mapT {xs : List Int} (h : SqT K H a (xs.map V.int)) (hD : H D = none) (hn : xs.length ≤ 1000) (Sh : St → Prop) (h0 : Sh σ) (g : Int → V)
    (hb : ∀ x σ H' N, x ∈ xs → Sh σ → Same H H' → (∀ σ3 H5, Sh σ3 → Same H' H5 → Snoc D N (g x) σ3 H5) → B (.int x) σ H' N)
    (hd : ∀ σ H', Sh σ → Same H H' → H' D = some (.lst (xs.map g)) → End σ H') : Turns (Itt K a) B End σ (upd H D (.lst [])) := by
  have S := steady_tup h
  rw [List.length_map] at S
  refine comp_val K S hD hn Sh h0 (xs.map g) (List.length_map _) (fun i x σ H' N hi he hs s k => ?_) hd
  obtain ⟨y, rfl, hy⟩ := map_int he
  exact hb y σ H' N (List.mem_of_getElem? hy) hs s fun σ3 H5 h3 s5 => k _ σ3 H5 h3 s5 (map_map_at hy)
/-- over a range -/
theorem comp_mapR (K : PySem.W.Frag) {n : Nat} (hD : H D = none) (hn : n ≤ 1000) (Sh : St → Prop) (h0 : Sh σ) (g : Nat → V)
    (hb : ∀ i σ H' N, i < n → Sh σ → Same H H' → (∀ σ3 H5, Sh σ3 → Same H' H5 → Snoc D N (g i) σ3 H5) → B (.int (0 + (i : Int))) σ H' N)
    (hd : ∀ σ H', Sh σ → Same H H' → H' D = some (.lst ((List.range n).map g)) → End σ H') : Turns (Itr 0 n) B End σ (upd H D (.lst [])) := by
  refine comp_val K steady_range hD hn Sh h0 ((List.range n).map g) (by simp) (fun i x σ H' N hi he hs s k => ?_) hd
  subst he
  exact hb i σ H' N hi hs s fun σ3 H5 h3 s5 => k _ σ3 H5 h3 s5 (map_map_at (by simp [hi]))
/-- over pairs of whole numbers -/
theorem comp_zip {b1 b2 : Bool} {a1 a2 : Addr} {xs ys : List Int} (h1 : SqB K b1 H a1 (xs.map V.int)) (h2 : SqB K b2 H a2 (ys.map V.int)) (hD : H D = none) (hn : xs.length ≤ 1000) (Sh : St → Prop) (h0 : Sh σ) (g : Int → Int → V)
    (hb : ∀ t x y σ H' N, H' t = some (.tup [.int x, .int y]) → x ∈ xs → y ∈ ys → Sh σ → Same H H' → (∀ σ3 H5, Sh σ3 → Same H' H5 → Snoc D N (g x y) σ3 H5) → B (.ref t) σ H' N)
    (hd : ∀ σ H', Sh σ → Same H H' → H' D = some (.lst (List.zipWith g xs ys)) → End σ H') : Turns (Itz K b1 a1 b2 a2) B End σ (upd H D (.lst [])) := by
  have S := steady_zip h1 h2
  rw [List.length_map, List.length_map] at S
  refine comp_val K S hD (by omega) Sh h0 (List.zipWith g xs ys) (by rw [List.length_zipWith]) (fun i v σ H' N hi he hs s k => ?_) hd
  obtain ⟨t, x, y, rfl, ht, hx, hy⟩ := he
  obtain ⟨x, rfl, hx1⟩ := map_int hx
  obtain ⟨y, rfl, hy1⟩ := map_int hy
  refine hb t x y σ H' N ht (List.mem_of_getElem? hx1) (List.mem_of_getElem? hy1) hs s fun σ3 H5 h3 s5 => k _ σ3 H5 h3 s5 ?_
  rw [List.getElem?_zipWith, hx1, hy1]
theorem zw_int (f : Int → Int → Int) (xs ys : List Int) : List.zipWith (fun x y => V.int (f x y)) xs ys = (List.zipWith f xs ys).map V.int := by rw [List.map_zipWith]
end
end L2
set_option Elab.async false
set_option linter.all false
set_option maxRecDepth 100000
set_option maxHeartbeats 4000000
namespace L2
open PySem PySem.Spec PyProof.Rows
/-! ### lists of values that stand for lists of things -/
def Al2 {α : Type} (R : V → α → Prop) (vs : List V) (rs : List α) : Prop := vs.length = rs.length ∧ ∀ (i : Nat) (v : V), vs[i]? = some v → ∃ r, rs[i]? = some r ∧ R v r
section
variable {α : Type} {R R' : V → α → Prop} {vs ws : List V} {rs ss : List α}
theorem Al2.nil : Al2 R [] [] := ⟨rfl, fun i v h => by simp at h⟩
theorem Al2.imp (h : Al2 R vs rs) (f : ∀ v r, R v r → R' v r) : Al2 R' vs rs := ⟨h.1, fun i v hv => let ⟨r, e, q⟩ := h.2 i v hv; ⟨r, e, f v r q⟩⟩
theorem Al2.append (h : Al2 R vs rs) (h' : Al2 R ws ss) : Al2 R (vs ++ ws) (rs ++ ss) := by
  refine ⟨by rw [List.length_append, List.length_append, h.1, h'.1], fun i v hv => ?_⟩
  rcases Nat.lt_or_ge i vs.length with c | c
  · rw [List.getElem?_append_left c] at hv
    obtain ⟨r, e, q⟩ := h.2 i v hv
    exact ⟨r, by rw [List.getElem?_append_left (by rw [← h.1]; exact c)]; exact e, q⟩
  · rw [List.getElem?_append_right c] at hv
    obtain ⟨r, e, q⟩ := h'.2 _ v hv
    exact ⟨r, by rw [List.getElem?_append_right (by rw [← h.1]; exact c), ← h.1]; exact e, q⟩
theorem Al2.one {v : V} {r : α} (h : R v r) : Al2 R [v] [r] := ⟨rfl, fun i x hx => by
  cases i with
  | zero => cases hx; exact ⟨r, rfl, h⟩
  | succ i => simp at hx⟩
theorem Al2.snoc {v : V} {r : α} (h : Al2 R vs rs) (q : R v r) : Al2 R (vs ++ [v]) (rs ++ [r]) := h.append (.one q)
theorem Al2.at (h : Al2 R vs rs) {i : Nat} {r : α} (e : rs[i]? = some r) : ∃ v, vs[i]? = some v ∧ R v r := by
  have hi := lt_of_at e
  have hv : i < vs.length := by rw [h.1]; exact hi
  obtain ⟨r', e', q⟩ := h.2 i vs[i] (by simp [hv])
  rw [e] at e'
  cases e'
  exact ⟨_, by simp [hv], q⟩
theorem Al2.ints {ns : List Int} : Al2 (fun v n => v = .int n) (ns.map V.int) ns := ⟨List.length_map _, fun i v hv => by
  obtain ⟨k, rfl, hk⟩ := map_int hv
  exact ⟨k, hk, rfl⟩⟩
end
/-! ### rows, bounds -/
def IsR (K : PySem.W.Frag) (H : Hp) (v : V) (r : List Int × Int) : Prop := ∃ x t, v = .ref x ∧ SqT K H x [.ref t, .int r.2] ∧ SqT K H t (r.1.map V.int)
theorem IsR.ts {K : PySem.W.Frag} {H H' : Hp} {v : V} {r : List Int × Int} (s : TSame K H H') (h : IsR K H v r) : IsR K H' v r := by
  obtain ⟨x, t, e, h1, h2⟩ := h
  exact ⟨x, t, e, s _ _ h1, s _ _ h2⟩
abbrev Rows (K : PySem.W.Frag) (H : Hp) (vs : List V) (rs : List (List Int × Int)) : Prop := Al2 (IsR K H) vs rs
theorem Al2.ts {K : PySem.W.Frag} {H H' : Hp} {vs : List V} {rs : List (List Int × Int)} (h : Rows K H vs rs) (s : TSame K H H') : Rows K H' vs rs := h.imp fun _ _ q => q.ts s
theorem IsR.eqT {K : PySem.W.Frag} {H : Hp} {v w : V} {r : List Int × Int} {d : Nat} (h : IsR K H v r) (h' : IsR K H w r) : EqT K H (d + 2) v w := by
  obtain ⟨x, t, rfl, h1, h2⟩ := h
  obtain ⟨x', t', rfl, h1', h2'⟩ := h'
  refine .sq false h1 h1' rfl fun i a b ha hb => ?_
  match i, ha, hb with
  | 0, ha, hb => cases ha; cases hb; exact EqT.ints false h2 h2'
  | 1, ha, hb => cases ha; cases hb; exact .int _
  | i + 2, ha, hb => simp at ha
theorem Rows.eqT {K : PySem.W.Frag} {H : Hp} {vs ws : List V} {rs : List (List Int × Int)} {d : Nat} {a b : Addr} (q : Bool) (ha : SqB K q H a vs) (hb : SqB K q H b ws) (h : Rows K H vs rs) (h' : Rows K H ws rs) : EqT K H (d + 3) (.ref a) (.ref b) := by
  refine .sq q ha hb (h.1.trans h'.1.symm) fun i x y hx hy => ?_
  obtain ⟨r, e, q1⟩ := h.2 i x hx
  obtain ⟨r', e', q2⟩ := h'.2 i y hy
  rw [e] at e'
  cases e'
  exact q1.eqT q2
def optV : Option Int → V
  | none => .non
  | some m => .int m
def IsB (K : PySem.W.Frag) (H : Hp) (v : V) (b : Int × Option Int) : Prop := ∃ x, v = .ref x ∧ SqT K H x [.int b.1, optV b.2]
theorem IsB.ts {K : PySem.W.Frag} {H H' : Hp} {v : V} {b : Int × Option Int} (s : TSame K H H') (h : IsB K H v b) : IsB K H' v b := by
  obtain ⟨x, e, h1⟩ := h
  exact ⟨x, e, s _ _ h1⟩
def unitL (n k : Nat) : List Int := (List.range n).map fun i => if i = k then 1 else 0
theorem unit_is {n k : Nat} (h : k < n) : List.replicate k (0 : Int) ++ [1] ++ List.replicate (n - 1 - k) 0 = unitL n k := by
  refine List.ext_getElem? fun i => ?_
  unfold unitL
  rw [List.getElem?_map]
  rcases Nat.lt_or_ge i n with c | c
  · rw [List.getElem?_range c]
    rcases Nat.lt_trichotomy i k with d | d | d
    · rw [List.append_assoc, List.getElem?_append_left (by simpa using d)]
      simp [List.getElem?_replicate, d, Nat.ne_of_lt d]
    · subst d
      rw [List.append_assoc, List.getElem?_append_right (by simp)]
      simp
    · rw [List.getElem?_append_right (by simp; omega)]
      simp [List.getElem?_replicate]
      omega
  · rw [List.getElem?_eq_none (by simp; omega), List.getElem?_eq_none (by simpa using c)]
    rfl
theorem unit_neg {n k : Nat} (h : k < n) : List.replicate k (0 : Int) ++ [-1] ++ List.replicate (n - 1 - k) 0 = (unitL n k).map (- ·) := by
  rw [← unit_is h]
  simp
theorem rep_int (k : Nat) (z : Int) : (List.replicate k [V.int z]).flatten = (List.replicate k z).map V.int := by
  induction k with
  | zero => rfl
  | succ k ih => rw [List.replicate_succ, List.flatten_cons, ih]; rfl
def bAt (bs : List (Int × Option Int)) (i : Nat) : Int × Option Int := bs.getD i (0, none)
def leastL (bs : List (Int × Option Int)) (i : Nat) : List Int × Int := (unitL bs.length i, (bAt bs i).1)
def mostL (bs : List (Int × Option Int)) (i : Nat) : Option (List Int × Int) := (bAt bs i).2.map fun m => ((unitL bs.length i).map (- ·), -m)
def givensL (bs : List (Int × Option Int)) (rs : List (List Int × Int)) : List (List Int × Int) := (List.range bs.length).map (leastL bs) ++ (List.range bs.length).filterMap (mostL bs) ++ rs
theorem bAt_of {bs : List (Int × Option Int)} {i : Nat} (h : i < bs.length) : bs[i]? = some (bAt bs i) := by
  unfold bAt
  rw [List.getD_eq_getElem?_getD, List.getElem?_eq_getElem h]
  rfl
theorem range_fm {β : Type} (f : Nat → Option β) (i : Nat) : (List.range (i + 1)).filterMap f = (List.range i).filterMap f ++ (f i).toList := by
  rw [List.range_succ, List.filterMap_append]
  cases h : f i <;> simp [List.filterMap, h]
theorem range_fm_len {β : Type} (f : Nat → Option β) (i : Nat) : ((List.range i).filterMap f).length ≤ i := by
  have := List.length_filterMap_le f (List.range i)
  simpa using this
theorem all_true (n : Nat) : (List.replicate n true).all id = true := by simp
theorem map_const_bl {α : Type} (xs : List α) : xs.map (fun _ => V.bl true) = (List.replicate xs.length true).map V.bl := by rw [List.map_const', List.map_replicate]
end L2
set_option Elab.async false
set_option linter.all false
set_option maxRecDepth 100000
set_option maxHeartbeats 4000000
namespace L2
open PySem PySem.Spec PyProof.Rows
/-! ### pairs of whole numbers, sums of shares, the row of a cut -/
abbrev Row := List Int × Int
def IsP (K : PySem.W.Frag) (H : Hp) (v : V) (s : Int × Int) : Prop := ∃ x, v = .ref x ∧ SqT K H x [.int s.1, .int s.2]
theorem IsP.ts {K : PySem.W.Frag} {H H' : Hp} {v : V} {s : Int × Int} (t : TSame K H H') (h : IsP K H v s) : IsP K H' v s := by
  obtain ⟨x, e, h1⟩ := h
  exact ⟨x, e, t _ _ h1⟩
abbrev Shs (K : PySem.W.Frag) (H : Hp) (vs : List V) (ss : List (Int × Int)) : Prop := Al2 (IsP K H) vs ss
theorem Al2.pts {K : PySem.W.Frag} {H H' : Hp} {vs : List V} {ss : List (Int × Int)} (h : Shs K H vs ss) (s : TSame K H H') : Shs K H' vs ss := h.imp fun _ _ q => q.ts s
def rowAt (rs : List Row) (k : Int) : Row := rs.getD k.toNat ([], 0)
theorem rowAt_of {rs : List Row} {k : Int} (h0 : 0 ≤ k) (h1 : k < rs.length) : rs[k.toNat]? = some (rowAt rs k) := by
  have h : k.toNat < rs.length := by omega
  unfold rowAt
  rw [List.getD_eq_getElem?_getD, List.getElem?_eq_getElem h]
  rfl
theorem rowAt_mem {rs : List Row} {k : Int} (h0 : 0 ≤ k) (h1 : k < rs.length) : rowAt rs k ∈ rs := List.mem_of_getElem? (rowAt_of h0 h1)
def okS (rs : List Row) (s : Int × Int) : Prop := (0 ≤ s.1 ∧ s.1 < rs.length) ∧ 0 ≤ s.2
instance (rs : List Row) (s : Int × Int) : Decidable (okS rs s) := by unfold okS; infer_instance
def addS (rs : List Row) (a : Row) (s : Int × Int) : Row := (List.zipWith (fun t e => t + s.2 * e) a.1 (rowAt rs s.1).1, a.2 + s.2 * (rowAt rs s.1).2)
def stepS (rs : List Row) (st : Option Row) (s : Int × Int) : Option Row := st.bind fun a => if okS rs s then some (addS rs a s) else none
def sumS (rs : List Row) (shs : List (Int × Int)) (n : Nat) : Option Row := shs.foldl (stepS rs) (some (List.replicate n 0, 0))
theorem sumS_none (rs : List Row) : ∀ shs : List (Int × Int), shs.foldl (stepS rs) none = none
  | [] => rfl
  | _ :: t => sumS_none rs t
theorem sumS_snoc {rs : List Row} {shs : List (Int × Int)} {n i : Nat} {s : Int × Int} (h : shs[i]? = some s) : sumS rs (shs.take (i + 1)) n = stepS rs (sumS rs (shs.take i) n) s := by
  unfold sumS
  rw [take_snoc h, List.foldl_append]
  rfl
theorem sumS_bad {rs : List Row} {shs : List (Int × Int)} {n i : Nat} {s : Int × Int} (h : shs[i]? = some s) (hb : ¬ okS rs s) : sumS rs shs n = none := by
  have e : shs = shs.take (i + 1) ++ shs.drop (i + 1) := (List.take_append_drop _ _).symm
  have : sumS rs (shs.take (i + 1)) n = none := by
    rw [sumS_snoc h]
    unfold stepS
    cases sumS rs (shs.take i) n with
    | none => rfl
    | some a => simp [hb]
  unfold sumS at this ⊢
  rw [e, List.foldl_append, this, sumS_none]
theorem sumS_ok {rs : List Row} {shs : List (Int × Int)} {n i : Nat} {s : Int × Int} {a : Row} (h : shs[i]? = some s) (ha : sumS rs (shs.take i) n = some a) (hb : okS rs s) : sumS rs (shs.take (i + 1)) n = some (addS rs a s) := by
  rw [sumS_snoc h, ha]
  unfold stepS
  simp [hb]
theorem sumS_len {rs : List Row} {n : Nat} (hr : ∀ r ∈ rs, r.1.length = n) {shs : List (Int × Int)} {r : Row} (h : sumS rs shs n = some r) : r.1.length = n := by
  have key : ∀ (shs : List (Int × Int)) (a : Row), a.1.length = n → ∀ r, shs.foldl (stepS rs) (some a) = some r → r.1.length = n := by
    intro shs
    induction shs with
    | nil => intro a ha r h; cases h; exact ha
    | cons s t ih =>
      intro a ha r h
      rw [List.foldl_cons] at h
      by_cases c : okS rs s
      · have e : stepS rs (some a) s = some (addS rs a s) := by unfold stepS; simp [c]
        rw [e] at h
        refine ih _ ?_ r h
        unfold addS
        rw [List.length_zipWith, hr _ (rowAt_mem c.1.1 c.1.2), ha]
        exact Nat.min_self n
      · have e : stepS rs (some a) s = none := by unfold stepS; simp [c]
        rw [e, sumS_none] at h
        cases h
  exact key shs _ (by simp) r h
theorem sumS_some {rs : List Row} {n : Nat} {shs : List (Int × Int)} (h : ∀ s ∈ shs, okS rs s) : ∃ r, sumS rs shs n = some r := by
  have key : ∀ (shs : List (Int × Int)) (a : Row), (∀ s ∈ shs, okS rs s) → ∃ r, shs.foldl (stepS rs) (some a) = some r := by
    intro shs
    induction shs with
    | nil => intro a _; exact ⟨a, rfl⟩
    | cons s t ih =>
      intro a h
      have e : stepS rs (some a) s = some (addS rs a s) := by unfold stepS; simp [h s List.mem_cons_self]
      rw [List.foldl_cons, e]
      exact ih _ fun x hx => h x (List.mem_cons_of_mem _ hx)
  exact key shs _ h
/-- bits of a sum -/
theorem sumS_le {rs : List Row} {n W E : Nat} {shs : List (Int × Int)} {r : Row} (h : sumS rs shs n = some r) (hr : ∀ r ∈ rs, (∀ x ∈ r.1, x.natAbs ≤ E) ∧ r.2.natAbs ≤ E) (hw : ∀ s ∈ shs, s.2.natAbs ≤ W) :
    (∀ x ∈ r.1, x.natAbs ≤ shs.length * (W * E)) ∧ r.2.natAbs ≤ shs.length * (W * E) := by
  have key : ∀ (shs : List (Int × Int)) (a : Row) (B : Nat), (∀ x ∈ a.1, x.natAbs ≤ B) → a.2.natAbs ≤ B → (∀ s ∈ shs, s.2.natAbs ≤ W) → ∀ r, shs.foldl (stepS rs) (some a) = some r → (∀ x ∈ r.1, x.natAbs ≤ B + shs.length * (W * E)) ∧ r.2.natAbs ≤ B + shs.length * (W * E) := by
    intro shs
    induction shs with
    | nil => intro a B ha hb _ r h; cases h; exact ⟨fun x hx => by have := ha x hx; simp; omega, by simp; omega⟩
    | cons s t ih =>
      intro a B ha hb hw r h
      rw [List.foldl_cons] at h
      by_cases c : okS rs s
      · have e : stepS rs (some a) s = some (addS rs a s) := by unfold stepS; simp [c]
        rw [e] at h
        have hm := hr _ (rowAt_mem c.1.1 c.1.2)
        have hs := hw s List.mem_cons_self
        have hmul : ∀ x : Int, x.natAbs ≤ E → (s.2 * x).natAbs ≤ W * E := fun x hx => by rw [Int.natAbs_mul]; exact Nat.mul_le_mul hs hx
        have h1 : ∀ x ∈ (addS rs a s).1, x.natAbs ≤ B + W * E := by
          intro x hx
          unfold addS at hx
          obtain ⟨i, hi⟩ := List.getElem?_of_mem hx
          rw [List.getElem?_zipWith] at hi
          cases h1 : a.1[i]? with
          | none => rw [h1] at hi; cases hi
          | some u =>
            cases h2 : (rowAt rs s.1).1[i]? with
            | none => rw [h1, h2] at hi; cases hi
            | some v =>
              rw [h1, h2] at hi
              cases hi
              have := ha u (List.mem_of_getElem? h1)
              have := hmul v (hm.1 v (List.mem_of_getElem? h2))
              have := Int.natAbs_add_le u (s.2 * v)
              omega
        have h2 : (addS rs a s).2.natAbs ≤ B + W * E := by
          have := hmul _ hm.2
          have := Int.natAbs_add_le a.2 (s.2 * (rowAt rs s.1).2)
          unfold addS
          show (a.2 + s.2 * (rowAt rs s.1).2).natAbs ≤ _
          omega
        have := ih _ (B + W * E) h1 h2 (fun x hx => hw x (List.mem_cons_of_mem _ hx)) r h
        have e : B + (s :: t).length * (W * E) = B + W * E + t.length * (W * E) := by rw [List.length_cons, Nat.add_mul]; omega
        rw [e]
        exact this
      · have e : stepS rs (some a) s = none := by unfold stepS; simp [c]
        rw [e, sumS_none] at h
        cases h
  have := key shs (List.replicate n 0, 0) 0 (fun x hx => by rw [(List.mem_replicate.mp hx).2]; decide) (by show (0 : Int).natAbs ≤ 0; decide) hw r h
  simpa using this
def widthL : List Row → Nat
  | [] => 0
  | r :: _ => r.1.length
theorem sumS_width {rs : List Row} {n : Nat} {shs : List (Int × Int)} (hr : ∀ r ∈ rs, r.1.length = n) (hs : shs ≠ []) : sumS rs shs (widthL rs) = sumS rs shs n := by
  cases rs with
  | cons r t => rw [show widthL (r :: t) = n from hr r List.mem_cons_self]
  | nil =>
    cases shs with
    | nil => exact absurd rfl hs
    | cons s t =>
      have hb : ¬ okS [] s := fun c => by have := c.1; simp at this; omega
      rw [sumS_bad (i := 0) (s := s) rfl hb, sumS_bad (i := 0) (s := s) rfl hb]
def lineL (rs : List Row) (shs : List (Int × Int)) (d : Int) (n : Nat) : Option Row :=
  if shs.length = 0 ∨ d < 1 then none else (sumS rs shs n).bind fun a => if a.1.any (fun e => decide (e % d ≠ 0)) = true then none else some (a.1.map (· / d), -(-a.2 / d))
theorem cut_head {α : Type} (xs : List α) (n : Nat) : cutL xs none (some (n : Int)) = xs.take n := by
  unfold cutL
  have e1 : HT.sIx xs.length 0 none = 0 := rfl
  have e2 : HT.sIx xs.length xs.length (some (n : Int)) = min n xs.length := HT.sIx_nat _ _ _
  rw [e1, e2, List.drop_zero, Nat.sub_zero]
  rcases Nat.le_total n xs.length with h | h
  · rw [Nat.min_eq_left h]
  · rw [Nat.min_eq_right h, List.take_length, List.take_of_length_le h]
theorem cut_tail {α : Type} (xs : List α) (n : Nat) : cutL xs (some (n : Int)) none = xs.drop n := by
  unfold cutL
  have e1 : HT.sIx xs.length xs.length none = xs.length := rfl
  have e2 : HT.sIx xs.length 0 (some (n : Int)) = min n xs.length := HT.sIx_nat _ _ _
  rw [e1, e2]
  rcases Nat.le_total n xs.length with h | h
  · rw [Nat.min_eq_left h, List.take_of_length_le (by rw [List.length_drop]; omega)]
  · rw [Nat.min_eq_right h, List.drop_length, List.drop_of_length_le h]
    simp
theorem zw_end {α β γ : Type} {f : α → β → γ} {xs : List α} {ys : List β} {x : α} {y : β} (h : xs.length = ys.length) : List.zipWith f (xs ++ [x]) (ys ++ [y]) = List.zipWith f xs ys ++ [f x y] := by
  rw [List.zipWith_append h]
  rfl
def rGetL (K : PySem.W.Frag) : V → V → Hp → VK → Prop := fun x y H Q => ∃ p xs i j v, x = .ref p ∧ y = .int i ∧ SqL K H p xs ∧ i = ((j : Nat) : Int) ∧ xs[j]? = some v ∧ Q v H
theorem get_list {X : Cx} : PGet X (rGetL X.K) := by
  intro pins s σ H o i ov iv Q I ro ri h
  obtain ⟨p, xs, i, j, v, rfl, rfl, hq, rfl, hv, q⟩ := h
  cases ro
  obtain ⟨t, rfl⟩ := ri
  obtain ⟨its, r, pl, hz⟩ := I.list hq
  obtain ⟨w, ew, rw'⟩ := r.get hv
  have hl := r.length
  have hn := line63
  have hj := lt_of_at hv
  exact wpAny_getItem_list pl.isList (by omega) (by omega) (by rw [Int.toNat_natCast]; simpa using ew) ⟨v, H, I, rw', q⟩
theorem cut_mid {α : Type} (xs : List α) (a b : Nat) (hb : b ≤ xs.length) (ha : a ≤ b) : cutL xs (some (a : Int)) (some (b : Int)) = (xs.drop a).take (b - a) := by
  unfold cutL
  rw [HT.sIx_nat, HT.sIx_nat, Nat.min_eq_left hb, Nat.min_eq_left (Nat.le_trans ha hb)]
theorem cutV_is (xs : List V) (lo hi : Option Int) : cutV xs lo hi = cutL xs lo hi := rfl
theorem rep_ints (k : Nat) (zs : List Int) : (List.replicate k (zs.map V.int)).flatten = ((List.replicate k zs).flatten).map V.int := by
  induction k with
  | zero => rfl
  | succ k ih => rw [List.replicate_succ, List.flatten_cons, ih, List.replicate_succ, List.flatten_cons, List.map_append]
theorem mem_rep {k : Nat} {zs : List Int} {z : Int} (h : z ∈ (List.replicate k zs).flatten) : z ∈ zs := by
  obtain ⟨l, hl, hz⟩ := List.mem_flatten.mp h
  rw [(List.mem_replicate.mp hl).2] at hz
  exact hz
section
variable {α : Type} {R : V → α → Prop} {vs : List V} {rs : List α}
theorem Al2.take (h : Al2 R vs rs) (k : Nat) : Al2 R (vs.take k) (rs.take k) := by
  refine ⟨by rw [List.length_take, List.length_take, h.1], fun i v hv => ?_⟩
  rw [List.getElem?_take] at hv ⊢
  by_cases c : i < k
  · rw [if_pos c] at hv ⊢
    exact h.2 i v hv
  · rw [if_neg c] at hv; cases hv
theorem Al2.drop (h : Al2 R vs rs) (k : Nat) : Al2 R (vs.drop k) (rs.drop k) := by
  refine ⟨by rw [List.length_drop, List.length_drop, h.1], fun i v hv => ?_⟩
  rw [List.getElem?_drop] at hv ⊢
  exact h.2 _ v hv
end
theorem ixN_nat {n j : Nat} (h : j < n) : ixN n (j : Int) = some j := by
  unfold ixN
  rw [if_pos (by omega), if_pos (by omega), Int.toNat_natCast]
def RowOk (n B : Nat) (r : Row) : Prop := r.1.length = n ∧ (∀ x ∈ r.1, x.natAbs ≤ B) ∧ r.2.natAbs ≤ B
theorem RowOk.mono {n B B' : Nat} {r : Row} (h : RowOk n B r) (hb : B ≤ B') : RowOk n B' r := ⟨h.1, fun x hx => Nat.le_trans (h.2.1 x hx) hb, Nat.le_trans h.2.2 hb⟩
end L2
set_option Elab.async false
set_option linter.all false
set_option maxRecDepth 100000
set_option maxHeartbeats 4000000
namespace L2
open PySem PySem.Spec PyProof.Rows
/-! ### the rules once more, the fragment by its name (inside a comprehension) -/
/-! ### an argument that is no star -/
theorem se_BoolOp {a0 a1 a2} {rest : List Expr} {env : Env} : starEach (.BoolOp a0 a1 a2 :: rest) env = (false, eval (.BoolOp a0 a1 a2) env) :: starEach rest env := rfl
theorem se_BinOp {a0 a1 a2 a3} {rest : List Expr} {env : Env} : starEach (.BinOp a0 a1 a2 a3 :: rest) env = (false, eval (.BinOp a0 a1 a2 a3) env) :: starEach rest env := rfl
theorem se_UnaryOp {a0 a1 a2} {rest : List Expr} {env : Env} : starEach (.UnaryOp a0 a1 a2 :: rest) env = (false, eval (.UnaryOp a0 a1 a2) env) :: starEach rest env := rfl
theorem se_IfExp {a0 a1 a2 a3} {rest : List Expr} {env : Env} : starEach (.IfExp a0 a1 a2 a3 :: rest) env = (false, eval (.IfExp a0 a1 a2 a3) env) :: starEach rest env := rfl
theorem se_ListComp {a0 a1 a2 a3} {rest : List Expr} {env : Env} : starEach (.ListComp a0 a1 a2 a3 :: rest) env = (false, eval (.ListComp a0 a1 a2 a3) env) :: starEach rest env := rfl
theorem se_Compare {a0 a1 a2 a3} {rest : List Expr} {env : Env} : starEach (.Compare a0 a1 a2 a3 :: rest) env = (false, eval (.Compare a0 a1 a2 a3) env) :: starEach rest env := rfl
theorem se_Call {a0 a1 a2 a3} {rest : List Expr} {env : Env} : starEach (.Call a0 a1 a2 a3 :: rest) env = (false, eval (.Call a0 a1 a2 a3) env) :: starEach rest env := rfl
theorem se_Constant {a0 a1 a2} {rest : List Expr} {env : Env} : starEach (.Constant a0 a1 a2 :: rest) env = (false, eval (.Constant a0 a1 a2) env) :: starEach rest env := rfl
theorem se_Attribute {a0 a1 a2} {rest : List Expr} {env : Env} : starEach (.Attribute a0 a1 a2 :: rest) env = (false, eval (.Attribute a0 a1 a2) env) :: starEach rest env := rfl
theorem se_Subscript {a0 a1 a2} {rest : List Expr} {env : Env} : starEach (.Subscript a0 a1 a2 :: rest) env = (false, eval (.Subscript a0 a1 a2) env) :: starEach rest env := rfl
theorem se_Name {a0 a1} {rest : List Expr} {env : Env} : starEach (.Name a0 a1 :: rest) env = (false, eval (.Name a0 a1) env) :: starEach rest env := rfl
theorem se_List {a0 a1} {rest : List Expr} {env : Env} : starEach (.List a0 a1 :: rest) env = (false, eval (.List a0 a1) env) :: starEach rest env := rfl
theorem se_Tuple {a0 a1 a2} {rest : List Expr} {env : Env} : starEach (.Tuple a0 a1 a2 :: rest) env = (false, eval (.Tuple a0 a1 a2) env) :: starEach rest env := rfl
theorem se_JoinedStr {a0 a1} {rest : List Expr} {env : Env} : starEach (.JoinedStr a0 a1 :: rest) env = (false, eval (.JoinedStr a0 a1) env) :: starEach rest env := rfl
theorem se_GeneratorExp {a0 a1 a2 a3} {rest : List Expr} {env : Env} : starEach (.GeneratorExp a0 a1 a2 a3 :: rest) env = (false, eval (.GeneratorExp a0 a1 a2 a3) env) :: starEach rest env := rfl
theorem se_Dict {a0 a1 a2} {rest : List Expr} {env : Env} : starEach (.Dict a0 a1 a2 :: rest) env = (false, eval (.Dict a0 a1 a2) env) :: starEach rest env := rfl
theorem se_Lambda {a0 a1 a2 a3} {rest : List Expr} {env : Env} : starEach (.Lambda a0 a1 a2 a3 :: rest) env = (false, eval (.Lambda a0 a1 a2 a3) env) :: starEach rest env := rfl
theorem npl_nil {pos : Pos} {env : Env} : (backTo pos (starEach [] env)).any (·.1) = false := rfl
theorem npl_cons {pos : Pos} {e : Expr} {es : List Expr} {env : Env} (h : starEach (e :: es) env = (false, eval e env) :: starEach es env) (hr : (backTo pos (starEach es env)).any (·.1) = false) : (backTo pos (starEach (e :: es) env)).any (·.1) = false := by
  rw [h]
  exact hr
theorem few_of {pos : Pos} {e : Expr} {env : Env} (h : starEach [e] env = (false, eval e env) :: starEach [] env) : ((backTo pos (starEach [e] env)).all (fun x => !x.1) && (backToKw pos (keywordEach [] env)).all (fun x => x.1.isSome)
      && decide ([e].length + ([] : List Keyword).length + (if ([] : List Keyword).isEmpty then 0 else 1) < 30)) = true := by
  rw [h]
  rfl
/-- an argument list, its meaning not looked into while it grows -/
@[irreducible] def PAi (X : Cx) (es : List Expr) (t : TA) : Prop := PA X es t
theorem PAi.pa {X : Cx} {es : List Expr} {t : TA} (h : PAi X es t) : PA X es t := by
  unfold PAi at h
  exact h
theorem pai_nil {X : Cx} : PAi X [] tNil := by
  unfold PAi
  exact pa_nil
theorem pai_cons {X : Cx} {e : Expr} {te : TE} {es : List Expr} {t : TA} (ha : PE X e te) (hr : PAi X es t) (hs : starEach (e :: es) X.env = (false, eval e X.env) :: starEach es X.env) : PAi X (e :: es) (tCons te t) := by
  unfold PAi at hr ⊢
  exact pa_cons ha hr hs
@[irreducible] def PEi (X : Cx) (e : Expr) (t : TE) : Prop := PE X e t
theorem PEi.of {X : Cx} {e : Expr} {t : TE} (h : PE X e t) : PEi X e t := by
  unfold PEi
  exact h
theorem pai_consI {X : Cx} {e : Expr} {te : TE} {es : List Expr} {t : TA} (ha : PEi X e te) (hr : PAi X es t) (hs : starEach (e :: es) X.env = (false, eval e X.env) :: starEach es X.env) : PAi X (e :: es) (tCons te t) := by
  unfold PEi at ha
  exact pai_cons ha hr hs
theorem pei_lst {X : Cx} {es : List Expr} {t : TA} {pos : Pos} (h : PAi X es t) : PEi X (.List es pos) (tLst t) := by
  unfold PEi
  exact pe_lst h.pa
theorem pe_callI {X : Cx} {CX : CXT} {k : Nat} {f : Addr} {fd : FuncData} {ps : List Str} {sp : Sp} {x : Str} {ds : List Value} {dvs : List V} {E : XK} {e : Expr} {es : List Expr} {t : TA} {p pos : Pos} (F : FnOk X.prog X.w X.K X.mg X.base CX k f fd ps sp) (hr : Room k X.A) (hg : Gl X x) (hm : X.mg x = some (.ref f)) (hk : PySem.W.keepIn X.K (.ref f) = true) (hb : Binds X.K fd ps ds) (hd : Vals dvs ds) (hx : Passes CX X E)
    (ha : PAi X (e :: es) t) (hdb : (x == ("__debug__" : Str)) = false := by decide) (he : starEach (e :: es) X.env = (false, eval e X.env) :: starEach es X.env := by rfl) (hpl : (backTo pos (starEach es X.env)).any (·.1) = false := by rfl) :
    PE X (.Call (.Name x p) (e :: es) [] pos) (tCall sp dvs E t) := pe_call F hr hg hm hk hb hd hx ha.pa hdb he hpl
section
variable {X : Cx} {K : PySem.W.Frag}
theorem ix_tupK (h : X.K = K) : IxR X (rIxT K) := h ▸ ix_tup
theorem ix_listK (h : X.K = K) : IxR X (rIxL K) := h ▸ ix_list
theorem call_isiK (h : X.K = K) : CallR X (.builtin "isinstance") (rIsi K) := h ▸ call_isi
theorem call_sumK (b : Bool) (h : X.K = K) (hc : X.calm = true) : CallR X (.builtin "sum") (rSum K b) := h ▸ call_sum b hc
theorem call_allK (b : Bool) (h : X.K = K) (hc : X.calm = true) : CallR X (.builtin "all") (rAll K b fun bs => bs.all id) := h ▸ call_all b hc
theorem call_anyK (b : Bool) (h : X.K = K) (hc : X.calm = true) : CallR X (.builtin "any") (rAll K b fun bs => bs.any id) := h ▸ call_any b hc
theorem call_lenK (h : X.K = K) : CallR X (.builtin "len") (fun xs H Q => ∃ p ys, xs = [.ref p] ∧ (SqL K H p ys ∨ SqT K H p ys) ∧ Q (.int ys.length) H) := h ▸ call_len_seq
theorem call_tupleK (h : X.K = K) : CallR X (.type "tuple") (fun xs H Q => ∃ p ys, xs = [.ref p] ∧ ((SqL K H p ys ∧ ∀ l, H l = none → Q (.ref l) (upd H l (.tup ys))) ∨ (SqT K H p ys ∧ Q (.ref p) H))) := h ▸ call_tuple_of
theorem call_listK (h : X.K = K) : CallR X (.type "list") (fun xs H Q => ∃ p ys, xs = [.ref p] ∧ (SqL K H p ys ∨ SqT K H p ys) ∧ ∀ l, H l = none → Q (.ref l) (upd H l (.lst ys))) := h ▸ call_list_of
theorem op_catK (h : X.K = K) : OpR X (binaryOp .Add) (rCatG K) := h ▸ op_catG
theorem sl_listK (h : X.K = K) : SlR X (rSlL K) := h ▸ sl_list
theorem pg_tupK {es : List Expr} {k : Nat} {pos : Pos} {t : TGs} {n : Nat} (h : X.K = K) (hp : PG X (.Tuple es k pos) (gTup X.K n t)) : PG X (.Tuple es k pos) (gTup K n t) := h ▸ hp
def rAllE (K : PySem.W.Frag) (b : Bool) (f : List Bool → Bool) : List V → Hp → VK → Prop := fun vs H Q => ∃ (a : Addr) (bs : List Bool) (r : Bool), vs = [.ref a] ∧ SqB K b H a (bs.map V.bl) ∧ f bs = r ∧ Q (.bl r) H
theorem call_allE (b : Bool) (h : X.K = K) (hc : X.calm = true) : CallR X (.builtin "all") (rAllE K b fun bs => bs.all id) := by
  intro pins s σ H xs us Q I r q
  obtain ⟨a, bs, rr, e, hq, rfl, q⟩ := q
  exact call_allK b h hc pins s σ H xs us Q I r ⟨a, bs, e, hq, q⟩
theorem call_anyE (b : Bool) (h : X.K = K) (hc : X.calm = true) : CallR X (.builtin "any") (rAllE K b fun bs => bs.any id) := by
  intro pins s σ H xs us Q I r q
  obtain ⟨a, bs, rr, e, hq, rfl, q⟩ := q
  exact call_anyK b h hc pins s σ H xs us Q I r ⟨a, bs, e, hq, q⟩
end
end L2
set_option Elab.async false
set_option linter.all false
set_option maxRecDepth 100000
set_option maxHeartbeats 4000000
namespace L2
open PySem PySem.Spec PyProof.Rows
/-! ### rows that a spot meets -/
theorem dot_add (w : Int) : ∀ {a r sp : List Int}, a.length = r.length → dot (List.zipWith (fun t e => t + w * e) a r) sp = dot a sp + w * dot r sp
  | [], [], _, _ => by simp [dot]
  | [], _ :: _, _, h => by simp at h
  | _ :: _, [], _, h => by simp at h
  | _ :: _, _ :: _, [], _ => by simp [dot]
  | x :: a, y :: r, z :: sp, h => by
    have ih := dot_add w (a := a) (r := r) (sp := sp) (by simpa using h)
    have e : ∀ (x y : Int) (es ns : List Int), dot (x :: es) (y :: ns) = x * y + dot es ns := fun x y es ns => by simp [dot]
    rw [List.zipWith_cons_cons, e, e, e, ih, Int.add_mul, Int.mul_add, Int.mul_assoc]
    omega
theorem dot_zero (n : Nat) (sp : List Int) : dot (List.replicate n 0) sp = 0 := by
  induction n generalizing sp with
  | zero => simp [dot]
  | succ n ih =>
    cases sp with
    | nil => simp [dot]
    | cons z sp =>
      have := ih sp
      simp only [dot, List.replicate_succ, List.zipWith_cons_cons, List.sum_cons] at this ⊢
      omega
def Met (sp : List Int) (r : Row) : Prop := r.2 ≤ dot r.1 sp
theorem sumS_met {rs : List Row} {n : Nat} {shs : List (Int × Int)} {sp : List Int} {r : Row} (hr : ∀ r ∈ rs, r.1.length = n ∧ Met sp r) (h : sumS rs shs n = some r) : Met sp r := by
  have key : ∀ (shs : List (Int × Int)) (a : Row), a.1.length = n → Met sp a → ∀ r, shs.foldl (stepS rs) (some a) = some r → Met sp r := by
    intro shs
    induction shs with
    | nil => intro a _ ha r h; cases h; exact ha
    | cons s t ih =>
      intro a hl ha r h
      rw [List.foldl_cons] at h
      by_cases c : okS rs s
      · have e : stepS rs (some a) s = some (addS rs a s) := by unfold stepS; simp [c]
        rw [e] at h
        have hm := hr _ (rowAt_mem c.1.1 c.1.2)
        refine ih _ ?_ ?_ r h
        · unfold addS
          rw [List.length_zipWith, hm.1, hl]
          exact Nat.min_self n
        · unfold Met addS
          show a.2 + s.2 * (rowAt rs s.1).2 ≤ dot (List.zipWith (fun t e => t + s.2 * e) a.1 (rowAt rs s.1).1) sp
          rw [dot_add s.2 (hl.trans hm.1.symm)]
          have h1 : s.2 * (rowAt rs s.1).2 ≤ s.2 * dot (rowAt rs s.1).1 sp := Int.mul_le_mul_of_nonneg_left hm.2 c.2
          have h2 : a.2 ≤ dot a.1 sp := ha
          omega
      · have e : stepS rs (some a) s = none := by unfold stepS; simp [c]
        rw [e, sumS_none] at h
        cases h
  refine key shs _ (by simp) ?_ r h
  unfold Met
  show (0 : Int) ≤ dot (List.replicate n 0) sp
  rw [dot_zero]
  exact Int.le_refl 0
theorem lineL_met {rs : List Row} {n : Nat} {shs : List (Int × Int)} {sp : List Int} {d : Int} {r : Row} (hr : ∀ r ∈ rs, r.1.length = n ∧ Met sp r) (h : lineL rs shs d n = some r) : Met sp r ∧ r.1.length = n := by
  unfold lineL at h
  split at h
  · cases h
  · rename_i hc
    cases hs : sumS rs shs n with
    | none => rw [hs] at h; cases h
    | some a =>
      rw [hs, Option.bind_some] at h
      split at h
      · cases h
      · rename_i ha
        cases h
        have hd : 0 < d := by omega
        have hm : a.2 ≤ dot a.1 sp := sumS_met hr hs
        have hdv : ∀ x ∈ a.1, d ∣ x := fun x hx => by
          refine Int.dvd_of_emod_eq_zero (Classical.byContradiction fun c => ha ?_)
          exact List.any_eq_true.mpr ⟨x, hx, decide_eq_true c⟩
        refine ⟨?_, by rw [List.length_map]; exact sumS_len (fun r hr' => (hr r hr').1) hs⟩
        unfold Met
        show -(-a.2 / d) ≤ dot (a.1.map (· / d)) sp
        rw [ceil_le hd, ← dot_div (by omega) hdv]
        exact hm
theorem rep2_at {a b : Int} : ∀ {count k : Nat}, k < count → ((List.replicate count [a, b]).flatten)[2 * k]? = some a ∧ ((List.replicate count [a, b]).flatten)[2 * k + 1]? = some b
  | 0, _, h => absurd h (by omega)
  | count + 1, 0, _ => by rw [List.replicate_succ, List.flatten_cons]; exact ⟨rfl, rfl⟩
  | count + 1, k + 1, h => by
    have ih := rep2_at (a := a) (b := b) (count := count) (k := k) (by omega)
    rw [List.replicate_succ, List.flatten_cons]
    have e1 : 2 * (k + 1) = 2 * k + 2 := by omega
    rw [e1]
    exact ⟨ih.1, ih.2⟩
end L2
set_option Elab.async false
set_option linter.all false
set_option maxRecDepth 100000
set_option maxHeartbeats 4000000
namespace L2
open PySem PySem.Spec PyProof.Rows
/-! ### objects: all but some addresses stay -/
def But (L : List Addr) (H H' : Hp) : Prop := ∀ b o, H b = some o → b ∉ L → H' b = some o
theorem Same.but {H H' : Hp} (s : Same H H') (L : List Addr) : But L H H' := fun b o h _ => s b o h
theorem But.trans {L : List Addr} {H H1 H2 : Hp} (a : But L H H1) (b : But L H1 H2) : But L H H2 := fun c o h n => b c o (a c o h n) n
theorem But.put {L : List Addr} {H H1 : Hp} {p : Addr} (a : But L H H1) (h : p ∈ L) (o : HO) : But L H (upd H1 p o) := fun c u e n => by
  have z : c ≠ p := fun z => n (by rw [z]; exact h)
  rw [upd_ne z]
  exact a c u e n
theorem But.new {L : List Addr} {H H1 : Hp} {p : Addr} (a : But L H H1) (h : H1 p = none) (o : HO) : But L H (upd H1 p o) := a.trans ((same_new h o).but L)
/-- a side kept: the height, the row -/
def IsW (K : PySem.W.Frag) (H : Hp) (v : V) (s : Nat × Row) : Prop := ∃ x y, v = .ref x ∧ SqT K H x [.int (s.1 : Int), y] ∧ IsR K H y s.2
theorem IsW.ts {K : PySem.W.Frag} {H H' : Hp} {v : V} {s : Nat × Row} (t : TSame K H H') (h : IsW K H v s) : IsW K H' v s := by
  obtain ⟨x, y, e, h1, h2⟩ := h
  exact ⟨x, y, e, t _ _ h1, h2.ts t⟩
def fldsS (st wt : Addr) (br : Int) : List (Str × V) := putF "waiting" (.ref wt) (putF "breadth" (.int br) (putF "standing" (.ref st) []))
theorem sne1 : ¬ (("standing" : Str) = "waiting") := by decide +kernel
theorem sne2 : ¬ (("standing" : Str) = "breadth") := by decide +kernel
theorem sne3 : ¬ (("breadth" : Str) = "waiting") := by decide +kernel
theorem flS (st wt : Addr) (br : Int) : (fldsS st wt br).lookup ("standing" : Str) = some (.ref st) := by
  unfold fldsS
  rw [lookup_putF, if_neg sne1, lookup_putF, if_neg sne2, lookup_putF, if_pos rfl]
theorem flB (st wt : Addr) (br : Int) : (fldsS st wt br).lookup ("breadth" : Str) = some (.int br) := by
  unfold fldsS
  rw [lookup_putF, if_neg sne3, lookup_putF, if_pos rfl]
theorem flW (st wt : Addr) (br : Int) : (fldsS st wt br).lookup ("waiting" : Str) = some (.ref wt) := by
  unfold fldsS
  rw [lookup_putF, if_pos rfl]
theorem flN (st wt : Addr) (br : Int) {m : Str} (h1 : ¬ m = "waiting") (h2 : ¬ m = "breadth") (h3 : ¬ m = "standing") : (fldsS st wt br).lookup m = none := by
  unfold fldsS
  rw [lookup_putF, if_neg h1, lookup_putF, if_neg h2, lookup_putF, if_neg h3]
  rfl
structure TxtSides (K : PySem.W.Frag) (mg : Str → Option Value) (C : Addr) : Prop where
  cl : Cls K C
  nS : NoAttr K C "standing"
  nB : NoAttr K C "breadth"
  nW : NoAttr K C "waiting"
  mgC : mg "Sides" = some (.ref C)
structure SidesAt (C : Addr) (H : Hp) (p st wt : Addr) (br : Int) (svs wvs : List V) : Prop where
  ob : ∃ dx, H p = some (.ins C dx (fldsS st wt br))
  sd : H st = some (.lst svs)
  wd : H wt = some (.lst wvs)
  ne : st ≠ wt
theorem SidesAt.nps {C : Addr} {H : Hp} {p st wt : Addr} {br : Int} {svs wvs : List V} (S : SidesAt C H p st wt br svs wvs) : p ≠ st ∧ p ≠ wt := by
  obtain ⟨⟨dx, h1⟩, h2, h3, _⟩ := S
  exact ⟨ne_of h1 h2 (by intro z; cases z), ne_of h1 h3 (by intro z; cases z)⟩
end L2
set_option Elab.async false
set_option linter.all false
set_option maxRecDepth 100000
set_option maxHeartbeats 4000000
namespace L2
open PySem PySem.Spec PyProof.Rows
section
variable {X : Cx} {K : PySem.W.Frag}
/-- is True, is False of a truth -/
theorem op_isB : OpR X (compareOp .Is) (fun x y H Q => ∃ a b : Bool, x = .bl a ∧ y = .bl b ∧ Q (.bl (a == b)) H) := by
  intro pins s σ H x y v u Q I rx ry h
  obtain ⟨a, b, rfl, rfl, q⟩ := h
  cases rx
  cases ry
  exact wpAny_is_plain rfl (fin_bl I q (by cases a <;> cases b <;> rfl))
theorem op_notB : OpR X (compareOp .IsNot) (fun x y H Q => ∃ a b : Bool, x = .bl a ∧ y = .bl b ∧ Q (.bl (!(a == b))) H) := by
  intro pins s σ H x y v u Q I rx ry h
  obtain ⟨a, b, rfl, rfl, q⟩ := h
  cases rx
  cases ry
  exact wpAny_isNot_plain rfl (fin_bl I q (by cases a <;> cases b <;> rfl))
theorem pi_listK {tg l : Expr} {tl : TE} (h : X.K = K) (hl : PE X l tl) : PI X tg l (iList K tl) := h ▸ pi_list hl
end
/-! ### papers as chains of truths: a choice is true, a shut false -/
def wk : List Bool → Nat → Bool
  | [], _ => false
  | true :: t, c => wk t (c + 1)
  | false :: t, 0 => t.isEmpty
  | false :: t, c + 1 => wk t c
theorem wk_more : ∀ {ks : List Bool} {c : Nat} (x : Bool), wk ks c = true → wk (ks ++ [x]) c = false
  | [], _, _, h => by simp [wk] at h
  | true :: t, c, x, h => wk_more (ks := t) (c := c + 1) x h
  | false :: t, 0, x, h => by
    cases t with
    | nil => rfl
    | cons _ _ => simp [wk] at h
  | false :: t, c + 1, x, h => wk_more (ks := t) (c := c) x h
theorem wk_less : ∀ {ks : List Bool} {c : Nat}, wk ks c = true → wk ks.dropLast c = false
  | [], _, h => by simp [wk] at h
  | true :: t, c, h => by
    cases t with
    | nil => simp [wk] at h
    | cons a t => exact wk_less (ks := a :: t) (c := c + 1) h
  | false :: t, 0, h => by
    cases t with
    | nil => rfl
    | cons _ _ => simp [wk] at h
  | false :: t, c + 1, h => by
    cases t with
    | nil => simp [wk] at h
    | cons a t => exact wk_less (ks := a :: t) (c := c) h
theorem wk_last : ∀ {ks : List Bool} {c : Nat}, wk ks c = true → ks.getLast? = some false
  | [], _, h => by simp [wk] at h
  | true :: t, c, h => by
    cases t with
    | nil => simp [wk] at h
    | cons a t => rw [List.getLast?_cons_cons]; exact wk_last (ks := a :: t) (c := c + 1) h
  | false :: t, 0, h => by
    cases t with
    | nil => rfl
    | cons _ _ => simp [wk] at h
  | false :: t, c + 1, h => by
    cases t with
    | nil => simp [wk] at h
    | cons a t => rw [List.getLast?_cons_cons]; exact wk_last (ks := a :: t) (c := c) h
theorem wk_shuts : ∀ c : Nat, wk (List.replicate (c + 1) false) c = true
  | 0 => rfl
  | c + 1 => wk_shuts c
end L2
set_option Elab.async false
set_option linter.all false
set_option maxRecDepth 100000
set_option maxHeartbeats 4000000
namespace PySem
open Sem (wp)
open Builtin
open AutoSeq1 (wpAny_loadPart')
theorem noFill_tuple_mulY : fillsNumberSlot (.type "tuple") "mul" = pure false :=
  fillsNumberSlot_seq (id := "tuple.__mul__") (r := some (.builtin "tuple.__rmul__")) F.slot_tuple_mul.lookup (by decide +kernel) F.slot_tuple_rmul.lookup (by decide +kernel)
theorem repeat_tupleY : seqRepeat? (.type "tuple") = pure (some (.builtin "tuple.__mul__")) := by
  unfold seqRepeat?
  rw [seqSlot_of (T := "tuple") (name := "__mul__") (id := "tuple.__mul__") F.slot_tuple_mul.lookup (by decide +kernel), seqSlot_of (T := "tuple") (name := "__rmul__") (id := "tuple.__rmul__") F.slot_tuple_rmul.lookup (by decide +kernel)]
  rfl
theorem int_rmul_tupleY (a : Int) (t : Tok) (l : Addr) (items : Array Value) (n : Nat) (dd : Option Addr) (sl : Array (Option Value)) :
    Meets (Builtin.«int.__rmul__» ⟨[.int a t, .ref l], []⟩) (fun _ R s => s.heap.get? l = some { cls := .type "tuple", dict := dd, data := .seq items n, slots := sl } ∧ R (.ok (.ret Value.notImplemented)) s) :=
  .of_wp fun prog w A R s h => by obtain ⟨hp, g, d, tk, os⟩ := s; obtain ⟨hl, h⟩ := h; wp_walk; exact ⟨_, rfl, h⟩
theorem tuple_mulY1 (l : Addr) (items : Array Value) (n : Nat) (dd : Option Addr) (sl : Array (Option Value)) (u : Tok) :
    Meets (Builtin.«tuple.__mul__» ⟨[.ref l, .int 1 u], []⟩) (fun _ R s => s.heap.get? l = some { cls := .type "tuple", dict := dd, data := .seq items n, slots := sl } ∧ R (.ok (.ret (Value.ref l))) s) :=
  .of_wp fun prog w A R s h => by obtain ⟨hp, g, d, tk, os⟩ := s; obtain ⟨hl, h⟩ := h; have f1 := AutoSeq1.idx_int; have f2 := AutoSeq1.sub_tuple_tuple; wp_walk using wpAny_loadPart' hl; exact ⟨_, rfl, h⟩
theorem tuple_mulY0 (l : Addr) (items : Array Value) (n : Nat) (dd : Option Addr) (sl : Array (Option Value)) (k : Int) (u : Tok) (hc0 : ¬ (decide (k < -(2 ^ 63)) || decide (k ≥ 2 ^ 63)) = true) (hc1 : ¬ (items.isEmpty || k == 1) = true) (hc2 : (decide (k ≤ 0) || items.isEmpty) = true) :
    Meets (Builtin.«tuple.__mul__» ⟨[.ref l, .int k u], []⟩) (fun _ R s => s.heap.get? l = some { cls := .type "tuple", dict := dd, data := .seq items n, slots := sl } ∧ R (.ok (.ret (Value.ref s.heap.objs.size))) { s with heap := s.heap.push { cls := Value.type "tuple", data := Data.seq #[] }, toks := s.toks }) :=
  .of_wp fun prog w A R s h => by obtain ⟨hp, g, d, tk, os⟩ := s; obtain ⟨hl, h⟩ := h; have f1 := AutoSeq1.idx_int; have f2 := AutoSeq1.sub_tuple_tuple; wp_walk using wpAny_loadPart' hl; refine wpAny_ite_false (decide_eq_false hc0) ?_; wp_walk using wpAny_loadPart' hl; exact ⟨_, rfl, h⟩
theorem tuple_mulYP (l : Addr) (items : Array Value) (n : Nat) (dd : Option Addr) (sl : Array (Option Value)) (k : Int) (u : Tok) (hc0 : ¬ (decide (k < -(2 ^ 63)) || decide (k ≥ 2 ^ 63)) = true) (hc1 : ¬ (items.isEmpty || k == 1) = true) (hc2 : ¬ (decide (k ≤ 0) || items.isEmpty) = true) (hc3 : ¬ (items.size * k > (2 ^ 63 - 1) / 8)) (hc4 : ¬ Builtin.Tuple.tupleTooMany (items.size * k) = true) (hsz : (List.foldl (fun x1 x2 => x1 ++ x2) #[] (List.replicate k.toNat items)).size ≤ sizeLine) :
    Meets (Builtin.«tuple.__mul__» ⟨[.ref l, .int k u], []⟩) (fun _ R s => s.heap.get? l = some { cls := .type "tuple", dict := dd, data := .seq items n, slots := sl } ∧ R (.ok (.ret (Value.ref s.heap.objs.size))) { s with heap := s.heap.push { cls := Value.type "tuple", data := Data.seq (List.foldl (fun x1 x2 => x1 ++ x2) #[] (List.replicate k.toNat items)) }, toks := s.toks }) :=
  .of_wp fun prog w A R s h => by obtain ⟨hp, g, d, tk, os⟩ := s; obtain ⟨hl, h⟩ := h; have f1 := AutoSeq1.idx_int; have f2 := AutoSeq1.sub_tuple_tuple; wp_walk using wpAny_loadPart' hl; refine wpAny_ite_false (decide_eq_false hc0) ?_; wp_walk using wpAny_loadPart' hl; refine wpAny_ite_false (decide_eq_false hc3) ?_; wp_walk using wpAny_loadPart' hl; exact ⟨_, rfl, h⟩
end PySem
namespace L2
open PySem PySem.Spec PyProof.Rows
def rRepT (K : PySem.W.Frag) : R2 := fun x y H Q => ∃ (a : Addr) (k : Int) (xs : List V), x = .ref a ∧ y = .int k ∧ SqT K H a xs ∧ xs ≠ [] ∧ 0 ≤ k ∧ k ≤ 1000 ∧ k.toNat * xs.length ≤ 1000 ∧ ∀ p H', Same H H' → SqT K H' p (List.replicate k.toNat xs).flatten → Q (.ref p) H'
theorem op_repT {X : Cx} : OpR X (binaryOp .Mult) (rRepT X.K) := by
  intro pins s σ H x y v u Q I rx ry h
  obtain ⟨a, k, xs, rfl, rfl, ha, hx, h0, h1, hz, q⟩ := h
  cases rx
  obtain ⟨t, rfl⟩ := ry
  obtain ⟨its, r, p1, _⟩ := I.tuple ha
  have hne : its ≠ [] := fun z => hx (r.nil_iff.mp z)
  have hl := r.length
  have hits : its.toArray.isEmpty = false := by cases its with | nil => exact absurd rfl hne | cons _ _ => rfl
  obtain ⟨⟨cls, dd, data, sl⟩, ho, hc, n, hd⟩ := id p1
  simp only at hc hd
  subst hc hd
  refine wpAny_binaryOp_repeat_ref (T := "tuple") (U := "int") (by decide) ⟨_, ho, rfl⟩ (fun s' => typeIs_int s' k t) noFill_tuple_mulY F.fills_int_mul F.slot_int_rmul repeat_tupleY F.slot_int_index.lookup
    (call_meets F.slot_int_rmul (typeIs_int s k t) F.entry_int_rmul (F.args_int_rmul_2 _ _) (int_rmul_tupleY k t a its.toArray n dd sl)
      ⟨ho, rfl, ⟨_, ho, rfl⟩, ?_⟩)
  have hnew : List.foldl (fun x1 x2 => x1 ++ x2) #[] (List.replicate k.toNat its.toArray) = (List.replicate k.toNat its).flatten.toArray := by
    have := foldl_rep its k.toNat []
    rw [List.nil_append] at this
    exact this
  have hc0 : ¬ (decide (k < -(2 ^ 63)) || decide (k ≥ 2 ^ 63)) = true := by
    rw [decide_eq_false (by omega), decide_eq_false (by omega)]
    exact Bool.false_ne_true
  by_cases c1 : k = 1
  · subst c1
    refine call_meets F.slot_tuple_mul ⟨_, ho, rfl⟩ F.entry_tuple_mul (F.args_tuple_mul_2 _ _) (tuple_mulY1 a its.toArray n dd sl t) ⟨ho, ?_⟩
    refine ⟨.ref a, H, I, rfl, q a H (Same.refl H) ?_⟩
    show SqT X.K H a (List.replicate 1 xs).flatten
    rw [List.replicate_one, List.flatten_cons, List.flatten_nil, List.append_nil]
    exact ha
  · have hc1 : ¬ (its.toArray.isEmpty || k == 1) = true := by
      rw [hits, beq_eq_false_iff_ne.mpr c1]
      exact Bool.false_ne_true
    have lay : ∀ ys : List V, ∀ us : List Value, ys.length ≤ sizeLine → Vals ys us → EP X pins σ Q (.ref s.heap.objs.size) { s with heap := s.heap.push { cls := Value.type "tuple", data := Data.seq us.toArray }, toks := s.toks } ∨ ¬ (∀ p H', Same H H' → SqT X.K H' p ys → Q (.ref p) H') := fun ys us hzz rr => by
      by_cases qq : ∀ p H', Same H H' → SqT X.K H' p ys → Q (.ref p) H'
      · refine .inl ⟨.ref s.heap.objs.size, _, I.laid (t' := s.toks) (o := .tup ys) (fun b ob z => Heap.get?_push_of_some _ z) (Nat.le_refl _) ?_, rfl, qq _ _ (same_new (I.hok.fresh (Nat.le_refl _)) _) (SqT.of upd_same)⟩
        exact ⟨hzz, _, rr, IsTup.new _ _⟩
      · exact .inr qq
    by_cases c0 : k = 0
    · subst c0
      refine call_meets F.slot_tuple_mul ⟨_, ho, rfl⟩ F.entry_tuple_mul (F.args_tuple_mul_2 _ _) (tuple_mulY0 a its.toArray n dd sl 0 t hc0 hc1 rfl) ⟨ho, ?_⟩
      rcases lay [] [] (Nat.zero_le _) .nil with z | z
      · exact z
      · exact absurd q z
    · have hc2 : ¬ (decide (k ≤ 0) || its.toArray.isEmpty) = true := by
        rw [hits, decide_eq_false (by omega)]
        exact Bool.false_ne_true
      have hlen : its.length * k.toNat ≤ 1000 := by rw [← hl, Nat.mul_comm]; exact hz
      have hlenI : (its.toArray.size : Int) * k ≤ 1000 := by
        rw [List.size_toArray]
        have e : k = ((k.toNat : Nat) : Int) := by omega
        rw [e]
        exact_mod_cast hlen
      have hs : (1000 : Int) ≤ ((sizeLine : Nat) : Int) := by exact_mod_cast small (Nat.le_refl 1000)
      have hflat : (List.replicate k.toNat its).flatten.length ≤ 1000 := by rw [len_rep, Nat.mul_comm]; exact hlen
      refine call_meets F.slot_tuple_mul ⟨_, ho, rfl⟩ F.entry_tuple_mul (F.args_tuple_mul_2 _ _) (tuple_mulYP a its.toArray n dd sl k t hc0 hc1 hc2 (by omega) (by unfold Builtin.Tuple.tupleTooMany; rw [decide_eq_false (by omega)]; exact Bool.false_ne_true) (by rw [hnew, List.size_toArray]; exact small hflat)) ⟨ho, ?_⟩
      rw [hnew]
      rcases lay (List.replicate k.toNat xs).flatten (List.replicate k.toNat its).flatten (by rw [len_rep]; exact small hz) (r.rep k.toNat) with z | z
      · exact z
      · exact absurd q z
end L2
set_option Elab.async false
set_option linter.all false
set_option maxRecDepth 100000
set_option maxHeartbeats 4000000
namespace L2
open PySem PySem.Spec PyProof.Rows
/-! ### plain data, without a heap -/
inductive D where
  | int (i : Int) | bl (b : Bool) | str (x : Str) | non | tup (xs : List D) | lst (xs : List D) | fzl (xs : List D)
/-- v stands for d in the (frozen) heap H -/
inductive Rp (K : PySem.W.Frag) (H : Hp) : D → V → Prop where
  | int (i : Int) : Rp K H (.int i) (.int i)
  | bl (b : Bool) : Rp K H (.bl b) (.bl b)
  | str (x : Str) : Rp K H (.str x) (.str x)
  | non : Rp K H .non .non
  | tup {a : Addr} {vs : List V} {ds : List D} : SqT K H a vs → vs.length = ds.length → (∀ (i : Nat) (v : V) (d : D), vs[i]? = some v → ds[i]? = some d → Rp K H d v) → Rp K H (.tup ds) (.ref a)
  | lst {a : Addr} {vs : List V} {ds : List D} : H a = some (.lst vs) → vs.length = ds.length → (∀ (i : Nat) (v : V) (d : D), vs[i]? = some v → ds[i]? = some d → Rp K H d v) → Rp K H (.lst ds) (.ref a)
  | fzl {a : Addr} {vs : List V} {ds : List D} : SqL K H a vs → vs.length = ds.length → (∀ (i : Nat) (v : V) (d : D), vs[i]? = some v → ds[i]? = some d → Rp K H d v) → Rp K H (.fzl ds) (.ref a)
def RpL (K : PySem.W.Frag) (H : Hp) (ds : List D) (vs : List V) : Prop := vs.length = ds.length ∧ ∀ (i : Nat) (v : V) (d : D), vs[i]? = some v → ds[i]? = some d → Rp K H d v
section
variable {K : PySem.W.Frag} {H H' Φ Φ' Φ1 H1 Φ2 H2 : Hp} {d : D} {v : V} {ds es : List D} {vs ws : List V}
theorem Rp.same (s : Same H H') (h : Rp K H d v) : Rp K H' d v := by
  induction h with
  | int i => exact .int i
  | bl b => exact .bl b
  | str x => exact .str x
  | non => exact .non
  | tup h1 h2 _ ih => exact .tup (s.sqt h1) h2 ih
  | lst h1 h2 _ ih => exact .lst (s _ _ h1) h2 ih
  | fzl h1 h2 _ ih => exact .fzl (s.seq h1) h2 ih
theorem RpL.same (s : Same H H') (h : RpL K H ds vs) : RpL K H' ds vs := ⟨h.1, fun i v d hv hd => (h.2 i v d hv hd).same s⟩
theorem RpL.nil : RpL K H [] [] := ⟨rfl, fun i v d hv _ => by simp at hv⟩
theorem RpL.cons (r : Rp K H d v) (h : RpL K H ds vs) : RpL K H (d :: ds) (v :: vs) := ⟨by simp [h.1], fun i u e hu he => by
  cases i with
  | zero => cases hu; cases he; exact r
  | succ i => exact h.2 i u e hu he⟩
theorem RpL.append (h : RpL K H ds vs) (h' : RpL K H es ws) : RpL K H (ds ++ es) (vs ++ ws) := by
  refine ⟨by rw [List.length_append, List.length_append, h.1, h'.1], fun i u e hu he => ?_⟩
  rcases Nat.lt_or_ge i vs.length with c | c
  · rw [List.getElem?_append_left c] at hu
    rw [List.getElem?_append_left (by rw [← h.1]; exact c)] at he
    exact h.2 i u e hu he
  · rw [List.getElem?_append_right c] at hu
    rw [List.getElem?_append_right (by rw [← h.1]; exact c), ← h.1] at he
    exact h'.2 _ u e hu he
theorem RpL.one (r : Rp K H d v) : RpL K H [d] [v] := .cons r .nil
theorem RpL.take (h : RpL K H ds vs) (k : Nat) : RpL K H (ds.take k) (vs.take k) := ⟨by rw [List.length_take, List.length_take, h.1], fun i u e hu he => by
  rcases Nat.lt_or_ge i k with c | c
  · rw [List.getElem?_take_of_lt c] at hu he
    exact h.2 i u e hu he
  · rw [List.getElem?_take_eq_none c] at hu
    cases hu⟩
theorem RpL.drop (h : RpL K H ds vs) (k : Nat) : RpL K H (ds.drop k) (vs.drop k) := ⟨by rw [List.length_drop, List.length_drop, h.1], fun i u e hu he => by
  rw [List.getElem?_drop] at hu he
  exact h.2 _ u e hu he⟩
theorem RpL.set (h : RpL K H ds vs) (r : Rp K H d v) (k : Nat) : RpL K H (ds.set k d) (vs.set k v) := ⟨by rw [List.length_set, List.length_set, h.1], fun i u e hu he => by
  by_cases c : k = i
  · subst c
    have hk : k < vs.length := by have := lt_of_at hu; rwa [List.length_set] at this
    rw [List.getElem?_set_self hk] at hu
    rw [List.getElem?_set_self (by rw [← h.1]; exact hk)] at he
    cases hu; cases he
    exact r
  · rw [List.getElem?_set_ne c] at hu he
    exact h.2 i u e hu he⟩
theorem RpL.dropLast (h : RpL K H ds vs) : RpL K H ds.dropLast vs.dropLast := by
  rw [List.dropLast_eq_take, List.dropLast_eq_take, h.1]
  exact h.take _
theorem RpL.reverse (h : RpL K H ds vs) : RpL K H ds.reverse vs.reverse := ⟨by rw [List.length_reverse, List.length_reverse, h.1], fun i u e hu he => by
  have hi : i < vs.length := by have := lt_of_at hu; rwa [List.length_reverse] at this
  rw [List.getElem?_reverse hi] at hu
  rw [List.getElem?_reverse (by rw [← h.1]; exact hi), ← h.1] at he
  exact h.2 _ u e hu he⟩
theorem RpL.rep (h : RpL K H ds vs) : ∀ k : Nat, RpL K H (List.replicate k ds).flatten (List.replicate k vs).flatten
  | 0 => .nil
  | k + 1 => by
    rw [List.replicate_succ, List.replicate_succ, List.flatten_cons, List.flatten_cons]
    exact h.append (RpL.rep h k)
theorem RpL.at (h : RpL K H ds vs) {i : Nat} (e : ds[i]? = some d) : ∃ v, vs[i]? = some v ∧ Rp K H d v := by
  have hi : i < vs.length := by rw [h.1]; exact lt_of_at e
  exact ⟨vs[i], by simp [hi], h.2 i _ d (by simp [hi]) e⟩
theorem RpL.at' (h : RpL K H ds vs) {i : Nat} (e : vs[i]? = some v) : ∃ d, ds[i]? = some d ∧ Rp K H d v := by
  have hi : i < ds.length := by rw [← h.1]; exact lt_of_at e
  exact ⟨ds[i], by simp [hi], h.2 i v _ e (by simp [hi])⟩
theorem RpL.cut (h : RpL K H ds vs) (lo hi : Option Int) : RpL K H (cutL ds lo hi) (cutV vs lo hi) := by
  rw [cutV_is]
  unfold cutL
  rw [h.1]
  exact (h.drop _).take _
theorem RpL.tup {a : Addr} (h : RpL K H ds vs) (s : SqT K H a vs) : Rp K H (.tup ds) (.ref a) := .tup s h.1 h.2
theorem RpL.lst {a : Addr} (h : RpL K H ds vs) (s : H a = some (.lst vs)) : Rp K H (.lst ds) (.ref a) := .lst s h.1 h.2
theorem RpL.fzl {a : Addr} (h : RpL K H ds vs) (s : SqL K H a vs) : Rp K H (.fzl ds) (.ref a) := .fzl s h.1 h.2
theorem RpL.ints (ns : List Int) : RpL K H (ns.map D.int) (ns.map V.int) := ⟨by simp, fun i v d hv hd => by
  rw [List.getElem?_map] at hv hd
  cases e : ns[i]? with
  | none => rw [e] at hv; cases hv
  | some k => rw [e] at hv hd; cases hv; cases hd; exact .int k⟩
/-- how heaps grow: frozen Φ, all H -/
structure Gr (Φ H Φ' H' : Hp) : Prop where
  f : Same Φ Φ'
  h : Same H H'
  s : Same Φ' H'
  o : ∀ p u, H p = some (.lst u) → Φ p = none → Φ' p = none
theorem Gr.refl (s : Same Φ H) : Gr Φ H Φ H := ⟨Same.refl _, Same.refl _, s, fun _ _ _ h => h⟩
theorem Gr.trans (a : Gr Φ H Φ1 H1) (b : Gr Φ1 H1 Φ2 H2) : Gr Φ H Φ2 H2 := ⟨a.f.trans b.f, a.h.trans b.h, b.s, fun p u hp hn => b.o p u (a.h p _ hp) (a.o p u hp hn)⟩
theorem Gr.join (a : Gr Φ H Φ1 H1) (b : Gr Φ1 H Φ2 H2) : Gr Φ H Φ2 H2 := ⟨a.f.trans b.f, b.h, b.s, fun p u hp hn => b.o p u hp (a.o p u hp hn)⟩
theorem same_both (s : Same Φ H) {p : Addr} (o : HO) : Same (upd Φ p o) (upd H p o) := fun b u e => by
  by_cases c : b = p
  · subst c; rw [upd_same] at e ⊢; exact e
  · rw [upd_ne c] at e ⊢; exact s b u e
theorem Gr.new (s : Same Φ H) {p : Addr} (hp : H p = none) (o : HO) : Gr Φ H (upd Φ p o) (upd H p o) :=
  ⟨same_new (s.free hp) o, same_new hp o, same_both s o, fun q u hq hn => by rw [upd_ne (ne_of_none hq hp)]; exact hn⟩
theorem Gr.fresh (s : Same Φ H) {p : Addr} (hp : H p = none) (o : HO) : Gr Φ H Φ (upd H p o) :=
  ⟨Same.refl _, same_new hp o, fun b u e => same_new hp o b u (s b u e), fun _ _ _ h => h⟩
/-- what grew without being frozen is frozen -/
theorem Gr.freeze (g : Gr Φ H Φ' H') {p : Addr} {o : HO} (h0 : H p = none) (hn : Φ' p = none) (hp : H' p = some o) : Gr Φ H (upd Φ' p o) H' :=
  ⟨g.f.trans (same_new hn o), g.h, fun b u e => by
    by_cases c : b = p
    · subst c; rw [upd_same] at e; cases e; exact hp
    · rw [upd_ne c] at e; exact g.s b u e, fun q u hq hqn => by rw [upd_ne (ne_of_none hq h0)]; exact g.o q u hq hqn⟩
/-- a tuple that came with a call -/
theorem Gr.adopt {p : Addr} {xs : List V} (s : Same Φ H) (h : Same H H') (q : SqT K H' p xs) : ∃ Φ', Gr Φ H Φ' H' ∧ SqT K Φ' p xs := by
  rcases q with q | q
  · obtain ⟨o, ho, hr, hnl⟩ : ∃ o, H' p = some o ∧ (o = .tup xs ∨ ∃ b, o = .frz b (.tup xs)) ∧ ∀ u, o ≠ .lst u := by
      rcases q with q | ⟨o, q⟩
      · exact ⟨_, q, .inl rfl, fun u e => by cases e⟩
      · exact ⟨_, q, .inr ⟨o, rfl⟩, fun u e => by cases e⟩
    have e1 : ∀ u, Φ p = some u → u = o := fun u e => by have := h _ _ (s _ _ e); rw [ho] at this; cases this; rfl
    refine ⟨upd Φ p o, ⟨fun b u e => ?_, h, fun b u e => ?_, fun b u e n => ?_⟩, ?_⟩
    · by_cases c : b = p
      · subst c; rw [upd_same, e1 u e]
      · rw [upd_ne c]; exact e
    · by_cases c : b = p
      · subst c; rw [upd_same] at e; cases e; exact ho
      · rw [upd_ne c] at e; exact h _ _ (s _ _ e)
    · by_cases c : b = p
      · subst c
        have := h _ _ e
        rw [ho] at this
        cases this
        exact absurd rfl (hnl u)
      · rw [upd_ne c]; exact n
    · rcases hr with rfl | ⟨b, rfl⟩
      · exact .inl (.inl upd_same)
      · exact .inl (.inr ⟨b, upd_same⟩)
  · exact ⟨Φ, ⟨Same.refl _, h, fun b u e => h _ _ (s _ _ e), fun _ _ _ n => n⟩, .inr q⟩
/-- a value that is looked at only: a list of one's own too -/
def RpQ (K : PySem.W.Frag) (Φ H : Hp) (d : D) (v : V) : Prop := Rp K Φ d v ∨ ∃ a vs ds, d = .lst ds ∧ v = .ref a ∧ H a = some (.lst vs) ∧ RpL K Φ ds vs
theorem RpQ.gr (g : Gr Φ H Φ' H') (h : RpQ K Φ H d v) : RpQ K Φ' H' d v := by
  rcases h with h | ⟨a, vs, ds, e, e2, h1, h2⟩
  · exact .inl (h.same g.f)
  · exact .inr ⟨a, vs, ds, e, e2, g.h _ _ h1, h2.same g.f⟩
theorem RpQ.lst (s : Same Φ H) (h : RpQ K Φ H (.lst ds) v) : ∃ a vs, v = .ref a ∧ H a = some (.lst vs) ∧ RpL K Φ ds vs := by
  rcases h with h | ⟨a, vs, ds, e, e2, h1, h2⟩
  · cases h with | lst h1 h2 h3 => exact ⟨_, _, rfl, s _ _ h1, h2, h3⟩
  · cases e; exact ⟨a, vs, e2, h1, h2⟩
theorem RpQ.fzl (s : Same Φ H) (h : RpQ K Φ H (.fzl ds) v) : ∃ a vs, v = .ref a ∧ SqL K H a vs ∧ RpL K Φ ds vs := by
  rcases h with h | ⟨a, vs, ds, e, e2, h1, h2⟩
  · cases h with | fzl h1 h2 h3 => exact ⟨_, _, rfl, s.seq h1, h2, h3⟩
  · cases e
theorem RpQ.tup (s : Same Φ H) (h : RpQ K Φ H (.tup ds) v) : ∃ a vs, v = .ref a ∧ SqT K H a vs ∧ SqT K Φ a vs ∧ RpL K Φ ds vs := by
  rcases h with h | ⟨a, vs, ds, e, e2, h1, h2⟩
  · cases h with | tup h1 h2 h3 => exact ⟨_, _, rfl, s.sqt h1, h1, h2, h3⟩
  · cases e
theorem RpQ.int {i : Int} (h : RpQ K Φ H (.int i) v) : v = .int i := by
  rcases h with h | ⟨a, vs, ds, e, _⟩
  · cases h; rfl
  · cases e
theorem RpQ.bl {i : Bool} (h : RpQ K Φ H (.bl i) v) : v = .bl i := by
  rcases h with h | ⟨a, vs, ds, e, _⟩
  · cases h; rfl
  · cases e
theorem RpQ.str {i : Str} (h : RpQ K Φ H (.str i) v) : v = .str i := by
  rcases h with h | ⟨a, vs, ds, e, _⟩
  · cases h; rfl
  · cases e
theorem RpQ.non (h : RpQ K Φ H .non v) : v = .non := by
  rcases h with h | ⟨a, vs, ds, e, _⟩
  · cases h; rfl
  · cases e
/-- the items of a sequence -/
def seqD : D → Option (List D)
  | .lst ds => some ds
  | .tup ds => some ds
  | .fzl ds => some ds
  | _ => none
theorem RpQ.seq (s : Same Φ H) (h : RpQ K Φ H d v) (e : seqD d = some ds) : ∃ a vs, v = .ref a ∧ (SqL K H a vs ∨ SqT K H a vs) ∧ RpL K Φ ds vs := by
  cases d with
  | lst ds => cases e; obtain ⟨a, vs, e, h1, h2⟩ := h.lst s; exact ⟨a, vs, e, .inl (.of h1), h2⟩
  | tup ds => cases e; obtain ⟨a, vs, e, h1, _, h2⟩ := h.tup s; exact ⟨a, vs, e, .inr h1, h2⟩
  | fzl ds => cases e; obtain ⟨a, vs, e, h1, h2⟩ := h.fzl s; exact ⟨a, vs, e, .inl h1, h2⟩
  | _ => cases e
theorem Rp.seq (h : Rp K Φ d v) (e : seqD d = some ds) : ∃ (b : Bool) (a : Addr) (vs : List V), v = .ref a ∧ SqB K b Φ a vs ∧ RpL K Φ ds vs := by
  cases d with
  | lst ds => cases e; cases h with | lst h1 h2 h3 => exact ⟨true, _, _, rfl, SqL.of h1, h2, h3⟩
  | tup ds => cases e; cases h with | tup h1 h2 h3 => exact ⟨false, _, _, rfl, h1, h2, h3⟩
  | fzl ds => cases e; cases h with | fzl h1 h2 h3 => exact ⟨true, _, _, rfl, h1, h2, h3⟩
  | _ => cases e
end
/-! ### names: values, and lists of one's own -/
inductive Sl where | v (d : D) | own (xs : List D)
abbrev Rho := List (Option Sl)
structure EnvD (K : PySem.W.Frag) (H0 Φ H : Hp) (σ : St) (ρ : Rho) : Prop where
  fz : Same Φ H
  len : σ.length = ρ.length
  sl : ∀ (i : Nat) (d : D), ρ[i]? = some (some (.v d)) → ∃ v, σ[i]? = some (some v) ∧ Rp K Φ d v
  ow : ∀ (i : Nat) (ds : List D), ρ[i]? = some (some (.own ds)) → ∃ p vs, σ[i]? = some (some (.ref p)) ∧ H0 p = none ∧ Φ p = none ∧ H p = some (.lst vs) ∧ RpL K Φ ds vs
  ne : ∀ (i j : Nat) (ds es : List D) (p : Addr), ρ[i]? = some (some (.own ds)) → ρ[j]? = some (some (.own es)) → σ[i]? = some (some (.ref p)) → σ[j]? = some (some (.ref p)) → i = j
section
variable {K : PySem.W.Frag} {H0 H H' Φ Φ' Φ1 H1 Φ2 H2 : Hp} {σ : St} {ρ : Rho} {d : D} {v : V} {ds es : List D} {vs ws : List V}
theorem EnvD.gr (E : EnvD K H0 Φ H σ ρ) (g : Gr Φ H Φ' H') : EnvD K H0 Φ' H' σ ρ :=
  ⟨g.s, E.len, fun i d h => let ⟨v, e, r⟩ := E.sl i d h; ⟨v, e, r.same g.f⟩,
    fun i ds h => let ⟨p, vs, e, h0, hn, hp, r⟩ := E.ow i ds h; ⟨p, vs, e, h0, g.o p _ hp hn, g.h _ _ hp, r.same g.f⟩, E.ne⟩
theorem set_at {α : Type} {l : List α} {i j : Nat} {x y : α} (h : (l.set i x)[j]? = some y) : (j = i ∧ i < l.length ∧ y = x) ∨ (j ≠ i ∧ l[j]? = some y) := by
  by_cases c : i = j
  · subst c
    have hi : i < l.length := by have := lt_of_at h; rwa [List.length_set] at this
    rw [List.getElem?_set_self hi] at h
    cases h
    exact .inl ⟨rfl, hi, rfl⟩
  · rw [List.getElem?_set_ne c] at h
    exact .inr ⟨fun e => c e.symm, h⟩
/-- a name gets a value -/
theorem EnvD.set (E : EnvD K H0 Φ H σ ρ) (r : Rp K Φ d v) (i : Nat) : EnvD K H0 Φ H (σ.set i (some v)) (ρ.set i (some (.v d))) := by
  have nn : ∀ {j : Nat} {x : Option V}, j ≠ i → σ[j]? = some x → (σ.set i (some v))[j]? = some x := fun c h => by rw [List.getElem?_set_ne (Ne.symm c)]; exact h
  refine ⟨E.fz, by rw [List.length_set, List.length_set, E.len], fun j e h => ?_, fun j ds h => ?_, fun j k ds es p hj hk sj sk => ?_⟩
  · rcases set_at h with ⟨rfl, hi, e1⟩ | ⟨c, h⟩
    · cases e1
      exact ⟨v, by rw [List.getElem?_set_self (by rw [E.len]; exact hi)], r⟩
    · obtain ⟨u, hu, ru⟩ := E.sl j e h
      exact ⟨u, nn c hu, ru⟩
  · rcases set_at h with ⟨rfl, hi, e1⟩ | ⟨c, h⟩
    · cases e1
    · obtain ⟨p, vs, e, q⟩ := E.ow j ds h
      exact ⟨p, vs, nn c e, q⟩
  · rcases set_at hj with ⟨rfl, _, e1⟩ | ⟨cj, hj⟩
    · cases e1
    rcases set_at hk with ⟨rfl, _, e1⟩ | ⟨ck, hk⟩
    · cases e1
    rw [List.getElem?_set_ne (Ne.symm cj)] at sj
    rw [List.getElem?_set_ne (Ne.symm ck)] at sk
    exact E.ne j k ds es p hj hk sj sk
/-- a name gets a new list of its own -/
theorem EnvD.setOwn (E : EnvD K H0 Φ H σ ρ) {p : Addr} (r : RpL K Φ ds vs) (h0 : H0 p = none) (hn : Φ p = none) (hp : H p = some (.lst vs)) (hnew : ∀ (j : Nat) (es : List D), ρ[j]? = some (some (.own es)) → σ[j]? ≠ some (some (.ref p))) (i : Nat) : EnvD K H0 Φ H (σ.set i (some (.ref p))) (ρ.set i (some (.own ds))) := by
  have nn : ∀ {j : Nat} {x : Option V}, j ≠ i → σ[j]? = some x → (σ.set i (some (.ref p)))[j]? = some x := fun c h => by rw [List.getElem?_set_ne (Ne.symm c)]; exact h
  refine ⟨E.fz, by rw [List.length_set, List.length_set, E.len], fun j e h => ?_, fun j ds h => ?_, fun j k ds es q hj hk sj sk => ?_⟩
  · rcases set_at h with ⟨rfl, hi, e1⟩ | ⟨c, h⟩
    · cases e1
    · obtain ⟨u, hu, ru⟩ := E.sl j e h
      exact ⟨u, nn c hu, ru⟩
  · rcases set_at h with ⟨rfl, hi, e1⟩ | ⟨c, h⟩
    · cases e1
      exact ⟨p, vs, by rw [List.getElem?_set_self (by rw [E.len]; exact hi)], h0, hn, hp, r⟩
    · obtain ⟨p, vs, e, q⟩ := E.ow j ds h
      exact ⟨p, vs, nn c e, q⟩
  · rcases set_at hj with ⟨e1, hl, _⟩ | ⟨cj, hj'⟩
    · rcases set_at hk with ⟨e2, _, _⟩ | ⟨ck, hk'⟩
      · rw [e1, e2]
      · rw [e1, List.getElem?_set_self (by rw [E.len]; exact hl)] at sj
        cases sj
        rw [List.getElem?_set_ne (Ne.symm ck)] at sk
        exact absurd sk (hnew k _ hk')
    · rw [List.getElem?_set_ne (Ne.symm cj)] at sj
      rcases set_at hk with ⟨e2, hl, _⟩ | ⟨ck, hk'⟩
      · rw [e2, List.getElem?_set_self (by rw [E.len]; exact hl)] at sk
        cases sk
        exact absurd sj (hnew j _ hj')
      · rw [List.getElem?_set_ne (Ne.symm ck)] at sk
        exact E.ne j k _ _ q hj' hk' sj sk
/-- the own list of a name is written -/
theorem EnvD.put (E : EnvD K H0 Φ H σ ρ) {i : Nat} {p : Addr} (ho : ρ[i]? = some (some (.own ds))) (hs : σ[i]? = some (some (.ref p))) (r : RpL K Φ es ws) : EnvD K H0 Φ (upd H p (.lst ws)) σ (ρ.set i (some (.own es))) := by
  obtain ⟨p', vs, e, h0, hn, hp, _⟩ := E.ow i ds ho
  rw [hs] at e
  cases e
  have hi := lt_of_at ho
  refine ⟨fun b u e => ?_, by rw [List.length_set, E.len], fun j e h => ?_, fun j fs h => ?_, fun j k fs gs q hj hk sj sk => ?_⟩
  · rw [upd_ne (ne_of_none e hn)]
    exact E.fz b u e
  · rcases set_at h with ⟨rfl, _, e1⟩ | ⟨c, h⟩
    · cases e1
    · exact E.sl j e h
  · rcases set_at h with ⟨rfl, _, e1⟩ | ⟨c, h⟩
    · cases e1
      exact ⟨p, ws, hs, h0, hn, upd_same, r⟩
    · obtain ⟨q, us, e, q0, qn, qp, qr⟩ := E.ow j fs h
      refine ⟨q, us, e, q0, qn, ?_, qr⟩
      rw [upd_ne fun z => c (E.ne j i fs ds p h ho (by rw [e, z]) hs)]
      exact qp
  · have old : ∀ {j : Nat} {fs : List D}, (ρ.set i (some (.own es)))[j]? = some (some (.own fs)) → ∃ gs, ρ[j]? = some (some (.own gs)) := fun {j fs} h => by
      rcases set_at h with ⟨rfl, _, _⟩ | ⟨_, h⟩
      · exact ⟨ds, ho⟩
      · exact ⟨fs, h⟩
    obtain ⟨fs', hj⟩ := old hj
    obtain ⟨gs', hk⟩ := old hk
    exact E.ne j k fs' gs' q hj hk sj sk
/-- a list of one's own becomes a value -/
def frz (i : Nat) (ρ : Rho) : Rho := match ρ[i]? with | some (some (.own ds)) => ρ.set i (some (.v (.lst ds))) | _ => ρ
theorem EnvD.frz (E : EnvD K H0 Φ H σ ρ) (g : Gr Φ0 H0 Φ H) (i : Nat) : ∃ Φ', Gr Φ0 H0 Φ' H ∧ EnvD K H0 Φ' H σ (frz i ρ) := by
  unfold L2.frz
  split
  · next ds ho =>
    obtain ⟨p, vs, e, h0, hn, hp, r⟩ := E.ow i ds ho
    have s1 := same_new hn (.lst vs)
    refine ⟨upd Φ p (.lst vs), g.freeze h0 hn hp, fun b u e => ?_, by rw [List.length_set, E.len], fun j e2 h => ?_, fun j fs h => ?_, fun j k fs gs q hj hk sj sk => ?_⟩
    · by_cases c : b = p
      · subst c; rw [upd_same] at e; cases e; exact hp
      · rw [upd_ne c] at e; exact E.fz b u e
    · rcases set_at h with ⟨rfl, _, e1⟩ | ⟨c, h⟩
      · cases e1
        exact ⟨_, e, (r.same s1).lst upd_same⟩
      · obtain ⟨u, hu, ru⟩ := E.sl j e2 h
        exact ⟨u, hu, ru.same s1⟩
    · rcases set_at h with ⟨rfl, _, e1⟩ | ⟨c, h⟩
      · cases e1
      · obtain ⟨q, us, e3, q0, qn, qp, qr⟩ := E.ow j fs h
        refine ⟨q, us, e3, q0, ?_, qp, qr.same s1⟩
        rw [upd_ne fun z => c (E.ne j i fs ds p h ho (by rw [e3, z]) e)]
        exact qn
    · rcases set_at hj with ⟨_, _, e1⟩ | ⟨_, hj⟩
      · cases e1
      rcases set_at hk with ⟨_, _, e1⟩ | ⟨_, hk⟩
      · cases e1
      exact E.ne j k fs gs q hj hk sj sk
  · exact ⟨Φ, g, E⟩
/-- less is known -/
theorem EnvD.weak {ρ' : Rho} (E : EnvD K H0 Φ H σ ρ) (hl : ρ'.length = ρ.length) (hw : ∀ (i : Nat) x, ρ'[i]? = some (some x) → ρ[i]? = some (some x)) : EnvD K H0 Φ H σ ρ' :=
  ⟨E.fz, by rw [E.len, hl], fun i d h => E.sl i d (hw i _ h), fun i ds h => E.ow i ds (hw i _ h), fun i j ds es p hi hj => E.ne i j ds es p (hw i _ hi) (hw j _ hj)⟩
end
end L2
set_option Elab.async false
set_option linter.all false
set_option maxRecDepth 100000
set_option maxHeartbeats 4000000
namespace L2
open PySem PySem.Spec PyProof.Rows
/-! ### readings over plain data -/
/-- a value in another form -/
def NF {α : Type} (x : α) (R : α → Prop) : Prop := ∃ y, x = y ∧ R y
theorem NF.get {α : Type} {x : α} {R : α → Prop} (h : NF x R) : R x := by
  obtain ⟨_, rfl, h⟩ := h
  exact h
abbrev TD := Rho → (D → Prop) → Prop
abbrev TDL := Rho → (List D → Prop) → Prop
abbrev TDB := Rho → (Bool → Prop) → Prop
def lE (K : PySem.W.Frag) (t : TD) : TE := fun σ H Q => ∃ H0 Φ ρ R, EnvD K H0 Φ H σ ρ ∧ t ρ R ∧ ∀ d Φ' H' v, R d → Gr Φ H Φ' H' → Rp K Φ' d v → Q v H'
def lQ (K : PySem.W.Frag) (t : TD) : TE := fun σ H Q => ∃ H0 Φ ρ R, EnvD K H0 Φ H σ ρ ∧ t ρ R ∧ ∀ d Φ' H' v, R d → Gr Φ H Φ' H' → RpQ K Φ' H' d v → Q v H'
/-- a new list -/
def lF (K : PySem.W.Frag) (t : TDL) : TE := fun σ H Q => ∃ H0 Φ ρ R, EnvD K H0 Φ H σ ρ ∧ t ρ R ∧ ∀ ds Φ' H' p vs, R ds → Gr Φ H Φ' H' → H p = none → Φ' p = none → H' p = some (.lst vs) → RpL K Φ' ds vs → Q (.ref p) H'
def lA (K : PySem.W.Frag) (n : Nat) (t : TDL) : TA := fun σ H Q => ∃ H0 Φ ρ R, EnvD K H0 Φ H σ ρ ∧ t ρ R ∧ ∀ ds Φ' H' vs, R ds → Gr Φ H Φ' H' → RpL K Φ' ds vs → ds.length = n → Q vs H'
def lT (K : PySem.W.Frag) (t : TDB) : TT := fun σ H Q => ∃ H0 Φ ρ R, EnvD K H0 Φ H σ ρ ∧ t ρ R ∧ ∀ b Φ' H', R b → Gr Φ H Φ' H' → Q b H'
/-- a value, a value looked at, a new list, arguments, a test -/
structure PD (K : PySem.W.Frag) (X : Cx) (e : Expr) (t : TD) : Prop where pe : X.K = K → PE X e (lE K t)
structure PQ (K : PySem.W.Frag) (X : Cx) (e : Expr) (t : TD) : Prop where pe : X.K = K → PE X e (lQ K t)
structure PF (K : PySem.W.Frag) (X : Cx) (e : Expr) (t : TDL) : Prop where pe : X.K = K → PE X e (lF K t)
structure PAD (K : PySem.W.Frag) (X : Cx) (es : List Expr) (t : TDL) : Prop where pa : X.K = K → PA X es (lA K es.length t)
structure PTD (K : PySem.W.Frag) (X : Cx) (e : Expr) (t : TDB) : Prop where pt : X.K = K → PT X e (lT K t)
structure PWD (K : PySem.W.Frag) (X : Cx) (e : Expr) (t : TDB) : Prop where pw : X.K = K → PW X e (lT K t)
theorem PE.imp {X : Cx} {e : Expr} {t t' : TE} (h : PE X e t) (k : ∀ σ H Q, t' σ H Q → t σ H Q) : PE X e t' := fun pins s σ H Q I hw => h pins s σ H Q I (k σ H Q hw)
theorem PT.imp {X : Cx} {e : Expr} {t t' : TT} (h : PT X e t) (k : ∀ σ H Q, t' σ H Q → t σ H Q) : PT X e t' := fun pins s σ H Q I hw => h pins s σ H Q I (k σ H Q hw)
theorem PW.imp {X : Cx} {e : Expr} {t t' : TT} (h : PW X e t) (k : ∀ σ H Q, t' σ H Q → t σ H Q) : PW X e t' := fun wh pins s σ H Q I hw => h wh pins s σ H Q I (k σ H Q hw)
theorem PA.imp {X : Cx} {e : List Expr} {t t' : TA} (h : PA X e t) (k : ∀ σ H Q, t' σ H Q → t σ H Q) : PA X e t' := fun pos pins s σ H Q I hw => h pos pins s σ H Q I (k σ H Q hw)
theorem PS.imp {X : Cx} {e : Stmt} {t t' : TS} (h : PS X e t) (k : ∀ D σ H, t' D σ H → t D σ H) : PS X e t' := fun pins s σ H D I hw => h pins s σ H D I (k D σ H hw)
theorem PSs.imp {X : Cx} {e : List Stmt} {t t' : TS} (h : PSs X e t) (k : ∀ D σ H, t' D σ H → t D σ H) : PSs X e t' := fun pins s σ H D I hw => h pins s σ H D I (k D σ H hw)
section
variable {K : PySem.W.Frag} {X : Cx} {e a b c : Expr} {es : List Expr} {pos : Pos} {t ta tb : TD} {tf : TDL} {tl : TDL} {tt tu : TDB}
theorem PD.q (h : PD K X e t) : PQ K X e t := ⟨fun hK => (h.pe hK).imp fun σ H Q ⟨H0, Φ, ρ, R, E, t, k⟩ => ⟨H0, Φ, ρ, R, E, t, fun d Φ' H' v r g rr => k d Φ' H' v r g (.inl rr)⟩⟩
def dOfF (t : TDL) : TD := fun ρ R => t ρ fun ds => R (.lst ds)
theorem PF.d (h : PF K X e tf) : PD K X e (dOfF tf) := ⟨fun hK => (h.pe hK).imp fun σ H Q ⟨H0, Φ, ρ, R, E, t, k⟩ => ⟨H0, Φ, ρ, _, E, t, fun ds Φ' H' p vs r g h0 hn hp rr =>
  k (.lst ds) _ H' _ r (g.freeze h0 hn hp) ((rr.same (same_new hn _)).lst upd_same)⟩⟩
/-! names, constants -/
def dVar (i : Nat) : TD := fun ρ R => match ρ[i]? with | some (some (.v d)) => R d | _ => False
def dVarQ (i : Nat) : TD := fun ρ R => match ρ[i]? with | some (some (.v d)) => R d | some (some (.own ds)) => R (.lst ds) | _ => False
theorem dv (i : Nat) {x : Str} (hN : X.N[i]? = some x := by rfl) (hv : Vis X.env.scope x := by first | exact Or.inl rfl | exact Or.inr (Or.inl rfl) | exact Or.inr (Or.inr rfl)) (hd : (x == ("__debug__" : Str)) = false := by decide)
    (hcd : (x == ("__classdict__" : Str)) = false := by decide) : PD K X (.Name x pos) (dVar i) := ⟨fun _ => (pv i hN hv hd hcd).imp fun σ H Q ⟨H0, Φ, ρ, R, E, t, k⟩ => by
  unfold dVar at t
  split at t
  · next d h =>
    obtain ⟨v, e, r⟩ := E.sl i d h
    exact ⟨v, e, k d Φ H v t (.refl E.fz) r⟩
  · exact t.elim⟩
theorem dvq (i : Nat) {x : Str} (hN : X.N[i]? = some x := by rfl) (hv : Vis X.env.scope x := by first | exact Or.inl rfl | exact Or.inr (Or.inl rfl) | exact Or.inr (Or.inr rfl)) (hd : (x == ("__debug__" : Str)) = false := by decide)
    (hcd : (x == ("__classdict__" : Str)) = false := by decide) : PQ K X (.Name x pos) (dVarQ i) := ⟨fun _ => (pv i hN hv hd hcd).imp fun σ H Q ⟨H0, Φ, ρ, R, E, t, k⟩ => by
  unfold dVarQ at t
  split at t
  · next d h =>
    obtain ⟨v, e, r⟩ := E.sl i d h
    exact ⟨v, e, k d Φ H v t (.refl E.fz) (.inl r)⟩
  · next ds h =>
    obtain ⟨p, vs, e, _, _, hp, r⟩ := E.ow i ds h
    exact ⟨_, e, k _ Φ H _ t (.refl E.fz) (.inr ⟨p, vs, ds, rfl, rfl, hp, r⟩)⟩
  · exact t.elim⟩
def dC (d : D) : TD := fun _ R => R d
theorem dc_of {v : V} {d : D} (h : PE X e (tC v)) (r : ∀ Φ, Rp K Φ d v) : PD K X e (dC d) := ⟨fun _ => h.imp fun σ H Q ⟨H0, Φ, ρ, R, E, t, k⟩ => k d Φ H v t (.refl E.fz) (r Φ)⟩
theorem dc_int {i j} : PD K X (.Constant (.int i) j pos) (dC (.int i)) := dc_of pe_int fun _ => .int i
theorem dc_bl {i j} : PD K X (.Constant (.bool i) j pos) (dC (.bl i)) := dc_of pe_bl fun _ => .bl i
theorem dc_str {i j} : PD K X (.Constant (.str i) j pos) (dC (.str i)) := dc_of pe_str fun _ => .str i
theorem dc_non {j} : PD K X (.Constant .none j pos) (dC .non) := dc_of pe_non fun _ => .non
/-! two-place operations -/
abbrev RD2 := D → D → (D → Prop) → Prop
def lR2 (K : PySem.W.Frag) (r : RD2) : R2 := fun x y H Q => ∃ Φ dx dy R, Same Φ H ∧ RpQ K Φ H dx x ∧ RpQ K Φ H dy y ∧ r dx dy R ∧ ∀ d Φ' H' v, R d → Gr Φ H Φ' H' → Rp K Φ' d v → Q v H'
structure OpD (K : PySem.W.Frag) (X : Cx) (f : Value → Value → Sem Value) (r : RD2) : Prop where o : X.K = K → OpR X f (lR2 K r)
def dOp (r : RD2) (ta tb : TD) : TD := fun ρ R => ta ρ fun x => tb ρ fun y => r x y R
theorem op_lift {r : RD2} {σ : St} {H : Hp} {Q : VK} (h : lE K (dOp r ta tb) σ H Q) : tOp (lR2 K r) (lQ K ta) (lQ K tb) σ H Q := by
  obtain ⟨H0, Φ, ρ, R, E, t, k⟩ := h
  exact ⟨H0, Φ, ρ, _, E, t, fun dx Φ1 H1 x t1 g1 rx => ⟨H0, Φ1, ρ, _, E.gr g1, t1, fun dy Φ2 H2 y t2 g2 ry => ⟨Φ2, dx, dy, R, g2.s, rx.gr g2, ry, t2, fun d Φ' H' v r g rr => k d Φ' H' v r ((g1.trans g2).trans g) rr⟩⟩⟩
theorem d_op {op : Operator} {r : RD2} (ho : OpD K X (binaryOp op) r) (ha : PQ K X a ta) (hb : PQ K X b tb) : PD K X (.BinOp a op b pos) (dOp r ta tb) :=
  ⟨fun hK => (pe_op (ho.o hK) (ha.pe hK) (hb.pe hK)).imp fun _ _ _ => op_lift⟩
theorem d_cmp {op : CmpOp} {r : RD2} (ho : OpD K X (compareOp op) r) (ha : PQ K X a ta) (hb : PQ K X b tb) (hm : behindInMarks op b = false) : PD K X (.Compare a [op] [b] pos) (dOp r ta tb) :=
  ⟨fun hK => (pe_cmpR (ho.o hK) (ha.pe hK) (hb.pe hK) hm).imp fun _ _ _ => op_lift⟩
/-- a bool as a test -/
def zTest (t : TD) : TDB := fun ρ R => t ρ fun d => match d with | .bl b => R b | _ => False
theorem test_lift {r : RD2} {σ : St} {H : Hp} {Q : Bool → Hp → Prop} (h : lT K (zTest (dOp r ta tb)) σ H Q) : tTest (tOp (lR2 K r) (lQ K ta) (lQ K tb)) σ H Q := by
  obtain ⟨H0, Φ, ρ, R, E, t, k⟩ := h
  refine op_lift ⟨H0, Φ, ρ, _, E, t, fun d Φ' H' v r g rr => ?_⟩
  cases d with
  | bl b => cases rr; exact ⟨b, rfl, k b Φ' H' r g⟩
  | _ => exact r.elim
theorem t_cmp {op : CmpOp} {r : RD2} (ho : OpD K X (compareOp op) r) (ha : PQ K X a ta) (hb : PQ K X b tb) (hm : behindInMarks op b = false) : PTD K X (.Compare a [op] [b] pos) (zTest (dOp r ta tb)) :=
  ⟨fun hK => (pt_cmpR (ho.o hK) (ha.pe hK) (hb.pe hK) hm).imp fun _ _ _ => test_lift⟩
/-! one-place -/
abbrev RD1 := D → (D → Prop) → Prop
def dUn (r : RD1) (ta : TD) : TD := fun ρ R => ta ρ fun x => r x R
def zNeg : RD1 := fun x R => match x with | .int i => R (.int (-i)) | _ => False
theorem d_neg (ha : PQ K X a ta) : PD K X (.UnaryOp .USub a pos) (dUn zNeg ta) := ⟨fun hK => (pe_un un_neg (ha.pe hK)).imp fun σ H Q ⟨H0, Φ, ρ, R, E, t, k⟩ => ⟨H0, Φ, ρ, _, E, t, fun dx Φ1 H1 x t1 g1 rx => by
  cases dx with
  | int i => exact ⟨i, rx.int, k _ Φ1 H1 _ t1 g1 (.int _)⟩
  | _ => exact t1.elim⟩⟩
def zNot : RD1 := fun x R => match x with | .bl i => R (.bl (!i)) | _ => False
theorem d_not (ha : PQ K X a ta) : PD K X (.UnaryOp .Not a pos) (dUn zNot ta) := ⟨fun hK => (pe_not (ha.pe hK)).imp fun σ H Q ⟨H0, Φ, ρ, R, E, t, k⟩ => ⟨H0, Φ, ρ, _, E, t, fun dx Φ1 H1 x t1 g1 rx => by
  cases dx with
  | bl i => exact ⟨i, rx.bl, k _ Φ1 H1 _ t1 g1 (.bl _)⟩
  | _ => exact t1.elim⟩⟩
/-! truth -/
def zTru : D → (Bool → Prop) → Prop := fun d R => match d with
  | .int i => R (i != 0) | .bl b => R b | .non => R false | .str x => x.length ≤ sizeLine ∧ R ((x.length : Int) != 0) | .lst ds => R (!ds.isEmpty) | .tup ds => R (!ds.isEmpty) | .fzl ds => R (!ds.isEmpty)
theorem isEmpty_rp {Φ : Hp} {ds : List D} {vs : List V} (h : RpL K Φ ds vs) : (!ds.isEmpty) = !vs.isEmpty := by
  have := h.1
  cases ds <;> cases vs <;> simp_all
theorem tru_of {Φ H : Hp} {d : D} {v : V} {R : Bool → Prop} (s : Same Φ H) (h : RpQ K Φ H d v) (t : zTru d R) : ∃ k, TruV K v H k ∧ R k := by
  cases d with
  | int i => rw [h.int]; exact ⟨_, rfl, t⟩
  | bl i => rw [h.bl]; exact ⟨_, rfl, t⟩
  | non => rw [h.non]; exact ⟨_, rfl, t⟩
  | str i => rw [h.str]; exact ⟨_, ⟨t.1, rfl⟩, t.2⟩
  | lst ds => obtain ⟨a, vs, rfl, h1, h2⟩ := h.lst s; exact ⟨_, .inl ⟨vs, .of h1, rfl⟩, by rw [← isEmpty_rp h2]; exact t⟩
  | tup ds => obtain ⟨a, vs, rfl, h1, _, h2⟩ := h.tup s; exact ⟨_, .inr (.inl ⟨vs, h1, rfl⟩), by rw [← isEmpty_rp h2]; exact t⟩
  | fzl ds => obtain ⟨a, vs, rfl, h1, h2⟩ := h.fzl s; exact ⟨_, .inl ⟨vs, h1, rfl⟩, by rw [← isEmpty_rp h2]; exact t⟩
def dTru (t : TD) : TDB := fun ρ R => t ρ fun d => zTru d R
theorem t_tru (ha : PQ K X a ta) (he : ∀ whole, isTrue a X.env whole = (do let v ← whole; standAt a.pos; holding [v] (truthy v))) : PTD K X a (dTru ta) :=
  ⟨fun hK => (pt_truth (ha.pe hK) he).imp fun σ H Q ⟨H0, Φ, ρ, R, E, t, k⟩ => ⟨H0, Φ, ρ, _, E, t, fun d Φ1 H1 v t1 g1 rv => by
    obtain ⟨b, h1, h2⟩ := tru_of g1.s rv t1
    rw [hK]
    exact ⟨b, h1, k b Φ1 H1 h2 g1⟩⟩⟩
/-! and, or, not, a if c else b -/
def zAnd (t u : TDB) : TDB := fun ρ R => t ρ fun c => (c = true → u ρ R) ∧ (c = false → R false)
def zOr (t u : TDB) : TDB := fun ρ R => t ρ fun c => (c = true → R true) ∧ (c = false → u ρ R)
def zNotT (t : TDB) : TDB := fun ρ R => t ρ fun c => R (!c)
theorem PWD.td (h : PWD K X e tt) : PTD K X e tt := ⟨fun hK => (h.pw hK).pt⟩
theorem w_and1 (ha : PTD K X a tt) : PWD K X (.BoolOp .And [a] pos) tt := ⟨fun hK => pw_and1 (ha.pt hK)⟩
theorem w_or1 (ha : PTD K X a tt) : PWD K X (.BoolOp .Or [a] pos) tt := ⟨fun hK => pw_or1 (ha.pt hK)⟩
theorem w_and (ha : PTD K X a tt) (hb : PWD K X (.BoolOp .And (b :: es) pos) tu) : PWD K X (.BoolOp .And (a :: b :: es) pos) (zAnd tt tu) :=
  ⟨fun hK => (pw_and (ha.pt hK) (hb.pw hK)).imp fun σ H Q ⟨H0, Φ, ρ, R, E, t, k⟩ => ⟨H0, Φ, ρ, _, E, t, fun c Φ1 H1 r g => by
    cases c with
    | true => rw [if_pos rfl]; exact ⟨H0, Φ1, ρ, R, E.gr g, r.1 rfl, fun b Φ' H' rb g' => k b Φ' H' rb (g.trans g')⟩
    | false => rw [if_neg (by decide)]; exact k _ Φ1 H1 (r.2 rfl) g⟩⟩
theorem w_or (ha : PTD K X a tt) (hb : PWD K X (.BoolOp .Or (b :: es) pos) tu) : PWD K X (.BoolOp .Or (a :: b :: es) pos) (zOr tt tu) :=
  ⟨fun hK => (pw_or (ha.pt hK) (hb.pw hK)).imp fun σ H Q ⟨H0, Φ, ρ, R, E, t, k⟩ => ⟨H0, Φ, ρ, _, E, t, fun c Φ1 H1 r g => by
    cases c with
    | true => rw [if_pos rfl]; exact k _ Φ1 H1 (r.1 rfl) g
    | false => rw [if_neg (by decide)]; exact ⟨H0, Φ1, ρ, R, E.gr g, r.2 rfl, fun b Φ' H' rb g' => k b Φ' H' rb (g.trans g')⟩⟩⟩
theorem t_not (ha : PTD K X a tt) : PTD K X (.UnaryOp .Not a pos) (zNotT tt) :=
  ⟨fun hK => (pt_not (ha.pt hK)).imp fun σ H Q ⟨H0, Φ, ρ, R, E, t, k⟩ => ⟨H0, Φ, ρ, _, E, t, fun c Φ1 H1 r g => k _ Φ1 H1 r g⟩⟩
/-- .. as values -/
def dAnd (t u : TD) : TD := fun ρ R => t ρ fun c => match c with | .bl c => (c = true → u ρ R) ∧ (c = false → R (.bl false)) | _ => False
def dOr (t u : TD) : TD := fun ρ R => t ρ fun c => match c with | .bl c => (c = true → R (.bl true)) ∧ (c = false → u ρ R) | _ => False
theorem d_one {op} (h : PD K X a ta) : PD K X (.BoolOp op [a] pos) ta := ⟨fun hK => pe_one (h.pe hK)⟩
theorem d_and (ha : PD K X a ta) (hb : PD K X (.BoolOp .And (b :: es) pos) tb) : PD K X (.BoolOp .And (a :: b :: es) pos) (dAnd ta tb) :=
  ⟨fun hK => (pe_and (ha.pe hK) (hb.pe hK)).imp fun σ H Q ⟨H0, Φ, ρ, R, E, t, k⟩ => ⟨H0, Φ, ρ, _, E, t, fun c Φ1 H1 v r g rv => by
    cases c with
    | bl c =>
      cases rv
      refine ⟨c, rfl, ?_⟩
      cases c with
      | true => rw [if_pos rfl]; exact ⟨H0, Φ1, ρ, R, E.gr g, r.1 rfl, fun b Φ' H' v rb g' rr => k b Φ' H' v rb (g.trans g') rr⟩
      | false => rw [if_neg (by decide)]; exact k _ Φ1 H1 _ (r.2 rfl) g (.bl _)
    | _ => exact r.elim⟩⟩
theorem d_or (ha : PD K X a ta) (hb : PD K X (.BoolOp .Or (b :: es) pos) tb) : PD K X (.BoolOp .Or (a :: b :: es) pos) (dOr ta tb) :=
  ⟨fun hK => (pe_or (ha.pe hK) (hb.pe hK)).imp fun σ H Q ⟨H0, Φ, ρ, R, E, t, k⟩ => ⟨H0, Φ, ρ, _, E, t, fun c Φ1 H1 v r g rv => by
    cases c with
    | bl c =>
      cases rv
      refine ⟨c, rfl, ?_⟩
      cases c with
      | true => rw [if_pos rfl]; exact k _ Φ1 H1 _ (r.1 rfl) g (.bl _)
      | false => rw [if_neg (by decide)]; exact ⟨H0, Φ1, ρ, R, E.gr g, r.2 rfl, fun b Φ' H' v rb g' rr => k b Φ' H' v rb (g.trans g') rr⟩
    | _ => exact r.elim⟩⟩
def dIf (t : TDB) (u v : TD) : TD := fun ρ R => t ρ fun c => (c = true → u ρ R) ∧ (c = false → v ρ R)
theorem d_if (hc : PTD K X c tt) (ha : PD K X a ta) (hb : PD K X b tb) : PD K X (.IfExp c a b pos) (dIf tt ta tb) :=
  ⟨fun hK => (pe_ifExp (hc.pt hK) (ha.pe hK) (hb.pe hK)).imp fun σ H Q ⟨H0, Φ, ρ, R, E, t, k⟩ => ⟨H0, Φ, ρ, _, E, t, fun c Φ1 H1 r g => by
    cases c with
    | true => rw [if_pos rfl]; exact ⟨H0, Φ1, ρ, R, E.gr g, r.1 rfl, fun b Φ' H' v rb g' rr => k b Φ' H' v rb (g.trans g') rr⟩
    | false => rw [if_neg (by decide)]; exact ⟨H0, Φ1, ρ, R, E.gr g, r.2 rfl, fun b Φ' H' v rb g' rr => k b Φ' H' v rb (g.trans g') rr⟩⟩⟩
/-! arguments, displays -/
def zNil : TDL := fun _ R => R []
def zCons (t : TD) (u : TDL) : TDL := fun ρ R => t ρ fun d => u ρ fun ds => R (d :: ds)
theorem a_nil : PAD K X [] zNil := ⟨fun _ => pa_nil.imp fun σ H Q ⟨H0, Φ, ρ, R, E, t, k⟩ => k [] Φ H [] t (.refl E.fz) .nil rfl⟩
theorem a_cons (ha : PD K X e t) (hr : PAD K X es tl) (hs : starEach (e :: es) X.env = (false, eval e X.env) :: starEach es X.env) : PAD K X (e :: es) (zCons t tl) :=
  ⟨fun hK => (pa_cons (ha.pe hK) (hr.pa hK) hs).imp fun σ H Q ⟨H0, Φ, ρ, R, E, t, k⟩ => ⟨H0, Φ, ρ, _, E, t, fun d Φ1 H1 v r g rv => ⟨H0, Φ1, ρ, _, E.gr g, r, fun ds Φ2 H2 vs r2 g2 rl hl =>
    k _ Φ2 H2 _ r2 (g.trans g2) (.cons (rv.same g2.f) rl) (by rw [List.length_cons, List.length_cons, hl])⟩⟩⟩
def dTup (t : TDL) : TD := fun ρ R => t ρ fun ds => R (.tup ds)
def fLst (t : TDL) : TDL := t
theorem few_le {n : Nat} (h : Nat.ble n 1000 = true) : n ≤ sizeLine := Nat.le_trans (Nat.le_of_ble_eq_true h) (by decide)
theorem d_tup {x1} (h : PAD K X es tl) (hes : Nat.ble es.length 1000 = true := by rfl) : PD K X (.Tuple es x1 pos) (dTup tl) :=
  ⟨fun hK => (pe_tup (h.pa hK)).imp fun σ H Q ⟨H0, Φ, ρ, R, E, t, k⟩ => ⟨H0, Φ, ρ, _, E, t, fun ds Φ1 H1 vs r g rl hl => ⟨by rw [rl.1, hl]; exact few_le hes, fun p hp =>
    k _ _ _ _ r (g.trans (.new g.s hp _)) ((rl.same (same_new (g.s.free hp) _)).tup (.of upd_same))⟩⟩⟩
theorem f_lst (h : PAD K X es tl) (hes : Nat.ble es.length 1000 = true := by rfl) : PF K X (.List es pos) (fLst tl) :=
  ⟨fun hK => (pe_lst (h.pa hK)).imp fun σ H Q ⟨H0, Φ, ρ, R, E, t, k⟩ => ⟨H0, Φ, ρ, _, E, t, fun ds Φ1 H1 vs r g rl hl => ⟨by rw [rl.1, hl]; exact few_le hes, fun p hp =>
    k _ _ _ p vs r (g.trans (.fresh g.s hp _)) (g.h.free hp) (g.s.free hp) upd_same rl⟩⟩⟩
end
end L2
set_option Elab.async false
set_option linter.all false
set_option maxRecDepth 100000
set_option maxHeartbeats 4000000
namespace L2
open PySem PySem.Spec PyProof.Rows
section
variable {K : PySem.W.Frag} {X : Cx} {e a b c : Expr} {es : List Expr} {pos : Pos} {t ta tb : TD} {tf : TDL} {tl : TDL} {tt tu : TDB}
/-! ### arithmetic -/
def zAdd : RD2 := fun x y R => match x, y with
  | .int i, .int j => R (.int (i + j))
  | .str i, .str j => i.length + j.length ≤ sizeLine ∧ R (.str (i ++ j))
  | .lst xs, .lst ys => xs.length + ys.length ≤ sizeLine ∧ NF (xs ++ ys) fun zs => R (.lst zs)
  | .tup xs, .tup ys => xs.length + ys.length ≤ sizeLine ∧ NF (xs ++ ys) fun zs => R (.tup zs)
  | _, _ => False
theorem z_add : OpD K X (binaryOp .Add) zAdd := ⟨fun hK pins s σ H x y v u Q I rx ry ⟨Φ, dx, dy, R, sm, hx, hy, h, k⟩ => by
  cases dx with
  | int i =>
    cases dy with
    | int j => cases hx.int; cases hy.int; exact op_add pins s σ H _ _ v u Q I rx ry ⟨i, j, rfl, rfl, k _ Φ H _ h (.refl sm) (.int _)⟩
    | _ => exact h.elim
  | str i =>
    cases dy with
    | str j => cases hx.str; cases hy.str; exact op_add_str pins s σ H _ _ v u Q I rx ry ⟨i, j, rfl, rfl, h.1, k _ Φ H _ h.2 (.refl sm) (.str _)⟩
    | _ => exact h.elim
  | lst xs =>
    cases dy with
    | lst ys =>
      obtain ⟨a, vs, rfl, h1, h2⟩ := hx.lst sm
      obtain ⟨b, ws, rfl, h3, h4⟩ := hy.lst sm
      exact op_cat pins s σ H _ _ v u Q I rx ry ⟨a, b, vs, ws, rfl, rfl, h1, h3, by rw [h2.1, h4.1]; exact h.1, fun p hp => k _ _ _ _ h.2.get (.new sm hp _) (((h2.append h4).same (same_new (sm.free hp) _)).lst upd_same)⟩
    | _ => exact h.elim
  | tup xs =>
    cases dy with
    | tup ys =>
      obtain ⟨a, vs, rfl, h1, h1', h2⟩ := hx.tup sm
      obtain ⟨b, ws, rfl, h3, h3', h4⟩ := hy.tup sm
      exact (hK ▸ op_catG : OpR X (binaryOp .Add) (rCatG K)) pins s σ H _ _ v u Q I rx ry ⟨a, b, vs, ws, rfl, rfl, h1, h3, by rw [h2.1, h4.1]; exact h.1, fun p H' s' q => by
        obtain ⟨Φ', g, q'⟩ := Gr.adopt sm s' q
        exact k _ Φ' H' _ h.2.get g (((h2.append h4).same g.f).tup q')⟩
    | _ => exact h.elim
  | _ => exact h.elim⟩
def zI (C : Int → Int → Prop) (g : Int → Int → D) : RD2 := fun x y R => match x, y with | .int i, .int j => C i j ∧ R (g i j) | _, _ => False
def zI0 (g : Int → Int → D) : RD2 := fun x y R => match x, y with | .int i, .int j => R (g i j) | _, _ => False
theorem zi_of {f : Value → Value → Sem Value} {C : Int → Int → Prop} {g : Int → Int → Int} (h : OpR X f (rI C fun i j => .int (g i j))) : OpD K X f (zI C fun i j => .int (g i j)) :=
  ⟨fun hK pins s σ H x y v u Q I rx ry ⟨Φ, dx, dy, R, sm, hx, hy, q, k⟩ => by
    cases dx with
    | int i =>
      cases dy with
      | int j => cases hx.int; cases hy.int; exact h pins s σ H _ _ v u Q I rx ry ⟨i, j, rfl, rfl, q.1, k _ Φ H _ q.2 (.refl sm) (.int _)⟩
      | _ => exact q.elim
    | _ => exact q.elim⟩
theorem zi0_of {f : Value → Value → Sem Value} {g : Int → Int → Int} (h : OpR X f (rI0 fun i j => .int (g i j))) : OpD K X f (zI0 fun i j => .int (g i j)) :=
  ⟨fun hK pins s σ H x y v u Q I rx ry ⟨Φ, dx, dy, R, sm, hx, hy, q, k⟩ => by
    cases dx with
    | int i =>
      cases dy with
      | int j => cases hx.int; cases hy.int; exact h pins s σ H _ _ v u Q I rx ry ⟨i, j, rfl, rfl, k _ Φ H _ q (.refl sm) (.int _)⟩
      | _ => exact q.elim
    | _ => exact q.elim⟩
theorem zb0_of {f : Value → Value → Sem Value} {g : Int → Int → Bool} (h : OpR X f (rI0 fun i j => .bl (g i j))) : OpD K X f (zI0 fun i j => .bl (g i j)) :=
  ⟨fun hK pins s σ H x y v u Q I rx ry ⟨Φ, dx, dy, R, sm, hx, hy, q, k⟩ => by
    cases dx with
    | int i =>
      cases dy with
      | int j => cases hx.int; cases hy.int; exact h pins s σ H _ _ v u Q I rx ry ⟨i, j, rfl, rfl, k _ Φ H _ q (.refl sm) (.bl _)⟩
      | _ => exact q.elim
    | _ => exact q.elim⟩
theorem z_sub : OpD K X (binaryOp .Sub) (zI0 fun i j => .int (i - j)) := zi0_of op_sub
theorem z_fdiv : OpD K X (binaryOp .FloorDiv) (zI CDivB fun i j => .int (i / j)) := zi_of op_fdivB
theorem z_mod : OpD K X (binaryOp .Mod) (zI (fun _ j => 0 < j) fun i j => .int (i % j)) := zi_of op_mod
theorem z_pow : OpD K X (binaryOp .Pow) (zI CPow fun i j => .int (i ^ j.toNat)) := zi_of op_pow
theorem z_lt : OpD K X (compareOp .Lt) (zI0 fun i j => .bl (decide (i < j))) := zb0_of op_lt
theorem z_le : OpD K X (compareOp .LtE) (zI0 fun i j => .bl (decide (i ≤ j))) := zb0_of op_le
theorem z_gt : OpD K X (compareOp .Gt) (zI0 fun i j => .bl (decide (j < i))) := zb0_of op_gt
theorem z_ge : OpD K X (compareOp .GtE) (zI0 fun i j => .bl (decide (j ≤ i))) := zb0_of op_ge
/-- a product of ints, a list or a tuple several times -/
def zMul : RD2 := fun x y R => match x, y with
  | .int i, .int j => IntMulOk i j ∧ R (.int (i * j))
  | .lst xs, .int k => (-(2 ^ 63) ≤ k ∧ k < 2 ^ 63 ∧ xs.length * k.toNat ≤ sizeLine) ∧ NF (List.replicate k.toNat xs).flatten fun zs => R (.lst zs)
  | .tup xs, .int k => (xs ≠ [] ∧ 0 ≤ k ∧ k ≤ 1000 ∧ k.toNat * xs.length ≤ 1000) ∧ NF (List.replicate k.toNat xs).flatten fun zs => R (.tup zs)
  | _, _ => False
theorem z_mul : OpD K X (binaryOp .Mult) zMul := ⟨fun hK pins s σ H x y v u Q I rx ry ⟨Φ, dx, dy, R, sm, hx, hy, h, k⟩ => by
  cases dx with
  | int i =>
    cases dy with
    | int j => cases hx.int; cases hy.int; exact op_mulB pins s σ H _ _ v u Q I rx ry ⟨i, j, rfl, rfl, h.1, k _ Φ H _ h.2 (.refl sm) (.int _)⟩
    | _ => exact h.elim
  | lst xs =>
    cases dy with
    | int j =>
      obtain ⟨a, vs, rfl, h1, h2⟩ := hx.lst sm
      cases hy.int
      exact op_rep pins s σ H _ _ v u Q I rx ry ⟨a, j, vs, rfl, rfl, h1, h.1.1, h.1.2.1, by rw [h2.1]; exact h.1.2.2, fun p hp => k _ _ _ _ h.2.get (.new sm hp _) (((h2.rep _).same (same_new (sm.free hp) _)).lst upd_same)⟩
    | _ => exact h.elim
  | tup xs =>
    cases dy with
    | int j =>
      obtain ⟨a, vs, rfl, h1, h1', h2⟩ := hx.tup sm
      cases hy.int
      have hne : vs ≠ [] := fun e => h.1.1 (List.length_eq_zero_iff.mp (by rw [← h2.1, e]; rfl))
      exact (hK ▸ op_repT : OpR X (binaryOp .Mult) (rRepT K)) pins s σ H _ _ v u Q I rx ry ⟨a, j, vs, rfl, rfl, h1, hne, h.1.2.1, h.1.2.2.1, by rw [h2.1]; exact h.1.2.2.2, fun p H' s' q => by
        obtain ⟨Φ', g, q'⟩ := Gr.adopt sm s' q
        exact k _ Φ' H' _ h.2.get g (((h2.rep _).same g.f).tup q')⟩
    | _ => exact h.elim
  | _ => exact h.elim⟩
end
end L2
set_option Elab.async false
set_option linter.all false
set_option maxRecDepth 100000
set_option maxHeartbeats 4000000
namespace L2
open PySem PySem.Spec PyProof.Rows
/-! ### equal or not, through and through -/
def cmL (f : D → D → Option Bool) : List D → List D → Option Bool
  | [], [] => some true
  | x :: xs, y :: ys => (f x y).bind fun b => (cmL f xs ys).map (b && ·)
  | _, _ => some false
def cmB : Nat → D → D → Option Bool
  | _, .int i, .int j => some (i == j)
  | _, .bl i, .bl j => some (i == j)
  | _, .str i, .str j => some (i == j)
  | _, .non, .non => some true
  | n + 1, .tup xs, .tup ys => cmL (cmB n) xs ys
  | n + 1, .lst xs, .lst ys => if xs.length = ys.length then cmL (cmB n) xs ys else some false
  | _, _, _ => none
theorem cmL_all {f : D → D → Option Bool} : ∀ {xs ys : List D} {b : Bool}, cmL f xs ys = some b → ∃ g : Nat → Bool, (∀ (j : Nat) (x y : D), xs[j]? = some x → ys[j]? = some y → f x y = some (g j)) ∧ b = ((List.range (min xs.length ys.length)).all g && xs.length == ys.length)
  | [], [], b, h => by cases h; exact ⟨fun _ => true, fun j x y hx => by simp at hx, by simp⟩
  | [], _ :: _, b, h => by cases h; exact ⟨fun _ => true, fun j x y hx => by simp at hx, by simp⟩
  | _ :: _, [], b, h => by cases h; exact ⟨fun _ => true, fun j x y _ hy => by simp at hy, by simp⟩
  | x :: xs, y :: ys, b, h => by
    unfold cmL at h
    cases e : f x y with
    | none => rw [e] at h; cases h
    | some c =>
      cases e2 : cmL f xs ys with
      | none => rw [e, e2] at h; cases h
      | some c2 =>
        rw [e, e2] at h
        cases h
        obtain ⟨g, h1, h2⟩ := cmL_all e2
        refine ⟨fun j => match j with | 0 => c | j + 1 => g j, fun j u v hu hv => ?_, ?_⟩
        · cases j with
          | zero => cases hu; cases hv; exact e
          | succ j => exact h1 j u v hu hv
        · have em : min (x :: xs).length (y :: ys).length = min xs.length ys.length + 1 := by simp only [List.length_cons]; omega
          have el : ((x :: xs).length == (y :: ys).length) = (xs.length == ys.length) := by simp
          rw [em, el, List.range_succ_eq_map, List.all_cons, List.all_map, h2, Bool.and_assoc]
          rfl
section
variable {K : PySem.W.Frag} {X : Cx} {pins : List (Addr × Obj)} {σ : St} {Φ H : Hp} {s : Shared}
theorem all_g {n : Nat} {g : Nat → Bool} (h : ∀ j, j < n → g j = true) : (List.range n).all g = true := by
  rw [List.all_eq_true]
  intro j hj
  exact h j (List.mem_range.mp hj)
theorem get_of {α : Type} {xs : List α} {j : Nat} (h : j < xs.length) : xs[j]? = some xs[j] := by simp [h]
theorem cm_same (hK : X.K = K) (I : Inv X pins σ H s) (sm : Same Φ H) : ∀ (n : Nat) {d e : D} {b : Bool} {v : V}, cmB n d e = some b → Rp K Φ d v → Rp K Φ e v → b = true := by
  intro n
  induction n with
  | zero =>
    intro d e b v h r1 r2
    cases r1 with
    | int i => cases r2; have h' : some (i == i) = some b := h; cases h'; simp
    | bl i => cases r2; have h' : some (i == i) = some b := h; cases h'; simp
    | str i => cases r2; have h' : some (i == i) = some b := h; cases h'; simp
    | non => cases r2; cases h; rfl
    | tup _ _ _ => cases r2 <;> cases h
    | lst _ _ _ => cases r2 <;> cases h
    | fzl _ _ _ => cases r2 <;> cases h
  | succ n ih =>
    intro d e b v h r1 r2
    cases r1 with
    | int i => cases r2; have h' : some (i == i) = some b := h; cases h'; simp
    | bl i => cases r2; have h' : some (i == i) = some b := h; cases h'; simp
    | str i => cases r2; have h' : some (i == i) = some b := h; cases h'; simp
    | non => cases r2; cases h; rfl
    | @tup a vs xs h1 h2 h3 => cases r2 with
      | @tup _ ws ys k1 k2 k3 =>
        have hvw : vs = ws := I.tuple_inj (hK ▸ sm.sqt h1) (hK ▸ sm.sqt k1)
        subst hvw
        obtain ⟨g, hg, hb⟩ := cmL_all (show cmL (cmB n) xs ys = some b from h)
        rw [hb, all_g fun j hj => ?_]
        · simp; omega
        · have j0 : j < vs.length := by omega
          have j1 : j < xs.length := by omega
          have j2 : j < ys.length := by omega
          exact ih (hg j _ _ (get_of j1) (get_of j2)) (h3 j _ _ (get_of j0) (get_of j1)) (k3 j _ _ (get_of j0) (get_of j2))
      | _ => cases h
    | @lst a vs xs h1 h2 h3 => cases r2 with
      | @lst _ ws ys k1 k2 k3 =>
        have hvw : vs = ws := by rw [h1] at k1; cases k1; rfl
        subst hvw
        have h' : (if xs.length = ys.length then cmL (cmB n) xs ys else some false) = some b := h
        rw [if_pos (by omega)] at h'
        obtain ⟨g, hg, hb⟩ := cmL_all h'
        rw [hb, all_g fun j hj => ?_]
        · simp; omega
        · have j0 : j < vs.length := by omega
          have j1 : j < xs.length := by omega
          have j2 : j < ys.length := by omega
          exact ih (hg j _ _ (get_of j1) (get_of j2)) (h3 j _ _ (get_of j0) (get_of j1)) (k3 j _ _ (get_of j0) (get_of j2))
      | _ => cases h
    | fzl _ _ _ => cases r2 <;> cases h
open PySem.SeqAt in
theorem cm_flat {n : Nat} {d e : D} {b : Bool} {x y : V} (h : cmB n d e = some b) (rx : Rp K Φ d x) (ry : Rp K Φ e y) (hf : (∀ a, x ≠ .ref a)) {A : Around} {u v : Value} (ru : RelV x u) (rv : RelV y v) : EqAt A s u v b ∧ RcAt A s u v b ∧ RcNeAt A s u v (!b) := by
  cases rx with
  | int i => cases ry with
    | int j =>
      obtain ⟨t, rfl⟩ := ru; obtain ⟨t', rfl⟩ := rv
      have h' : some (i == j) = some b := by cases n <;> exact h
      cases h'
      exact ⟨EqAt.int_int i t j t', RcAt.int_int i t j t', RcNeAt.int_int i t j t'⟩
    | _ => cases n <;> cases h
  | bl i => cases ry with
    | bl j =>
      cases ru; cases rv
      have h' : some (i == j) = some b := by cases n <;> exact h
      cases h'
      exact ⟨EqAt.bool_bool i j, RcAt.bool_bool i j, RcNeAt.bool_bool i j⟩
    | _ => cases n <;> cases h
  | str i => cases ry with
    | str j =>
      obtain ⟨t, rfl⟩ := ru; obtain ⟨t', rfl⟩ := rv
      have h' : some (i == j) = some b := by cases n <;> exact h
      cases h'
      exact ⟨EqAt.str_str i t j t', RcAt.str_str i t j t', RcNeAt.str_str i t j t'⟩
    | _ => cases n <;> cases h
  | non => cases ry with
    | non =>
      cases ru; cases rv
      have h' : some true = some b := by cases n <;> exact h
      cases h'
      exact ⟨EqAt.same _, RcAt.none_none, RcNeAt.none_none⟩
    | _ => cases n <;> cases h
  | tup _ _ _ => exact absurd rfl (hf _)
  | lst _ _ _ => exact absurd rfl (hf _)
  | fzl _ _ _ => exact absurd rfl (hf _)
open PySem.SeqAt in
theorem cmB_at (hK : X.K = K) (I : Inv X pins σ H s) (sm : Same Φ H) : ∀ (n : Nat) {d e : D} {b : Bool} {x y : V}, cmB n d e = some b → Rp K Φ d x → Rp K Φ e y →
    ∀ (A : Around) (u v : Value), A.units + n < cLine → RelV x u → RelV y v → EqAt A s u v b ∧ RcAt A s u v b ∧ RcNeAt A s u v (!b) := by
  intro n
  induction n with
  | zero =>
    intro d e b x y h rx ry A u v hu ru rv
    refine cm_flat h rx ry (fun a ea => ?_) ru rv
    subst ea
    cases rx <;> cases ry <;> cases h
  | succ n ih =>
    intro d e b x y h rx ry A u v hu ru rv
    by_cases hf : ∀ a, x ≠ .ref a
    · exact cm_flat h rx ry hf ru rv
    have hu' : A.units < cLine := by omega
    cases rx with
    | int i => exact absurd (fun a e => nomatch e) hf
    | bl i => exact absurd (fun a e => nomatch e) hf
    | str i => exact absurd (fun a e => nomatch e) hf
    | non => exact absurd (fun a e => nomatch e) hf
    | @tup a vs xs h1 h2 h3 => cases ry with
      | @tup c ws ys k1 k2 k3 =>
        cases ru; cases rv
        obtain ⟨g, hg, hb⟩ := cmL_all (show cmL (cmB n) xs ys = some b from h)
        obtain ⟨its, r1, p1, _⟩ := I.sqb (b := false) (hK ▸ sm.sqt h1)
        obtain ⟨its', r2, p2, _⟩ := I.sqb (b := false) (hK ▸ sm.sqt k1)
        have l1 := Vals.length r1
        have l2 := Vals.length r2
        have he : ∀ j (j1 : j < its.toArray.size) (j2 : j < its'.toArray.size), EqAt A.in1 s its.toArray[j] its'.toArray[j] (g j) := by
          intro j j1 j2
          simp only [List.size_toArray] at j1 j2
          obtain ⟨x, hx, rx⟩ := Vals.get' r1 j1
          obtain ⟨y, hy, ry⟩ := Vals.get' r2 j2
          have i1 : j < xs.length := by omega
          have i2 : j < ys.length := by omega
          exact (ih (hg j _ _ (get_of i1) (get_of i2)) (h3 j x _ hx (get_of i1)) (k3 j y _ hy (get_of i2)) A.in1 _ _ (by show A.units + 1 + n < cLine; omega) rx ry).1
        have R := RcAt.tuples (e := g) p1 p2 hu' he
        have R' := RcNeAt.tuples (e := g) p1 p2 hu' he
        have et : ((List.range (min its.toArray.size its'.toArray.size)).all g && its.toArray.size == its'.toArray.size) = b := by
          rw [hb]
          simp only [List.size_toArray]
          rw [← l1, ← l2, h2, k2]
        rw [et] at R R'
        refine ⟨?_, R, R'⟩
        by_cases hab : a = c
        · subst hab
          rw [cm_same hK I sm (n + 1) h (.tup h1 h2 h3) (.tup k1 k2 k3)]; exact EqAt.same _
        · exact EqAt.of_refs hab R
      | _ => cases h
    | @lst a vs xs h1 h2 h3 => cases ry with
      | @lst c ws ys k1 k2 k3 =>
        cases ru; cases rv
        have h' : (if xs.length = ys.length then cmL (cmB n) xs ys else some false) = some b := h
        obtain ⟨its, r1, p1, _⟩ := I.sqb (b := true) (show SqL X.K H a vs from SqL.of (sm _ _ h1))
        obtain ⟨its', r2, p2, _⟩ := I.sqb (b := true) (show SqL X.K H c ws from SqL.of (sm _ _ k1))
        have l1 := Vals.length r1
        have l2 := Vals.length r2
        have fin : RcAt A s (.ref a) (.ref c) b ∧ RcNeAt A s (.ref a) (.ref c) (!b) := by
          by_cases hl : xs.length = ys.length
          · rw [if_pos hl] at h'
            obtain ⟨g, hg, hb⟩ := cmL_all h'
            have he : ∀ j (j1 : j < its.toArray.size) (j2 : j < its'.toArray.size), EqAt A.in1 s its.toArray[j] its'.toArray[j] (g j) := by
              intro j j1 j2
              simp only [List.size_toArray] at j1 j2
              obtain ⟨x, hx, rx⟩ := Vals.get' r1 j1
              obtain ⟨y, hy, ry⟩ := Vals.get' r2 j2
              have i1 : j < xs.length := by omega
              have i2 : j < ys.length := by omega
              exact (ih (hg j _ _ (get_of i1) (get_of i2)) (h3 j x _ hx (get_of i1)) (k3 j y _ hy (get_of i2)) A.in1 _ _ (by show A.units + 1 + n < cLine; omega) rx ry).1
            have hsz : its.toArray.size = its'.toArray.size := by simp; omega
            have R := RcAt.lists (e := g) p1 p2 hsz hu' he
            have R' := RcNeAt.lists (e := g) p1 p2 hsz hu' he
            have et : (List.range its.toArray.size).all g = b := by
              have e1 : min xs.length ys.length = its.length := by omega
              have e2 : (xs.length == ys.length) = true := by simp [hl]
              rw [hb, e1, e2, Bool.and_true, List.size_toArray]
            rw [et] at R R'
            exact ⟨R, R'⟩
          · rw [if_neg hl] at h'
            cases h'
            have hsz : (its.toArray.size != its'.toArray.size) = true := by simp; omega
            exact ⟨RcAt.lists_lengths p1 p2 hsz hu', RcNeAt.lists_lengths p1 p2 hsz hu'⟩
        refine ⟨?_, fin.1, fin.2⟩
        by_cases hab : a = c
        · subst hab
          rw [cm_same hK I sm (n + 1) h (.lst h1 h2 h3) (.lst k1 k2 k3)]; exact EqAt.same _
        · exact EqAt.of_refs hab fin.1
      | _ => cases h
    | fzl _ _ _ => cases ry <;> cases h
end
def zEq : RD2 := fun x y R => match cmB 40 x y with | some b => R (.bl b) | none => False
def zNe : RD2 := fun x y R => match cmB 40 x y with | some b => R (.bl (!b)) | none => False
section
variable {K : PySem.W.Frag} {X : Cx}
/-- values that are not a list of one's own -/
theorem RpQ.strict {Φ H : Hp} {d : D} {v : V} (h : RpQ K Φ H d v) (s : Same Φ H) : ∃ Φ', Gr Φ H Φ' H ∧ Rp K Φ' d v ∨ ∃ a vs ds, d = .lst ds ∧ v = .ref a ∧ H a = some (.lst vs) ∧ Φ a = none ∧ RpL K Φ ds vs := by
  rcases h with h | ⟨a, vs, ds, e, e2, h1, h2⟩
  · exact ⟨Φ, .inl ⟨.refl s, h⟩⟩
  · cases hp : Φ a with
    | none => exact ⟨Φ, .inr ⟨a, vs, ds, e, e2, h1, hp, h2⟩⟩
    | some o =>
      have := s _ _ hp
      rw [h1] at this
      cases this
      subst e e2
      exact ⟨Φ, .inl ⟨.refl s, h2.lst hp⟩⟩
/-- for a comparison alone all may be taken for frozen -/
theorem RpQ.any {Φ H : Hp} {d : D} {v : V} (h : RpQ K Φ H d v) (s : Same Φ H) : Rp K H d v := by
  rcases h with h | ⟨a, vs, ds, e, e2, h1, h2⟩
  · exact h.same s
  · subst e e2; exact (h2.same s).lst h1
theorem z_eq (hu : X.A.units + 64 < cLine) : OpD K X (compareOp .Eq) zEq := ⟨fun hK pins s σ H x y u v Q I rx ry ⟨Φ, dx, dy, R, sm, hx, hy, h, k⟩ => by
  unfold zEq at h
  split at h
  · next b hb => exact (cmB_at hK I (Same.refl H) 40 hb (hx.any sm) (hy.any sm) X.A u v (by omega) rx ry).2.1 X.prog X.w _ _ ⟨.bl b, H, I, rfl, k _ Φ H _ h (.refl sm) (.bl b)⟩
  · exact h.elim⟩
theorem z_ne (hu : X.A.units + 64 < cLine) : OpD K X (compareOp .NotEq) zNe := ⟨fun hK pins s σ H x y u v Q I rx ry ⟨Φ, dx, dy, R, sm, hx, hy, h, k⟩ => by
  unfold zNe at h
  split at h
  · next b hb => exact (cmB_at hK I (Same.refl H) 40 hb (hx.any sm) (hy.any sm) X.A u v (by omega) rx ry).2.2 X.prog X.w _ _ ⟨.bl (!b), H, I, rfl, k _ Φ H _ h (.refl sm) (.bl _)⟩
  · exact h.elim⟩
/-- is, is not: None and truths -/
def isNon : D → Bool
  | .non => true
  | _ => false
def zIs (neg : Bool) : RD2 := fun x y R => match y with | .non => R (.bl (isNon x != neg)) | .bl b => (match x with | .bl a => R (.bl ((a == b) != neg)) | _ => False) | _ => False
theorem non_iff {Φ H : Hp} {d : D} {v : V} (h : RpQ K Φ H d v) : decide (v = V.non) = isNon d := by
  cases d with
  | int i => rw [h.int]; rfl
  | bl i => rw [h.bl]; rfl
  | str i => rw [h.str]; rfl
  | non => rw [h.non]; rfl
  | tup ds => rcases h with h | ⟨a, vs, ds, e, _⟩
              · cases h; rfl
              · cases e
  | lst ds => rcases h with h | ⟨a, vs, ds, e, e2, _⟩
              · cases h; rfl
              · rw [e2]; rfl
  | fzl ds => rcases h with h | ⟨a, vs, ds, e, _⟩
              · cases h; rfl
              · cases e
theorem z_is : OpD K X (compareOp .Is) (zIs false) := ⟨fun hK pins s σ H x y u v Q I rx ry ⟨Φ, dx, dy, R, sm, hx, hy, h, k⟩ => by
  cases dy with
  | non =>
    cases hy.non
    refine op_isN pins s σ H _ _ u v Q I rx ry ⟨rfl, ?_⟩
    rw [non_iff hx]
    have h' : R (.bl (isNon dx != false)) := h
    rw [Bool.bne_false] at h'
    exact k _ Φ H _ h' (.refl sm) (.bl _)
  | bl b =>
    cases hy.bl
    cases dx with
    | bl a =>
      cases hx.bl
      have h' : R (.bl ((a == b) != false)) := h
      rw [Bool.bne_false] at h'
      exact op_isB pins s σ H _ _ u v Q I rx ry ⟨a, b, rfl, rfl, k _ Φ H _ h' (.refl sm) (.bl _)⟩
    | _ => exact h.elim
  | _ => exact h.elim⟩
theorem z_isnot : OpD K X (compareOp .IsNot) (zIs true) := ⟨fun hK pins s σ H x y u v Q I rx ry ⟨Φ, dx, dy, R, sm, hx, hy, h, k⟩ => by
  cases dy with
  | non =>
    cases hy.non
    refine op_notN pins s σ H _ _ u v Q I rx ry ⟨rfl, ?_⟩
    rw [non_iff hx]
    have h' : R (.bl (isNon dx != true)) := h
    rw [Bool.bne_true] at h'
    exact k _ Φ H _ h' (.refl sm) (.bl _)
  | bl b =>
    cases hy.bl
    cases dx with
    | bl a =>
      cases hx.bl
      have h' : R (.bl ((a == b) != true)) := h
      rw [Bool.bne_true] at h'
      exact op_notB pins s σ H _ _ u v Q I rx ry ⟨a, b, rfl, rfl, k _ Φ H _ h' (.refl sm) (.bl _)⟩
    | _ => exact h.elim
  | _ => exact h.elim⟩
end
end L2
set_option Elab.async false
set_option linter.all false
set_option maxRecDepth 100000
set_option maxHeartbeats 4000000
namespace L2
open PySem PySem.Spec PyProof.Rows
section
variable {K : PySem.W.Frag} {X : Cx} {e a b c : Expr} {es : List Expr} {pos p2 : Pos} {t ta tb : TD} {tf : TDL} {tl : TDL} {tt tu : TDB}
/-! ### x[i] -/
def zIx : RD2 := fun x y R => match y with
  | .int i => (match x with
    | .lst ds => ∃ d, atI ds i = some d ∧ R d
    | .tup ds => ∃ d, atI ds i = some d ∧ R d
    | .fzl ds => ∃ d, atI ds i = some d ∧ R d
    | .str z => z.length ≤ sizeLine ∧ ∃ c, atI z.cps.toList i = some c ∧ R (.str ⟨#[c]⟩)
    | _ => False)
  | _ => False
theorem at_rp {Φ : Hp} {ds : List D} {vs : List V} {d : D} {i : Int} (h : RpL K Φ ds vs) (e : atI ds i = some d) : ∃ v, atI vs i = some v ∧ Rp K Φ d v := by
  unfold atI at e ⊢
  rw [h.1]
  cases hj : ixN ds.length i with
  | none => rw [hj] at e; cases e
  | some j =>
    rw [hj, Option.bind_some] at e
    rw [Option.bind_some]
    exact h.at e
theorem ix_z (hK : X.K = K) : IxR X (lR2 K zIx) := by
  intro value slice pins s σ H x y v u Q I rx ry ⟨Φ, dx, dy, R, sm, hx, hy, h, k⟩ hs
  cases dy with
  | int i =>
    cases hy.int
    cases dx with
    | lst ds =>
      obtain ⟨d, h1, h2⟩ := h
      obtain ⟨a, vs, rfl, q1, q2⟩ := hx.lst sm
      obtain ⟨w, hw, rw'⟩ := at_rp q2 h1
      exact ix_list value slice pins s σ H _ _ v u Q I rx ry ⟨a, vs, i, w, rfl, rfl, .of q1, hw, k _ Φ H _ h2 (.refl sm) rw'⟩ hs
    | tup ds =>
      obtain ⟨d, h1, h2⟩ := h
      obtain ⟨a, vs, rfl, q1, _, q2⟩ := hx.tup sm
      obtain ⟨w, hw, rw'⟩ := at_rp q2 h1
      exact ix_tup value slice pins s σ H _ _ v u Q I rx ry ⟨a, vs, i, w, rfl, rfl, hK ▸ q1, hw, k _ Φ H _ h2 (.refl sm) rw'⟩ hs
    | fzl ds =>
      obtain ⟨d, h1, h2⟩ := h
      obtain ⟨a, vs, rfl, q1, q2⟩ := hx.fzl sm
      obtain ⟨w, hw, rw'⟩ := at_rp q2 h1
      exact ix_list value slice pins s σ H _ _ v u Q I rx ry ⟨a, vs, i, w, rfl, rfl, hK ▸ q1, hw, k _ Φ H _ h2 (.refl sm) rw'⟩ hs
    | str z =>
      obtain ⟨h0, c, h1, h2⟩ := h
      cases hx.str
      exact ix_str value slice pins s σ H _ _ v u Q I rx ry ⟨z, i, c, rfl, rfl, h0, h1, k _ Φ H _ h2 (.refl sm) (.str _)⟩ hs
    | _ => exact h.elim
  | _ => exact h.elim
theorem d_ix (ha : PQ K X a ta) (hb : PQ K X b tb) (hs : PlainIx b) : PD K X (.Subscript a b pos) (dOp zIx ta tb) :=
  ⟨fun hK => (pe_ix (ix_z hK) (ha.pe hK) (hb.pe hK) hs).imp fun _ _ _ => op_lift⟩
/-! ### x[lo:hi] -/
abbrev TOD := Rho → (Option Int → Prop) → Prop
def lO (K : PySem.W.Frag) (t : TOD) : TO := fun σ H Q => ∃ H0 Φ ρ R, EnvD K H0 Φ H σ ρ ∧ t ρ R ∧ ∀ o Φ' H', R o → Gr Φ H Φ' H' → Q o H'
structure POD (K : PySem.W.Frag) (X : Cx) (e : Option Expr) (t : TOD) : Prop where po : X.K = K → PO X e (lO K t)
def oNone : TOD := fun _ R => R none
def oSome (t : TD) : TOD := fun ρ R => t ρ fun d => match d with | .int i => R (some i) | _ => False
theorem PO.imp {o : Option Expr} {t t' : TO} (h : PO X o t) (k : ∀ σ H Q, t' σ H Q → t σ H Q) : PO X o t' := fun pins s σ H Q I hw => h pins s σ H Q I (k σ H Q hw)
theorem o_none : POD K X none oNone := ⟨fun _ => po_none.imp fun σ H Q ⟨H0, Φ, ρ, R, E, t, k⟩ => k none Φ H t (.refl E.fz)⟩
theorem o_some (h : PQ K X e t) : POD K X (some e) (oSome t) := ⟨fun hK => (po_some (h.pe hK)).imp fun σ H Q ⟨H0, Φ, ρ, R, E, t, k⟩ => ⟨H0, Φ, ρ, _, E, t, fun d Φ1 H1 v r g rv => by
  cases d with
  | int i => exact ⟨i, rv.int, k _ Φ1 H1 r g⟩
  | _ => exact r.elim⟩⟩
variable {lo hi : Option Expr} {to tp : TOD}
def zSl (x : D) (l h : Option Int) (R : D → Prop) : Prop := match x with
  | .lst ds => NF (cutL ds l h) fun zs => R (.lst zs)
  | .fzl ds => NF (cutL ds l h) fun zs => R (.lst zs)
  | .tup ds => ¬ (HT.sIx ds.length 0 l = 0 ∧ HT.sIx ds.length ds.length h = ds.length) ∧ NF (cutL ds l h) fun zs => R (.tup zs)
  | _ => False
def dSl (t : TD) (to tp : TOD) : TD := fun ρ R => t ρ fun x => to ρ fun l => tp ρ fun h => zSl x l h R
def fSl (t : TD) (to tp : TOD) : TDL := fun ρ R => t ρ fun x => to ρ fun l => tp ρ fun h => match x with
  | .lst ds => NF (cutL ds l h) R
  | .fzl ds => NF (cutL ds l h) R
  | _ => False
theorem d_sl (ha : PQ K X a ta) (hl : POD K X lo to) (hh : POD K X hi tp) : PD K X (.Subscript a (.Slice lo hi none p2) pos) (dSl ta to tp) :=
  ⟨fun hK => (pe_slice (hK ▸ sl_list.or sl_tup : SlR X (fun x lo hi H Q => rSlL K x lo hi H Q ∨ rSlT K x lo hi H Q)) (ha.pe hK) (hl.po hK) (hh.po hK)).imp fun σ H Q ⟨H0, Φ, ρ, R, E, t, k⟩ =>
    ⟨H0, Φ, ρ, _, E, t, fun dx Φ1 H1 x t1 g1 rx => ⟨H0, Φ1, ρ, _, E.gr g1, t1, fun l Φ2 H2 t2 g2 => ⟨H0, Φ2, ρ, _, (E.gr g1).gr g2, t2, fun h Φ3 H3 t3 g3 => by
      have g := (g1.trans g2).trans g3
      have rx3 := rx.gr (g2.trans g3)
      cases dx with
      | lst ds =>
        obtain ⟨a, vs, rfl, q1, q2⟩ := rx3.lst g.s
        exact .inl ⟨a, vs, rfl, .of q1, fun p hp => k _ _ _ _ t3.get (g.trans (.new g.s hp _)) (((q2.cut l h).same (same_new (g.s.free hp) _)).lst upd_same)⟩
      | fzl ds =>
        obtain ⟨a, vs, rfl, q1, q2⟩ := rx3.fzl g.s
        exact .inl ⟨a, vs, rfl, q1, fun p hp => k _ _ _ _ t3.get (g.trans (.new g.s hp _)) (((q2.cut l h).same (same_new (g.s.free hp) _)).lst upd_same)⟩
      | tup ds =>
        obtain ⟨a, vs, rfl, q1, _, q2⟩ := rx3.tup g.s
        exact .inr ⟨a, vs, rfl, q1, by rw [q2.1]; exact t3.1, fun p hp => k _ _ _ _ t3.2.get (g.trans (.new g.s hp _)) (((q2.cut l h).same (same_new (g.s.free hp) _)).tup (.of upd_same))⟩
      | _ => exact t3.elim⟩⟩⟩⟩
theorem f_sl (ha : PQ K X a ta) (hl : POD K X lo to) (hh : POD K X hi tp) : PF K X (.Subscript a (.Slice lo hi none p2) pos) (fSl ta to tp) :=
  ⟨fun hK => (pe_slice (hK ▸ sl_list : SlR X (rSlL K)) (ha.pe hK) (hl.po hK) (hh.po hK)).imp fun σ H Q ⟨H0, Φ, ρ, R, E, t, k⟩ =>
    ⟨H0, Φ, ρ, _, E, t, fun dx Φ1 H1 x t1 g1 rx => ⟨H0, Φ1, ρ, _, E.gr g1, t1, fun l Φ2 H2 t2 g2 => ⟨H0, Φ2, ρ, _, (E.gr g1).gr g2, t2, fun h Φ3 H3 t3 g3 => by
      have g := (g1.trans g2).trans g3
      have rx3 := rx.gr (g2.trans g3)
      cases dx with
      | lst ds =>
        obtain ⟨a, vs, rfl, q1, q2⟩ := rx3.lst g.s
        exact ⟨a, vs, rfl, .of q1, fun p hp => k _ _ _ p _ t3.get (g.trans (.fresh g.s hp _)) (g.h.free hp) (g.s.free hp) upd_same (q2.cut l h)⟩
      | fzl ds =>
        obtain ⟨a, vs, rfl, q1, q2⟩ := rx3.fzl g.s
        exact ⟨a, vs, rfl, q1, fun p hp => k _ _ _ p _ t3.get (g.trans (.fresh g.s hp _)) (g.h.free hp) (g.s.free hp) upd_same (q2.cut l h)⟩
      | _ => exact t3.elim⟩⟩⟩⟩
/-! ### new lists by + and * -/
def fCat (ta tb : TD) : TDL := fun ρ R => ta ρ fun x => tb ρ fun y => match x, y with | .lst xs, .lst ys => xs.length + ys.length ≤ sizeLine ∧ NF (xs ++ ys) R | _, _ => False
theorem f_cat (ha : PQ K X a ta) (hb : PQ K X b tb) : PF K X (.BinOp a .Add b pos) (fCat ta tb) :=
  ⟨fun hK => (pe_op op_cat (ha.pe hK) (hb.pe hK)).imp fun σ H Q ⟨H0, Φ, ρ, R, E, t, k⟩ => ⟨H0, Φ, ρ, _, E, t, fun dx Φ1 H1 x t1 g1 rx => ⟨H0, Φ1, ρ, _, E.gr g1, t1, fun dy Φ2 H2 y t2 g2 ry => by
    have g := g1.trans g2
    have rx2 := rx.gr g2
    cases dx with
    | lst xs => cases dy with
      | lst ys =>
        obtain ⟨a, vs, rfl, h1, h2⟩ := rx2.lst g.s
        obtain ⟨b, ws, rfl, h3, h4⟩ := ry.lst g.s
        exact ⟨a, b, vs, ws, rfl, rfl, h1, h3, by rw [h2.1, h4.1]; exact t2.1, fun p hp => k _ _ _ p _ t2.2.get (g.trans (.fresh g.s hp _)) (g.h.free hp) (g.s.free hp) upd_same (h2.append h4)⟩
      | _ => exact t2.elim
    | _ => exact t2.elim⟩⟩⟩
def fRep (ta tb : TD) : TDL := fun ρ R => ta ρ fun x => tb ρ fun y => match x, y with | .lst xs, .int k => (-(2 ^ 63) ≤ k ∧ k < 2 ^ 63 ∧ xs.length * k.toNat ≤ sizeLine) ∧ NF (List.replicate k.toNat xs).flatten R | _, _ => False
theorem f_rep (ha : PQ K X a ta) (hb : PQ K X b tb) : PF K X (.BinOp a .Mult b pos) (fRep ta tb) :=
  ⟨fun hK => (pe_op op_rep (ha.pe hK) (hb.pe hK)).imp fun σ H Q ⟨H0, Φ, ρ, R, E, t, k⟩ => ⟨H0, Φ, ρ, _, E, t, fun dx Φ1 H1 x t1 g1 rx => ⟨H0, Φ1, ρ, _, E.gr g1, t1, fun dy Φ2 H2 y t2 g2 ry => by
    have g := g1.trans g2
    have rx2 := rx.gr g2
    cases dx with
    | lst xs => cases dy with
      | int j =>
        obtain ⟨a, vs, rfl, h1, h2⟩ := rx2.lst g.s
        cases ry.int
        exact ⟨a, j, vs, rfl, rfl, h1, t2.1.1, t2.1.2.1, by rw [h2.1]; exact t2.1.2.2, fun p hp => k _ _ _ p _ t2.2.get (g.trans (.fresh g.s hp _)) (g.h.free hp) (g.s.free hp) upd_same (h2.rep _)⟩
      | _ => exact t2.elim
    | _ => exact t2.elim⟩⟩⟩
/-! ### calls of defs -/
abbrev SpD := List D → (D → Prop) → Prop
def lSp (K : PySem.W.Frag) (sp : SpD) : Sp := fun vs H Q _ => ∃ Φ ds R, Same Φ H ∧ RpL K Φ ds vs ∧ sp ds R ∧ ∀ d Φ' H' v, R d → Gr Φ H Φ' H' → Rp K Φ' d v → Q v H'
def dCall (sp : SpD) (t : TDL) : TD := fun ρ R => t ρ fun ds => sp ds R
variable {CX : CXT} {k : Nat} {f : Addr} {fd : FuncData} {ps : List Str} {sp : SpD} {x : Str} {p : Pos} {E : XK}
theorem d_call (F : FnOk X.prog X.w X.K X.mg X.base CX k f fd ps (lSp K sp)) (hr : Room k X.A) (hg : Gl X x) (hm : X.mg x = some (.ref f)) (hk : PySem.W.keepIn X.K (.ref f) = true) (hb : Binds X.K fd ps []) (hx : Passes CX X E)
    (ha : PAD K X (e :: es) tl) (he : starEach (e :: es) X.env = (false, eval e X.env) :: starEach es X.env) (hpl : (backTo pos (starEach es X.env)).any (·.1) = false) (hdb : (x == ("__debug__" : Str)) = false := by decide) :
    PD K X (.Call (.Name x p) (e :: es) [] pos) (dCall sp tl) :=
  ⟨fun hK => (pe_call F hr hg hm hk hb .nil hx (ha.pa hK) hdb he hpl).imp fun σ H Q ⟨H0, Φ, ρ, R, E, t, k⟩ => ⟨H0, Φ, ρ, _, E, t, fun ds Φ1 H1 vs r g rl _ => ⟨Φ1, ds, R, g.s, by rw [List.append_nil]; exact rl, r, fun d Φ' H' v rd g' rv => k d Φ' H' v rd (g.trans g') rv⟩⟩⟩
theorem d_call0 (F : FnOk X.prog X.w X.K X.mg X.base CX k f fd ps (lSp K sp)) (hr : Room k X.A) (hg : Gl X x) (hm : X.mg x = some (.ref f)) (hk : PySem.W.keepIn X.K (.ref f) = true) (hb : Binds X.K fd ps []) (hx : Passes CX X E)
    (hdb : (x == ("__debug__" : Str)) = false := by decide) : PD K X (.Call (.Name x p) [] [] pos) (dCall sp zNil) :=
  ⟨fun hK => (pe_call0 F hr hg hm hk hb .nil hx hdb).imp fun σ H Q ⟨H0, Φ, ρ, R, E, t, k⟩ => ⟨Φ, [], R, E.fz, .nil, t, fun d Φ' H' v rd g' rv => k d Φ' H' v rd g' rv⟩⟩
/-! ### calls of builtins -/
def RpLQ (K : PySem.W.Frag) (Φ H : Hp) (ds : List D) (vs : List V) : Prop := vs.length = ds.length ∧ ∀ (i : Nat) (v : V) (d : D), vs[i]? = some v → ds[i]? = some d → RpQ K Φ H d v
def lAQ (K : PySem.W.Frag) (t : TDL) : TA := fun σ H Q => ∃ H0 Φ ρ R, EnvD K H0 Φ H σ ρ ∧ t ρ R ∧ ∀ ds Φ' H' vs, R ds → Gr Φ H Φ' H' → RpLQ K Φ' H' ds vs → Q vs H'
structure PAQ (K : PySem.W.Frag) (X : Cx) (es : List Expr) (t : TDL) : Prop where pa : X.K = K → PA X es (lAQ K t)
theorem aq_nil : PAQ K X [] zNil := ⟨fun _ => pa_nil.imp fun σ H Q ⟨H0, Φ, ρ, R, E, t, k⟩ => k [] Φ H [] t (.refl E.fz) ⟨rfl, fun i v d hv _ => by simp at hv⟩⟩
theorem aq_cons (ha : PQ K X e t) (hr : PAQ K X es tl) (hs : starEach (e :: es) X.env = (false, eval e X.env) :: starEach es X.env) : PAQ K X (e :: es) (zCons t tl) :=
  ⟨fun hK => (pa_cons (ha.pe hK) (hr.pa hK) hs).imp fun σ H Q ⟨H0, Φ, ρ, R, E, t, k⟩ => ⟨H0, Φ, ρ, _, E, t, fun d Φ1 H1 v r g rv => ⟨H0, Φ1, ρ, _, E.gr g, r, fun ds Φ2 H2 vs r2 g2 rl =>
    k _ Φ2 H2 _ r2 (g.trans g2) ⟨by simp [rl.1], fun i u d hu hd => by
      cases i with
      | zero => cases hu; cases hd; exact rv.gr g2
      | succ i => exact rl.2 i u d hu hd⟩⟩⟩⟩
def lC (K : PySem.W.Frag) (r : SpD) : List V → Hp → VK → Prop := fun vs H Q => ∃ Φ ds R, Same Φ H ∧ RpLQ K Φ H ds vs ∧ r ds R ∧ ∀ d Φ' H' v, R d → Gr Φ H Φ' H' → Rp K Φ' d v → Q v H'
structure CallD (K : PySem.W.Frag) (X : Cx) (f : Value) (r : SpD) : Prop where c : X.K = K → CallR X f (lC K r)
theorem d_callB {id : String} {r : SpD} (hc : CallD K X (.builtin id) r) (hg : Gl X x) (hm : X.mg x = none) (hv : bootBuiltins x = some (.builtin id)) (ha : PAQ K X (e :: es) tl)
    (he : starEach (e :: es) X.env = (false, eval e X.env) :: starEach es X.env) (hpl : (backTo pos (starEach es X.env)).any (·.1) = false) (hn : x ≠ "__name__" := by decide) (hdb : (x == ("__debug__" : Str)) = false := by decide) : PD K X (.Call (.Name x p) (e :: es) [] pos) (dCall r tl) :=
  ⟨fun hK => (pe_callB (hc.c hK) hg hm hv (ha.pa hK) hn hdb he hpl).imp fun σ H Q ⟨H0, Φ, ρ, R, E, t, k⟩ => ⟨H0, Φ, ρ, _, E, t, fun ds Φ1 H1 vs r g rl => ⟨Φ1, ds, R, g.s, rl, r, fun d Φ' H' v rd g' rv => k d Φ' H' v rd (g.trans g') rv⟩⟩⟩
theorem d_callTy {T : String} {r : SpD} (hc : CallD K X (.type T) r) (hg : Gl X x) (hm : X.mg x = none) (hv : bootBuiltins x = some (.type T)) (ha : PAQ K X (e :: es) tl)
    (he : starEach (e :: es) X.env = (false, eval e X.env) :: starEach es X.env) (hpl : (backTo pos (starEach es X.env)).any (·.1) = false) (hn : x ≠ "__name__" := by decide) (hdb : (x == ("__debug__" : Str)) = false := by decide) : PD K X (.Call (.Name x p) (e :: es) [] pos) (dCall r tl) :=
  ⟨fun hK => (pe_callTy (hc.c hK) hg hm hv (ha.pa hK) hn hdb he hpl).imp fun σ H Q ⟨H0, Φ, ρ, R, E, t, k⟩ => ⟨H0, Φ, ρ, _, E, t, fun ds Φ1 H1 vs r g rl => ⟨Φ1, ds, R, g.s, rl, r, fun d Φ' H' v rd g' rv => k d Φ' H' v rd (g.trans g') rv⟩⟩⟩
theorem one_of {Φ H : Hp} {d : D} {vs : List V} (h : RpLQ K Φ H [d] vs) : ∃ v, vs = [v] ∧ RpQ K Φ H d v := by
  obtain ⟨h1, h2⟩ := h
  match vs, h1, h2 with
  | [v], _, h2 => exact ⟨v, rfl, h2 0 v d rfl rfl⟩
theorem two_of {Φ H : Hp} {d e : D} {vs : List V} (h : RpLQ K Φ H [d, e] vs) : ∃ v w, vs = [v, w] ∧ RpQ K Φ H d v ∧ RpQ K Φ H e w := by
  obtain ⟨h1, h2⟩ := h
  match vs, h1, h2 with
  | [v, w], _, h2 => exact ⟨v, w, rfl, h2 0 v d rfl rfl, h2 1 w e rfl rfl⟩
def zLen : SpD := fun ds R => match ds with | [.lst xs] => R (.int xs.length) | [.tup xs] => R (.int xs.length) | [.fzl xs] => R (.int xs.length) | [.str z] => z.length ≤ sizeLine ∧ R (.int z.length) | _ => False
theorem c_len : CallD K X (.builtin "len") zLen := ⟨fun hK pins s σ H xs us Q I rr ⟨Φ, ds, R, sm, hl, h, k⟩ => by
  match ds, h with
  | [.lst xs], h =>
    obtain ⟨v, rfl, r⟩ := one_of hl
    obtain ⟨a, vs, rfl, q1, q2⟩ := r.lst sm
    exact call_len_seq pins s σ H _ us Q I rr ⟨a, vs, rfl, .inl (.of q1), by rw [q2.1]; exact k _ Φ H _ h (.refl sm) (.int _)⟩
  | [.tup xs], h =>
    obtain ⟨v, rfl, r⟩ := one_of hl
    obtain ⟨a, vs, rfl, q1, _, q2⟩ := r.tup sm
    exact call_len_seq pins s σ H _ us Q I rr ⟨a, vs, rfl, .inr (hK ▸ q1), by rw [q2.1]; exact k _ Φ H _ h (.refl sm) (.int _)⟩
  | [.fzl xs], h =>
    obtain ⟨v, rfl, r⟩ := one_of hl
    obtain ⟨a, vs, rfl, q1, q2⟩ := r.fzl sm
    exact call_len_seq pins s σ H _ us Q I rr ⟨a, vs, rfl, .inl (hK ▸ q1), by rw [q2.1]; exact k _ Φ H _ h (.refl sm) (.int _)⟩
  | [.str z], h =>
    obtain ⟨v, rfl, r⟩ := one_of hl
    cases r.str
    exact call_len_str pins s σ H _ us Q I rr ⟨z, rfl, h.1, k _ Φ H _ h.2 (.refl sm) (.int _)⟩⟩
def zAbs : SpD := fun ds R => match ds with | [.int i] => R (.int (if i < 0 then -i else i)) | _ => False
theorem c_abs : CallD K X (.builtin "abs") zAbs := ⟨fun hK pins s σ H xs us Q I rr ⟨Φ, ds, R, sm, hl, h, k⟩ => by
  match ds, h with
  | [.int i], h =>
    obtain ⟨v, rfl, r⟩ := one_of hl
    cases r.int
    exact call_abs pins s σ H _ us Q I rr ⟨i, rfl, k _ Φ H _ h (.refl sm) (.int _)⟩⟩
def zMax2 : SpD := fun ds R => match ds with | [.int i, .int j] => R (.int (if j > i then j else i)) | _ => False
def zMin2 : SpD := fun ds R => match ds with | [.int i, .int j] => R (.int (if j < i then j else i)) | _ => False
theorem c_max2 (hc : X.calm = true) : CallD K X (.builtin "max") zMax2 := ⟨fun hK pins s σ H xs us Q I rr ⟨Φ, ds, R, sm, hl, h, k⟩ => by
  match ds, h with
  | [.int i, .int j], h =>
    obtain ⟨v, w, rfl, r1, r2⟩ := two_of hl
    cases r1.int
    cases r2.int
    exact call_max2 hc pins s σ H _ us Q I rr ⟨i, j, rfl, k _ Φ H _ h (.refl sm) (.int _)⟩⟩
theorem c_min2 (hc : X.calm = true) : CallD K X (.builtin "min") zMin2 := ⟨fun hK pins s σ H xs us Q I rr ⟨Φ, ds, R, sm, hl, h, k⟩ => by
  match ds, h with
  | [.int i, .int j], h =>
    obtain ⟨v, w, rfl, r1, r2⟩ := two_of hl
    cases r1.int
    cases r2.int
    exact call_min2 hc pins s σ H _ us Q I rr ⟨i, j, rfl, k _ Φ H _ h (.refl sm) (.int _)⟩⟩
theorem vs_ints {Φ : Hp} {ns : List Int} {vs : List V} (h : RpL K Φ (ns.map D.int) vs) : vs = ns.map V.int := by
  refine List.ext_getElem? fun i => ?_
  rw [List.getElem?_map]
  cases e : ns[i]? with
  | none =>
    have := List.getElem?_eq_none_iff.mp e
    rw [List.getElem?_eq_none (by rw [h.1, List.length_map]; exact this)]
    rfl
  | some n =>
    obtain ⟨v, hv, r⟩ := h.at (i := i) (d := .int n) (by rw [List.getElem?_map, e]; rfl)
    cases r
    rw [hv]
    rfl
theorem vs_bools {Φ : Hp} {bs : List Bool} {vs : List V} (h : RpL K Φ (bs.map D.bl) vs) : vs = bs.map V.bl := by
  refine List.ext_getElem? fun i => ?_
  rw [List.getElem?_map]
  cases e : bs[i]? with
  | none =>
    have := List.getElem?_eq_none_iff.mp e
    rw [List.getElem?_eq_none (by rw [h.1, List.length_map]; exact this)]
    rfl
  | some n =>
    obtain ⟨v, hv, r⟩ := h.at (i := i) (d := .bl n) (by rw [List.getElem?_map, e]; rfl)
    cases r
    rw [hv]
    rfl
theorem RpQ.sqb {Φ H : Hp} {d : D} {v : V} {ds : List D} (s : Same Φ H) (h : RpQ K Φ H d v) (e : seqD d = some ds) : ∃ (q : Bool) (a : Addr) (vs : List V), v = .ref a ∧ SqB K q H a vs ∧ RpL K Φ ds vs := by
  obtain ⟨a, vs, e1, h1, h2⟩ := h.seq s e
  rcases h1 with h1 | h1
  · exact ⟨true, a, vs, e1, h1, h2⟩
  · exact ⟨false, a, vs, e1, h1, h2⟩
def zSum : SpD := fun ds R => match ds with | [d] => ∃ ns : List Int, seqD d = some (ns.map D.int) ∧ R (.int ns.sum) | _ => False
theorem c_sum (hc : X.calm = true) : CallD K X (.builtin "sum") zSum := ⟨fun hK pins s σ H xs us Q I rr ⟨Φ, ds, R, sm, hl, h, k⟩ => by
  match ds, h with
  | [d], ⟨ns, e, h⟩ =>
    obtain ⟨v, rfl, r⟩ := one_of hl
    obtain ⟨q, a, vs, rfl, q1, q2⟩ := r.sqb sm e
    rw [vs_ints q2] at q1
    exact call_sum q hc pins s σ H _ us Q I rr ⟨a, ns, rfl, hK ▸ q1, k _ Φ H _ h (.refl sm) (.int _)⟩⟩
def zAll (f : List Bool → Bool) : SpD := fun ds R => match ds with | [d] => ∃ bs : List Bool, seqD d = some (bs.map D.bl) ∧ R (.bl (f bs)) | _ => False
theorem c_all (hc : X.calm = true) : CallD K X (.builtin "all") (zAll fun bs => bs.all id) := ⟨fun hK pins s σ H xs us Q I rr ⟨Φ, ds, R, sm, hl, h, k⟩ => by
  match ds, h with
  | [d], ⟨ns, e, h⟩ =>
    obtain ⟨v, rfl, r⟩ := one_of hl
    obtain ⟨q, a, vs, rfl, q1, q2⟩ := r.sqb sm e
    rw [vs_bools q2] at q1
    exact call_all q hc pins s σ H _ us Q I rr ⟨a, ns, rfl, hK ▸ q1, k _ Φ H _ h (.refl sm) (.bl _)⟩⟩
theorem c_any (hc : X.calm = true) : CallD K X (.builtin "any") (zAll fun bs => bs.any id) := ⟨fun hK pins s σ H xs us Q I rr ⟨Φ, ds, R, sm, hl, h, k⟩ => by
  match ds, h with
  | [d], ⟨ns, e, h⟩ =>
    obtain ⟨v, rfl, r⟩ := one_of hl
    obtain ⟨q, a, vs, rfl, q1, q2⟩ := r.sqb sm e
    rw [vs_bools q2] at q1
    exact call_any q hc pins s σ H _ us Q I rr ⟨a, ns, rfl, hK ▸ q1, k _ Φ H _ h (.refl sm) (.bl _)⟩⟩
def zTuple : SpD := fun ds R => match ds with | [.lst xs] => R (.tup xs) | [.tup xs] => R (.tup xs) | [.fzl xs] => R (.tup xs) | _ => False
theorem c_tuple : CallD K X (.type "tuple") zTuple := ⟨fun hK pins s σ H xs us Q I rr ⟨Φ, ds, R, sm, hl, h, k⟩ => by
  match ds, h with
  | [.lst xs], h =>
    obtain ⟨v, rfl, r⟩ := one_of hl
    obtain ⟨a, vs, rfl, q1, q2⟩ := r.lst sm
    exact call_tuple_of pins s σ H _ us Q I rr ⟨a, vs, rfl, .inl ⟨.of q1, fun p hp => k _ _ _ _ h (.new sm hp _) ((q2.same (same_new (sm.free hp) _)).tup (.of upd_same))⟩⟩
  | [.fzl xs], h =>
    obtain ⟨v, rfl, r⟩ := one_of hl
    obtain ⟨a, vs, rfl, q1, q2⟩ := r.fzl sm
    exact call_tuple_of pins s σ H _ us Q I rr ⟨a, vs, rfl, .inl ⟨hK ▸ q1, fun p hp => k _ _ _ _ h (.new sm hp _) ((q2.same (same_new (sm.free hp) _)).tup (.of upd_same))⟩⟩
  | [.tup xs], h =>
    obtain ⟨v, rfl, r⟩ := one_of hl
    obtain ⟨a, vs, rfl, q1, q3, q2⟩ := r.tup sm
    exact call_tuple_of pins s σ H _ us Q I rr ⟨a, vs, rfl, .inr ⟨hK ▸ q1, k _ Φ H _ h (.refl sm) (q2.tup q3)⟩⟩⟩
def fList (t : TD) : TDL := fun ρ R => t ρ fun d => ∃ ds, seqD d = some ds ∧ R ds
/-- list(x) -/
theorem f_list (hg : Gl X "list") (hm : X.mg "list" = none) (ha : PQ K X e t) (he : starEach [e] X.env = (false, eval e X.env) :: starEach [] X.env) : PF K X (.Call (.Name "list" p) [e] [] pos) (fList t) :=
  ⟨fun hK => (pe_callTy call_list_of hg hm boot_list (pa_cons (ha.pe hK) pa_nil he) (by decide) (by decide) he npl_nil).imp fun σ H Q ⟨H0, Φ, ρ, R, E, t, k⟩ => ⟨H0, Φ, ρ, _, E, t, fun d Φ1 H1 v r g rv => by
    obtain ⟨ds, e1, r⟩ := r
    obtain ⟨a, vs, rfl, q1, q2⟩ := rv.seq g.s e1
    exact ⟨a, vs, rfl, hK ▸ q1, fun l hl => k _ _ _ l _ r (g.trans (.fresh g.s hl _)) (g.h.free hl) (g.s.free hl) upd_same q2⟩⟩⟩
def zInt : SpD := fun ds R => match ds with | [.int i] => R (.int i) | [.bl b] => R (.int (if b then 1 else 0)) | _ => False
theorem c_int : CallD K X (.type "int") zInt := ⟨fun hK pins s σ H xs us Q I rr ⟨Φ, ds, R, sm, hl, h, k⟩ => by
  match ds, h with
  | [.int i], h =>
    obtain ⟨v, rfl, r⟩ := one_of hl
    cases r.int
    exact call_int1 pins s σ H _ us Q I rr (.inl ⟨i, rfl, k _ Φ H _ h (.refl sm) (.int _)⟩)
  | [.bl b], h =>
    obtain ⟨v, rfl, r⟩ := one_of hl
    cases r.bl
    exact call_int1 pins s σ H _ us Q I rr (.inr ⟨b, rfl, k _ Φ H _ h (.refl sm) (.int _)⟩)⟩
/-- isinstance(x, T) -/
def isiD (d : D) (T : String) : Option Bool := match d with
  | .int _ => if T = "int" then some true else if T = "bool" then some false else if T = "tuple" then some false else if T = "str" then some false else none
  | .bl _ => if T = "int" then some true else if T = "bool" then some true else if T = "tuple" then some false else none
  | .str _ => if T = "str" then some true else if T = "tuple" then some false else none
  | .tup _ => if T = "tuple" then some true else if T = "int" then some false else none
  | .lst _ => if T = "tuple" then some false else if T = "list" then some true else none
  | _ => none
end
end L2
set_option Elab.async false
set_option linter.all false
set_option maxRecDepth 100000
set_option maxHeartbeats 4000000
namespace L2
open PySem PySem.Spec PyProof.Rows
/-! ### what is gone over -/
structure SteadyD (K : PySem.W.Frag) (J : It) (Φ : Hp) (ds : List D) : Prop where
  go : ∀ i H, Same Φ H → i < ds.length → J.go i H
  yl : ∀ i Φ2 H x H2 d, Same Φ Φ2 → Same Φ2 H → ds[i]? = some d → J.yld i H x H2 → ∃ Φ3, Gr Φ2 H Φ3 H2 ∧ Rp K Φ3 d x
  stop : ∀ H, Same Φ H → J.stop ds.length H
section
variable {K : PySem.W.Frag} {Φ : Hp} {ds es : List D} {vs ws : List V} {a : Addr}
theorem steadyD_list (h : SqL K Φ a vs) (r : RpL K Φ ds vs) : SteadyD K (Itl K a) Φ ds :=
  ⟨fun i H s hi => ⟨vs, vs[i]'(by rw [r.1]; exact hi), s.seq h, get_of _⟩, fun i Φ2 H x H2 d s2 s hd y => by
    obtain ⟨e, y⟩ := y
    subst e
    exact ⟨Φ2, .refl s, (r.2 i x d (y vs ((s2.trans s).seq h)) hd).same s2⟩, fun H s => ⟨vs, s.seq h, by rw [r.1]; exact Nat.le_refl _⟩⟩
theorem steadyD_tup (h : SqT K Φ a vs) (r : RpL K Φ ds vs) : SteadyD K (Itt K a) Φ ds :=
  ⟨fun i H s hi => ⟨vs, vs[i]'(by rw [r.1]; exact hi), s.sqt h, get_of _⟩, fun i Φ2 H x H2 d s2 s hd y => by
    obtain ⟨e, y⟩ := y
    subst e
    exact ⟨Φ2, .refl s, (r.2 i x d (y vs ((s2.trans s).sqt h)) hd).same s2⟩, fun H s => ⟨vs, s.sqt h, by rw [r.1]; exact Nat.le_refl _⟩⟩
def rangeD (lo : Int) (n : Nat) : List D := (List.range n).map fun i => D.int (lo + (i : Nat))
theorem rangeD_len (lo : Int) (n : Nat) : (rangeD lo n).length = n := by unfold rangeD; simp
theorem rangeD_at {lo : Int} {n i : Nat} {d : D} (h : (rangeD lo n)[i]? = some d) : i < n ∧ d = .int (lo + (i : Nat)) := by
  have hi : i < n := by have := lt_of_at h; rwa [rangeD_len] at this
  unfold rangeD at h
  rw [List.getElem?_map, List.getElem?_range hi] at h
  cases h
  exact ⟨hi, rfl⟩
theorem steadyD_range {lo : Int} {n : Nat} : SteadyD K (Itr lo n) Φ (rangeD lo n) :=
  ⟨fun i H s hi => by rw [rangeD_len] at hi; exact hi, fun i Φ2 H x H2 d s2 s hd y => by
    obtain ⟨e, y⟩ := y
    subst e y
    rw [(rangeD_at hd).2]
    exact ⟨Φ2, .refl s, .int _⟩, fun H s => by rw [rangeD_len]; exact Nat.le_refl n⟩
def enumD (ds : List D) : List D := ds.zipIdx.map fun p => .tup [.int (p.2 : Nat), p.1]
theorem enumD_len (ds : List D) : (enumD ds).length = ds.length := by unfold enumD; simp
theorem enumD_at {i : Nat} {d : D} (h : (enumD ds)[i]? = some d) : ∃ e, ds[i]? = some e ∧ d = .tup [.int (i : Nat), e] := by
  unfold enumD at h
  rw [List.getElem?_map, List.getElem?_zipIdx] at h
  cases e : ds[i]? with
  | none => rw [e] at h; cases h
  | some x => rw [e] at h; cases h; exact ⟨x, rfl, by simp⟩
theorem Rp.pair {H : Hp} {t : Addr} {d e : D} {x y : V} (h : H t = some (.tup [x, y])) (r1 : Rp K H d x) (r2 : Rp K H e y) : Rp K H (.tup [d, e]) (.ref t) := (RpL.cons r1 (.one r2)).tup (.of h)
theorem steadyD_enum {b : Bool} (h : SqB K b Φ a vs) (r : RpL K Φ ds vs) : SteadyD K (Ite K b a) Φ (enumD ds) :=
  ⟨fun i H s hi => by rw [enumD_len] at hi; exact ⟨vs, vs[i]'(by rw [r.1]; exact hi), SqB.same s h, get_of _⟩, fun i Φ2 H x H2 d s2 s hd y => by
    obtain ⟨t, v, hn, e, e', y⟩ := y
    subst e e'
    obtain ⟨e, he, rfl⟩ := enumD_at hd
    have rv := (r.2 i v e (y vs (SqB.same (s2.trans s) h)) he).same (s2.trans (same_new (s.free hn) (.tup [.int i, v])))
    exact ⟨_, .new s hn _, .pair upd_same (.int _) rv⟩, fun H s => by rw [enumD_len]; exact ⟨vs, SqB.same s h, by rw [r.1]; exact Nat.le_refl _⟩⟩
def zipD (ds es : List D) : List D := List.zipWith (fun x y => .tup [x, y]) ds es
theorem zipD_len (ds es : List D) : (zipD ds es).length = min ds.length es.length := by unfold zipD; simp
theorem zipD_at {i : Nat} {d : D} (h : (zipD ds es)[i]? = some d) : ∃ x y, ds[i]? = some x ∧ es[i]? = some y ∧ d = .tup [x, y] := by
  unfold zipD at h
  rw [List.getElem?_zipWith] at h
  cases e : ds[i]? with
  | none => rw [e] at h; cases h
  | some x =>
    cases e2 : es[i]? with
    | none => rw [e, e2] at h; cases h
    | some y => rw [e, e2] at h; cases h; exact ⟨x, y, rfl, rfl, rfl⟩
theorem steadyD_zip {b1 b2 : Bool} {a1 a2 : Addr} (h1 : SqB K b1 Φ a1 vs) (h2 : SqB K b2 Φ a2 ws) (r1 : RpL K Φ ds vs) (r2 : RpL K Φ es ws) : SteadyD K (Itz K b1 a1 b2 a2) Φ (zipD ds es) :=
  ⟨fun i H s hi => by
    rw [zipD_len] at hi
    have i1 : i < vs.length := by rw [r1.1]; omega
    have i2 : i < ws.length := by rw [r2.1]; omega
    exact ⟨vs, ws, vs[i], ws[i], SqB.same s h1, SqB.same s h2, get_of i1, get_of i2⟩, fun i Φ2 H x H2 d s2 s hd y => by
    obtain ⟨t, u, v, hn, e, e', y1, y2⟩ := y
    subst e e'
    obtain ⟨p, q, hp, hq, rfl⟩ := zipD_at hd
    have sn := s2.trans (same_new (s.free hn) (.tup [u, v]))
    exact ⟨_, .new s hn _, .pair upd_same ((r1.2 i u p (y1 vs (SqB.same (s2.trans s) h1)) hp).same sn) ((r2.2 i v q (y2 ws (SqB.same (s2.trans s) h2)) hq).same sn)⟩, fun H s => by
    rw [zipD_len]
    exact ⟨vs, ws, SqB.same s h1, SqB.same s h2, by rw [r1.1, r2.1]; omega⟩⟩
end
def lI (K : PySem.W.Frag) (t : TDL) : TI := fun σ H R' => ∃ H0 Φ ρ R, EnvD K H0 Φ H σ ρ ∧ t ρ R ∧ ∀ ds Φ' H' J, R ds → Gr Φ H Φ' H' → SteadyD K J Φ' ds → R' J H'
structure PID (K : PySem.W.Frag) (X : Cx) (tg e : Expr) (t : TDL) : Prop where pi : X.K = K → PI X tg e (lI K t)
theorem PI.imp {X : Cx} {tg e : Expr} {t t' : TI} (h : PI X tg e t) (k : ∀ σ H R, t' σ H R → t σ H R) : PI X tg e t' := fun pins s σ H R I hw => h pins s σ H R I (k σ H R hw)
section
variable {K : PySem.W.Frag} {X : Cx} {tg e a b : Expr} {es : List Expr} {pos p tp : Pos} {t ta tb : TD} {tl : TDL}
theorem pi_tupK {l : Expr} {tl : TE} (h : X.K = K) (hl : PE X l tl) : PI X tg l (iTup K tl) := h ▸ pi_tup hl
theorem pi_enumK (b : Bool) {a : Expr} {ta : TA} {es : List Expr} {k : Nat} (h : X.K = K) (hg : Gl X "enumerate") (hm : X.mg "enumerate" = none) (ha : PA X [a] ta) (hs : starEach [a] X.env = [(false, eval a X.env)]) : PI X (.Tuple es k tp) (.Call (.Name "enumerate" p) [a] [] pos) (iEnum K b ta) := h ▸ pi_enum b hg hm ha hs
theorem pi_zipK (b1 b2 : Bool) {a b : Expr} {ta : TA} {es : List Expr} {k : Nat} (h : X.K = K) (hg : Gl X "zip") (hm : X.mg "zip" = none) (ha : PA X [a, b] ta) (hs : starEach [a, b] X.env = [(false, eval a X.env), (false, eval b X.env)]) (hs2 : starEach [b] X.env = [(false, eval b X.env)]) : PI X (.Tuple es k tp) (.Call (.Name "zip" p) [a, b] [] pos) (iZip K b1 b2 ta) := h ▸ pi_zip b1 b2 hg hm ha hs hs2
theorem pg_tupK' {es : List Expr} {k : Nat} {t : TGs} {n : Nat} (hK : X.K = K) (hc : X.calm = true) (h : PGs X es t) (hn : (assignEach es X.env).length = n) (hst : (assignEach es X.env).findIdx? (·.1) = none) : PG X (.Tuple es k pos) (gTup K n t) := hK ▸ pg_tup hc h hn hst
theorem pg_lstK' {es : List Expr} {k : Nat} {t : TGs} {n : Nat} (hK : X.K = K) (hc : X.calm = true) (h : PGs X es t) (hn : (assignEach es X.env).length = n) (hst : (assignEach es X.env).findIdx? (·.1) = none) : PG X (.Tuple es k pos) (gLst K n t) := hK ▸ pg_lst hc h hn hst
/-- over a list, a tuple -/
def iLst (t : TD) : TDL := fun ρ R => t ρ fun d => match d with | .lst ds => R ds | .fzl ds => R ds | _ => False
def iTpl (t : TD) : TDL := fun ρ R => t ρ fun d => match d with | .tup ds => R ds | _ => False
theorem i_lst (h : PD K X e t) : PID K X tg e (iLst t) := ⟨fun hK => (pi_listK hK (h.pe hK) : PI X tg e (iList K (lE K t))).imp fun σ H R' ⟨H0, Φ, ρ, R, E, t, k⟩ => ⟨H0, Φ, ρ, _, E, t, fun d Φ1 H1 v r g rv => by
  cases d with
  | lst ds => cases rv with | lst h1 h2 h3 => exact ⟨_, rfl, ⟨_, .of (g.s _ _ h1)⟩, k _ Φ1 H1 _ r g (steadyD_list (.of h1) ⟨h2, h3⟩)⟩
  | fzl ds => cases rv with | fzl h1 h2 h3 => exact ⟨_, rfl, ⟨_, g.s.seq h1⟩, k _ Φ1 H1 _ r g (steadyD_list h1 ⟨h2, h3⟩)⟩
  | _ => exact r.elim⟩⟩
theorem i_tup (h : PD K X e t) : PID K X tg e (iTpl t) := ⟨fun hK => (pi_tupK hK (h.pe hK) : PI X tg e (iTup K (lE K t))).imp fun σ H R' ⟨H0, Φ, ρ, R, E, t, k⟩ => ⟨H0, Φ, ρ, _, E, t, fun d Φ1 H1 v r g rv => by
  cases d with
  | tup ds => cases rv with | tup h1 h2 h3 => exact ⟨_, rfl, ⟨_, g.s.sqt h1⟩, k _ Φ1 H1 _ r g (steadyD_tup h1 ⟨h2, h3⟩)⟩
  | _ => exact r.elim⟩⟩
def iRange1 (t : TDL) : TDL := fun ρ R => t ρ fun ds => match ds with | [.int j] => (-(2 ^ 62) ≤ j ∧ j < 2 ^ 62) ∧ R (rangeD 0 j.toNat) | _ => False
def iRange2 (t : TDL) : TDL := fun ρ R => t ρ fun ds => match ds with | [.int i, .int j] => (-(2 ^ 62) ≤ i ∧ i < 2 ^ 62 ∧ -(2 ^ 62) ≤ j ∧ j < 2 ^ 62) ∧ R (rangeD i (j - i).toNat) | _ => False
theorem RpL.one_inv {Φ : Hp} {d : D} {vs : List V} (h : RpL K Φ [d] vs) : ∃ v, vs = [v] ∧ Rp K Φ d v := by
  obtain ⟨h1, h2⟩ := h
  match vs, h1, h2 with
  | [v], _, h2 => exact ⟨v, rfl, h2 0 v d rfl rfl⟩
theorem RpL.two_inv {Φ : Hp} {d e : D} {vs : List V} (h : RpL K Φ [d, e] vs) : ∃ v w, vs = [v, w] ∧ Rp K Φ d v ∧ Rp K Φ e w := by
  obtain ⟨h1, h2⟩ := h
  match vs, h1, h2 with
  | [v, w], _, h2 => exact ⟨v, w, rfl, h2 0 v d rfl rfl, h2 1 w e rfl rfl⟩
theorem i_range1 (hg : Gl X "range") (hm : X.mg "range" = none) (ha : PAD K X [a] tl) (hs : starEach [a] X.env = [(false, eval a X.env)] := by rfl) : PID K X tg (.Call (.Name "range" p) [a] [] pos) (iRange1 tl) :=
  ⟨fun hK => (pi_range1 hg hm (ha.pa hK) hs).imp fun σ H R' ⟨H0, Φ, ρ, R, E, t, k⟩ => ⟨H0, Φ, ρ, _, E, t, fun ds Φ1 H1 vs r g rv _ => by
    match ds, r with
    | [.int j], r =>
      obtain ⟨v, rfl, r1⟩ := rv.one_inv
      cases r1
      exact ⟨j, rfl, r.1.1, r.1.2, k _ Φ1 H1 _ r.2 g steadyD_range⟩⟩⟩
theorem i_range2 (hg : Gl X "range") (hm : X.mg "range" = none) (ha : PAD K X [a, b] tl) (hs : starEach [a, b] X.env = [(false, eval a X.env), (false, eval b X.env)] := by rfl) (hs2 : starEach [b] X.env = [(false, eval b X.env)] := by rfl) : PID K X tg (.Call (.Name "range" p) [a, b] [] pos) (iRange2 tl) :=
  ⟨fun hK => (pi_range2 hg hm (ha.pa hK) hs hs2).imp fun σ H R' ⟨H0, Φ, ρ, R, E, t, k⟩ => ⟨H0, Φ, ρ, _, E, t, fun ds Φ1 H1 vs r g rv _ => by
    match ds, r with
    | [.int i, .int j], r =>
      obtain ⟨v, w, rfl, r1, r2⟩ := rv.two_inv
      cases r1
      cases r2
      exact ⟨i, j, rfl, r.1, k _ Φ1 H1 _ r.2 g steadyD_range⟩⟩⟩
/-- enumerate, zip: whether each is a list -/
def ofB (b : Bool) : D → Option (List D)
  | .lst ds => if b = true then some ds else none
  | .fzl ds => if b = true then some ds else none
  | .tup ds => if b = true then none else some ds
  | _ => none
theorem Rp.ofB {Φ : Hp} {d : D} {v : V} {bb : Bool} {ds : List D} (h : Rp K Φ d v) (e : L2.ofB bb d = some ds) : ∃ a vs, v = .ref a ∧ SqB K bb Φ a vs ∧ RpL K Φ ds vs := by
  cases bb <;> cases h <;> first | cases e; done | (cases e; rename_i h1 h2 h3; first | exact ⟨_, _, rfl, h1, h2, h3⟩ | exact ⟨_, _, rfl, SqL.of h1, h2, h3⟩)
def iEnumD (bb : Bool) (t : TDL) : TDL := fun ρ R => t ρ fun ds => match ds with | [d] => ∃ xs, ofB bb d = some xs ∧ R (enumD xs) | _ => False
theorem i_enum (bb : Bool) {ets : List Expr} {ek : Nat} (hg : Gl X "enumerate") (hm : X.mg "enumerate" = none) (ha : PAD K X [a] tl) (hs : starEach [a] X.env = [(false, eval a X.env)] := by rfl) : PID K X (.Tuple ets ek tp) (.Call (.Name "enumerate" p) [a] [] pos) (iEnumD bb tl) :=
  ⟨fun hK => (pi_enumK bb hK hg hm (ha.pa hK) hs : PI X (.Tuple ets ek tp) (.Call (.Name "enumerate" p) [a] [] pos) (iEnum K bb (lA K _ tl))).imp fun σ H R' ⟨H0, Φ, ρ, R, E, t, k⟩ => ⟨H0, Φ, ρ, _, E, t, fun ds Φ1 H1 vs r g rv _ => by
    match ds, r with
    | [d], ⟨xs, hx, r⟩ =>
      obtain ⟨v, rfl, r1⟩ := rv.one_inv
      obtain ⟨a, ws, rfl, h1, h2⟩ := r1.ofB hx
      exact ⟨a, ws, rfl, SqB.same g.s h1, k _ Φ1 H1 _ r g (steadyD_enum h1 h2)⟩⟩⟩
def iZipD (b1 b2 : Bool) (t : TDL) : TDL := fun ρ R => t ρ fun ds => match ds with | [d, e] => ∃ xs ys, ofB b1 d = some xs ∧ ofB b2 e = some ys ∧ R (zipD xs ys) | _ => False
theorem i_zip (b1 b2 : Bool) {ets : List Expr} {ek : Nat} (hg : Gl X "zip") (hm : X.mg "zip" = none) (ha : PAD K X [a, b] tl) (hs : starEach [a, b] X.env = [(false, eval a X.env), (false, eval b X.env)] := by rfl) (hs2 : starEach [b] X.env = [(false, eval b X.env)] := by rfl) : PID K X (.Tuple ets ek tp) (.Call (.Name "zip" p) [a, b] [] pos) (iZipD b1 b2 tl) :=
  ⟨fun hK => (pi_zipK b1 b2 hK hg hm (ha.pa hK) hs hs2 : PI X (.Tuple ets ek tp) (.Call (.Name "zip" p) [a, b] [] pos) (iZip K b1 b2 (lA K _ tl))).imp fun σ H R' ⟨H0, Φ, ρ, R, E, t, k⟩ => ⟨H0, Φ, ρ, _, E, t, fun ds Φ1 H1 vs r g rv _ => by
    match ds, r with
    | [d, e], ⟨xs, ys, hx, hy, r⟩ =>
      obtain ⟨v, w, rfl, r1, r2⟩ := rv.two_inv
      obtain ⟨a1, ws, rfl, h1, h2⟩ := r1.ofB hx
      obtain ⟨a2, us, rfl, h3, h4⟩ := r2.ofB hy
      exact ⟨a1, a2, ws, us, rfl, SqB.same g.s h1, SqB.same g.s h3, k _ Φ1 H1 _ r g (steadyD_zip h1 h3 h2 h4)⟩⟩⟩
end
/-! ### targets -/
abbrev TGD := D → Rho → (Rho → Prop) → Prop
abbrev TGDs := List D → Rho → (Rho → Prop) → Prop
def lG (K : PySem.W.Frag) (g : TGD) : TG := fun v σ H Q => ∃ H0 Φ ρ d R, EnvD K H0 Φ H σ ρ ∧ Rp K Φ d v ∧ g d ρ R ∧ ∀ ρ' σ', R ρ' → EnvD K H0 Φ H σ' ρ' → Q σ' H
def lGs (K : PySem.W.Frag) (g : TGDs) : TGs := fun vs σ H Q => ∃ H0 Φ ρ ds R, EnvD K H0 Φ H σ ρ ∧ RpL K Φ ds vs ∧ g ds ρ R ∧ ∀ ρ' σ', R ρ' → EnvD K H0 Φ H σ' ρ' → Q σ' H
structure PGD (K : PySem.W.Frag) (X : Cx) (e : Expr) (g : TGD) : Prop where pg : X.K = K → PG X e (lG K g)
structure PGDs (K : PySem.W.Frag) (X : Cx) (es : List Expr) (g : TGDs) : Prop where pg : X.K = K → PGs X es (lGs K g)
theorem PG.imp {X : Cx} {e : Expr} {t t' : TG} (h : PG X e t) (k : ∀ v σ H Q, t' v σ H Q → t v σ H Q) : PG X e t' := fun pins s σ H v u Q I r hw => h pins s σ H v u Q I r (k v σ H Q hw)
theorem PGs.imp {X : Cx} {e : List Expr} {t t' : TGs} (h : PGs X e t) (k : ∀ v σ H Q, t' v σ H Q → t v σ H Q) : PGs X e t' := fun pins s σ H v u Q I r hw => h pins s σ H v u Q I r (k v σ H Q hw)
section
variable {K : PySem.W.Frag} {X : Cx} {e : Expr} {es : List Expr} {pos : Pos} {g : TGD} {gs : TGDs}
def gSet (i : Nat) : TGD := fun d ρ R => R (ρ.set i (some (.v d)))
theorem g_name {i : Nat} {x : Str} (hN : X.N.Nodup) (hi : X.N[i]? = some x) (hx : Loc X.env.scope x) (hf : X.fn x = true ∨ X.env.scope.names.lookup x = some .local := by first | exact .inl rfl | exact .inr rfl | assumption) : PGD K X (.Name x pos) (gSet i) :=
  ⟨fun _ => (pg_name hN hi hx hf).imp fun v σ H Q ⟨H0, Φ, ρ, d, R, E, r, g, k⟩ => k _ _ g (E.set r i)⟩
def gsNil : TGDs := fun ds ρ R => match ds with | [] => R ρ | _ => False
def gsCons (t : TGD) (u : TGDs) : TGDs := fun ds ρ R => match ds with | d :: r => t d ρ fun ρ' => u r ρ' R | [] => False
theorem gs_nil : PGDs K X [] gsNil := ⟨fun _ => pgs_nil.imp fun v σ H Q ⟨H0, Φ, ρ, ds, R, E, r, g, k⟩ => by
  cases ds with
  | nil => exact ⟨List.length_eq_zero_iff.mp r.1, k _ _ g E⟩
  | cons => exact g.elim⟩
theorem gs_cons (h1 : PGD K X e g) (h2 : PGDs K X es gs) (hs : (assignEach (e :: es) X.env).map (·.2) = assign e X.env :: (assignEach es X.env).map (·.2) := by rfl) : PGDs K X (e :: es) (gsCons g gs) :=
  ⟨fun hK => (pgs_cons (h1.pg hK) (h2.pg hK) hs).imp fun vs σ H Q ⟨H0, Φ, ρ, ds, R, E, r, g, k⟩ => by
    cases ds with
    | nil => exact g.elim
    | cons d ds =>
      cases vs with
      | nil => exact absurd r.1 (by simp)
      | cons v vs =>
        refine ⟨v, vs, rfl, H0, Φ, ρ, d, _, E, r.2 0 v d rfl rfl, g, fun ρ' σ' g' E' => ⟨H0, Φ, ρ', ds, R, E', ⟨by have := r.1; simpa using this, fun i u f hu hf => r.2 (i + 1) u f hu hf⟩, g', k⟩⟩⟩
def gTupD (n : Nat) (t : TGDs) : TGD := fun d ρ R => match d with | .tup ds => ds.length = n ∧ t ds ρ R | _ => False
theorem g_tup {k n : Nat} (hc : X.calm = true) (h : PGDs K X es gs) (hn : (assignEach es X.env).length = n := by rfl) (hst : (assignEach es X.env).findIdx? (·.1) = none := by rfl) : PGD K X (.Tuple es k pos) (gTupD n gs) :=
  ⟨fun hK => (pg_tupK' hK hc (h.pg hK) hn hst : PG X (.Tuple es k pos) (gTup K n (lGs K gs))).imp fun v σ H Q ⟨H0, Φ, ρ, d, R, E, r, g, k⟩ => by
    cases d with
    | tup ds => cases r with | tup h1 h2 h3 => exact ⟨_, _, rfl, E.fz.sqt h1, by rw [h2]; exact g.1, H0, Φ, ρ, ds, R, E, ⟨h2, h3⟩, g.2, k⟩
    | _ => exact g.elim⟩
/-- a, b = a list -/
def gLstD (n : Nat) (t : TGDs) : TGD := fun d ρ R => match d with | .lst ds => ds.length = n ∧ t ds ρ R | _ => False
theorem g_lst {k n : Nat} (hc : X.calm = true) (h : PGDs K X es gs) (hn : (assignEach es X.env).length = n := by rfl) (hst : (assignEach es X.env).findIdx? (·.1) = none := by rfl) : PGD K X (.Tuple es k pos) (gLstD n gs) :=
  ⟨fun hK => (pg_lstK' hK hc (h.pg hK) hn hst : PG X (.Tuple es k pos) (gLst K n (lGs K gs))).imp fun v σ H Q ⟨H0, Φ, ρ, d, R, E, r, g, k⟩ => by
    cases d with
    | lst ds => cases r with | lst h1 h2 h3 => exact ⟨_, _, rfl, .of (E.fz _ _ h1), by rw [h2]; exact g.1, H0, Φ, ρ, ds, R, E, ⟨h2, h3⟩, g.2, k⟩
    | _ => exact g.elim⟩
end
/-! ### comprehensions -/
def capR (cap : List (Option Nat)) (ρ : Rho) : Rho := cap.map fun o => o.bind fun i => (ρ[i]?).join
theorem join_some {α : Type} {o : Option (Option α)} {x : α} (h : o.join = some x) : o = some (some x) := by
  cases o with
  | none => cases h
  | some o => cases o with
    | none => cases h
    | some y => cases h; rfl
theorem cap_at {α : Type} {cap : List (Option Nat)} {l : List (Option α)} {i : Nat} {x : α} (h : (cap.map fun o => o.bind fun i => (l[i]?).join)[i]? = some (some x)) : ∃ j, cap[i]? = some (some j) ∧ l[j]? = some (some x) := by
  rw [List.getElem?_map] at h
  cases e : cap[i]? with
  | none => rw [e] at h; cases h
  | some o =>
    rw [e] at h
    cases o with
    | none => cases h
    | some j => exact ⟨j, rfl, join_some (by simpa using h)⟩
theorem EnvD.cap {K : PySem.W.Frag} {H0 Φ H : Hp} {σ : St} {ρ : Rho} {cap : List (Option Nat)} (E : EnvD K H0 Φ H σ ρ) (inj : ∀ i j k : Nat, cap[i]? = some (some k) → cap[j]? = some (some k) → i = j) : EnvD K H0 Φ H (capSt cap σ) (capR cap ρ) := by
  have st : ∀ {i j : Nat} {v : V}, cap[i]? = some (some j) → σ[j]? = some (some v) → (capSt cap σ)[i]? = some (some v) := fun hc hs => by
    unfold capSt
    rw [List.getElem?_map, hc]
    simp [hs]
  have ts : ∀ {i j : Nat} {v : V}, cap[i]? = some (some j) → (capSt cap σ)[i]? = some (some v) → σ[j]? = some (some v) := fun hc hs => by
    obtain ⟨j', h1, h2⟩ := cap_at hs
    rw [hc] at h1
    cases h1
    exact h2
  refine ⟨E.fz, by unfold capSt capR; simp, fun i d h => ?_, fun i ds h => ?_, fun i j ds es p hi hj si sj => ?_⟩
  · obtain ⟨j, h1, h2⟩ := cap_at h
    obtain ⟨v, e, r⟩ := E.sl j d h2
    exact ⟨v, st h1 e, r⟩
  · obtain ⟨j, h1, h2⟩ := cap_at h
    obtain ⟨p, vs, e, q⟩ := E.ow j ds h2
    exact ⟨p, vs, st h1 e, q⟩
  · obtain ⟨i', h1, h2⟩ := cap_at hi
    obtain ⟨j', h3, h4⟩ := cap_at hj
    have := E.ne i' j' ds es p h2 h4 (ts h1 si) (ts h3 sj)
    subst this
    exact inj i j i' h1 h3
end L2
set_option Elab.async false
set_option linter.all false
set_option maxRecDepth 100000
set_option maxHeartbeats 4000000
namespace L2
open PySem PySem.Spec PyProof.Rows
/-- the target stores in the first k places only -/
structure GK (k : Nat) (g : TGD) : Prop where p : ∀ d ρ R, g d ρ R → g d ρ fun ρ1 => ρ1.length = ρ.length ∧ ρ1.drop k = ρ.drop k ∧ R ρ1
structure GKs (k : Nat) (g : TGDs) : Prop where p : ∀ ds ρ R, g ds ρ R → g ds ρ fun ρ1 => ρ1.length = ρ.length ∧ ρ1.drop k = ρ.drop k ∧ R ρ1
theorem gk_set {k i : Nat} (h : i < k) : GK k (gSet i) := ⟨fun d ρ R r => ⟨by simp, by rw [List.drop_set_of_lt h], r⟩⟩
theorem gk_nil {k : Nat} : GKs k gsNil := ⟨fun ds ρ R r => by
  cases ds with
  | nil => exact ⟨rfl, rfl, r⟩
  | cons => exact r⟩
theorem gsCons_mono {t : TGD} {u : TGDs} (ht : ∀ d ρ R R', (∀ x, R x → R' x) → t d ρ R → t d ρ R') (hu : ∀ d ρ R R', (∀ x, R x → R' x) → u d ρ R → u d ρ R') : ∀ d ρ R R', (∀ x, R x → R' x) → gsCons t u d ρ R → gsCons t u d ρ R' := by
  intro ds ρ R R' h r
  cases ds with
  | nil => exact r
  | cons d ds => exact ht d ρ _ _ (fun x hx => hu ds x _ _ h hx) r
structure GM (k : Nat) (g : TGD) : Prop where
  k : GK k g
  m : ∀ d ρ R R', (∀ x, R x → R' x) → g d ρ R → g d ρ R'
structure GMs (k : Nat) (g : TGDs) : Prop where
  k : GKs k g
  m : ∀ d ρ R R', (∀ x, R x → R' x) → g d ρ R → g d ρ R'
theorem gm_set {k i : Nat} (h : i < k) : GM k (gSet i) := ⟨gk_set h, fun d ρ R R' h r => h _ r⟩
theorem gm_nil {k : Nat} : GMs k gsNil := ⟨gk_nil, fun ds ρ R R' h r => by
  cases ds with
  | nil => exact h _ r
  | cons => exact r⟩
theorem gm_cons {k : Nat} {t : TGD} {u : TGDs} (h1 : GM k t) (h2 : GMs k u) : GMs k (gsCons t u) := ⟨⟨fun ds ρ R r => by
  cases ds with
  | nil => exact r
  | cons d ds =>
    have r1 : t d ρ fun ρ' => u ds ρ' R := r
    refine h1.m _ _ _ _ (fun ρ1 q => ?_) (h1.k.p d ρ _ r1)
    exact h2.m _ _ _ _ (fun ρ2 q2 => ⟨q2.1.trans q.1, q2.2.1.trans q.2.1, q2.2.2⟩) (h2.k.p ds ρ1 R q.2.2)⟩, gsCons_mono h1.m h2.m⟩
theorem gm_tup {k n : Nat} {t : TGDs} (h : GMs k t) : GM k (gTupD n t) := ⟨⟨fun d ρ R r => by
  cases d with
  | tup ds => exact ⟨r.1, h.k.p ds ρ R r.2⟩
  | _ => exact r⟩, fun d ρ R R' hr r => by
  cases d with
  | tup ds => exact ⟨r.1, h.m ds ρ R R' hr r.2⟩
  | _ => exact r⟩
def zTrue : TDB := fun _ R => R true
structure PIfD (K : PySem.W.Frag) (X : Cx) (ifs : List Expr) (t : TDB) : Prop where p : X.K = K → PIfs X ifs (lT K t)
theorem if_nil {K : PySem.W.Frag} {X : Cx} : PIfD K X [] zTrue := ⟨fun _ pins s σ H Q I ⟨H0, Φ, ρ, R, E, t, k⟩ => pifs_nil pins s σ H Q I (k true Φ H t (.refl E.fz))⟩
theorem if_one {K : PySem.W.Frag} {X : Cx} {c : Expr} {t : TDB} (h : PTD K X c t) : PIfD K X [c] t := ⟨fun hK => pifs_one (h.pt hK)⟩
theorem EnvD.side {K : PySem.W.Frag} {H0 Φ H : Hp} {σ : St} {ρ : Rho} {p : Addr} {o u : HO} (E : EnvD K H0 Φ H σ ρ) (h0 : H0 p = some u) (hn : Φ p = none) : EnvD K H0 Φ (upd H p o) σ ρ :=
  ⟨fun b w e => by rw [upd_ne (ne_of_none e hn)]; exact E.fz b w e, E.len, E.sl, fun i ds h => by
    obtain ⟨q, vs, e, q0, qn, qp, qr⟩ := E.ow i ds h
    exact ⟨q, vs, e, q0, qn, by rw [upd_ne fun z => by rw [z, h0] at q0; cases q0]; exact qp, qr⟩, E.ne⟩
/-- .. seen from further behind -/
theorem EnvD.base {K : PySem.W.Frag} {H0 Φ H : Hp} {σ : St} {ρ : Rho} {p : Addr} {u : HO} (E : EnvD K H0 Φ H σ ρ) (hp : H p = none) : EnvD K (upd H0 p u) Φ H σ ρ :=
  ⟨E.fz, E.len, E.sl, fun i ds h => by
    obtain ⟨q, vs, e, q0, qn, qp, qr⟩ := E.ow i ds h
    exact ⟨q, vs, e, by rw [upd_ne (ne_of_none qp hp)]; exact q0, qn, qp, qr⟩, E.ne⟩
def fComp (ti : TDL) (cap : List (Option Nat)) (g : TGD) (tc : TDB) (te : TD) : TDL := fun ρ R => ti ρ fun ds => ds.length < sizeLine ∧ ∃ P : Nat → Option D → Prop,
  (∀ i d, ds[i]? = some d → g d (capR cap ρ) fun ρ1 => tc ρ1 fun b => (b = true → te ρ1 fun y => P i (some y)) ∧ (b = false → P i none)) ∧ ∀ ys : List (Option D), ys.length = ds.length → (∀ i y, ys[i]? = some y → P i y) → R (ys.filterMap id)
theorem fm_snoc (ys : List (Option D)) (y : D) : (ys ++ [some y]).filterMap id = ys.filterMap id ++ [y] := by simp
theorem fm_snocN (ys : List (Option D)) : (ys ++ [none]).filterMap id = ys.filterMap id := by simp
theorem fm_len (ys : List (Option D)) : (ys.filterMap id).length ≤ ys.length := List.length_filterMap_le _ _
theorem snoc_all {α : Type} {ys : List α} {y : α} {P : Nat → α → Prop} {n : Nat} (hl : ys.length = n) (h : ∀ i z, ys[i]? = some z → P i z) (hy : P n y) : ∀ i z, (ys ++ [y])[i]? = some z → P i z := by
  intro i z hz
  rcases Nat.lt_or_ge i ys.length with c | c
  · rw [List.getElem?_append_left c] at hz
    exact h i z hz
  · rw [List.getElem?_append_right c] at hz
    have h0 : i - ys.length = 0 := by
      rcases Nat.eq_zero_or_pos (i - ys.length) with e | e
      · exact e
      · rw [List.getElem?_eq_none (by simp only [List.length_cons, List.length_nil]; omega)] at hz; cases hz
    rw [h0] at hz
    cases hz
    have : i = n := by omega
    subst this
    exact hy
/-- the first k of the block's names are its own, the others are caught -/
def capOk (k : Nat) (cap : List (Option Nat)) : Bool := (cap.take k).all (·.isNone) && decide ((cap.filterMap id).Nodup)
theorem capOk_own {k : Nat} {cap : List (Option Nat)} (h : capOk k cap = true) {i : Nat} (hi : i < k) {o : Option Nat} (e : cap[i]? = some o) : o = none := by
  unfold capOk at h
  rw [Bool.and_eq_true] at h
  have := List.all_eq_true.mp h.1 o (List.mem_of_getElem? (i := i) (by rw [List.getElem?_take_of_lt hi]; exact e))
  cases o with
  | none => rfl
  | some _ => cases this
theorem capOk_inj {k : Nat} {cap : List (Option Nat)} (h : capOk k cap = true) : ∀ i j n : Nat, cap[i]? = some (some n) → cap[j]? = some (some n) → i = j := by
  unfold capOk at h
  rw [Bool.and_eq_true] at h
  have nd := of_decide_eq_true h.2
  clear h
  induction cap with
  | nil => intro i j n hi; simp at hi
  | cons o cap ih =>
    intro i j n hi hj
    have nd' : (cap.filterMap id).Nodup := by
      cases o with
      | none => simpa using nd
      | some m => have e : (some m :: cap).filterMap id = m :: cap.filterMap id := rfl
                  rw [e] at nd; exact (List.nodup_cons.mp nd).2
    have one : ∀ {i : Nat}, o = some n → cap[i]? = some (some n) → False := fun {i} ho hi' => by
      subst ho
      have e : (some n :: cap).filterMap id = n :: cap.filterMap id := rfl
      rw [e] at nd
      exact (List.nodup_cons.mp nd).1 (List.mem_filterMap.mpr ⟨some n, List.mem_of_getElem? hi', rfl⟩)
    cases i with
    | zero => cases j with
      | zero => rfl
      | succ j => exact (one (by simpa using hi) (by simpa using hj)).elim
    | succ i => cases j with
      | zero => exact (one (by simpa using hj) (by simpa using hi)).elim
      | succ j => exact congrArg Nat.succ (ih nd' i j n (by simpa using hi) (by simpa using hj))
section
variable {K : PySem.W.Frag} {X : Cx} {tg iter elt : Expr} {ifs : List Expr} {scope : Scope} {pos : Pos} {N' : List Str} {cap : List (Option Nat)} {ti : TDL} {g : TGD} {tc : TDB} {te : TD}
theorem comp_core {k : Nat} (hcap : capOk k cap = true) (hk : GM k g) {σ : St} {H : Hp} {Q : VK} {H0 Φ : Hp} {ρ : Rho} {R W : List D → Prop} (E : EnvD K H0 Φ H σ ρ) (t : ti ρ W)
    (conv : ∀ ds, W ds → ds.length < sizeLine ∧ ∃ P : Nat → Option D → Prop, (∀ i d, ds[i]? = some d → g d (capR cap ρ) fun ρ1 => tc ρ1 fun b => (b = true → te ρ1 fun y => P i (some y)) ∧ (b = false → P i none)) ∧ ∀ ys : List (Option D), ys.length = ds.length → (∀ i y, ys[i]? = some y → P i y) → R (ys.filterMap id))
    (kk : ∀ ds Φ' H' p vs, R ds → Gr Φ H Φ' H' → H p = none → Φ' p = none → H' p = some (.lst vs) → RpL K Φ' ds vs → Q (.ref p) H') : tComp (lI K ti) cap (lG K g) (lT K tc) (lE K te) σ H Q := by
  refine ⟨H0, Φ, ρ, W, E, t, fun ds Φ1 H1 J hW g1 S Dd hD => ?_⟩
  obtain ⟨hlen, P, hp, hr⟩ := conv ds hW
  have E1 := E.gr g1
  have hDΦ : Φ1 Dd = none := g1.s.free hD
  have C0 : EnvD K (upd H0 Dd (.lst [])) Φ1 (upd H1 Dd (.lst [])) (capSt cap σ) (capR cap ρ) := ((E1.base (u := .lst []) hD).side (o := .lst []) upd_same hDΦ).cap (capOk_inj hcap)
  refine ⟨fun i m σ' H' => m = ds.length - i ∧ i ≤ ds.length ∧ ∃ (Φ' : Hp) (vs : List V) (ys : List (Option D)), EnvD K (upd H0 Dd (.lst [])) Φ' H' σ' (capR cap ρ) ∧ Gr Φ1 H1 Φ' H' ∧ Φ' Dd = none ∧ H' Dd = some (.lst vs) ∧ RpL K Φ' (ys.filterMap id) vs ∧ ys.length = i ∧ ∀ j y, ys[j]? = some y → P j y, ⟨ds.length, by simp, Nat.zero_le _, Φ1, [], [], C0, .fresh g1.s hD _, hDΦ, upd_same, .nil, rfl, fun j y hj => by simp at hj⟩, ?_⟩
  rintro i m σ' H' ⟨rfl, hi, Φ', vs, ys, Ei, gi, hDi, hDl, hrl, hyl, hy⟩
  by_cases hlt : i < ds.length
  · refine .inr ⟨S.go i H' (gi.f.trans gi.s) hlt, fun σ2 H2 => ∃ (Φ' : Hp) (vs : List V) (ys : List (Option D)), EnvD K (upd H0 Dd (.lst [])) Φ' H2 σ2 (capR cap ρ) ∧ Gr Φ1 H1 Φ' H2 ∧ Φ' Dd = none ∧ H2 Dd = some (.lst vs) ∧ RpL K Φ' (ys.filterMap id) vs ∧ ys.length = i + 1 ∧ ∀ j y, ys[j]? = some y → P j y, fun σ2 H2 h2 => ⟨ds.length - (i + 1), by omega, rfl, hlt, h2⟩, fun x H2 y => ?_⟩
    obtain ⟨Φ3, g3, rx⟩ := S.yl i Φ' H' x H2 _ gi.f gi.s (get_of hlt) y
    have E3 := Ei.gr g3
    refine ⟨_, Φ3, capR cap ρ, _, _, E3, rx, hk.k.p _ _ _ (hp i _ (get_of hlt)), fun ρ1 σ3 ⟨hl1, hd1, t1⟩ E4 => ?_⟩
    have wk : ∀ (j : Nat) x, (capR cap ρ)[j]? = some (some x) → ρ1[j]? = some (some x) := fun j x hj => by
      rcases Nat.lt_or_ge j k with c | c
      · obtain ⟨n, h1, _⟩ := cap_at hj
        cases capOk_own hcap c h1
      · have e1 : (capR cap ρ)[j]? = ((capR cap ρ).drop k)[j - k]? := by rw [List.getElem?_drop]; congr 1; omega
        have e2 : ρ1[j]? = (ρ1.drop k)[j - k]? := by rw [List.getElem?_drop]; congr 1; omega
        rw [e2, hd1, ← e1]
        exact hj
    have hD3 : Φ3 Dd = none := g3.o _ _ hDl hDi
    refine ⟨_, Φ3, ρ1, _, E4, t1, fun b Φ4 H4 rb g4 => ?_⟩
    have E5 := (E4.gr g4)
    have hDl4 := g4.h _ _ (g3.h _ _ hDl)
    have hD4 : Φ4 Dd = none := g4.o _ _ (g3.h _ _ hDl) hD3
    cases b with
    | false =>
      refine iteF ?_
      refine ⟨Φ4, vs, ys ++ [none], E5.weak hl1.symm wk, (gi.trans g3).trans g4, hD4, hDl4, ?_, by rw [List.length_append, hyl]; rfl, snoc_all hyl hy (rb.2 rfl)⟩
      rw [fm_snocN]
      exact (hrl.same g3.f).same g4.f
    | true =>
      refine iteT ?_
      refine ⟨_, Φ4, ρ1, _, E5, rb.1 rfl, fun d Φ5 H5 v rd g5 rv => ?_⟩
      have E6 := E5.gr g5
      have hDl5 := g5.h _ _ hDl4
      have hD5 : Φ5 Dd = none := g5.o _ _ hDl4 hD4
      have gg := ((gi.trans g3).trans g4).trans g5
      refine ⟨vs, hDl5, ?_, Φ5, vs ++ [v], ys ++ [some d], (E6.weak hl1.symm wk).side upd_same hD5, ?_, hD5, upd_same, ?_, by rw [List.length_append, hyl]; rfl, snoc_all hyl hy rd⟩
      · have := fm_len ys
        rw [hrl.1]
        omega
      · exact ⟨gg.f, same_upd gg.h hD _, fun b u e => by rw [upd_ne (ne_of_none e hD5)]; exact gg.s b u e, gg.o⟩
      · rw [fm_snoc]
        exact (((hrl.same g3.f).same g4.f).same g5.f).append (.one rv)
  · have e : i = ds.length := by omega
    subst e
    exact .inl ⟨S.stop H' (gi.f.trans gi.s), kk _ Φ' H' Dd vs (hr ys hyl hy) (g1.trans gi) (g1.h.free hD) hDi hDl hrl⟩
theorem comp_lift {k : Nat} (hcap : capOk k cap = true) (hk : GM k g) {σ : St} {H : Hp} {Q : VK} (h : lF K (fComp ti cap g tc te) σ H Q) : tComp (lI K ti) cap (lG K g) (lT K tc) (lE K te) σ H Q := by
  obtain ⟨H0, Φ, ρ, R, E, t, kk⟩ := h
  exact comp_core hcap hk E t (fun ds h => h) kk
theorem f_comp {k : Nat} (hcalm : X.calm = true) (S : CompScope X.N X.env.scope scope N' cap) (hcap : capOk k cap = true) (hk : GM k g) (hi : PID K X tg iter ti)
    (hg : ∀ (cl : List (Str × Addr)) (fp : List Addr) (C : Addr) (s0 : Shared) (H0 : Hp), PGD K (cxComp X scope N' cl C s0 H0 fp) tg g) (ht : ∀ (cl : List (Str × Addr)) (fp : List Addr) (C : Addr) (s0 : Shared) (H0 : Hp), PIfD K (cxComp X scope N' cl C s0 H0 fp) ifs tc)
    (he : ∀ (cl : List (Str × Addr)) (fp : List Addr) (C : Addr) (s0 : Shared) (H0 : Hp), PD K (cxComp X scope N' cl C s0 H0 fp) elt te) (hs : ∀ x, foldedSetIterable iter X.env x = pure x := by intro _; rfl) : PF K X (.ListComp elt [⟨tg, iter, ifs, 0⟩] scope pos) (fComp ti cap g tc te) :=
  ⟨fun hK => (pe_comp hcalm S (hi.pi hK) (fun cl fp C s0 H0 => (hg cl fp C s0 H0).pg hK) (fun cl fp C s0 H0 => (ht cl fp C s0 H0).p hK) (fun cl fp C s0 H0 => (he cl fp C s0 H0).pe hK) hs).imp fun _ _ _ => comp_lift hcap hk⟩
/-- without an if -/
def fCompN (ti : TDL) (cap : List (Option Nat)) (g : TGD) (te : TD) : TDL := fun ρ R => ti ρ fun ds => ds.length < sizeLine ∧ ∃ P : Nat → D → Prop,
  (∀ i d, ds[i]? = some d → g d (capR cap ρ) fun ρ1 => te ρ1 (P i)) ∧ ∀ ys : List D, ys.length = ds.length → (∀ i y, ys[i]? = some y → P i y) → R ys
def optP (P : Nat → D → Prop) : Nat → Option D → Prop := fun i o => match o with | some y => P i y | none => False
theorem all_some {P : Nat → D → Prop} : ∀ (ys : List (Option D)), (∀ (i : Nat) y, ys[i]? = some y → ∃ z, y = some z) → ∃ zs : List D, ys = zs.map some
  | [], _ => ⟨[], rfl⟩
  | y :: ys, h => by
    obtain ⟨z, rfl⟩ := h 0 y rfl
    obtain ⟨zs, rfl⟩ := all_some (P := P) ys fun i y hy => h (i + 1) y hy
    exact ⟨z :: zs, rfl⟩
theorem compN_conv {ds : List D} {ρ : Rho} {R : List D → Prop} (h : ds.length < sizeLine ∧ ∃ P : Nat → D → Prop, (∀ i d, ds[i]? = some d → g d (capR cap ρ) fun ρ1 => te ρ1 (P i)) ∧ ∀ ys : List D, ys.length = ds.length → (∀ i y, ys[i]? = some y → P i y) → R ys) {k : Nat} (hk : GM k g) :
    ds.length < sizeLine ∧ ∃ P : Nat → Option D → Prop, (∀ i d, ds[i]? = some d → g d (capR cap ρ) fun ρ1 => zTrue ρ1 fun b => (b = true → te ρ1 fun y => P i (some y)) ∧ (b = false → P i none)) ∧ ∀ ys : List (Option D), ys.length = ds.length → (∀ i y, ys[i]? = some y → P i y) → R (ys.filterMap id) := by
  obtain ⟨h0, P, h1, h2⟩ := h
  refine ⟨h0, optP P, fun i d hd => hk.m _ _ _ _ (fun ρ1 q => ⟨fun _ => q, fun e => by cases e⟩) (h1 i d hd), fun ys hl hy => ?_⟩
  obtain ⟨zs, rfl⟩ := all_some (P := P) ys fun i y e => by
    have := hy i y e
    cases y with
    | none => exact this.elim
    | some z => exact ⟨z, rfl⟩
  rw [List.filterMap_map]
  have e : zs.filterMap (id ∘ some) = zs := by simp
  rw [e]
  refine h2 zs (by simpa using hl) fun i y e => ?_
  exact hy i (some y) (by rw [List.getElem?_map, e]; rfl)
theorem comp_liftN {k : Nat} (hcap : capOk k cap = true) (hk : GM k g) {σ : St} {H : Hp} {Q : VK} (h : lF K (fCompN ti cap g te) σ H Q) : tComp (lI K ti) cap (lG K g) (lT K zTrue) (lE K te) σ H Q := by
  obtain ⟨H0, Φ, ρ, R, E, t, kk⟩ := h
  exact comp_core hcap hk E t (fun ds h => compN_conv h hk) kk
theorem f_compN {k : Nat} (hcalm : X.calm = true) (S : CompScope X.N X.env.scope scope N' cap) (hcap : capOk k cap = true) (hk : GM k g) (hi : PID K X tg iter ti)
    (hg : ∀ (cl : List (Str × Addr)) (fp : List Addr) (C : Addr) (s0 : Shared) (H0 : Hp), PGD K (cxComp X scope N' cl C s0 H0 fp) tg g)
    (he : ∀ (cl : List (Str × Addr)) (fp : List Addr) (C : Addr) (s0 : Shared) (H0 : Hp), PD K (cxComp X scope N' cl C s0 H0 fp) elt te) (hs : ∀ x, foldedSetIterable iter X.env x = pure x := by intro _; rfl) : PF K X (.ListComp elt [⟨tg, iter, [], 0⟩] scope pos) (fCompN ti cap g te) :=
  ⟨fun hK => (pe_comp hcalm S (hi.pi hK) (fun cl fp C s0 H0 => (hg cl fp C s0 H0).pg hK) (fun cl fp C s0 H0 => (if_nil (K := K)).p hK) (fun cl fp C s0 H0 => (he cl fp C s0 H0).pe hK) hs).imp fun _ _ _ => comp_liftN hcap hk⟩
end
end L2
set_option Elab.async false
set_option linter.all false
set_option maxRecDepth 100000
set_option maxHeartbeats 4000000
namespace L2
open PySem PySem.Spec PyProof.Rows
/-! ### statements -/
structure EndsD where
  nx : Rho → Prop
  rt : D → Prop
  bk : Rho → Prop := fun _ => False
  ct : Rho → Prop := fun _ => False
abbrev TSD := EndsD → Rho → Prop
def EnK (K : PySem.W.Frag) (Φ0 H0 : Hp) (P : Rho → Prop) (Q : St → Hp → Prop) : Prop := ∀ ρ' Φ' H' σ', P ρ' → Gr Φ0 H0 Φ' H' → EnvD K H0 Φ' H' σ' ρ' → Q σ' H'
structure EndOk (K : PySem.W.Frag) (Φ0 H0 : Hp) (De : EndsD) (E : Ends) : Prop where
  nx : EnK K Φ0 H0 De.nx E.nx
  rt : ∀ d Φ' H' v, De.rt d → Gr Φ0 H0 Φ' H' → Rp K Φ' d v → E.rt v H'
  bk : EnK K Φ0 H0 De.bk E.bk
  ct : EnK K Φ0 H0 De.ct E.ct
def lS (K : PySem.W.Frag) (t : TSD) : TS := fun E σ H => ∃ Φ0 H0 Φ ρ De, Gr Φ0 H0 Φ H ∧ EnvD K H0 Φ H σ ρ ∧ t De ρ ∧ EndOk K Φ0 H0 De E
structure PSD (K : PySem.W.Frag) (X : Cx) (st : Stmt) (t : TSD) : Prop where ps : X.K = K → PS X st (lS K t)
structure PSsD (K : PySem.W.Frag) (X : Cx) (st : List Stmt) (t : TSD) : Prop where ps : X.K = K → PSs X st (lS K t)
section
variable {K : PySem.W.Frag} {X : Cx} {st : Stmt} {rest : List Stmt} {t u : TSD} {e a : Expr} {te : TD} {tf : TDL} {pos : Pos} {tt : TDB}
def sNext : TSD := fun De ρ => De.nx ρ
def sSeq (t u : TSD) : TSD := fun De ρ => t { De with nx := u De } ρ
def sCut (t u : TSD) : TSD := fun De ρ => ∃ I : Rho → Prop, t { De with nx := I } ρ ∧ ∀ ρ', I ρ' → u De ρ'
theorem s_nil : PSsD K X [] sNext := ⟨fun _ => pss_nil.imp fun E σ H ⟨Φ0, H0, Φ, ρ, De, g, V, t, k⟩ => k.nx ρ Φ H σ t g V⟩
theorem s_cons (h1 : PSD K X st t) (h2 : PSsD K X rest u) : PSsD K X (st :: rest) (sSeq t u) := ⟨fun hK => (pss_cons (h1.ps hK) (h2.ps hK)).imp fun E σ H ⟨Φ0, H0, Φ, ρ, De, g, V, t, k⟩ =>
  ⟨Φ0, H0, Φ, ρ, _, g, V, t, ⟨fun ρ' Φ' H' σ' t' g' V' => ⟨Φ0, H0, Φ', ρ', De, g', V', t', k⟩, k.rt, k.bk, k.ct⟩⟩⟩
theorem s_cut (h1 : PSD K X st t) (h2 : PSsD K X rest u) : PSsD K X (st :: rest) (sCut t u) := ⟨fun hK => (pss_cons (h1.ps hK) (h2.ps hK)).imp fun E σ H ⟨Φ0, H0, Φ, ρ, De, g, V, ⟨I, t, c⟩, k⟩ =>
  ⟨Φ0, H0, Φ, ρ, _, g, V, t, ⟨fun ρ' Φ' H' σ' t' g' V' => ⟨Φ0, H0, Φ', ρ', De, g', V', c ρ' t', k⟩, k.rt, k.bk, k.ct⟩⟩⟩
theorem s_one (h1 : PSD K X st t) : PSsD K X [st] t := ⟨fun hK => pss_one (h1.ps hK)⟩
/-- the own list of a name is no longer written -/
def sFrz (i : Nat) (t : TSD) : TSD := fun De ρ => t De (frz i ρ)
theorem s_frz (i : Nat) (h : PSsD K X rest t) : PSsD K X rest (sFrz i t) := ⟨fun hK => (h.ps hK).imp fun E σ H ⟨Φ0, H0, Φ, ρ, De, g, V, t, k⟩ => by
  obtain ⟨Φ', g', V'⟩ := V.frz g i
  exact ⟨Φ0, H0, Φ', L2.frz i ρ, De, g', V', t, k⟩⟩
def sPass : TSD := fun De ρ => De.nx ρ
theorem s_pass : PSD K X (.Pass pos) sPass := ⟨fun _ => ps_pass.imp fun E σ H ⟨Φ0, H0, Φ, ρ, De, g, V, t, k⟩ => k.nx ρ Φ H σ t g V⟩
def sBreak : TSD := fun De ρ => De.bk ρ
def sCont : TSD := fun De ρ => De.ct ρ
theorem s_break : PSD K X (.Break pos) sBreak := ⟨fun _ => ps_break.imp fun E σ H ⟨Φ0, H0, Φ, ρ, De, g, V, t, k⟩ => k.bk ρ Φ H σ t g V⟩
theorem s_cont : PSD K X (.Continue pos) sCont := ⟨fun _ => ps_continue.imp fun E σ H ⟨Φ0, H0, Φ, ρ, De, g, V, t, k⟩ => k.ct ρ Φ H σ t g V⟩
def sNever : TSD := fun _ _ => False
theorem s_never : PSD K X st sNever := ⟨fun _ => ps_never.imp fun E σ H ⟨Φ0, H0, Φ, ρ, De, g, V, t, k⟩ => t⟩
theorem ss_never : PSsD K X rest sNever := ⟨fun _ => pss_never.imp fun E σ H ⟨Φ0, H0, Φ, ρ, De, g, V, t, k⟩ => t⟩
def sSet (i : Nat) (te : TD) : TSD := fun De ρ => te ρ fun d => De.nx (ρ.set i (some (.v d)))
theorem set_lift {i : Nat} {E : Ends} {σ : St} {H : Hp} (h : lS K (sSet i te) E σ H) : tAsg (lE K te) (gName i) E σ H := by
  obtain ⟨Φ0, H0, Φ, ρ, De, g, V, t, k⟩ := h
  exact ⟨H0, Φ, ρ, _, V, t, fun d Φ1 H1 v r g1 rv => k.nx _ Φ1 H1 _ r (g.trans g1) ((V.gr g1).set rv i)⟩
theorem s_set {i : Nat} {x : Str} {pos' : Pos} (hN : X.N.Nodup) (hi : X.N[i]? = some x) (hx : Loc X.env.scope x) (he : PD K X e te) (hs : swapsWith e (some (.Name x pos')) pos.line X.env = pure false := by rfl) (hf : X.fn x = true ∨ X.env.scope.names.lookup x = some .local := by first | exact .inl rfl | exact .inr rfl | assumption) :
    PSD K X (.Assign [.Name x pos'] e pos) (sSet i te) := ⟨fun hK => (ps_set hN hi hx (he.pe hK) hs hf).imp fun _ _ _ => set_lift⟩
/-- a new list of one's own -/
def sOwn (i : Nat) (tf : TDL) : TSD := fun De ρ => tf ρ fun ds => De.nx (ρ.set i (some (.own ds)))
theorem own_lift' {i : Nat} {E : Ends} {σ : St} {H : Hp} (h : lS K (sOwn i tf) E σ H) : lF K tf σ H fun v H' => gName i v σ H' E.nx := by
  obtain ⟨Φ0, H0, Φ, ρ, De, g, V, t, k⟩ := h
  refine ⟨H0, Φ, ρ, _, V, t, fun ds Φ1 H1 p vs r g1 hp hn hl rl => k.nx _ Φ1 H1 _ r (g.trans g1) ((V.gr g1).setOwn rl (g.h.free hp) hn hl (fun j es hj z => ?_) i)⟩
  obtain ⟨q, ws, e, _, _, hq, _⟩ := V.ow j es hj
  rw [e] at z
  cases z
  rw [hp] at hq
  cases hq
theorem s_own {i : Nat} {x : Str} {pos' : Pos} (hN : X.N.Nodup) (hi : X.N[i]? = some x) (hx : Loc X.env.scope x) (he : PF K X e tf) (hs : swapsWith e (some (.Name x pos')) pos.line X.env = pure false := by rfl) (hf : X.fn x = true ∨ X.env.scope.names.lookup x = some .local := by first | exact .inl rfl | exact .inr rfl | assumption) :
    PSD K X (.Assign [.Name x pos'] e pos) (sOwn i tf) := ⟨fun hK => (ps_set hN hi hx (he.pe hK) hs hf).imp fun _ _ _ h => own_lift' h⟩
def sDrop (te : TD) : TSD := fun De ρ => te ρ fun _ => De.nx ρ
theorem s_expr (he : PD K X e te) (hs : swapsWith e none pos.line X.env = pure false := by rfl) : PSD K X (.Expr e pos) (sDrop te) :=
  ⟨fun hK => (ps_expr (he.pe hK) hs).imp fun E σ H ⟨Φ0, H0, Φ, ρ, De, g, V, t, k⟩ => ⟨H0, Φ, ρ, _, V, t, fun d Φ1 H1 v r g1 rv => k.nx _ Φ1 H1 σ r (g.trans g1) (V.gr g1)⟩⟩
def sRet (te : TD) : TSD := fun De ρ => te ρ De.rt
theorem s_ret (he : PD K X e te) : PSD K X (.Return (some e) pos) (sRet te) :=
  ⟨fun hK => (ps_ret (he.pe hK)).imp fun E σ H ⟨Φ0, H0, Φ, ρ, De, g, V, t, k⟩ => ⟨H0, Φ, ρ, _, V, t, fun d Φ1 H1 v r g1 rv => k.rt d Φ1 H1 v r (g.trans g1) rv⟩⟩
def sRetN : TSD := fun De _ => De.rt .non
theorem s_retN : PSD K X (.Return none pos) sRetN := ⟨fun hK => ps_retN.imp fun E σ H ⟨Φ0, H0, Φ, ρ, De, g, V, t, k⟩ => k.rt _ Φ H _ t g .non⟩
def sIf (c : TDB) (t u : TSD) : TSD := fun De ρ => c ρ fun b => (b = true → t De ρ) ∧ (b = false → u De ρ)
theorem s_if {c : Expr} {a b : List Stmt} (hc : PTD K X c tt) (ha : PSsD K X a t) (hb : PSsD K X b u) : PSD K X (.If c a b pos) (sIf tt t u) :=
  ⟨fun hK => (ps_if (hc.pt hK) (ha.ps hK) (hb.ps hK)).imp fun E σ H ⟨Φ0, H0, Φ, ρ, De, g, V, t, k⟩ => ⟨H0, Φ, ρ, _, V, t, fun c Φ1 H1 r g1 => by
    cases c with
    | true => refine iteT ?_; exact ⟨Φ0, H0, Φ1, ρ, De, g.trans g1, V.gr g1, r.1 rfl, k⟩
    | false => refine iteF ?_; exact ⟨Φ0, H0, Φ1, ρ, De, g.trans g1, V.gr g1, r.2 rfl, k⟩⟩⟩
/-- targets of several names -/
def sAsg (te : TD) (g : TGD) : TSD := fun De ρ => te ρ fun d => g d ρ De.nx
theorem s_asg {tg : Expr} {gd : TGD} (he : PD K X e te) (hg : PGD K X tg gd) (hs : swapsWithSole [tg] e pos.line X.env = pure false := by rfl) (hw : swappedStores [tg] e X.env = pure none := by rfl)
    (h1 : (assignEach [tg] X.env).map (·.2) = [assign tg X.env] := by rfl) : PSD K X (.Assign [tg] e pos) (sAsg te gd) :=
  ⟨fun hK => (ps_asg (he.pe hK) (hg.pg hK) hs hw h1).imp fun E σ H ⟨Φ0, H0, Φ, ρ, De, g, V, t, k⟩ => ⟨H0, Φ, ρ, _, V, t, fun d Φ1 H1 v r g1 rv => ⟨H0, Φ1, ρ, d, _, V.gr g1, rv, r, fun ρ' σ' r' V' => k.nx ρ' Φ1 H1 σ' r' (g.trans g1) V'⟩⟩⟩
/-- while -/
def sWhile (c : TDB) (tb : TSD) : TSD := fun De ρ => ∃ I : Nat → Rho → Prop, (∃ m, I m ρ) ∧ ∀ m ρ', I m ρ' → c ρ' fun b => (b = true → tb { De with nx := fun ρ2 => ∃ m', m' < m ∧ I m' ρ2, ct := fun ρ2 => ∃ m', m' < m ∧ I m' ρ2, bk := De.nx } ρ') ∧ (b = false → De.nx ρ')
theorem s_while {c : Expr} {body : List Stmt} {tb : TSD} (hp : PassesOwn (model X.prog X.w) X.A X.env X.xe) (hc : PTD K X c tt) (hb : PSsD K X body tb) : PSD K X (.While c body [] pos) (sWhile tt tb) :=
  ⟨fun hK => (ps_while hp (hc.pt hK) (hb.ps hK)).imp fun E σ H ⟨Φ0, H0, Φ, ρ, De, g, V, ⟨I, ⟨m, h0⟩, hw⟩, k⟩ => by
    refine ⟨fun m σ H => ∃ Φ' ρ', Gr Φ0 H0 Φ' H ∧ EnvD K H0 Φ' H σ ρ' ∧ I m ρ', ⟨m, Φ, ρ, g, V, h0⟩, ?_⟩
    rintro m σ' H' ⟨Φ', ρ', g', V', hi⟩
    refine ⟨H0, Φ', ρ', _, V', hw m ρ' hi, fun b Φ1 H1 r g1 => ?_⟩
    cases b with
    | false => refine iteF ?_; exact k.nx ρ' Φ1 H1 σ' (r.2 rfl) (g'.trans g1) (V'.gr g1)
    | true =>
      refine iteT ?_
      refine ⟨fun σ2 H2 => ∃ m', m' < m ∧ ∃ Φ' ρ', Gr Φ0 H0 Φ' H2 ∧ EnvD K H0 Φ' H2 σ2 ρ' ∧ I m' ρ', fun σ2 H2 h => h, Φ0, H0, Φ1, ρ', _, g'.trans g1, V'.gr g1, r.1 rfl, ⟨?_, k.rt, k.nx, ?_⟩⟩
      · rintro ρ2 Φ2 H2 σ2 ⟨m', hm, hi'⟩ g2 V2
        exact ⟨m', hm, Φ2, ρ2, g2, V2, hi'⟩
      · rintro ρ2 Φ2 H2 σ2 ⟨m', hm, hi'⟩ g2 V2
        exact ⟨m', hm, Φ2, ρ2, g2, V2, hi'⟩⟩
/-- for -/
def sFor (ti : TDL) (gd : TGD) (tb : TSD) : TSD := fun De ρ => ti ρ fun ds => ∃ I : Nat → Rho → Prop, I 0 ρ ∧ (∀ i d ρ', ds[i]? = some d → I i ρ' → gd d ρ' fun ρ2 => tb { De with nx := I (i + 1), ct := I (i + 1), bk := De.nx } ρ2) ∧ ∀ ρ', I ds.length ρ' → De.nx ρ'
theorem s_for {tg iter : Expr} {body : List Stmt} {ti : TDL} {gd : TGD} {tb : TSD} (hp : PassesOwn (model X.prog X.w) X.A X.env X.xe) (hc : X.calm = true) (hi : PID K X tg iter ti) (hg : PGD K X tg gd) (hb : PSsD K X body tb)
    (hs : ∀ x, foldedSetIterable iter X.env x = pure x := by intro _; rfl) : PSD K X (.For tg iter body [] pos) (sFor ti gd tb) :=
  ⟨fun hK => (ps_for hp hc (hi.pi hK) (hg.pg hK) (hb.ps hK) hs).imp fun E σ H ⟨Φ0, H0, Φ, ρ, De, g, V, t, k⟩ => by
    refine ⟨H0, Φ, ρ, _, V, t, fun ds Φ1 H1 J ⟨I, h0, hst, hend⟩ g1 S => ?_⟩
    refine ⟨fun i m σ H' => m = ds.length - i ∧ i ≤ ds.length ∧ ∃ Φ' ρ', Gr Φ0 H0 Φ' H' ∧ Same Φ1 Φ' ∧ EnvD K H0 Φ' H' σ ρ' ∧ I i ρ', ⟨ds.length, by simp, Nat.zero_le _, Φ1, ρ, g.trans g1, Same.refl _, V.gr g1, h0⟩, ?_⟩
    rintro i m σ' H' ⟨rfl, hi, Φ', ρ', g', s', V', hI⟩
    by_cases hlt : i < ds.length
    · refine .inr ⟨S.go i H' (s'.trans V'.fz) hlt, fun σ2 H2 => ∃ Φ' ρ', Gr Φ0 H0 Φ' H2 ∧ Same Φ1 Φ' ∧ EnvD K H0 Φ' H2 σ2 ρ' ∧ I (i + 1) ρ', fun σ2 H2 h2 => ⟨ds.length - (i + 1), by omega, rfl, hlt, h2⟩, fun x H2 y => ?_⟩
      obtain ⟨Φ3, g3, rx⟩ := S.yl i Φ' H' x H2 _ s' V'.fz (get_of hlt) y
      refine ⟨H0, Φ3, ρ', _, _, V'.gr g3, rx, hst i _ ρ' (get_of hlt) hI, fun ρ2 σ3 t2 V3 => ?_⟩
      -- the frozen heap of the turn is kept through the body
      refine ⟨Φ3, H0, Φ3, ρ2, _, ?_, V3, t2, ⟨?_, ?_, ?_, ?_⟩⟩
      · exact ⟨Same.refl _, (g'.trans g3).h, g3.s, fun p u hp hn => hn⟩
      · intro ρ4 Φ4 H4 σ4 t4 g4 V4
        exact ⟨Φ4, ρ4, (g'.trans g3).join g4, (s'.trans g3.f).trans g4.f, V4, t4⟩
      · intro d Φ4 H4 v r g4 rv
        exact k.rt d Φ4 H4 v r ((g'.trans g3).join g4) rv
      · intro ρ4 Φ4 H4 σ4 t4 g4 V4
        exact k.nx ρ4 Φ4 H4 σ4 t4 ((g'.trans g3).join g4) V4
      · intro ρ4 Φ4 H4 σ4 t4 g4 V4
        exact ⟨Φ4, ρ4, (g'.trans g3).join g4, (s'.trans g3.f).trans g4.f, V4, t4⟩
    · have e : i = ds.length := by omega
      subst e
      exact .inl ⟨S.stop H' (s'.trans V'.fz), k.nx ρ' Φ' H' σ' (hend ρ' hI) g' V'⟩⟩
end
end L2
set_option Elab.async false
set_option linter.all false
set_option maxRecDepth 100000
set_option maxHeartbeats 4000000
namespace L2
open PySem PySem.Spec PyProof.Rows
/-! ### name = [.. for ..] -/
section
variable {K : PySem.W.Frag} {X : Cx} {tg iter elt e a : Expr} {ifs : List Expr} {scope : Scope} {pos py spos : Pos} {N' : List Str} {cap : List (Option Nat)} {ti : TDL} {g : TGD} {tc : TDB} {te ta tb : TD} {i : Nat} {y : Str}
theorem compset_lift {tf : TDL} {E : Ends} {σ : St} {H : Hp} (lift : ∀ {σ : St} {H : Hp} {Q : VK}, lF K tf σ H Q → tComp (lI K ti) cap (lG K g) (lT K tc) (lE K te) σ H Q) (h : lS K (sSet i (dOfF tf)) E σ H) : tAsg (tComp (lI K ti) cap (lG K g) (lT K tc) (lE K te)) (gName i) E σ H := by
  obtain ⟨Φ0, H0, Φ, ρ, De, gg, V, t, kk⟩ := h
  exact lift ⟨H0, Φ, ρ, _, V, t, fun ds Φ' H' p vs r g1 h0 hn hp rr => kk.nx _ _ H' _ r (gg.trans (g1.freeze h0 hn hp)) ((V.gr (g1.freeze h0 hn hp)).set ((rr.same (same_new hn _)).lst upd_same) i)⟩
theorem s_compN {k : Nat} (hcalm : X.calm = true) (hN : X.N.Nodup) (hy : X.N[i]? = some y) (hx : Loc X.env.scope y) (S : CompScope X.N X.env.scope scope N' cap) (hcap : capOk k cap = true) (hk : GM k g) (hi : PID K X tg iter ti)
    (hg : ∀ (cl : List (Str × Addr)) (fp : List Addr) (C : Addr) (s0 : Shared) (H0 : Hp), PGD K (cxComp X scope N' cl C s0 H0 fp) tg g)
    (he : ∀ (cl : List (Str × Addr)) (fp : List Addr) (C : Addr) (s0 : Shared) (H0 : Hp), PD K (cxComp X scope N' cl C s0 H0 fp) elt te) (hsw : swapsWith (.ListComp elt [⟨tg, iter, [], 0⟩] scope pos) (some (.Name y py)) spos.line X.env = pure true := by rfl)
    (hs : ∀ x, foldedSetIterable iter X.env x = pure x := by intro _; rfl) (hf : X.fn y = true ∨ X.env.scope.names.lookup y = some .local := by first | exact .inl rfl | exact .inr rfl | assumption) :
    PSD K X (.Assign [.Name y py] (.ListComp elt [⟨tg, iter, [], 0⟩] scope pos) spos) (sSet i (dOfF (fCompN ti cap g te))) :=
  ⟨fun hK => (ps_comp hcalm hN hy hx S (hi.pi hK) (fun cl fp C s0 H0 => (hg cl fp C s0 H0).pg hK) (fun cl fp C s0 H0 => (if_nil (K := K)).p hK) (fun cl fp C s0 H0 => (he cl fp C s0 H0).pe hK) hsw hs hf).imp fun _ _ _ h => compset_lift (fun q => comp_liftN hcap hk q) h⟩
theorem s_comp {k : Nat} (hcalm : X.calm = true) (hN : X.N.Nodup) (hy : X.N[i]? = some y) (hx : Loc X.env.scope y) (S : CompScope X.N X.env.scope scope N' cap) (hcap : capOk k cap = true) (hk : GM k g) (hi : PID K X tg iter ti)
    (hg : ∀ (cl : List (Str × Addr)) (fp : List Addr) (C : Addr) (s0 : Shared) (H0 : Hp), PGD K (cxComp X scope N' cl C s0 H0 fp) tg g) (ht : ∀ (cl : List (Str × Addr)) (fp : List Addr) (C : Addr) (s0 : Shared) (H0 : Hp), PIfD K (cxComp X scope N' cl C s0 H0 fp) ifs tc)
    (he : ∀ (cl : List (Str × Addr)) (fp : List Addr) (C : Addr) (s0 : Shared) (H0 : Hp), PD K (cxComp X scope N' cl C s0 H0 fp) elt te) (hsw : swapsWith (.ListComp elt [⟨tg, iter, ifs, 0⟩] scope pos) (some (.Name y py)) spos.line X.env = pure true := by rfl)
    (hs : ∀ x, foldedSetIterable iter X.env x = pure x := by intro _; rfl) (hf : X.fn y = true ∨ X.env.scope.names.lookup y = some .local := by first | exact .inl rfl | exact .inr rfl | assumption) :
    PSD K X (.Assign [.Name y py] (.ListComp elt [⟨tg, iter, ifs, 0⟩] scope pos) spos) (sSet i (dOfF (fComp ti cap g tc te))) :=
  ⟨fun hK => (ps_comp hcalm hN hy hx S (hi.pi hK) (fun cl fp C s0 H0 => (hg cl fp C s0 H0).pg hK) (fun cl fp C s0 H0 => (ht cl fp C s0 H0).p hK) (fun cl fp C s0 H0 => (he cl fp C s0 H0).pe hK) hsw hs hf).imp fun _ _ _ h => compset_lift (fun q => comp_lift hcap hk q) h⟩
theorem compown_lift {tf : TDL} {E : Ends} {σ : St} {H : Hp} (lift : ∀ {σ : St} {H : Hp} {Q : VK}, lF K tf σ H Q → tComp (lI K ti) cap (lG K g) (lT K tc) (lE K te) σ H Q) (h : lS K (sOwn i tf) E σ H) : tAsg (tComp (lI K ti) cap (lG K g) (lT K tc) (lE K te)) (gName i) E σ H := lift (own_lift' h)
theorem s_compNO {k : Nat} (hcalm : X.calm = true) (hN : X.N.Nodup) (hy : X.N[i]? = some y) (hx : Loc X.env.scope y) (S : CompScope X.N X.env.scope scope N' cap) (hcap : capOk k cap = true) (hk : GM k g) (hi : PID K X tg iter ti)
    (hg : ∀ (cl : List (Str × Addr)) (fp : List Addr) (C : Addr) (s0 : Shared) (H0 : Hp), PGD K (cxComp X scope N' cl C s0 H0 fp) tg g)
    (he : ∀ (cl : List (Str × Addr)) (fp : List Addr) (C : Addr) (s0 : Shared) (H0 : Hp), PD K (cxComp X scope N' cl C s0 H0 fp) elt te) (hsw : swapsWith (.ListComp elt [⟨tg, iter, [], 0⟩] scope pos) (some (.Name y py)) spos.line X.env = pure true := by rfl)
    (hs : ∀ x, foldedSetIterable iter X.env x = pure x := by intro _; rfl) (hf : X.fn y = true ∨ X.env.scope.names.lookup y = some .local := by first | exact .inl rfl | exact .inr rfl | assumption) :
    PSD K X (.Assign [.Name y py] (.ListComp elt [⟨tg, iter, [], 0⟩] scope pos) spos) (sOwn i (fCompN ti cap g te)) :=
  ⟨fun hK => (ps_comp hcalm hN hy hx S (hi.pi hK) (fun cl fp C s0 H0 => (hg cl fp C s0 H0).pg hK) (fun cl fp C s0 H0 => (if_nil (K := K)).p hK) (fun cl fp C s0 H0 => (he cl fp C s0 H0).pe hK) hsw hs hf).imp fun _ _ _ h => compown_lift (fun q => comp_liftN hcap hk q) h⟩
theorem s_compO {k : Nat} (hcalm : X.calm = true) (hN : X.N.Nodup) (hy : X.N[i]? = some y) (hx : Loc X.env.scope y) (S : CompScope X.N X.env.scope scope N' cap) (hcap : capOk k cap = true) (hk : GM k g) (hi : PID K X tg iter ti)
    (hg : ∀ (cl : List (Str × Addr)) (fp : List Addr) (C : Addr) (s0 : Shared) (H0 : Hp), PGD K (cxComp X scope N' cl C s0 H0 fp) tg g) (ht : ∀ (cl : List (Str × Addr)) (fp : List Addr) (C : Addr) (s0 : Shared) (H0 : Hp), PIfD K (cxComp X scope N' cl C s0 H0 fp) ifs tc)
    (he : ∀ (cl : List (Str × Addr)) (fp : List Addr) (C : Addr) (s0 : Shared) (H0 : Hp), PD K (cxComp X scope N' cl C s0 H0 fp) elt te) (hsw : swapsWith (.ListComp elt [⟨tg, iter, ifs, 0⟩] scope pos) (some (.Name y py)) spos.line X.env = pure true := by rfl)
    (hs : ∀ x, foldedSetIterable iter X.env x = pure x := by intro _; rfl) (hf : X.fn y = true ∨ X.env.scope.names.lookup y = some .local := by first | exact .inl rfl | exact .inr rfl | assumption) :
    PSD K X (.Assign [.Name y py] (.ListComp elt [⟨tg, iter, ifs, 0⟩] scope pos) spos) (sOwn i (fComp ti cap g tc te)) :=
  ⟨fun hK => (ps_comp hcalm hN hy hx S (hi.pi hK) (fun cl fp C s0 H0 => (hg cl fp C s0 H0).pg hK) (fun cl fp C s0 H0 => (ht cl fp C s0 H0).p hK) (fun cl fp C s0 H0 => (he cl fp C s0 H0).pe hK) hsw hs hf).imp fun _ _ _ h => compown_lift (fun q => comp_lift hcap hk q) h⟩
/-! ### writing one's own lists -/
theorem gr_put {Φ0 H0 Φ H : Hp} {p : Addr} {o : HO} (g : Gr Φ0 H0 Φ H) (h0 : H0 p = none) (hn : Φ p = none) : Gr Φ0 H0 Φ (upd H p o) :=
  ⟨g.f, same_upd g.h h0 _, fun b u e => by rw [upd_ne (ne_of_none e hn)]; exact g.s b u e, g.o⟩
/-- x.append(e) -/
def sAppend (i : Nat) (te : TD) : TSD := fun De ρ => match ρ[i]? with | some (some (.own ds)) => te ρ fun d => ds.length < sizeLine ∧ NF (ds ++ [d]) fun es => De.nx (ρ.set i (some (.own es))) | _ => False
theorem s_append {apos cpos npos : Pos} {x : Str} (i : Nat) (he : PD K X e te) (hfew : ((backTo cpos (starEach [e] X.env)).all (fun x => !x.1) && (backToKw cpos (keywordEach [] X.env)).all (fun x => x.1.isSome) && decide (([e] : List Expr).length + ([] : List Keyword).length + (if ([] : List Keyword).isEmpty then 0 else 1) < 30)) = true)
    (hse : starEach [e] X.env = (false, eval e X.env) :: starEach [] X.env) (hN : X.N[i]? = some x := by rfl) (hv : Vis X.env.scope x := by first | exact Or.inl rfl | exact Or.inr (Or.inl rfl) | exact Or.inr (Or.inr rfl)) (hd : (x == ("__debug__" : Str)) = false := by decide) (hcd : (x == ("__classdict__" : Str)) = false := by decide)
    (hbase : attributeBase (.Name x npos) "append" X.env (eval (.Name x npos) X.env) = eval (.Name x npos) X.env := by rfl) (hline : (apos.endLine == cpos.line) = true := by rfl) (hs : swapsWith (.Call (.Attribute (.Name x npos) "append" apos) [e] [] cpos) none pos.line X.env = pure false := by rfl) :
    PSD K X (.Expr (.Call (.Attribute (.Name x npos) "append" apos) [e] [] cpos) pos) (sAppend i te) :=
  ⟨fun hK => (ps_expr (pe_bm PySem.F.plainAttrs_list PySem.F.slot_list_append PySem.F.type_list_append mt_append (pv i hN hv hd hcd) (pa_cons (he.pe hK) pa_nil hse) hbase hfew hline hse npl_nil) hs).imp fun E σ H ⟨Φ0, H0, Φ, ρ, De, g, V, t, k⟩ => by
    unfold sAppend at t
    split at t
    · next ds ho =>
      obtain ⟨p, vs, e1, h0, hn, hp, rl⟩ := V.ow i ds ho
      refine ⟨_, e1, .inl ⟨rfl, vs, SqL.of hp⟩, H0, Φ, ρ, _, V, t, fun d Φ1 H1 v r g1 rv => ?_⟩
      have hp1 := g1.h _ _ hp
      have hn1 := g1.o _ _ hp hn
      refine ⟨p, vs, v, rfl, rfl, hp1, by rw [rl.1]; exact r.1, k.nx _ Φ1 _ σ r.2.get (gr_put (g.trans g1) h0 hn1) ((V.gr g1).put ho e1 ((rl.same g1.f).append (.one rv)))⟩
    · exact t.elim⟩
/-- y = x.pop() -/
def sPop (i j : Nat) : TSD := fun De ρ => match ρ[i]? with | some (some (.own ds)) => ∃ d, ds[ds.length - 1]? = some d ∧ NF ds.dropLast fun es => De.nx ((ρ.set i (some (.own es))).set j (some (.v d))) | _ => False
theorem s_pop {apos cpos npos py : Pos} {x y : Str} (i j : Nat) (hN2 : X.N.Nodup) (hj : X.N[j]? = some y) (hy : Loc X.env.scope y) (hN : X.N[i]? = some x := by rfl) (hv : Vis X.env.scope x := by first | exact Or.inl rfl | exact Or.inr (Or.inl rfl) | exact Or.inr (Or.inr rfl)) (hd : (x == ("__debug__" : Str)) = false := by decide) (hcd : (x == ("__classdict__" : Str)) = false := by decide)
    (hbase : attributeBase (.Name x npos) "pop" X.env (eval (.Name x npos) X.env) = eval (.Name x npos) X.env := by rfl) (hline : (apos.endLine == cpos.line) = true := by rfl) (hs : swapsWith (.Call (.Attribute (.Name x npos) "pop" apos) [] [] cpos) (some (.Name y py)) pos.line X.env = pure false := by rfl)
    (hf : X.fn y = true ∨ X.env.scope.names.lookup y = some .local := by first | exact .inl rfl | exact .inr rfl | assumption) :
    PSD K X (.Assign [.Name y py] (.Call (.Attribute (.Name x npos) "pop" apos) [] [] cpos) pos) (sPop i j) :=
  ⟨fun hK => (ps_set hN2 hj hy (pe_bm0 PySem.F.plainAttrs_list PySem.F.slot_list_pop PySem.F.type_list_pop mt_pop (pv i hN hv hd hcd) hbase hline) hs hf).imp fun E σ H ⟨Φ0, H0, Φ, ρ, De, g, V, t, k⟩ => by
    unfold sPop at t
    split at t
    · next ds ho =>
      obtain ⟨d, hd, t⟩ := t
      obtain ⟨p, vs, e1, h0, hn, hp, rl⟩ := V.ow i ds ho
      obtain ⟨v, hv, rv⟩ := rl.at hd
      rw [← rl.1] at hv
      exact ⟨_, e1, .inl ⟨rfl, vs, SqL.of hp⟩, p, vs, v, rfl, rfl, hp, hv, k.nx _ Φ _ _ t.get (gr_put g h0 hn) ((V.put ho e1 rl.dropLast).set rv j)⟩
    · exact t.elim⟩
/-- x.pop() -/
def sPop0 (i : Nat) : TSD := fun De ρ => match ρ[i]? with | some (some (.own ds)) => ds ≠ [] ∧ NF ds.dropLast fun es => De.nx (ρ.set i (some (.own es))) | _ => False
theorem s_pop0 {apos cpos npos : Pos} {x : Str} (i : Nat) (hN : X.N[i]? = some x := by rfl) (hv : Vis X.env.scope x := by first | exact Or.inl rfl | exact Or.inr (Or.inl rfl) | exact Or.inr (Or.inr rfl)) (hd : (x == ("__debug__" : Str)) = false := by decide) (hcd : (x == ("__classdict__" : Str)) = false := by decide)
    (hbase : attributeBase (.Name x npos) "pop" X.env (eval (.Name x npos) X.env) = eval (.Name x npos) X.env := by rfl) (hline : (apos.endLine == cpos.line) = true := by rfl) (hs : swapsWith (.Call (.Attribute (.Name x npos) "pop" apos) [] [] cpos) none pos.line X.env = pure false := by rfl) :
    PSD K X (.Expr (.Call (.Attribute (.Name x npos) "pop" apos) [] [] cpos) pos) (sPop0 i) :=
  ⟨fun hK => (ps_expr (pe_bm0 PySem.F.plainAttrs_list PySem.F.slot_list_pop PySem.F.type_list_pop mt_pop (pv i hN hv hd hcd) hbase hline) hs).imp fun E σ H ⟨Φ0, H0, Φ, ρ, De, g, V, t, k⟩ => by
    unfold sPop0 at t
    split at t
    · next ds ho =>
      obtain ⟨hne, t⟩ := t
      obtain ⟨p, vs, e1, h0, hn, hp, rl⟩ := V.ow i ds ho
      have hl : ds.length - 1 < ds.length := by
        have : 0 < ds.length := List.length_pos_iff.mpr hne
        omega
      obtain ⟨v, hv, rv⟩ := rl.at (get_of hl)
      rw [← rl.1] at hv
      exact ⟨_, e1, .inl ⟨rfl, vs, SqL.of hp⟩, p, vs, v, rfl, rfl, hp, hv, k.nx _ Φ _ _ t.get (gr_put g h0 hn) (V.put ho e1 rl.dropLast)⟩
    · exact t.elim⟩
/-- x[k] = e -/
def sPut (i : Nat) (te tk : TD) : TSD := fun De ρ => te ρ fun d => match ρ[i]? with | some (some (.own ds)) => tk ρ fun kk => (match kk with | .int n => ∃ j, ixN ds.length n = some j ∧ NF (ds.set j d) fun es => De.nx (ρ.set i (some (.own es))) | _ => False) | _ => False
theorem s_put {b : Expr} {tk : TD} {npos spos : Pos} {x : Str} (i : Nat) (he : PD K X e te) (hk : PQ K X b tk) (hN : X.N[i]? = some x := by rfl) (hv : Vis X.env.scope x := by first | exact Or.inl rfl | exact Or.inr (Or.inl rfl) | exact Or.inr (Or.inr rfl)) (hd : (x == ("__debug__" : Str)) = false := by decide) (hcd : (x == ("__classdict__" : Str)) = false := by decide)
    (ha : ∀ v, assign (.Subscript (.Name x npos) b spos) X.env v = (do
      let ov ← holding [v] (eval (.Name x npos) X.env)
      let iv ← holding [v, ov] (eval b X.env)
      standAt spos
      holding [v, ov, iv] (setItem ov iv v)
      release [v, ov, iv] []) := by intro _; rfl)
    (hs : swapsWithSole [.Subscript (.Name x npos) b spos] e pos.line X.env = pure false := by rfl) (hw : swappedStores [.Subscript (.Name x npos) b spos] e X.env = pure none := by rfl)
    (h1 : (assignEach [.Subscript (.Name x npos) b spos] X.env).map (·.2) = [assign (.Subscript (.Name x npos) b spos) X.env] := by rfl) :
    PSD K X (.Assign [.Subscript (.Name x npos) b spos] e pos) (sPut i te tk) :=
  ⟨fun hK => (ps_asg (he.pe hK) (pg_sub (pv i hN hv hd hcd) (hk.pe hK) set_list ha) hs hw h1).imp fun E σ H ⟨Φ0, H0, Φ, ρ, De, g, V, t, k⟩ => ⟨H0, Φ, ρ, _, V, t, fun d Φ1 H1 v r g1 rv => by
    have V1 := V.gr g1
    split at r
    · next ds ho =>
      obtain ⟨p, vs, e1, h0, hn, hp, rl⟩ := V1.ow i ds ho
      refine ⟨_, e1, H0, Φ1, ρ, _, V1, r, fun kk Φ2 H2 w r2 g2 rw2 => ?_⟩
      cases kk with
      | int n =>
        obtain ⟨j, hj, r2⟩ := r2
        exact ⟨p, vs, n, j, rfl, rw2.int, g2.h _ _ hp, by rw [rl.1]; exact hj, k.nx _ Φ2 _ σ r2.get (gr_put ((g.trans g1).trans g2) h0 (g2.o _ _ hp hn)) ((V1.gr g2).put ho e1 ((rl.same g2.f).set (rv.same g2.f) j))⟩
      | _ => exact r2.elim
    · exact r.elim⟩⟩
/-- x += e, ints -/
def sAugI (i : Nat) (f : Int → Int → Int) (te : TD) : TSD := fun De ρ => match ρ[i]? with | some (some (.v (.int n))) => te ρ fun d => (match d with | .int m => De.nx (ρ.set i (some (.v (.int (f n m))))) | _ => False) | _ => False
theorem s_augI {x : Str} {op : Operator} {f : Int → Int → Int} {pos' : Pos} (i : Nat) (hop : PIp X op (ipI f)) (hN : X.N.Nodup) (hi : X.N[i]? = some x) (hx : Loc X.env.scope x) (he : PD K X e te)
    (hf : X.fn x = true ∨ X.env.scope.names.lookup x = some .local := by first | exact .inl rfl | exact .inr rfl | assumption) : PSD K X (.AugAssign (.Name x pos') op e pos) (sAugI i f te) :=
  ⟨fun hK => (ps_aug hN hi hx (he.pe hK) hop hf).imp fun E σ H ⟨Φ0, H0, Φ, ρ, De, g, V, t, k⟩ => by
    unfold sAugI at t
    split at t
    · next n ho =>
      obtain ⟨v, e1, r⟩ := V.sl i _ ho
      cases r
      refine ⟨_, e1, H0, Φ, ρ, _, V, t, fun d Φ1 H1 w r1 g1 rw1 => ?_⟩
      cases d with
      | int m => cases rw1; exact ⟨n, m, rfl, rfl, k.nx _ Φ1 H1 _ r1 (g.trans g1) ((V.gr g1).set (.int _) i)⟩
      | _ => exact r1.elim
    · exact t.elim⟩
end
/-! ### defs -/
def startD (N : List Str) (ds : List D) : Rho := ds.map (fun d => some (.v d)) ++ List.replicate (N.length - ds.length) none
theorem env_start {K : PySem.W.Frag} {Φ H : Hp} {N : List Str} {ds : List D} {vs : List V} (sm : Same Φ H) (r : RpL K Φ ds vs) : EnvD K H Φ H (start N vs) (startD N ds) := by
  have own : ∀ {i : Nat} {x : Sl}, (startD N ds)[i]? = some (some x) → ∃ d, ds[i]? = some d ∧ x = .v d := fun {i x} h => by
    unfold startD at h
    rcases Nat.lt_or_ge i (ds.map fun d => some (Sl.v d)).length with c | c
    · rw [List.getElem?_append_left c, List.getElem?_map] at h
      cases e : ds[i]? with
      | none => rw [e] at h; cases h
      | some d => rw [e] at h; cases h; exact ⟨d, rfl, rfl⟩
    · rw [List.getElem?_append_right c, List.getElem?_replicate] at h
      split at h
      · cases h
      · cases h
  refine ⟨sm, by unfold start startD; simp [r.1], fun i d h => ?_, fun i es h => ?_, fun i j es fs p h => ?_⟩
  · obtain ⟨d', h1, h2⟩ := own h
    cases h2
    obtain ⟨v, hv, rv⟩ := r.at h1
    refine ⟨v, ?_, rv⟩
    unfold start
    rw [List.getElem?_append_left (by rw [List.length_map]; exact lt_of_at hv), List.getElem?_map, hv]
    rfl
  · obtain ⟨d', h1, h2⟩ := own h
    cases h2
  · obtain ⟨d', h1, h2⟩ := own h
    cases h2
section
variable {P : Program} {w : World} {K : PySem.W.Frag} {mg : Str → Option Value} {base : Heap}
/-- THE RULE for a def over plain data -/
theorem Fun.okD {x qual : Str} {st : Stmt} {f : Addr} {fd : FuncData} {N ps : List Str} {k : Nat} {sp : SpD} (F : Fun K x qual st f fd) (S : FnScope N ps (defScope st)) (len : ∀ ds R, sp ds R → ds.length = ps.length)
    (hbody : ∀ (cdv : Value) (A : Around) (outer : List Env) (s : Shared) (H : Hp) (E : XK) (ds : List D) (R : D → Prop), Room k (A.deeper (envOfC qual (defScope st) s.heap.objs.size f cdv)) → sp ds R →
      ∃ t, PSsD K (cxOf CX0 P w K mg base N qual (defScope st) f cdv A outer s H E).nox (defBody st) t ∧ t { nx := fun _ => R .non, rt := R } (startD N ds)) : FnOk P w K mg base CX0 (k + 1) f fd ps (lSp K sp) := by
  refine F.ok S (fun vs H Q E ⟨Φ, ds, R, sm, rl, h, _⟩ => by rw [rl.1]; exact len ds R h) (fun cdv A outer s H vs Q E hr ⟨Φ, ds, R, sm, rl, h, kk⟩ => ?_)
  obtain ⟨t, ht, hq⟩ := hbody cdv A outer s H E ds R hr h
  exact ⟨lS K t, ht.ps rfl, Φ, H, Φ, startD N ds, _, .refl sm, env_start sm rl, hq, ⟨fun ρ' Φ' H' σ' r g V => kk .non Φ' H' .non r g .non, kk, fun _ _ _ _ h => h.elim, fun _ _ _ _ h => h.elim⟩⟩
/-- a spec in the old words serves one over plain data -/
theorem FnOk.toD {CX : CXT} {k : Nat} {f : Addr} {fd : FuncData} {ps : List Str} {sp : Sp} {spD : SpD} (F : FnOk P w K mg base CX k f fd ps sp) (h : ∀ vs H Q E, lSp K spD vs H Q E → sp vs H Q E) : FnOk P w K mg base CX k f fd ps (lSp K spD) := F.imp h
end
end L2
set_option Elab.async false
set_option linter.all false
set_option maxRecDepth 100000
set_option maxHeartbeats 4000000
namespace L2
open PySem PySem.Spec PyProof.Rows
/-! ### whatever sequence it is -/
def Itb (K : PySem.W.Frag) (b : Bool) (a : Addr) : It := match b with | true => Itl K a | false => Itt K a
section
variable {K : PySem.W.Frag} {X : Cx} {tg e a b : Expr} {es : List Expr} {pos p tp : Pos} {t ta tb : TD} {tl : TDL}
theorem pi_any {l : Expr} {tl : TE} (hK : X.K = K) (hl : PE X l tl) : PI X tg l (fun σ H R => tl σ H fun x H1 => ∃ q a, x = .ref a ∧ (∃ xs, SqB K q H1 a xs) ∧ R (Itb K q a) H1) := by
  subst hK
  intro pins s σ H R I h
  refine thn (hl pins s σ H _ I h) fun v s1 ⟨x, H1, I1, r1, q1⟩ => ?_
  obtain ⟨bb, a, e, ⟨xs, hq⟩, q⟩ := q1
  subst e
  cases r1
  have fp : ∀ b ∈ [s1.heap.objs.size], FpOk X pins H1 b := fun b hb => by
    have e : b = s1.heap.objs.size := by simpa using hb
    subst e
    exact I1.fpOk (Nat.le_refl _) (I1.hok.fresh (Nat.le_refl _))
  cases bb with
  | true =>
    obtain ⟨its, rv, p, hz⟩ := I1.list hq
    refine wpAny_pyIter_list p.isList ?_
    exact ⟨s1.heap.objs.size, [s1.heap.objs.size], _, _, H1, rfl, I1.kept (t' := s1.toks) fun b o e => Heap.get?_push_of_some _ e, turn_list a _, ⟨_, Heap.get?_push_size _ rfl, rfl, rfl⟩, fp, q⟩
  | false =>
    obtain ⟨its, rv, p, hz⟩ := I1.tuple hq
    refine wpAny_pyIter_tuple (show s1.heap.IsTuple a its.toArray from p) ?_
    exact ⟨s1.heap.objs.size, [s1.heap.objs.size], _, _, H1, rfl, I1.kept (t' := s1.toks) fun b o e => Heap.get?_push_of_some _ e, turn_tuple a _, ⟨_, Heap.get?_push_size _ rfl, rfl, rfl⟩, fp, q⟩
theorem steadyD_any {Φ : Hp} {ds : List D} {vs : List V} {a : Addr} {q : Bool} (h : SqB K q Φ a vs) (r : RpL K Φ ds vs) : SteadyD K (Itb K q a) Φ ds := by
  cases q with
  | true => exact steadyD_list h r
  | false => exact steadyD_tup h r
def iSeq (t : TD) : TDL := fun ρ R => t ρ fun d => match d with | .lst ds => R ds | .tup ds => R ds | .fzl ds => R ds | _ => False
theorem iseq_of {d : D} {R : List D → Prop} (h : match d with | .lst ds => R ds | .tup ds => R ds | .fzl ds => R ds | _ => False) : ∃ ds, seqD d = some ds ∧ R ds := by
  cases d with
  | lst ds => exact ⟨ds, rfl, h⟩
  | tup ds => exact ⟨ds, rfl, h⟩
  | fzl ds => exact ⟨ds, rfl, h⟩
  | _ => exact h.elim
theorem i_seq (h : PD K X e t) : PID K X tg e (iSeq t) := ⟨fun hK => (pi_any hK (h.pe hK)).imp fun σ H R' ⟨H0, Φ, ρ, R, E, t, k⟩ => ⟨H0, Φ, ρ, _, E, t, fun d Φ1 H1 v r g rv => by
  obtain ⟨ds, e1, r⟩ := iseq_of r
  obtain ⟨q, a, vs, rfl, h1, h2⟩ := rv.seq e1
  exact ⟨q, a, rfl, ⟨vs, SqB.same g.s h1⟩, k _ Φ1 H1 _ r g (steadyD_any h1 h2)⟩⟩⟩
theorem pi_enumU {a : Expr} {ta : TA} {es : List Expr} {k : Nat} (hK : X.K = K) (hg : Gl X "enumerate") (hm : X.mg "enumerate" = none) (ha : PA X [a] ta) (hs : starEach [a] X.env = [(false, eval a X.env)]) :
    PI X (.Tuple es k tp) (.Call (.Name "enumerate" p) [a] [] pos) (fun σ H R => ta σ H fun vs H1 => ∃ b a xs, vs = [.ref a] ∧ SqB K b H1 a xs ∧ R (Ite K b a) H1) := by
  subst hK
  intro pins s σ H R I h
  refine Call_ (ld_blt I hg hm boot_enumerate (PyProof.Rows.callWith_type1 (thn (ha pos pins s σ H _ I h) fun us s1 ⟨vs, H1, I1, r1, q1⟩ => ?_) hs rfl))
  obtain ⟨b, l, xs, e, hq, q⟩ := q1
  subst e
  cases r1 with
  | cons r rr =>
    cases rr
    cases r
    obtain ⟨its, rv, p, hz⟩ := I1.sqb hq
    refine call_enum p fun h' he hi hsz hk => wpAny_pyIter_enum he ?_
    have I2 : Inv X pins σ H1 { s1 with heap := h' } := I1.kept (t' := s1.toks) hk
    have fr : ∀ c, s1.heap.objs.size ≤ c → FpOk X pins H1 c := fun c hc => I1.fpOk hc (I1.hok.fresh hc)
    exact ⟨s1.heap.objs.size + 1, [s1.heap.objs.size + 1, s1.heap.objs.size], _, _, H1, rfl, I2, turn_enum b l _ _ (Nat.succ_ne_self _), ⟨⟨_, he⟩, hi⟩, fun c hc => by
      rcases List.mem_cons.mp hc with rfl | hc
      · exact fr _ (Nat.le_succ _)
      · rw [List.mem_singleton.mp hc]; exact fr _ (Nat.le_refl _), q⟩
theorem pi_zipU {a b : Expr} {ta : TA} {es : List Expr} {k : Nat} (hK : X.K = K) (hg : Gl X "zip") (hm : X.mg "zip" = none) (ha : PA X [a, b] ta) (hs : starEach [a, b] X.env = [(false, eval a X.env), (false, eval b X.env)]) (hs2 : starEach [b] X.env = [(false, eval b X.env)]) :
    PI X (.Tuple es k tp) (.Call (.Name "zip" p) [a, b] [] pos) (fun σ H R => ta σ H fun vs H1 => ∃ b1 b2 a1 a2 xs ys, vs = [.ref a1, .ref a2] ∧ SqB K b1 H1 a1 xs ∧ SqB K b2 H1 a2 ys ∧ R (Itz K b1 a1 b2 a2) H1) := by
  subst hK
  intro pins s σ H R I h
  refine Call_ (ld_blt I hg hm boot_zip (PyProof.Rows.callWith_type1 (thn (ha pos pins s σ H _ I h) fun us s1 ⟨vs, H1, I1, r1, q1⟩ => ?_) (by rw [hs, hs2]) (by rw [hs2]; rfl)))
  obtain ⟨b1, b2, l1, l2, xs, ys, e, hq1, hq2, q⟩ := q1
  subst e
  cases r1 with
  | cons r rr =>
    cases rr with
    | cons r' rr =>
      cases rr
      cases r
      cases r'
      obtain ⟨its1, rv1, p1, _⟩ := I1.sqb hq1
      obtain ⟨its2, rv2, p2, _⟩ := I1.sqb hq2
      refine call_zip p1 p2 fun h' z1 z2 z3 z4 z5 hk => wpAny_pyIter_zip z1 ?_
      have I2 : Inv X pins σ H1 { s1 with heap := h' } := I1.kept (t' := s1.toks) hk
      have fr : ∀ c, s1.heap.objs.size ≤ c → FpOk X pins H1 c := fun c hc => I1.fpOk hc (I1.hok.fresh hc)
      generalize s1.heap.objs.size = n at *
      refine ⟨n + 4, [n + 4, n + 2, n + 3, n, n + 1], _, _, H1, rfl, I2, turn_zip b1 b2 l1 l2 (n + 4) (n + 2) (n + 3) n (n + 1) (zap n), ⟨z1, z2, ⟨_, _, z3⟩, z4, z5⟩, fun c hc => fr c ?_, q⟩
      simp only [List.mem_cons, List.not_mem_nil, or_false] at hc
      rcases hc with rfl | rfl | rfl | rfl | rfl
      · exact Nat.le_add_right _ _
      · exact Nat.le_add_right _ _
      · exact Nat.le_add_right _ _
      · exact Nat.le_refl _
      · exact Nat.le_add_right _ _
def iEnumU (t : TDL) : TDL := fun ρ R => t ρ fun ds => match ds with | [.lst xs] => R (enumD xs) | [.tup xs] => R (enumD xs) | [.fzl xs] => R (enumD xs) | _ => False
theorem i_enumU {ets : List Expr} {ek : Nat} (hg : Gl X "enumerate") (hm : X.mg "enumerate" = none) (ha : PAD K X [a] tl) (hs : starEach [a] X.env = [(false, eval a X.env)] := by rfl) : PID K X (.Tuple ets ek tp) (.Call (.Name "enumerate" p) [a] [] pos) (iEnumU tl) :=
  ⟨fun hK => (pi_enumU hK hg hm (ha.pa hK) hs).imp fun σ H R' ⟨H0, Φ, ρ, R, E, t, k⟩ => ⟨H0, Φ, ρ, _, E, t, fun ds Φ1 H1 vs r g rv _ => by
    have fin : ∀ {d : D} {xs : List D}, RpL K Φ1 [d] vs → seqD d = some xs → R (enumD xs) → ∃ b a xs, vs = [.ref a] ∧ SqB K b H1 a xs ∧ R' (Ite K b a) H1 := fun {d xs} rv hx r => by
      obtain ⟨v, rfl, r1⟩ := rv.one_inv
      obtain ⟨q, a, ws, rfl, h1, h2⟩ := r1.seq hx
      exact ⟨q, a, ws, rfl, SqB.same g.s h1, k _ Φ1 H1 _ r g (steadyD_enum h1 h2)⟩
    match ds, r with
    | [.lst xs], r => exact fin rv rfl r
    | [.tup xs], r => exact fin rv rfl r
    | [.fzl xs], r => exact fin rv rfl r⟩⟩
def iZipU (t : TDL) : TDL := fun ρ R => t ρ fun ds => match ds with | [d, e] => ∃ xs ys, seqD d = some xs ∧ seqD e = some ys ∧ R (zipD xs ys) | _ => False
theorem i_zipU {ets : List Expr} {ek : Nat} (hg : Gl X "zip") (hm : X.mg "zip" = none) (ha : PAD K X [a, b] tl) (hs : starEach [a, b] X.env = [(false, eval a X.env), (false, eval b X.env)] := by rfl) (hs2 : starEach [b] X.env = [(false, eval b X.env)] := by rfl) : PID K X (.Tuple ets ek tp) (.Call (.Name "zip" p) [a, b] [] pos) (iZipU tl) :=
  ⟨fun hK => (pi_zipU hK hg hm (ha.pa hK) hs hs2).imp fun σ H R' ⟨H0, Φ, ρ, R, E, t, k⟩ => ⟨H0, Φ, ρ, _, E, t, fun ds Φ1 H1 vs r g rv _ => by
    match ds, r with
    | [d, e], ⟨xs, ys, hx, hy, r⟩ =>
      obtain ⟨v, w, rfl, r1, r2⟩ := rv.two_inv
      obtain ⟨q1, a1, ws, rfl, h1, h2⟩ := r1.seq hx
      obtain ⟨q2, a2, us, rfl, h3, h4⟩ := r2.seq hy
      exact ⟨q1, q2, a1, a2, ws, us, rfl, SqB.same g.s h1, SqB.same g.s h3, k _ Φ1 H1 _ r g (steadyD_zip h1 h3 h2 h4)⟩⟩⟩
variable {gs : TGDs}
/-- a, b = a tuple or a list -/
def gSeqD (n : Nat) (t : TGDs) : TGD := fun d ρ R => match d with | .tup ds => ds.length = n ∧ t ds ρ R | .lst ds => ds.length = n ∧ t ds ρ R | _ => False
theorem PG.or {tg : Expr} {t t' : TG} (h : PG X tg t) (h' : PG X tg t') : PG X tg (fun v σ H Q => t v σ H Q ∨ t' v σ H Q) := by
  intro pins s σ H v u Q I r hw
  rcases hw with hw | hw
  · exact h pins s σ H v u Q I r hw
  · exact h' pins s σ H v u Q I r hw
theorem g_seq {k n : Nat} (hc : X.calm = true) (h : PGDs K X es gs) (hn : (assignEach es X.env).length = n := by rfl) (hst : (assignEach es X.env).findIdx? (·.1) = none := by rfl) : PGD K X (.Tuple es k pos) (gSeqD n gs) :=
  ⟨fun hK => ((pg_tupK' hK hc (h.pg hK) hn hst).or (pg_lstK' hK hc (h.pg hK) hn hst)).imp fun v σ H Q ⟨H0, Φ, ρ, d, R, E, r, g, k⟩ => by
    cases d with
    | tup ds => cases r with | tup h1 h2 h3 => exact .inl ⟨_, _, rfl, E.fz.sqt h1, by rw [h2]; exact g.1, H0, Φ, ρ, ds, R, E, ⟨h2, h3⟩, g.2, k⟩
    | lst ds => cases r with | lst h1 h2 h3 => exact .inr ⟨_, _, rfl, .of (E.fz _ _ h1), by rw [h2]; exact g.1, H0, Φ, ρ, ds, R, E, ⟨h2, h3⟩, g.2, k⟩
    | _ => exact g.elim⟩
theorem gm_seq {k n : Nat} {t : TGDs} (h : GMs k t) : GM k (gSeqD n t) := ⟨⟨fun d ρ R r => by
  cases d with
  | tup ds => exact ⟨r.1, h.k.p ds ρ R r.2⟩
  | lst ds => exact ⟨r.1, h.k.p ds ρ R r.2⟩
  | _ => exact r⟩, fun d ρ R R' hr r => by
  cases d with
  | tup ds => exact ⟨r.1, h.m ds ρ R R' hr r.2⟩
  | lst ds => exact ⟨r.1, h.m ds ρ R R' hr r.2⟩
  | _ => exact r⟩
/-! ### isinstance -/
theorem isi_of {Φ H : Hp} {d : D} {v : V} {T : String} {r : Bool} (s : Same Φ H) (h : RpQ K Φ H d v) (e : isiD d T = some r) : IsiV K H v T r := by
  have sp : ∀ {c : Prop} [Decidable c] {x : Bool} {y : Option Bool}, (if c then some x else y) = some r → (c ∧ x = r) ∨ y = some r := fun {c _ x y} h => by
    by_cases hc : c
    · rw [if_pos hc] at h; cases h; exact .inl ⟨hc, rfl⟩
    · rw [if_neg hc] at h; exact .inr h
  cases d with
  | int i =>
    cases h.int
    rcases sp e with ⟨rfl, rfl⟩ | e
    · exact .int_int _
    rcases sp e with ⟨rfl, rfl⟩ | e
    · exact .int_bool _
    rcases sp e with ⟨rfl, rfl⟩ | e
    · exact .int_tuple _
    rcases sp e with ⟨rfl, rfl⟩ | e
    · exact .int_str _
    cases e
  | bl i =>
    cases h.bl
    rcases sp e with ⟨rfl, rfl⟩ | e
    · exact .bl_int _
    rcases sp e with ⟨rfl, rfl⟩ | e
    · exact .bl_bool _
    rcases sp e with ⟨rfl, rfl⟩ | e
    · exact .bl_tuple _
    cases e
  | str i =>
    cases h.str
    rcases sp e with ⟨rfl, rfl⟩ | e
    · exact .str_str _
    rcases sp e with ⟨rfl, rfl⟩ | e
    · exact .str_tuple _
    cases e
  | non => cases e
  | tup ds =>
    obtain ⟨a, vs, rfl, h1, _, h2⟩ := h.tup s
    rcases sp e with ⟨rfl, rfl⟩ | e
    · exact .tup_tuple h1
    rcases sp e with ⟨rfl, rfl⟩ | e
    · exact .tup_int h1
    cases e
  | lst ds =>
    obtain ⟨a, vs, rfl, h1, h2⟩ := h.lst s
    rcases sp e with ⟨rfl, rfl⟩ | e
    · exact .lst_tuple (.of h1)
    rcases sp e with ⟨rfl, rfl⟩ | e
    · exact .lst_list (.of h1)
    cases e
  | fzl ds => cases e
def dIsi (T : String) (t : TD) : TD := fun ρ R => t ρ fun d => ∃ r, isiD d T = some r ∧ R (.bl r)
theorem d_isi {T : String} {tx : Str} {p2 : Pos} (hg : Gl X "isinstance") (hm : X.mg "isinstance" = none) (ha : PQ K X a t) (hT : PE X (.Name tx p2) (tC (.ty T)))
    (he : starEach [a, .Name tx p2] X.env = (false, eval a X.env) :: starEach [.Name tx p2] X.env) (he2 : starEach [.Name tx p2] X.env = (false, eval (.Name tx p2) X.env) :: starEach [] X.env) : PD K X (.Call (.Name "isinstance" p) [a, .Name tx p2] [] pos) (dIsi T t) :=
  ⟨fun hK => (pe_callB (call_isiK hK) hg hm boot_isinstance (pa_cons (ha.pe hK) (pa_cons hT pa_nil he2) he) (by decide) (by decide) he (npl_cons he2 npl_nil)).imp fun σ H Q ⟨H0, Φ, ρ, R, E, t, k⟩ => ⟨H0, Φ, ρ, _, E, t, fun d Φ1 H1 v r g rv => by
    obtain ⟨rr, hr, r⟩ := r
    exact ⟨v, T, rr, rfl, isi_of g.s rv hr, k _ Φ1 H1 _ r g (.bl _)⟩⟩⟩
theorem isi_bb (b : Bool) : isiD (.bl b) "bool" = some true := rfl
theorem isi_bi (b : Bool) : isiD (.bl b) "int" = some true := rfl
theorem isi_ii (i : Int) : isiD (.int i) "int" = some true := rfl
theorem isi_ib (i : Int) : isiD (.int i) "bool" = some false := rfl
theorem isi_it (i : Int) : isiD (.int i) "tuple" = some false := rfl
theorem isi_tt (xs : List D) : isiD (.tup xs) "tuple" = some true := rfl
theorem isi_ti (xs : List D) : isiD (.tup xs) "int" = some false := rfl
theorem isi_lt (xs : List D) : isiD (.lst xs) "tuple" = some false := rfl
theorem isi_ll (xs : List D) : isiD (.lst xs) "list" = some true := rfl
theorem isi_ss (x : Str) : isiD (.str x) "str" = some true := rfl
end
end L2
set_option Elab.async false
set_option linter.all false
set_option maxRecDepth 100000
set_option maxHeartbeats 4000000
namespace L2
open PySem PySem.Spec PyProof.Rows
/-! ### small words over plain data -/
theorem map_atD {α : Type} {f : α → D} {ns : List α} {i : Nat} {x : D} (h : (ns.map f)[i]? = some x) : ∃ k, x = f k ∧ ns[i]? = some k := by
  rw [List.getElem?_map] at h
  cases e : ns[i]? with
  | none => rw [e] at h; cases h
  | some k => rw [e] at h; cases h; exact ⟨k, rfl, rfl⟩
theorem map_intD {ns : List Int} {i : Nat} {x : D} (h : (ns.map D.int)[i]? = some x) : ∃ k, x = .int k ∧ ns[i]? = some k := map_atD h
theorem at_map {α : Type} {f : α → D} {ns : List α} {i : Nat} {n : α} {k : Int} (h : ns[i]? = some n) (e : k = (i : Int)) : atI (ns.map f) k = some (f n) := atI_of (by rw [List.getElem?_map, h]; rfl) e
theorem at_intD {ns : List Int} {k : Int} (h0 : 0 ≤ k) (h : k < (ns.length : Int)) : ∃ v : Int, atI (ns.map D.int) k = some (.int v) := by
  have hk : k.toNat < ns.length := by omega
  exact ⟨_, at_map (get_of hk) (by omega)⟩
/-- the law's own promise -/
def z_lawS : SpD := fun ds R => ∃ ns : List Int, ds = [.fzl (ns.map D.int)] ∧ ns.length ≤ 63 ∧ R (.bl true)
def spLaw (K : PySem.W.Frag) : Sp := fun vs H Q _ => ∃ (a : Addr) (ns : List Int), vs = [.ref a] ∧ SqL K H a (ns.map V.int) ∧ ns.length ≤ 63 ∧ ∀ H', Q (.bl true) H'
theorem conv_law {K : PySem.W.Frag} : ∀ vs H Q E, spLaw K vs H Q E → lSp K z_lawS vs H Q E := by
  rintro vs H Q E ⟨a, ns, rfl, hS, hl, q⟩
  refine ⟨H, [.fzl (ns.map D.int)], fun d => d = .bl true, Same.refl _, .one ((RpL.ints ns).fzl hS), ⟨ns, rfl, hl, rfl⟩, fun d Φ' H' v r g rv => ?_⟩
  subst r
  cases rv
  exact q _
end L2
set_option Elab.async false
set_option linter.all false
set_option maxRecDepth 100000
set_option maxHeartbeats 4000000
namespace L2
open PySem PySem.Spec PyProof.Rows
/-! ### rows, shares as plain data -/
def rowD (r : Row) : D := .tup [.tup (r.1.map D.int), .int r.2]
def prD (s : Int × Int) : D := .tup [.int s.1, .int s.2]
section
variable {K : PySem.W.Frag} {H H' Φ : Hp} {v : V} {vs : List V}
theorem rp_ints {ns : List Int} {a : V} (h : Rp K H (.tup (ns.map D.int)) a) : ∃ x, a = .ref x ∧ SqT K H x (ns.map V.int) := by
  cases h with | tup h1 h2 h3 => exact ⟨_, rfl, by rw [← vs_ints ⟨h2, h3⟩]; exact h1⟩
theorem rp_row {r : Row} (h : Rp K H (rowD r) v) : IsR K H v r := by
  cases h with | tup h1 h2 h3 =>
    obtain ⟨u, w, rfl, r1, r2⟩ := RpL.two_inv (K := K) ⟨h2, h3⟩
    obtain ⟨x, rfl, hx⟩ := rp_ints r1
    cases r2
    exact ⟨_, x, rfl, h1, hx⟩
theorem rp_pr {s : Int × Int} (h : Rp K H (prD s) v) : IsP K H v s := by
  cases h with | tup h1 h2 h3 =>
    obtain ⟨u, w, rfl, r1, r2⟩ := RpL.two_inv (K := K) ⟨h2, h3⟩
    cases r1
    cases r2
    exact ⟨_, rfl, h1⟩
theorem RpL.al {α : Type} {f : α → D} {R : V → α → Prop} {xs : List α} (h : RpL K H (xs.map f) vs) (hr : ∀ v x, Rp K H (f x) v → R v x) : Al2 R vs xs := ⟨by rw [h.1, List.length_map], fun i v hv => by
  obtain ⟨d, hd, r⟩ := h.at' hv
  obtain ⟨x, rfl, hx⟩ := map_atD hd
  exact ⟨x, hx, hr v x r⟩⟩
theorem RpL.rows {rs : List Row} (h : RpL K H (rs.map rowD) vs) : Rows K H vs rs := h.al fun _ _ => rp_row
theorem RpL.prs {ss : List (Int × Int)} (h : RpL K H (ss.map prD) vs) : Shs K H vs ss := h.al fun _ _ => rp_pr
theorem Gr.keep (s : Same Φ H) (h : Same H H') : Gr Φ H Φ H' := ⟨Same.refl _, h, s.trans h, fun _ _ _ n => n⟩
end
theorem cutL_map {α β : Type} (f : α → β) (xs : List α) (lo hi : Option Int) : cutL (xs.map f) lo hi = (cutL xs lo hi).map f := by
  unfold cutL
  rw [List.length_map, List.map_take, List.map_drop]
theorem rep_map (k : Nat) (zs : List Int) : (List.replicate k (zs.map D.int)).flatten = ((List.replicate k zs).flatten).map D.int := by
  induction k with
  | zero => rfl
  | succ k ih => rw [List.replicate_succ, List.flatten_cons, ih, List.replicate_succ, List.flatten_cons, List.map_append]
theorem rep_one (k : Nat) (z : Int) : (List.replicate k [D.int z]).flatten = (List.replicate k z).map D.int := by
  induction k with
  | zero => rfl
  | succ k ih => rw [List.replicate_succ, List.flatten_cons, ih]; rfl
/-! ### comprehensions by functions -/
section
variable {g : TGD} {te : TD} {ρ : Rho} {R : List D → Prop}
theorem compN_of {ds : List D} (ws : List D) (hw : ws.length = ds.length) (hlen : ds.length < sizeLine) (Q : Nat → D → Prop) (hQ : ∀ i y, Q i y → ws[i]? = some y) (hb : ∀ i d, ds[i]? = some d → g d ρ fun ρ1 => te ρ1 (Q i)) (k : R ws) :
    ds.length < sizeLine ∧ ∃ P : Nat → D → Prop, (∀ i d, ds[i]? = some d → g d ρ fun ρ1 => te ρ1 (P i)) ∧ ∀ ys : List D, ys.length = ds.length → (∀ i y, ys[i]? = some y → P i y) → R ys := by
  refine ⟨hlen, Q, hb, fun ys hl hy => ?_⟩
  have : ys = ws := by
    refine List.ext_getElem? fun i => ?_
    rcases Nat.lt_or_ge i ys.length with c | c
    · rw [get_of c, hQ i _ (hy i _ (get_of c))]
    · rw [List.getElem?_eq_none c, List.getElem?_eq_none (by omega)]
  rw [this]
  exact k
/-- .. over the values of a list -/
theorem compN_map {α : Type} {f : α → D} {xs : List α} (h : α → D) (hlen : xs.length < sizeLine) (hb : ∀ x ∈ xs, g (f x) ρ fun ρ1 => te ρ1 fun y => y = h x) (k : R (xs.map h)) :
    (xs.map f).length < sizeLine ∧ ∃ P : Nat → D → Prop, (∀ i d, (xs.map f)[i]? = some d → g d ρ fun ρ1 => te ρ1 (P i)) ∧ ∀ ys : List D, ys.length = (xs.map f).length → (∀ i y, ys[i]? = some y → P i y) → R ys := by
  refine compN_of (xs.map h) (by simp) (by rw [List.length_map]; exact hlen) (fun i => match xs[i]? with | some x => fun y => y = h x | none => fun _ => False) (fun i y q => ?_) (fun i d hd => ?_) k
  · rw [List.getElem?_map]
    cases e : xs[i]? with
    | none => rw [e] at q; exact q.elim
    | some x => rw [e] at q; rw [q]; rfl
  · obtain ⟨x, rfl, hx⟩ := map_atD hd
    have e : (match xs[i]? with | some x => fun y => y = h x | none => fun _ => False : D → Prop) = fun y => y = h x := by rw [hx]
    rw [e]
    exact hb x (List.mem_of_getElem? hx)
theorem compN_range {lo : Int} {n : Nat} (h : Nat → D) (hlen : n < sizeLine) (hb : ∀ i, i < n → g (.int (lo + (i : Nat))) ρ fun ρ1 => te ρ1 fun y => y = h i) (k : R ((List.range n).map h)) :
    (rangeD lo n).length < sizeLine ∧ ∃ P : Nat → D → Prop, (∀ i d, (rangeD lo n)[i]? = some d → g d ρ fun ρ1 => te ρ1 (P i)) ∧ ∀ ys : List D, ys.length = (rangeD lo n).length → (∀ i y, ys[i]? = some y → P i y) → R ys :=
  compN_map (f := fun i : Nat => D.int (lo + (i : Nat))) (xs := List.range n) h (by rw [List.length_range]; exact hlen) (fun x hx => hb x (List.mem_range.mp hx)) k
theorem zip_map {α β : Type} (f : α → D) (h : β → D) (xs : List α) (ys : List β) : zipD (xs.map f) (ys.map h) = (List.zip xs ys).map fun p => .tup [f p.1, h p.2] := by
  unfold zipD
  rw [List.zipWith_map, List.map_zip_eq_zipWith]
  rfl
theorem compN_zip {α β : Type} {f : α → D} {h : β → D} {xs : List α} {ys : List β} (w : α → β → D) (hlen : xs.length < sizeLine) (hb : ∀ x ∈ xs, ∀ y ∈ ys, g (.tup [f x, h y]) ρ fun ρ1 => te ρ1 fun z => z = w x y) (k : R (List.zipWith w xs ys)) :
    (zipD (xs.map f) (ys.map h)).length < sizeLine ∧ ∃ P : Nat → D → Prop, (∀ i d, (zipD (xs.map f) (ys.map h))[i]? = some d → g d ρ fun ρ1 => te ρ1 (P i)) ∧ ∀ zs : List D, zs.length = (zipD (xs.map f) (ys.map h)).length → (∀ i y, zs[i]? = some y → P i y) → R zs := by
  rw [zip_map]
  refine compN_map (fun p : α × β => w p.1 p.2) ?_ (fun p hp => hb p.1 (List.of_mem_zip hp).1 p.2 (List.of_mem_zip hp).2) ?_
  · rw [List.length_zip]; omega
  · rw [List.map_zip_eq_zipWith]; exact k
end
end L2
namespace L2
theorem ff {p : Prop} (h : false = true) : p := by cases h
theorem tf {p : Prop} (h : true = false) : p := by cases h
end L2
namespace L2
theorem any_of {α : Type} {xs : List α} {p : α → Bool} {b : Bool} (h : (fun bs : List Bool => bs.any id) (xs.map p) = b) : xs.any p = b := by
  have h' : (xs.map p).any id = b := h
  rw [List.any_map] at h'
  exact h'
theorem all_of {α : Type} {xs : List α} {p : α → Bool} {b : Bool} (h : (fun bs : List Bool => bs.all id) (xs.map p) = b) : xs.all p = b := by
  have h' : (xs.map p).all id = b := h
  rw [List.all_map] at h'
  exact h'
end L2
namespace L2
theorem snocM {α : Type} (f : α → D) (es : List α) (d : α) : es.map f ++ [f d] = (es ++ [d]).map f := by simp
theorem catM {α : Type} (f : α → D) (es fs : List α) : es.map f ++ fs.map f = (es ++ fs).map f := by simp
end L2
namespace L2
open PySem PySem.Spec PyProof.Rows
section
variable {g : TGD} {te : TD} {ρ : Rho} {R : List D → Prop}
/-- .. whole numbers come out -/
theorem compN_int {α : Type} {f : α → D} {xs : List α} (h : α → Int) (hlen : xs.length < sizeLine) (hb : ∀ x ∈ xs, g (f x) ρ fun ρ1 => te ρ1 fun y => y = .int (h x)) (k : R ((xs.map h).map D.int)) :
    (xs.map f).length < sizeLine ∧ ∃ P : Nat → D → Prop, (∀ i d, (xs.map f)[i]? = some d → g d ρ fun ρ1 => te ρ1 (P i)) ∧ ∀ ys : List D, ys.length = (xs.map f).length → (∀ i y, ys[i]? = some y → P i y) → R ys :=
  compN_map (fun x => D.int (h x)) hlen hb (by rw [List.map_map] at k; exact k)
end
theorem ex_map {α : Type} {f : α → D} {P : α → Prop} : ∀ {ys : List D}, (∀ (i : Nat) y, ys[i]? = some y → ∃ x, P x ∧ y = f x) → ∃ xs : List α, ys = xs.map f ∧ ∀ x ∈ xs, P x
  | [], _ => ⟨[], rfl, fun x hx => absurd hx List.not_mem_nil⟩
  | y :: ys, h => by
    obtain ⟨x, hx, rfl⟩ := h 0 y rfl
    obtain ⟨xs, rfl, hxs⟩ := ex_map (ys := ys) fun i y hy => h (i + 1) y hy
    exact ⟨x :: xs, rfl, fun z hz => by
      rcases List.mem_cons.mp hz with rfl | hz
      · exact hx
      · exact hxs z hz⟩
end L2
set_option Elab.async false
set_option linter.all false
set_option maxRecDepth 100000
set_option maxHeartbeats 4000000
namespace L2
open PySem PySem.Spec PyProof.Rows
theorem all_same {n : Nat} {g g' : Nat → Bool} (h : ∀ j, j < n → g j = g' j) : (List.range n).all g = (List.range n).all g' := by
  rw [Bool.eq_iff_iff, List.all_eq_true, List.all_eq_true]
  exact ⟨fun q j hj => (h j (List.mem_range.mp hj)) ▸ q j hj, fun q j hj => (h j (List.mem_range.mp hj)).symm ▸ q j hj⟩
section
variable {K : PySem.W.Frag} {X : Cx} {pins : List (Addr × Obj)} {σ : St} {Φ H : Hp} {s : Shared}
/-- what a comparison tells hangs on the value alone -/
theorem cm_det (hK : X.K = K) (I : Inv X pins σ H s) (sm : Same Φ H) : ∀ (n : Nat) {d d' e : D} {b b' : Bool} {v : V}, Rp K Φ d v → Rp K Φ d' v → cmB n d e = some b → cmB n d' e = some b' → b = b' := by
  intro n
  have flat : ∀ (m : Nat) {d d' e : D} {b b' : Bool} {v : V}, (∀ a, v ≠ .ref a) → Rp K Φ d v → Rp K Φ d' v → cmB m d e = some b → cmB m d' e = some b' → b = b' := fun m {d d' e b b' v} hf r1 r2 h1 h2 => by
    have : d = d' := by
      cases r1 with
      | int i => cases r2; rfl
      | bl i => cases r2; rfl
      | str i => cases r2; rfl
      | non => cases r2; rfl
      | tup _ _ _ => exact absurd rfl (hf _)
      | lst _ _ _ => exact absurd rfl (hf _)
      | fzl _ _ _ => exact absurd rfl (hf _)
    subst this
    rw [h1] at h2
    cases h2
    rfl
  induction n with
  | zero =>
    intro d d' e b b' v r1 r2 h1 h2
    by_cases hf : ∀ a, v ≠ .ref a
    · exact flat 0 hf r1 r2 h1 h2
    · cases r1 with
      | int i => exact absurd (fun a e => nomatch e) hf
      | bl i => exact absurd (fun a e => nomatch e) hf
      | str i => exact absurd (fun a e => nomatch e) hf
      | non => exact absurd (fun a e => nomatch e) hf
      | tup _ _ _ => cases e <;> cases h1
      | lst _ _ _ => cases e <;> cases h1
      | fzl _ _ _ => cases e <;> cases h1
  | succ n ih =>
    intro d d' e b b' v r1 r2 h1 h2
    by_cases hf : ∀ a, v ≠ .ref a
    · exact flat _ hf r1 r2 h1 h2
    have zip : ∀ {xs xs' ys : List D} {vs : List V} {b b' : Bool}, vs.length = xs.length → vs.length = xs'.length → (∀ (i : Nat) (v : V) (d : D), vs[i]? = some v → xs[i]? = some d → Rp K Φ d v) → (∀ (i : Nat) (v : V) (d : D), vs[i]? = some v → xs'[i]? = some d → Rp K Φ d v) → cmL (cmB n) xs ys = some b → cmL (cmB n) xs' ys = some b' → b = b' := fun {xs xs' ys vs b b'} l1 l2 p1 p2 h1 h2 => by
      obtain ⟨g, hg, hb⟩ := cmL_all h1
      obtain ⟨g', hg', hb'⟩ := cmL_all h2
      have e1 : xs.length = xs'.length := by omega
      rw [hb, hb', e1]
      congr 1
      refine all_same fun j j0 => ?_
      have i0 : j < vs.length := by omega
      have i1 : j < xs.length := by omega
      have i2 : j < xs'.length := by omega
      have i3 : j < ys.length := by omega
      exact ih (p1 j _ _ (get_of i0) (get_of i1)) (p2 j _ _ (get_of i0) (get_of i2)) (hg j _ _ (get_of i1) (get_of i3)) (hg' j _ _ (get_of i2) (get_of i3))
    cases r1 with
    | int i => exact absurd (fun a e => nomatch e) hf
    | bl i => exact absurd (fun a e => nomatch e) hf
    | str i => exact absurd (fun a e => nomatch e) hf
    | non => exact absurd (fun a e => nomatch e) hf
    | @tup a vs xs a1 a2 a3 => cases r2 with
      | @tup _ ws ys b1 b2 b3 =>
        have hvw : vs = ws := I.tuple_inj (hK ▸ sm.sqt a1) (hK ▸ sm.sqt b1)
        subst hvw
        cases e with
        | tup es => exact zip a2 b2 a3 b3 h1 h2
        | _ => cases h1
      | @lst _ ws ys b1 b2 b3 => cases e <;> first | cases h1; done | cases h2; done
      | @fzl _ ws ys b1 b2 b3 => cases e <;> first | cases h1; done | cases h2; done
    | @lst a vs xs a1 a2 a3 => cases r2 with
      | @lst _ ws ys b1 b2 b3 =>
        have hvw : vs = ws := by rw [a1] at b1; cases b1; rfl
        subst hvw
        cases e with
        | lst es =>
          have q1 : (if xs.length = es.length then cmL (cmB n) xs es else some false) = some b := h1
          have q2 : (if ys.length = es.length then cmL (cmB n) ys es else some false) = some b' := h2
          by_cases c : xs.length = es.length
          · rw [if_pos c] at q1
            rw [if_pos (by omega)] at q2
            exact zip a2 b2 a3 b3 q1 q2
          · rw [if_neg c] at q1
            rw [if_neg (by omega)] at q2
            rw [q1] at q2
            cases q2
            rfl
        | _ => cases h1
      | @tup _ ws ys b1 b2 b3 => cases e <;> first | cases h1; done | cases h2; done
      | @fzl _ ws ys b1 b2 b3 => cases e <;> first | cases h1; done | cases h2; done
    | fzl _ _ _ => cases e <;> cases h1
end
/-! ### x.index(e) of a list -/
@[irreducible] def zIndex (x : D) (y : D) (R : D → Prop) : Prop := match x with
  | .lst ds => ds.length ≤ 1000 ∧ ∃ (bs : List Bool) (j : Nat), bs.length = ds.length ∧ (∀ (i : Nat) d b, ds[i]? = some d → bs[i]? = some b → cmB 39 d y = some b) ∧ bs[j]? = some true ∧ (∀ i, i < j → bs[i]? = some false) ∧ R (.int (j : Int))
  | _ => False
section
variable {K : PySem.W.Frag} {X : Cx} {a b : Expr} {ta tb : TD} {apos cpos : Pos}
open Classical in
theorem mt_indexZ (hK : X.K = K) (hu : X.A.units + 64 < cLine) : MtR X "list.index" (fun x xs H Q => ∃ Φ dx dy R y, Same Φ H ∧ xs = [y] ∧ RpQ K Φ H dx x ∧ RpQ K Φ H dy y ∧ zIndex dx dy R ∧ ∀ d Φ' H' v, R d → Gr Φ H Φ' H' → Rp K Φ' d v → Q v H') := by
  intro pins s σ H x xs v us Q I rx rs ⟨Φ, dx, dy, R, y, sm, e, hx, hy, h, k⟩
  subst e
  obtain ⟨u, rfl, ru⟩ := vals1 rs
  unfold zIndex at h
  cases dx with
  | lst ds =>
    obtain ⟨hl, bs, j, hbl, hb, hj, hno, r⟩ := h
    obtain ⟨a, vs, rfl, h1, h2⟩ := hx.lst sm
    cases rx
    obtain ⟨its, n, rv, ho, hz⟩ := I.lst h1
    have l1 := Vals.length rv
    have hjl : j < bs.length := lt_of_at hj
    have hs2 : Same Φ H := sm
    let e : Value → Bool := fun z => decide (∃ m : Nat, its[m]? = some z ∧ bs[m]? = some true)
    have at_ : ∀ (m : Nat) z, its[m]? = some z → ∃ (w : V) (d : D) (b : Bool), RelV w z ∧ Rp K H d w ∧ ds[m]? = some d ∧ bs[m]? = some b ∧ cmB 39 d dy = some b := fun m z hm => by
      have i0 : m < its.length := lt_of_at hm
      have i1 : m < vs.length := by omega
      have i2 : m < ds.length := by rw [← h2.1]; exact i1
      have i3 : m < bs.length := by omega
      obtain ⟨u', hu', r'⟩ := Vals.get (i := m) (x := vs[m]) rv (get_of i1)
      rw [hm] at hu'
      cases hu'
      exact ⟨vs[m], ds[m], bs[m], r', (h2.2 m _ _ (get_of i1) (get_of i2)).same sm, get_of i2, get_of i3, hb m _ _ (get_of i2) (get_of i3)⟩
    have det : ∀ (m m' : Nat) z b b', its[m]? = some z → its[m']? = some z → bs[m]? = some b → bs[m']? = some b' → b = b' := fun m m' z b b' hm hm' q q' => by
      obtain ⟨w, d, c, r1, p1, _, q1, c1⟩ := at_ m z hm
      obtain ⟨w', d', c', r1', p1', _, q1', c1'⟩ := at_ m' z hm'
      rw [q] at q1
      rw [q'] at q1'
      cases q1
      cases q1'
      have := r1.inj r1'
      subst this
      exact cm_det hK I (Same.refl H) 39 p1 p1' c1 c1'
    have eval_e : ∀ (m : Nat) z b, its[m]? = some z → bs[m]? = some b → e z = b := fun m z b hm q => by
      show decide (∃ m : Nat, its[m]? = some z ∧ bs[m]? = some true) = b
      cases b with
      | true => exact decide_eq_true ⟨m, hm, q⟩
      | false => exact decide_eq_false fun ⟨m', h1, h2⟩ => by cases det m m' z _ _ hm h1 q h2
    have hj0 : j < its.length := by have := h2.1; omega
    refine call_meets PySem.F.slot_list_index ⟨_, ho, rfl⟩ PySem.F.entry_list_index (PySem.F.args_list_index_2 _ _)
      (PySem.SeqAt.list_indexAt a its.toArray n none #[] u e j (by simpa using hj0) (by omega) ?_ ?_) ⟨ho, fun z hz => ?_, ?_⟩
    · simp only [List.getElem_toArray]
      exact eval_e j _ true (get_of hj0) hj
    · intro m hm hlt
      simp only [List.size_toArray] at hm
      simp only [List.getElem_toArray]
      exact eval_e m _ false (get_of hm) (hno m hlt)
    · have hz' : z ∈ its := by simpa using hz
      obtain ⟨m, hm⟩ := List.getElem?_of_mem hz'
      obtain ⟨w, d, b, r1, p1, q1, q2, q3⟩ := at_ m z hm
      rw [eval_e m z b hm q2]
      exact (cmB_at hK I (Same.refl H) 39 q3 p1 (hy.any sm) X.A.in1 z u (by show X.A.units + 1 + 39 < cLine; omega) r1 ru).1
    · exact ⟨.int j, H, I.tok _, ⟨_, rfl⟩, k _ Φ H _ r (.refl sm) (.int _)⟩
  | _ => exact h.elim
def dIndex (ta tb : TD) : TD := fun ρ R => ta ρ fun x => (match x with | .lst _ => True | _ => False) ∧ tb ρ fun y => zIndex x y R
theorem d_index (hu : X.A.units + 64 < cLine) (ha : PQ K X a ta) (hb : PD K X b tb) (hbase : attributeBase a "index" X.env (eval a X.env) = eval a X.env := by rfl) (hfew : ((backTo cpos (starEach [b] X.env)).all (fun x => !x.1) && (backToKw cpos (keywordEach [] X.env)).all (fun x => x.1.isSome) && decide (([b] : List Expr).length + ([] : List Keyword).length + (if ([] : List Keyword).isEmpty then 0 else 1) < 30)) = true)
    (hse : starEach [b] X.env = (false, eval b X.env) :: starEach [] X.env) (hline : (apos.endLine == cpos.line) = true := by rfl) : PD K X (.Call (.Attribute a "index" apos) [b] [] cpos) (dIndex ta tb) :=
  ⟨fun hK => (pe_bm PySem.F.plainAttrs_list PySem.F.slot_list_index PySem.F.type_list_index (mt_indexZ hK hu) (ha.pe hK) (pa_cons (hb.pe hK) pa_nil hse) hbase hfew hline hse npl_nil).imp fun σ H Q ⟨H0, Φ, ρ, R, E, t, k⟩ => ⟨H0, Φ, ρ, _, E, t, fun dx Φ1 H1 x t1 g1 rx => by
    cases dx with
    | lst ds =>
      obtain ⟨a, vs, rfl, q1, q2⟩ := rx.lst g1.s
      refine ⟨.inl ⟨rfl, vs, SqL.of q1⟩, H0, Φ1, ρ, _, E.gr g1, t1.2, fun dy Φ2 H2 y t2 g2 ry => ⟨Φ2, .lst ds, dy, R, y, g2.s, rfl, rx.gr g2, .inl ry, t2, fun d Φ' H' v r g rr => k d Φ' H' v r ((g1.trans g2).trans g) rr⟩⟩
    | _ => exact t1.1.elim⟩⟩
end
end L2
namespace L2
open PySem PySem.Spec PyProof.Rows
section
variable {K : PySem.W.Frag} {X : Cx} {e b : Expr} {te tk : TD} {pos spos npos : Pos} {x : Str}
theorem get_listK (h : X.K = K) : PGet X (rGetL K) := h ▸ get_list
/-- x[k] += e, ints -/
def sAugPut (i : Nat) (f : Int → Int → Int) (tk te : TD) : TSD := fun De ρ => match ρ[i]? with
  | some (some (.own ds)) => tk ρ fun kk => (match kk with
    | .int n => ∃ (j : Nat) (v : Int), n = (j : Int) ∧ ds[j]? = some (.int v) ∧ te ρ fun d => (match d with | .int m => NF (ds.set j (.int (f v m))) fun es => De.nx (ρ.set i (some (.own es))) | _ => False)
    | _ => False)
  | _ => False
theorem s_augput {op : Operator} {f : Int → Int → Int} (i : Nat) (hop : PIp X op (ipI f)) (hk : PQ K X b tk) (he : PD K X e te) (hN : X.N[i]? = some x := by rfl) (hv : Vis X.env.scope x := by first | exact Or.inl rfl | exact Or.inr (Or.inl rfl) | exact Or.inr (Or.inr rfl)) (hd : (x == ("__debug__" : Str)) = false := by decide) (hcd : (x == ("__classdict__" : Str)) = false := by decide)
    (ha : ∀ ov iv new, augStore b ov iv new = (do holding [new, ov, iv] (setItem ov iv new); release [new, ov, iv] []; pure .next) := by intros; rfl) :
    PSD K X (.AugAssign (.Subscript (.Name x npos) b spos) op e pos) (sAugPut i f tk te) :=
  ⟨fun hK => (ps_augS (pv i hN hv hd hcd) (hk.pe hK) (get_listK hK) (he.pe hK) hop set_list ha).imp fun E σ H ⟨Φ0, H0, Φ, ρ, De, g, V, t, k⟩ => by
    unfold sAugPut at t
    split at t
    · next ds ho =>
      obtain ⟨p, vs, e1, h0, hn, hp, rl⟩ := V.ow i ds ho
      refine ⟨_, e1, H0, Φ, ρ, _, V, t, fun kk Φ1 H1 w r1 g1 rw1 => ?_⟩
      cases kk with
      | int n =>
        obtain ⟨j, v, rfl, hj, r1⟩ := r1
        cases rw1.int
        obtain ⟨u, hu, ru⟩ := rl.at hj
        cases ru
        have hp1 := g1.h _ _ hp
        refine ⟨p, vs, _, j, _, rfl, rfl, .of hp1, rfl, hu, H0, Φ1, ρ, _, V.gr g1, r1, fun d Φ2 H2 z r2 g2 rz => ?_⟩
        cases d with
        | int m =>
          cases rz
          have hp2 := g2.h _ _ hp1
          have g12 := g1.trans g2
          exact ⟨v, m, rfl, rfl, p, vs, _, j, rfl, rfl, hp2, ixN_nat (lt_of_at hu), k.nx _ Φ2 _ σ r2.get (gr_put (g.trans g12) h0 (g12.o _ _ hp hn)) ((V.gr g12).put ho e1 ((rl.same g12.f).set (.int _) j))⟩
        | _ => exact r2.elim
      | _ => exact r1.elim
    · exact t.elim⟩
end
end L2
set_option Elab.async false
set_option linter.all false
set_option maxRecDepth 100000
set_option maxHeartbeats 4000000
namespace Kx
open PySem L2
section
variable {P : Program} {w : World} {K : PySem.W.Frag} {mg : Str → Option Value} {base : Heap}
def top (i : Nat) : Stmt := PySem.Challenge.pw_cutyard_k15_a_cuts_row.main.body.getD i (.Pass ⟨0, 0, 0, 0⟩)
abbrev s_up : Stmt := top 4
theorem sc_up : FnScope ["top", "bottom"] ["top", "bottom"] (defScope s_up) := ⟨rfl, rfl, rfl, by decide +kernel, rfl, by decide +kernel, by decide +kernel⟩
abbrev s_width : Stmt := top 6
theorem sc_width : FnScope ["rows"] ["rows"] (defScope s_width) := ⟨rfl, rfl, rfl, by decide +kernel, rfl, by decide +kernel, by decide +kernel⟩
abbrev s_is_row_number : Stmt := top 8
theorem sc_is_row_number : FnScope ["rows", "number"] ["rows", "number"] (defScope s_is_row_number) := ⟨rfl, rfl, rfl, by decide +kernel, rfl, by decide +kernel, by decide +kernel⟩
abbrev s_shares_sum : Stmt := top 9
theorem sc_shares_sum : FnScope ["rows", "shares", "n", "entries", "bound", "number", "weight", "row"] ["rows", "shares", "n"] (defScope s_shares_sum) := ⟨rfl, rfl, rfl, by decide +kernel, rfl, by decide +kernel, by decide +kernel⟩
abbrev s_line_row : Stmt := top 10
theorem sc_line_row : FnScope ["rows", "shares", "divisor", "summed"] ["rows", "shares", "divisor"] (defScope s_line_row) := ⟨rfl, rfl, rfl, by decide +kernel, rfl, by decide +kernel, by decide +kernel⟩
abbrev s__law_cell : Stmt := top 12
theorem sc__law_cell : FnScope ["_law_script", "_law_k"] ["_law_script", "_law_k"] (defScope s__law_cell) := ⟨rfl, rfl, rfl, by decide +kernel, rfl, by decide +kernel, by decide +kernel⟩
abbrev s__law_draws : Stmt := top 13
theorem sc__law_draws : FnScope ["_law_cell_here", "_law_salt", "_law_sizes", "_law_row", "_law_rest", "_law_k", "_law_size", "_law_mixed"] ["_law_cell_here", "_law_salt", "_law_sizes"] (defScope s__law_draws) := ⟨rfl, rfl, rfl, by decide +kernel, rfl, by decide +kernel, by decide +kernel⟩
abbrev s__law_whole : Stmt := top 14
theorem sc__law_whole : FnScope ["_law_told"] ["_law_told"] (defScope s__law_whole) := ⟨rfl, rfl, rfl, by decide +kernel, rfl, by decide +kernel, by decide +kernel⟩
abbrev s__law_wholes : Stmt := top 15
theorem sc__law_wholes : FnScope ["_law_told", "_law_size"] ["_law_told", "_law_size"] (defScope s__law_wholes) := ⟨rfl, rfl, rfl, by decide +kernel, rfl, by decide +kernel, by decide +kernel⟩
abbrev s__law_total : Stmt := top 16
theorem sc__law_total : FnScope ["_law_rows_here", "_law_shares_here", "_law_n", "_law_total_here", "_law_number", "_law_weight", "_law_row"] ["_law_rows_here", "_law_shares_here", "_law_n"] (defScope s__law_total) := ⟨rfl, rfl, rfl, by decide +kernel, rfl, by decide +kernel, by decide +kernel⟩
abbrev s__law_line : Stmt := top 17
theorem sc__law_line : FnScope ["_law_rows_here", "_law_shares_here", "_law_divisor", "_law_n", "_law_total_here"] ["_law_rows_here", "_law_shares_here", "_law_divisor", "_law_n"] (defScope s__law_line) := ⟨rfl, rfl, rfl, by decide +kernel, rfl, by decide +kernel, by decide +kernel⟩
abbrev s__law_rows : Stmt := top 18
theorem sc__law_rows : FnScope ["_law_cell_here", "_law_salt", "_law_n", "_law_many", "_law_big", "_law_numbers", "_law_rows_here", "_law_k", "_law_part"] ["_law_cell_here", "_law_salt", "_law_n", "_law_many", "_law_big"] (defScope s__law_rows) := ⟨rfl, rfl, rfl, by decide +kernel, rfl, by decide +kernel, by decide +kernel⟩
abbrev s__law_shares : Stmt := top 19
theorem sc__law_shares : FnScope ["_law_cell_here", "_law_many", "_law_count", "_law_wild", "_law_heavy", "_law_numbers", "_law_shares_here", "_law_k"] ["_law_cell_here", "_law_many", "_law_count", "_law_wild", "_law_heavy"] (defScope s__law_shares) := ⟨rfl, rfl, rfl, by decide +kernel, rfl, by decide +kernel, by decide +kernel⟩
abbrev s__law_completed : Stmt := top 20
theorem sc__law_completed : FnScope ["_law_cell_here", "_law_rows_here", "_law_shares_here", "_law_divisor", "_law_n", "_law_more", "_law_total_here", "_law_numbers", "_law_entries", "_law_at", "_law_fuller"] ["_law_cell_here", "_law_rows_here", "_law_shares_here", "_law_divisor", "_law_n", "_law_more"] (defScope s__law_completed) := ⟨rfl, rfl, rfl, by decide +kernel, rfl, by decide +kernel, by decide +kernel⟩
abbrev s_law : Stmt := top 21
theorem sc_law : FnScope ["_law_script", "_law_shape", "_law_n", "_law_big", "_law_heavy", "_law_wild", "_law_rows_here", "_law_shares_here", "_law_divisor", "_law_due", "_law_told"] ["_law_script"] (defScope s_law) := ⟨rfl, rfl, rfl, by decide +kernel, rfl, by decide +kernel, by decide +kernel⟩
def sp_up (K : PySem.W.Frag) : Sp := fun vs H Q _ => ∃ (t b : Int), vs = [.int t, .int b] ∧ 1 ≤ b ∧ b < 2 ^ 9000 ∧ Q (.int (-(-t / b))) H
theorem ok_up {n : Nat} {f : Addr} {fd : FuncData} (F : Fun K "up" "up" s_up f fd)  : FnOk P w K mg base CX0 (n + 1) f fd ["top", "bottom"] (sp_up K) := by
  refine F.ok sc_up (fun vs H Q E h => ?_) (fun cdv A outer s H vs Q E hr h => ?_)
  · obtain ⟨t, b, rfl, _⟩ := h; rfl
  obtain ⟨t, b, rfl, h1, hb, q⟩ := h
  refine ⟨_, (pss_cut (ps_if (pt_cmpR op_lt (pv 1) pe_int (nomark _)) (pss_one ps_never) pss_nil)
      (pss_one (ps_ret (pe_un un_neg (pe_op op_fdivB (pe_un un_neg (pv 0)) (pv 1)))))), ?_⟩
  refine cut_stay ⟨_, rfl, _, _, rfl, rfl, _, rfl, ite2 (fun c => absurd (dP c) (by omega)) (fun c => ⟨rfl, rfl⟩)⟩ ?_
  exact ⟨_, rfl, _, rfl, _, rfl, _, _, rfl, rfl, CDivB.of (by omega) hb, _, rfl, q⟩
def sp_width (K : PySem.W.Frag) : Sp := fun vs H Q _ => ∃ (R : Addr) (rvs : List V) (rs : List Row), vs = [.ref R] ∧ SqT K H R rvs ∧ Rows K H rvs rs ∧ Q (.int (widthL rs : Int)) H
theorem ok_width {n : Nat} {f : Addr} {fd : FuncData} (F : Fun K "width" "width" s_width f fd) (z_len : mg "len" = none) : FnOk P w K mg base CX0 (n + 1) f fd ["rows"] (sp_width K) := by
  refine F.ok sc_width (fun vs H Q E h => ?_) (fun cdv A outer s H vs Q E hr h => ?_)
  · obtain ⟨R, rvs, rs, rfl, _⟩ := h; rfl
  obtain ⟨R, rvs, rs, rfl, hR, hrs, q⟩ := h
  refine ⟨_, (pss_cut (ps_if (pt_cmpR op_eq (pe_callB call_len_seq rfl z_len PySem.boot_len (pa_cons (pv 0) pa_nil se_Name) (he := se_Name) (hpl := npl_nil)) pe_int (nomark _)) (pss_one (ps_ret pe_int)) pss_nil)
      (pss_one (ps_ret (pe_callB call_len_seq rfl z_len PySem.boot_len (pa_cons (pe_ix ix_tup (pe_ix ix_tup (pv 0) pe_int (fun _ _ => rfl)) pe_int (fun _ _ => rfl)) pa_nil se_Subscript) (he := se_Subscript) (hpl := npl_nil))))), ?_⟩
  have hl := hrs.1
  cases rs with
  | nil =>
    refine ⟨fun _ _ => False, ⟨_, rfl, R, _, rfl, .inr hR, rfl, _, rfl, ?_⟩, fun _ _ h => h.elim⟩
    have e : decide (V.int (rvs.length : Int) = V.int 0) = true := decide_eq_true (by rw [hl]; rfl)
    rw [e]
    exact iteT q
  | cons r t =>
    refine cut_stay ⟨_, rfl, R, _, rfl, .inr hR, rfl, _, rfl, ite2 (fun c => ?_) (fun c => ⟨rfl, rfl⟩)⟩ ?_
    · have := dI c
      rw [List.length_cons] at hl
      omega
    · obtain ⟨v, hv, x, y, rfl, hx, hy⟩ := hrs.at (i := 0) (r := r) rfl
      refine ⟨_, rfl, R, _, _, _, rfl, rfl, hR, atI_of hv rfl, x, _, _, _, rfl, rfl, hx, rfl, y, _, rfl, .inr hy, ?_⟩
      rw [List.length_map]
      exact q
def sp_is_row_number (K : PySem.W.Frag) : Sp := fun vs H Q _ => ∃ (R : Addr) (rvs : List V) (k : Int), vs = [.ref R, .int k] ∧ SqT K H R rvs ∧ Q (.bl (decide (0 ≤ k) && decide (k < (rvs.length : Int)))) H
theorem ok_is_row_number {n : Nat} {f : Addr} {fd : FuncData} (F : Fun K "is_row_number" "is_row_number" s_is_row_number f fd) (z_len : mg "len" = none) : FnOk P w K mg base CX0 (n + 1) f fd ["rows", "number"] (sp_is_row_number K) := by
  refine F.ok sc_is_row_number (fun vs H Q E h => ?_) (fun cdv A outer s H vs Q E hr h => ?_)
  · obtain ⟨R, rvs, k, rfl, _⟩ := h; rfl
  obtain ⟨R, rvs, k, rfl, hR, q⟩ := h
  refine ⟨_, (pss_one (ps_ret (pe_and (pe_cmpR op_ge (pv 1) pe_int (nomark _)) (pe_one (pe_cmpR op_lt (pv 1) (pe_callB call_len_seq rfl z_len PySem.boot_len (pa_cons (pv 0) pa_nil se_Name) (he := se_Name) (hpl := npl_nil)) (nomark _)))))), ?_⟩
  refine ⟨_, rfl, _, _, rfl, rfl, _, rfl, ite2 (fun c => ⟨_, rfl, _, rfl, R, _, rfl, .inr hR, _, _, rfl, rfl, ?_⟩) (fun c => ?_)⟩
  · rw [c] at q
    exact q
  · rw [Bool.eq_false_iff.mpr c] at q
    exact q
abbrev Fit (rs : List Row) (shs : List (Int × Int)) : Prop := (∀ r ∈ rs, (∀ x ∈ r.1, x.natAbs < 2 ^ 60000) ∧ r.2.natAbs < 2 ^ 60000) ∧ ∀ s ∈ shs, s.2.natAbs < 2 ^ 60000
def sp_shares_sum (K : PySem.W.Frag) : Sp := fun vs H Q _ => ∃ (R S : Addr) (rvs svs : List V) (rs : List Row) (shs : List (Int × Int)) (n : Nat), vs = [.ref R, .ref S, .int (n : Int)] ∧ SqT K H R rvs ∧ Rows K H rvs rs ∧ SqT K H S svs ∧ Shs K H svs shs ∧ n ≤ 1000 ∧ Fit rs shs ∧
  (sumS rs shs n = none → ∀ H', Same H H' → Q .non H') ∧ (∀ r, sumS rs shs n = some r → ∀ v H', Same H H' → IsR K H' v r → Q v H')
theorem ok_shares_sum {n : Nat} {f : Addr} {fd : FuncData} (F : Fun K "shares_sum" "shares_sum" s_shares_sum f fd) {f_is_row_number : Addr} {d_is_row_number : FuncData} (G_is_row_number : FnOk P w K mg base CX0 n f_is_row_number d_is_row_number ["rows", "number"] (sp_is_row_number K)) (b_is_row_number : Binds K d_is_row_number ["rows", "number"] []) (k_is_row_number : PySem.W.keepIn K (.ref f_is_row_number) = true) (m_is_row_number : mg "is_row_number" = some (.ref f_is_row_number)) (z_tuple : mg "tuple" = none) (z_zip : mg "zip" = none) : FnOk P w K mg base CX0 (n + 1) f fd ["rows", "shares", "n"] (sp_shares_sum K) := by
  refine F.ok sc_shares_sum (fun vs H Q E h => ?_) (fun cdv A outer s H vs Q E hr h => ?_)
  · obtain ⟨R, S, rvs, svs, rs, shs, n, rfl, _⟩ := h; rfl
  obtain ⟨R, S, rvs, svs, rs, shs, n, rfl, hR, hrs, hS, hsh, hn, ⟨hfr, hfs⟩, q0, q1⟩ := h
  have hRl := hrs.1
  refine ⟨_, (pss_cons (ps_set (i := 3) sc_shares_sum.nd rfl (Or.inl rfl) (pe_op op_rep (pe_lst (pa_cons pe_int pa_nil se_Constant)) (pv 2)))
      (pss_cons (ps_set (i := 4) sc_shares_sum.nd rfl (Or.inl rfl) pe_int)
      (pss_cons (ps_for PassesOwn.never rfl (pi_tup (pv 1)) (pg_tup rfl (pgs_cons (pg_name (i := 5) sc_shares_sum.nd rfl (Or.inl rfl)) (pgs_cons (pg_name (i := 6) sc_shares_sum.nd rfl (Or.inr rfl)) pgs_nil))) (pss_cut (ps_if (PW.pt (pw_or (pt_not (pt_truth (pe_call G_is_row_number hr rfl m_is_row_number k_is_row_number b_is_row_number .nil pass0 (pa_cons (pv 0) (pa_cons (pv 5) pa_nil se_Name) se_Name) (he := se_Name) (hpl := (npl_cons se_Name npl_nil))) (fun _ => rfl))) (pw_or1 (pt_cmpR op_lt (pv 6) pe_int (nomark _))))) (pss_one (ps_ret pe_non)) pss_nil)
      (pss_cons (ps_set (i := 7) sc_shares_sum.nd rfl (Or.inl rfl) (pe_ix ix_tup (pv 0) (pv 5) (fun _ _ => rfl)))
      (pss_cons (ps_comp (i := 3) (N' := ["total", "entry", "weight"]) (cap := [none, none, some 6]) rfl sc_shares_sum.nd rfl (Or.inl rfl) (.ok (show compOk ["rows", "shares", "n", "entries", "bound", "number", "weight", "row"] (defScope s_shares_sum) _ ["total", "entry", "weight"] [none, none, some 6] = true by decide +kernel)) (pi_zip true false rfl z_zip (pa_cons (pv 3) (pa_cons (pe_ix ix_tup (pv 7) pe_int (fun _ _ => rfl)) pa_nil se_Subscript) se_Name)) (fun _ _ _ _ _ => (pg_tupK (K := K) (n := 2) rfl (pg_tup rfl (pgs_cons (pg_name (i := 0) (show List.Nodup (["total", "entry", "weight"] : List Str) by decide +kernel) rfl (Or.inl rfl)) (pgs_cons (pg_name (i := 1) (show List.Nodup (["total", "entry", "weight"] : List Str) by decide +kernel) rfl (Or.inl rfl)) pgs_nil))))) (fun _ _ _ _ _ => pifs_nil) (fun _ _ _ _ _ => (pe_op op_add (pv 0) (pe_op op_mulB (pv 2) (pv 1)))))
      (pss_one (ps_set (i := 4) sc_shares_sum.nd rfl (Or.inl rfl) (pe_op op_add (pv 4) (pe_op op_mulB (pv 6) (pe_ix ix_tup (pv 7) pe_int (fun _ _ => rfl))))))))))
      (pss_one (ps_ret (pe_tup (pa_cons (pe_callTy call_tuple_of rfl z_tuple PyProof.Rows.boot_tuple (pa_cons (pv 3) pa_nil se_Name) (he := se_Name) (hpl := npl_nil)) (pa_cons (pv 4) pa_nil se_Name) se_Call))))))), ?_⟩
  refine ⟨(by show 1 ≤ sizeLine; decide), fun l1 hl1 => ⟨_, rfl, l1, _, _, rfl, rfl, upd_same, by omega, by omega, (by rw [show [V.int 0].length = 1 from rfl]; exact small (by omega)), fun l2 hl2 => ?_⟩⟩
  have e2 : upd (upd H l1 (.lst [.int 0])) l2 (.lst (List.replicate (Int.toNat (n : Int)) [V.int 0]).flatten) l2 = some (.lst ((List.replicate n 0).map V.int)) := by rw [upd_same, rep_int, Int.toNat_natCast]
  have s2 := (same_new hl1 (.lst [.int 0])).trans (same_new hl2 (.lst (List.replicate (Int.toNat (n : Int)) [V.int 0]).flatten))
  generalize upd (upd H l1 (.lst [.int 0])) l2 _ = H2 at e2 s2 ⊢
  refine ⟨_, rfl, S, rfl, ⟨_, s2.sqt hS⟩, ?_⟩
  refine lp_tup (xs := svs) (fun i σ H' => ∃ (a : Row) (e : Addr) (u5 u6 u7 : Option V), σ = [some (.ref R), some (.ref S), some (.int (n : Int)), some (.ref e), some (.int a.2), u5, u6, u7] ∧ Same H H' ∧ H' e = some (.lst (a.1.map V.int)) ∧ a.1.length ≤ 1000 ∧ sumS rs (shs.take i) n = some a) ⟨(List.replicate n 0, 0), l2, _, _, _, rfl, s2, e2, by rw [List.length_replicate]; exact hn, rfl⟩ ?_ ?_ ?_
  · rintro i σ H' _ ⟨a, e, u5, u6, u7, rfl, g, _⟩
    exact g.sqt hS
  · rintro i x σ H' hx ⟨a, e, u5, u6, u7, rfl, g, he, hal, hsum⟩
    obtain ⟨⟨k, w⟩, hs, x, rfl, hx'⟩ := hsh.2 i x hx
    have hw := hfs _ (List.mem_of_getElem? hs)
    refine ⟨x, _, rfl, g.sqt hx', rfl, _, _, rfl, _, _, rfl, rfl, ?_⟩
    refine ⟨fun σ' H2 => H2 = H' ∧ okS rs (k, w) ∧ σ' = [some (.ref R), some (.ref S), some (.int (n : Int)), some (.ref e), some (.int a.2), some (.int k), some (.int w), u7], ?_, ?_⟩
    · refine ⟨_, rfl, _, rfl, R, rvs, k, rfl, g.sqt hR, _, rfl, ite2 (fun c => ?_) (fun c => ?_)⟩
      · refine iteT (q0 (sumS_bad hs fun ok => ?_) H' g)
        have h1 := ok.1
        rw [decide_eq_true h1.1, decide_eq_true (by rw [hRl]; exact h1.2)] at c
        exact absurd c (by decide)
      · refine ⟨_, rfl, _, _, rfl, rfl, _, rfl, ite2 (fun c2 => ?_) (fun c2 => ?_)⟩
        · refine q0 (sumS_bad hs fun ok => ?_) H' g
          have := ok.2
          have := dP c2
          simp only at *
          omega
        · have c3 : (decide (0 ≤ k) && decide (k < (rvs.length : Int))) = true := by
            cases hb : (decide (0 ≤ k) && decide (k < (rvs.length : Int))) with
            | true => rfl
            | false => rw [hb] at c; exact absurd rfl c
          rw [Bool.and_eq_true] at c3
          have k1 := dP c3.1
          have k2 := dP c3.2
          rw [hRl] at k2
          have k3 := dP' c2
          exact ⟨rfl, ⟨⟨k1, k2⟩, by show 0 ≤ w; omega⟩, rfl⟩
    rintro σ' H2 ⟨rfl, ok, rfl⟩
    have k0 : 0 ≤ k := ok.1.1
    have k1 : k < rs.length := ok.1.2
    obtain ⟨v, hv, y, z, rfl, hy, hz⟩ := hrs.at (rowAt_of k0 k1)
    have hrow := hfr _ (rowAt_mem k0 k1)
    refine ⟨_, rfl, _, rfl, R, rvs, _, _, rfl, rfl, g.sqt hR, atI_of hv (by omega), ?_⟩
    refine ⟨_, rfl, _, rfl, y, _, _, _, rfl, rfl, g.sqt hy, rfl, e, z, _, _, rfl, SqL.of he, g.sqt hz, fun D hD => ?_⟩
    refine comp_zip (b1 := true) (b2 := false) (xs := a.1) (ys := (rowAt rs k).1) (SqL.of he) (g.sqt hz) hD hal (fun σ => ∃ u0 u1 : Option V, σ = [u0, u1, some (.int w)]) ⟨_, _, rfl⟩ (fun t e => V.int (t + w * e)) ?_ ?_
    · rintro t x y σ H' N ht hx hy ⟨u0, u1, rfl⟩ g k
      exact ⟨t, _, rfl, SqT.of ht, rfl, _, _, rfl, _, _, rfl, rfl, _, rfl, _, rfl, _, rfl, _, _, rfl, rfl, mulOk_of (by decide) (by decide) hw (hrow.1 y hy) (by decide), _, _, rfl, rfl, k _ _ ⟨_, _, rfl⟩ (Same.refl _)⟩
    rintro σ H3 _ g3 hd3
    have g4 := g.trans g3
    refine ⟨_, rfl, _, rfl, _, rfl, y, _, _, _, rfl, rfl, g4.sqt hy, rfl, _, _, rfl, rfl, mulOk_of (by decide) (by decide) hw hrow.2 (by decide), _, _, rfl, rfl, ?_⟩
    refine ⟨addS rs a (k, w), D, _, _, _, rfl, g4, ?_, ?_, sumS_ok hs hsum ok⟩
    · rw [hd3]
      unfold addS
      rw [zw_int fun t e => t + w * e]
    · unfold addS
      rw [List.length_zipWith]
      exact Nat.le_trans (Nat.min_le_left _ _) hal
  · rintro σ H' ⟨a, e, u5, u6, u7, rfl, g, he, hal, hsum⟩
    rw [hsh.1, List.take_length] at hsum
    refine ⟨_, rfl, e, _, rfl, .inl ⟨SqL.of he, fun t ht => ⟨_, rfl, (by show 2 ≤ sizeLine; decide), fun r hr2 => ?_⟩⟩⟩
    exact q1 a hsum _ _ (g.trans ((same_new ht _).trans (same_new hr2 _))) ⟨r, t, rfl, SqT.of upd_same, SqT.of (same_new hr2 _ _ _ upd_same)⟩
theorem any_map (f : Int → Bool) (xs : List Int) : xs.map (fun x => V.bl (f x)) = (xs.map f).map V.bl := by rw [List.map_map]; rfl
theorem any_is (f : Int → Bool) (xs : List Int) : (xs.map f).any id = xs.any f := by rw [List.any_map]; rfl
def sp_line_row (K : PySem.W.Frag) : Sp := fun vs H Q _ => ∃ (R S : Addr) (rvs svs : List V) (rs : List Row) (shs : List (Int × Int)) (d : Int) (n : Nat), vs = [.ref R, .ref S, .int d] ∧ SqT K H R rvs ∧ Rows K H rvs rs ∧ SqT K H S svs ∧ Shs K H svs shs ∧ n ≤ 1000 ∧ Fit rs shs ∧ (∀ r ∈ rs, r.1.length = n) ∧ d < 2 ^ 9000 ∧
  (lineL rs shs d n = none → ∀ H', Same H H' → Q .non H') ∧ (∀ r, lineL rs shs d n = some r → ∀ v H', Same H H' → IsR K H' v r → Q v H')
theorem ok_line_row {n : Nat} {f : Addr} {fd : FuncData} (F : Fun K "line_row" "line_row" s_line_row f fd) {f_shares_sum : Addr} {d_shares_sum : FuncData} (G_shares_sum : FnOk P w K mg base CX0 n f_shares_sum d_shares_sum ["rows", "shares", "n"] (sp_shares_sum K)) (b_shares_sum : Binds K d_shares_sum ["rows", "shares", "n"] []) (k_shares_sum : PySem.W.keepIn K (.ref f_shares_sum) = true) (m_shares_sum : mg "shares_sum" = some (.ref f_shares_sum)) {f_width : Addr} {d_width : FuncData} (G_width : FnOk P w K mg base CX0 n f_width d_width ["rows"] (sp_width K)) (b_width : Binds K d_width ["rows"] []) (k_width : PySem.W.keepIn K (.ref f_width) = true) (m_width : mg "width" = some (.ref f_width)) {f_up : Addr} {d_up : FuncData} (G_up : FnOk P w K mg base CX0 n f_up d_up ["top", "bottom"] (sp_up K)) (b_up : Binds K d_up ["top", "bottom"] []) (k_up : PySem.W.keepIn K (.ref f_up) = true) (m_up : mg "up" = some (.ref f_up)) (z_any : mg "any" = none) (z_tuple : mg "tuple" = none) (z_len : mg "len" = none) : FnOk P w K mg base CX0 (n + 1) f fd ["rows", "shares", "divisor"] (sp_line_row K) := by
  refine F.ok sc_line_row (fun vs H Q E h => ?_) (fun cdv A outer s H vs Q E hr h => ?_)
  · obtain ⟨R, S, rvs, svs, rs, shs, d, n, rfl, _⟩ := h; rfl
  obtain ⟨R, S, rvs, svs, rs, shs, d, n, rfl, hR, hrs, hS, hsh, hn, hfit, hlen, hd9, q0, q1⟩ := h
  have hSl := hsh.1
  refine ⟨_, (pss_cut (ps_if (PW.pt (pw_or (pt_cmpR op_eq (pe_callB call_len_seq rfl z_len PySem.boot_len (pa_cons (pv 1) pa_nil se_Name) (he := se_Name) (hpl := npl_nil)) pe_int (nomark _)) (pw_or1 (pt_cmpR op_lt (pv 2) pe_int (nomark _))))) (pss_one (ps_ret pe_non)) pss_nil)
      (pss_cons (ps_set (i := 3) sc_line_row.nd rfl (Or.inl rfl) (pe_call G_shares_sum hr rfl m_shares_sum k_shares_sum b_shares_sum .nil pass0 (pa_cons (pv 0) (pa_cons (pv 1) (pa_cons (pe_call G_width hr rfl m_width k_width b_width .nil pass0 (pa_cons (pv 0) pa_nil se_Name) (he := se_Name) (hpl := npl_nil)) pa_nil se_Call) se_Name) se_Name) (he := se_Name) (hpl := (npl_cons se_Name (npl_cons se_Call npl_nil)))))
      (pss_cut (ps_if (pt_cmpR op_isN (pv 3) pe_non (nomark _)) (pss_one (ps_ret pe_non)) pss_nil)
      (pss_cut (ps_if (pt_truth (pe_callB (call_anyE (K := K) true rfl rfl) rfl z_any PyProof.Rows.boot_any (pa_cons (pe_comp (N' := ["entry", "divisor"]) (cap := [none, some 2]) rfl (.ok (show compOk ["rows", "shares", "divisor", "summed"] (defScope s_line_row) _ ["entry", "divisor"] [none, some 2] = true by decide +kernel)) (pi_tup (pe_ix ix_tup (pv 3) pe_int (fun _ _ => rfl))) (fun _ _ _ _ _ => (pg_name (i := 0) (show List.Nodup (["entry", "divisor"] : List Str) by decide +kernel) rfl (Or.inl rfl))) (fun _ _ _ _ _ => pifs_nil) (fun _ _ _ _ _ => (pe_cmpR op_ne (pe_op op_mod (pv 0) (pv 1)) pe_int (nomark _)))) pa_nil se_ListComp) (he := se_ListComp) (hpl := npl_nil)) (fun _ => rfl)) (pss_one (ps_ret pe_non)) pss_nil)
      (pss_one (ps_ret (pe_tup (pa_cons (pe_callTy call_tuple_of rfl z_tuple PyProof.Rows.boot_tuple (pa_cons (pe_comp (N' := ["entry", "divisor"]) (cap := [none, some 2]) rfl (.ok (show compOk ["rows", "shares", "divisor", "summed"] (defScope s_line_row) _ ["entry", "divisor"] [none, some 2] = true by decide +kernel)) (pi_tup (pe_ix ix_tup (pv 3) pe_int (fun _ _ => rfl))) (fun _ _ _ _ _ => (pg_name (i := 0) (show List.Nodup (["entry", "divisor"] : List Str) by decide +kernel) rfl (Or.inl rfl))) (fun _ _ _ _ _ => pifs_nil) (fun _ _ _ _ _ => (pe_op op_fdivB (pv 0) (pv 1)))) pa_nil se_ListComp) (he := se_ListComp) (hpl := npl_nil)) (pa_cons (pe_call G_up hr rfl m_up k_up b_up .nil pass0 (pa_cons (pe_ix ix_tup (pv 3) pe_int (fun _ _ => rfl)) (pa_cons (pv 2) pa_nil se_Name) se_Subscript) (he := se_Subscript) (hpl := (npl_cons se_Name npl_nil))) pa_nil se_Call) se_Call)))))))), ?_⟩
  refine ⟨fun σ' H' => H' = H ∧ ¬ (shs.length = 0 ∨ d < 1) ∧ σ' = [some (.ref R), some (.ref S), some (.int d), none], ?_, ?_⟩
  · refine ⟨_, rfl, S, _, rfl, .inr hS, rfl, _, rfl, ite2 (fun c => ?_) (fun c => ?_)⟩
    · refine iteT (q0 ?_ H (Same.refl H))
      have := dI c
      unfold lineL
      rw [if_pos (.inl (by omega))]
    · refine ⟨_, rfl, _, _, rfl, rfl, _, rfl, ite2 (fun c2 => ?_) (fun c2 => ⟨rfl, fun h => ?_, rfl⟩)⟩
      · refine q0 ?_ H (Same.refl H)
        unfold lineL
        rw [if_pos (.inr (dP c2))]
      · have h1 := dI' c
        have h2 := dP' c2
        omega
  rintro σ' H' ⟨rfl, hc, rfl⟩
  have hs0 : shs ≠ [] := fun e => hc (.inl (by rw [e]; rfl))
  have hd1 : 1 ≤ d := by omega
  have hL : lineL rs shs d n = (sumS rs shs n).bind fun a => if a.1.any (fun e => decide (e % d ≠ 0)) = true then none else some (a.1.map (· / d), -(-a.2 / d)) := by
    unfold lineL
    rw [if_neg hc]
  have hwid : widthL rs ≤ 1000 := by
    cases rs with
    | nil => exact Nat.zero_le _
    | cons r t => show r.1.length ≤ 1000; rw [hlen r List.mem_cons_self]; exact hn
  refine ⟨_, rfl, _, rfl, _, rfl, R, rvs, rs, rfl, hR, hrs, R, S, rvs, svs, rs, shs, widthL rs, rfl, hR, hrs, hS, hsh, hwid, hfit, fun e H2 g => ?_, fun a ha v H2 g hv => ?_⟩
  · rw [sumS_width hlen hs0] at e
    refine ⟨fun _ _ => False, ⟨_, rfl, rfl, _, rfl, iteT (q0 ?_ H2 g)⟩, fun _ _ h => h.elim⟩
    rw [hL, e]
    rfl
  rw [sumS_width hlen hs0] at ha
  rw [ha, Option.bind_some] at hL
  have hal := sumS_len hlen ha
  obtain ⟨p, t, rfl, hp, ht⟩ := hv
  refine cut_stay ⟨_, rfl, rfl, _, rfl, ite2 (fun c => absurd (dP c) (fun e => nomatch e)) (fun c => ⟨rfl, rfl⟩)⟩ ?_
  refine ⟨fun σ' H' => Same H2 H' ∧ a.1.any (fun e => decide (e % d ≠ 0)) ≠ true ∧ σ' = [some (.ref R), some (.ref S), some (.int d), some (.ref p)], ?_, ?_⟩
  · refine ⟨_, rfl, p, _, _, _, rfl, rfl, hp, rfl, t, rfl, ⟨_, ht⟩, fun D hD => ?_⟩
    refine comp_mapT ht hD (by omega) (fun σ => ∃ u0 : Option V, σ = [u0, some (.int d)]) ⟨_, rfl⟩ (fun x => V.bl (decide (x % d ≠ 0))) ?_ ?_
    · rintro x σ H' N hx ⟨u0, rfl⟩ g k
      refine ⟨_, rfl, _, rfl, _, _, rfl, rfl, by omega, rfl, ?_⟩
      have e : (!decide (V.int (x % d) = V.int 0)) = decide (x % d ≠ 0) := by
        by_cases c : x % d = 0
        · rw [c]; rfl
        · rw [decide_eq_true c, decide_eq_false (fun e => c (by injection e))]; rfl
      rw [e]
      exact k _ _ ⟨_, rfl⟩ (Same.refl _)
    · rintro σ H' _ g hd
      rw [any_map fun x => decide (x % d ≠ 0)] at hd
      refine ⟨D, _, _, rfl, SqL.of hd, any_is _ _, _, rfl, ite2 (fun c => ?_) (fun c => ⟨g, c, rfl⟩)⟩
      refine q0 ?_ H' (Same.trans ‹_› g)
      rw [hL, if_pos c]
  rintro σ' H3 ⟨g3, hany, rfl⟩
  rw [if_neg hany] at hL
  refine ⟨_, rfl, p, _, _, _, rfl, rfl, g3.sqt hp, rfl, t, rfl, ⟨_, g3.sqt ht⟩, fun D hD => ?_⟩
  refine comp_mapT (g3.sqt ht) hD (by omega) (fun σ => ∃ u0 : Option V, σ = [u0, some (.int d)]) ⟨_, rfl⟩ (fun x => V.int (x / d)) ?_ ?_
  · rintro x σ H' N hx ⟨u0, rfl⟩ g k
    exact ⟨_, rfl, _, rfl, _, _, rfl, rfl, CDivB.of (by omega) hd9, k _ _ ⟨_, rfl⟩ (Same.refl _)⟩
  · rintro σ H4 _ g4 hd4
    refine ⟨D, _, rfl, .inl ⟨SqL.of hd4, fun t4 ht4 => ?_⟩⟩
    have g5 := (g3.trans g4).trans (same_new ht4 (.tup (a.1.map fun x => V.int (x / d))))
    refine ⟨_, rfl, p, _, _, _, rfl, rfl, g5.sqt hp, rfl, _, rfl, _, _, rfl, hd1, hd9, (by show 2 ≤ sizeLine; decide), fun r hr2 => ?_⟩
    refine q1 _ hL _ _ ((g.trans g5).trans (same_new hr2 _)) ⟨r, t4, rfl, SqT.of upd_same, SqT.of (same_new hr2 _ _ _ ?_)⟩
    rw [upd_same, List.map_map]
    rfl
def sp__law_whole (K : PySem.W.Frag) : Sp := fun vs H Q _ => ∃ i, vs = [.int i] ∧ Q (.bl true) H
theorem ok__law_whole {n : Nat} {f : Addr} {fd : FuncData} (F : Fun K "_law_whole" "_law_whole" s__law_whole f fd) (z_isinstance : mg "isinstance" = none) (z_int : mg "int" = none) (z_bool : mg "bool" = none) : FnOk P w K mg base CX0 (n + 1) f fd ["_law_told"] (sp__law_whole K) := by
  refine F.ok sc__law_whole (fun vs H Q E h => ?_) (fun cdv A outer s H vs Q E hr h => ?_)
  · obtain ⟨i, rfl, _⟩ := h; rfl
  obtain ⟨i, rfl, q⟩ := h
  refine ⟨_, (pss_one (ps_ret (pe_and (pe_callB call_isi rfl z_isinstance PyProof.Rows.boot_isinstance (pa_cons (pv 0) (pa_cons (pe_bltn (v := .ty "int") rfl z_int PyProof.Rows.boot_int rfl) pa_nil se_Name) se_Name) (he := se_Name) (hpl := (npl_cons se_Name npl_nil))) (pe_one (pe_not (pe_callB call_isi rfl z_isinstance PyProof.Rows.boot_isinstance (pa_cons (pv 0) (pa_cons (pe_bltn (v := .ty "bool") rfl z_bool PyProof.Rows.boot_bool rfl) pa_nil se_Name) se_Name) (he := se_Name) (hpl := (npl_cons se_Name npl_nil)))))))), ?_⟩
  exact ⟨_, rfl, _, _, _, rfl, .int_int _, _, rfl, iteT ⟨_, rfl, _, _, _, rfl, .int_bool _, _, rfl, q⟩⟩
def sp__law_cell (K : PySem.W.Frag) : Sp := fun vs H Q _ => ∃ (a : Addr) (ns : List Int) (k : Int), vs = [.ref a, .int k] ∧ SqL K H a (ns.map V.int) ∧ ns.length ≤ 1000 ∧ 0 ≤ k ∧ ∀ i : Int, Q (.int i) H
theorem ok__law_cell {n : Nat} {f : Addr} {fd : FuncData} (F : Fun K "_law_cell" "_law_cell" s__law_cell f fd) (z_len : mg "len" = none) : FnOk P w K mg base CX0 (n + 1) f fd ["_law_script", "_law_k"] (sp__law_cell K) := by
  refine F.ok sc__law_cell (fun vs H Q E h => ?_) (fun cdv A outer s H vs Q E hr h => ?_)
  · obtain ⟨a, ns, k, rfl, _⟩ := h; rfl
  obtain ⟨a, ns, k, rfl, hS, hz, h0, q⟩ := h
  have hl : (ns.map V.int).length = ns.length := List.length_map _
  refine ⟨_, (pss_cut (ps_if (pt_not (pt_truth (pv 0) (fun _ => rfl))) (pss_one (ps_ret (pe_op op_add (pe_op op_mulB pe_int (pv 1)) pe_int))) pss_nil)
      (pss_one (ps_ret (pe_op op_add (pe_ix ix_list (pv 0) (pe_op op_mod (pv 1) (pe_callB call_len_seq rfl z_len PySem.boot_len (pa_cons (pv 0) pa_nil se_Name) (he := se_Name) (hpl := npl_nil))) (fun _ _ => rfl)) (pe_op op_mulB pe_int (pe_op op_fdivB (pv 1) (pe_callB call_len_seq rfl z_len PySem.boot_len (pa_cons (pv 0) pa_nil se_Name) (he := se_Name) (hpl := npl_nil)))))))), ?_⟩
  refine ⟨fun σ' H' => σ' = [some (.ref a), some (.int k)] ∧ H' = H ∧ 0 < ns.length, ?_, ?_⟩
  · refine ⟨_, rfl, !(ns.map V.int).isEmpty, .inl ⟨_, hS, rfl⟩, ?_⟩
    cases ns with
    | nil => exact iteT ⟨_, rfl, _, _, rfl, rfl, mulOk_l (by decide) (by decide), _, _, rfl, rfl, q _⟩
    | cons x r => exact iteF ⟨rfl, rfl, by simp⟩
  · rintro σ' H'' ⟨rfl, rfl, hpos⟩
    have hp : (0 : Int) < ((ns.map V.int).length : Int) := by rw [hl]; omega
    have h9 : (1000 : Int) < 2 ^ 9000 := by decide +kernel
    obtain ⟨v, hv⟩ := at_int (ns := ns) (k := k % ((ns.map V.int).length : Int)) (Int.emod_nonneg _ (by omega)) (by have := Int.emod_lt_of_pos k hp; rw [hl] at this ⊢; exact this)
    exact ⟨_, rfl, _, rfl, _, rfl, a, _, rfl, .inl hS, _, _, rfl, rfl, hp, a, _, _, _, rfl, rfl, hS, hv, _, rfl, _, rfl, a, _, rfl, .inl hS, _, _, rfl, rfl, CDivB.of hp (by rw [hl]; omega), _, _, rfl, rfl, mulOk_l (by decide) (by decide), _, _, rfl, rfl, q _⟩
abbrev Dr (d z : Int) : Prop := 0 ≤ d ∧ d < z
abbrev Drawn (ds zs : List Int) : Prop := Paired Dr ds zs
theorem Drawn.take {zs : List Int} {i : Nat} {z : Int} {ds : List Int} (h : Drawn ds (zs.take i)) (hz : zs[i]? = some z) {d : Int} (h0 : 0 ≤ d) (h1 : d < z) : Drawn (ds ++ [d]) (zs.take (i + 1)) := by
  rw [take_snoc hz]
  exact Paired.snoc h ⟨h0, h1⟩
theorem Drawn.len {ds zs : List Int} (h : Drawn ds zs) : ds.length = zs.length := Paired.length h
def sp__law_draws (K : PySem.W.Frag) : Sp := fun vs H Q _ => ∃ (c s : Int) (a : Addr) (zs : List Int), vs = [.int c, .int s, .ref a] ∧ SqL K H a (zs.map V.int) ∧ zs.length ≤ 1000 ∧ 0 ≤ s ∧ s < 2 ^ 20 ∧ (∀ z ∈ zs, 0 < z ∧ z < 2 ^ 9000) ∧
  ∀ (p : Addr) (H' : Hp) (ds : List Int), Same H H' → H p = none → H' p = some (.lst (ds.map V.int)) → Drawn ds zs → Q (.ref p) H'
theorem ok__law_draws {n : Nat} {f : Addr} {fd : FuncData} (F : Fun K "_law_draws" "_law_draws" s__law_draws f fd) (z_max : mg "max" = none) (z_enumerate : mg "enumerate" = none) (z_abs : mg "abs" = none) : FnOk P w K mg base CX0 (n + 1) f fd ["_law_cell_here", "_law_salt", "_law_sizes"] (sp__law_draws K) := by
  refine F.ok sc__law_draws (fun vs H Q E h => ?_) (fun cdv A outer s H vs Q E hr h => ?_)
  · obtain ⟨c, s, a, zs, rfl, _⟩ := h; rfl
  obtain ⟨c, s0, a, zs, rfl, hS, hz, hs0, hs1, hzs, q⟩ := h
  refine ⟨_, (pss_cons (ps_set (i := 3) sc__law_draws.nd rfl (Or.inl rfl) (pe_lst pa_nil))
      (pss_cons (ps_set (i := 4) sc__law_draws.nd rfl (Or.inl rfl) (pe_callB (call_max2 rfl) rfl z_max PyProof.Rows.boot_max (pa_cons pe_int (pa_cons (pe_op op_sub (pe_callB call_abs rfl z_abs PyProof.Rows.boot_abs (pa_cons (pv 0) pa_nil se_Name) (he := se_Name) (hpl := npl_nil)) (pe_op op_pow pe_int pe_int)) pa_nil se_BinOp) se_Constant) (he := se_Constant) (hpl := (npl_cons se_BinOp npl_nil))))
      (pss_cons (ps_for PassesOwn.never rfl (pi_enum true rfl z_enumerate (pa_cons (pv 2) pa_nil se_Name)) (pg_tup rfl (pgs_cons (pg_name (i := 5) sc__law_draws.nd rfl (Or.inl rfl)) (pgs_cons (pg_name (i := 6) sc__law_draws.nd rfl (Or.inl rfl)) pgs_nil))) (pss_one (ps_if (pt_cmpR op_gt (pv 4) pe_int (nomark _)) (pss_cons (ps_expr (pe_bm PySem.F.plainAttrs_list PySem.F.slot_list_append PySem.F.type_list_append mt_append (pv 3) (pa_cons (pe_op op_mod (pe_op op_sub (pv 4) pe_int) (pv 6)) pa_nil se_BinOp) (hfew := few_of se_BinOp) (hs := se_BinOp) (hplain := npl_nil)))
      (pss_one (ps_set (i := 4) sc__law_draws.nd rfl (Or.inl rfl) (pe_op op_fdivB (pe_op op_sub (pv 4) pe_int) (pv 6))))) (pss_cons (ps_set (i := 7) sc__law_draws.nd rfl (Or.inl rfl) (pe_op op_add (pe_op op_add (pe_op op_mulB (pe_op op_mod (pv 0) pe_int) pe_int) (pe_op op_mulB (pv 1) pe_int)) pe_int))
      (pss_cons (ps_set (i := 7) sc__law_draws.nd rfl (Or.inl rfl) (pe_op op_add (pv 7) (pe_op op_mulB (pv 5) (pe_op op_add (pe_op op_mulB (pv 5) pe_int) pe_int))))
      (pss_cons (ps_set (i := 7) sc__law_draws.nd rfl (Or.inl rfl) (pe_op op_add (pe_op op_mod (pe_op op_mulB (pv 7) pe_int) pe_int) (pe_op op_mulB (pv 5) (pv 1))))
      (pss_cons (ps_set (i := 7) sc__law_draws.nd rfl (Or.inl rfl) (pe_op op_mod (pe_op op_mulB (pv 7) pe_int) pe_int))
      (pss_cut (ps_if (pt_cmpR op_gt (pv 6) pe_int (nomark _)) (pss_one (ps_set (i := 7) sc__law_draws.nd rfl (Or.inl rfl) (pe_op op_mulB (pe_op op_mulB (pe_op op_mulB (pv 7) (pv 7)) (pv 7)) (pv 7)))) pss_nil)
      (pss_one (ps_expr (pe_bm PySem.F.plainAttrs_list PySem.F.slot_list_append PySem.F.type_list_append mt_append (pv 3) (pa_cons (pe_op op_mod (pv 7) (pv 6)) pa_nil se_BinOp) (hfew := few_of se_BinOp) (hs := se_BinOp) (hplain := npl_nil))))))))))))
      (pss_one (ps_ret (pv 3)))))), ?_⟩
  refine ⟨(by show 0 ≤ sizeLine; decide), fun p hp => ?_⟩
  refine ⟨_, rfl, _, rfl, _, _, rfl, rfl, ⟨by decide, by decide, by decide⟩, _, _, rfl, rfl, _, _, rfl, ?_⟩
  have g0 := same_new hp (.lst [])
  refine ⟨_, rfl, a, _, rfl, g0.seq hS, ?_⟩
  refine lp_enum (xs := zs.map V.int) (fun i σ H' => ∃ (r : Int) (ds : List Int) (u5 u6 u7 : Option V), σ = [some (.int c), some (.int s0), some (.ref a), some (.ref p), some (.int r), u5, u6, u7] ∧ Same H H' ∧ H' p = some (.lst (ds.map V.int)) ∧ Drawn ds (zs.take i)) ?_ ?_ ?_ ?_
  · exact ⟨_, [], _, _, _, rfl, g0, upd_same, .nil⟩
  · rintro i σ H' _ ⟨r, ds, u5, u6, u7, rfl, g, hd, hD⟩
    exact g.seq hS
  · rintro i x t σ H' hx ⟨r, ds, u5, u6, u7, rfl, g, hd, hD⟩ ht
    obtain ⟨z, rfl, hzi⟩ := map_int hx
    have hzm := hzs z (List.mem_of_getElem? hzi)
    have hi : i < zs.length := lt_of_at hzi
    have hpt : p ≠ t := ne_of_none hd ht
    have g1 : Same H (upd H' t (.tup [.int i, .int z])) := g.trans (same_new ht _)
    have hd1 : upd H' t (.tup [.int i, .int z]) p = some (.lst (ds.map V.int)) := by rw [upd_ne hpt]; exact hd
    have ll : (ds.map V.int).length < sizeLine := by
      have := hD.len
      rw [List.length_take] at this
      rw [List.length_map]
      exact small1000 (by omega)
    have hnew : ∀ d : Int, upd (upd H' t (.tup [.int i, .int z])) p (.lst (ds.map V.int ++ [.int d])) p = some (.lst ((ds ++ [d]).map V.int)) := fun d => by rw [upd_same, List.map_append]; rfl
    have hsam : ∀ d : Int, Same H (upd (upd H' t (.tup [.int i, .int z])) p (.lst (ds.map V.int ++ [.int d]))) := fun d => same_upd g1 hp _
    refine ⟨t, _, rfl, SqT.of upd_same, rfl, _, _, rfl, _, _, rfl, rfl, ?_⟩
    refine ⟨_, rfl, _, _, rfl, rfl, _, rfl, ite2 (fun c1 => ?_) (fun c1 => ?_)⟩
    · refine ⟨_, rfl, .inl ⟨rfl, _, SqL.of hd1⟩, _, rfl, _, _, rfl, rfl, _, rfl, _, _, rfl, rfl, hzm.1, p, _, _, rfl, rfl, hd1, ll, ?_⟩
      exact ⟨_, rfl, _, _, rfl, rfl, _, rfl, _, _, rfl, rfl, CDivB.of hzm.1 hzm.2, _, ds ++ [(r - 1) % z], _, _, _, rfl, hsam _, hnew _, hD.take hzi (Int.emod_nonneg _ (by omega)) (Int.emod_lt_of_pos _ hzm.1)⟩
    · refine ⟨_, rfl, _, _, rfl, rfl, (by decide : (0 : Int) < 1000003), _, _, rfl, rfl, mulOk_r (by decide) (by decide), _, rfl, _, _, rfl, rfl, mulOk_r (by decide) (by decide), _, _, rfl, rfl, _, _, rfl, rfl, ?_⟩
      refine ⟨_, rfl, _, rfl, _, rfl, _, _, rfl, rfl, mulOk_r (by decide) (by decide), _, _, rfl, rfl, _, _, rfl, rfl, mulOk_l (by omega) (by omega), _, _, rfl, rfl, ?_⟩
      refine ⟨_, rfl, _, _, rfl, rfl, mulOk_r (by decide) (by decide), _, _, rfl, rfl, (by decide : (0 : Int) < 2147483647), _, rfl, _, rfl, _, _, rfl, rfl, mulOk_l (by omega) (by omega), _, _, rfl, rfl, ?_⟩
      refine ⟨_, rfl, _, _, rfl, rfl, mulOk_r (by decide) (by decide), _, _, rfl, rfl, (by decide : (0 : Int) < 1000000007), ?_⟩
      refine ⟨fun σ' H2 => H2 = upd H' t (.tup [.int i, .int z]) ∧ ∃ m : Int, σ' = [some (.int c), some (.int s0), some (.ref a), some (.ref p), some (.int r), some (.int (i : Int)), some (.int z), some (.int m)], ?_, ?_⟩
      · refine ⟨_, rfl, _, _, rfl, rfl, _, rfl, ite2 (fun c2 => ?_) (fun c2 => ⟨rfl, _, rfl⟩)⟩
        have m0 := Int.emod_nonneg ((((c % 1000003 * 7919 + s0 * 15485863 + 5 + (i : Int) * ((i : Int) * 104729 + 611953)) * 48271 % 2147483647 + (i : Int) * s0)) * 69621) (b := 1000000007) (by decide)
        have m1 := Int.emod_lt_of_pos ((((c % 1000003 * 7919 + s0 * 15485863 + 5 + (i : Int) * ((i : Int) * 104729 + 611953)) * 48271 % 2147483647 + (i : Int) * s0)) * 69621) (b := 1000000007) (by decide)
        refine ⟨_, rfl, _, rfl, _, _, rfl, rfl, mulOk_r (Int.lt_of_lt_of_le (by decide) m0) (Int.lt_trans m1 (by decide)), _, rfl, _, _, rfl, rfl, mulOk_r (Int.lt_of_lt_of_le (by decide) m0) (Int.lt_trans m1 (by decide)), _, rfl, _, _, rfl, rfl, mulOk_r (Int.lt_of_lt_of_le (by decide) m0) (Int.lt_trans m1 (by decide)), rfl, _, rfl⟩
      · rintro σ' H2 ⟨rfl, m, rfl⟩
        refine ⟨_, rfl, .inl ⟨rfl, _, SqL.of hd1⟩, _, rfl, _, rfl, _, _, rfl, rfl, hzm.1, p, _, _, rfl, rfl, hd1, ll, _, ds ++ [m % z], _, _, _, rfl, hsam _, hnew _, hD.take hzi (Int.emod_nonneg _ (by omega)) (Int.emod_lt_of_pos _ hzm.1)⟩
  · rintro σ H' ⟨r, ds, u5, u6, u7, rfl, g, hd, hD⟩
    refine ⟨_, rfl, q p H' ds g hp hd ?_⟩
    rw [List.length_map, List.take_length] at hD
    exact hD
theorem Drawn.at {ds zs : List Int} (h : Drawn ds zs) : ∀ {i : Nat} {z : Int}, zs[i]? = some z → ∃ d, ds[i]? = some d ∧ 0 ≤ d ∧ d < z := by
  induction h with
  | nil => intro i z hz; simp at hz
  | cons h1 t ih =>
    intro i z hz
    cases i with
    | zero => cases hz; exact ⟨_, rfl, h1⟩
    | succ i => exact ih hz
theorem Drawn.mem {ds zs : List Int} (h : Drawn ds zs) : ∀ d ∈ ds, ∃ z ∈ zs, 0 ≤ d ∧ d < z := by
  induction h with
  | nil => intro d hd; exact absurd hd List.not_mem_nil
  | cons h1 t ih =>
    intro d hd
    rcases List.mem_cons.mp hd with rfl | hd
    · exact ⟨_, List.mem_cons_self, h1⟩
    · obtain ⟨z, hz, q⟩ := ih d hd
      exact ⟨z, List.mem_cons_of_mem _ hz, q⟩
theorem hat_of {ds : List Int} {i : Nat} {d k : Int} (h : ds[i]? = some d) (e : k = (i : Int)) : atI (ds.map V.int) k = some (.int d) := atI_of (map_map_at h) e
def sp__law_wholes (K : PySem.W.Frag) : Sp := fun vs H Q _ => ∃ (t : Addr) (es : List Int) (m : Int), vs = [.ref t, .int m] ∧ SqT K H t (es.map V.int) ∧ m = (es.length : Int) ∧ es.length ≤ 1000 ∧ ∀ H', Same H H' → Q (.bl true) H'
theorem ok__law_wholes {n : Nat} {f : Addr} {fd : FuncData} (F : Fun K "_law_wholes" "_law_wholes" s__law_wholes f fd) {f__law_whole : Addr} {d__law_whole : FuncData} (G__law_whole : FnOk P w K mg base CX0 n f__law_whole d__law_whole ["_law_told"] (sp__law_whole K)) (b__law_whole : Binds K d__law_whole ["_law_told"] []) (k__law_whole : PySem.W.keepIn K (.ref f__law_whole) = true) (m__law_whole : mg "_law_whole" = some (.ref f__law_whole)) (z_isinstance : mg "isinstance" = none) (z_tuple : mg "tuple" = none) (z_all : mg "all" = none) (z_len : mg "len" = none) : FnOk P w K mg base CX0 (n + 1) f fd ["_law_told", "_law_size"] (sp__law_wholes K) := by
  refine F.ok sc__law_wholes (fun vs H Q E h => ?_) (fun cdv A outer s H vs Q E hr h => ?_)
  · obtain ⟨t, es, m, rfl, _⟩ := h; rfl
  obtain ⟨t, es, m, rfl, ht, rfl, hz, q⟩ := h
  refine ⟨_, (pss_one (ps_ret (pe_and (pe_callB call_isi rfl z_isinstance PyProof.Rows.boot_isinstance (pa_cons (pv 0) (pa_cons (pe_bltn (v := .ty "tuple") rfl z_tuple PyProof.Rows.boot_tuple rfl) pa_nil se_Name) se_Name) (he := se_Name) (hpl := (npl_cons se_Name npl_nil))) (pe_and (pe_cmpR op_eq (pe_callB call_len_seq rfl z_len PySem.boot_len (pa_cons (pv 0) pa_nil se_Name) (he := se_Name) (hpl := npl_nil)) (pv 1) (nomark _)) (pe_one (pe_callB (call_allE (K := K) true rfl rfl) rfl z_all PyProof.Rows.boot_all (pa_cons (pe_comp (N' := ["_law_one"]) (cap := [none]) rfl (.ok (show compOk ["_law_told", "_law_size"] (defScope s__law_wholes) _ ["_law_one"] [none] = true by decide +kernel)) (pi_tup (pv 0)) (fun _ _ _ _ _ => (pg_name (i := 0) (show List.Nodup (["_law_one"] : List Str) by decide +kernel) rfl (Or.inl rfl))) (fun _ _ _ _ _ => pifs_nil) (fun _ _ _ _ _ => (pe_call G__law_whole hr rfl m__law_whole k__law_whole b__law_whole .nil pass0 (pa_cons (pv 0) pa_nil se_Name) (he := se_Name) (hpl := npl_nil)))) pa_nil se_ListComp) (he := se_ListComp) (hpl := npl_nil))))))), ?_⟩
  refine ⟨_, rfl, _, _, _, rfl, .tup_tuple ht, true, rfl, iteT ⟨_, rfl, t, _, rfl, .inr ht, _, rfl, rfl, true, ?_, iteT ⟨_, rfl, t, rfl, ⟨_, ht⟩, fun D hD => ?_⟩⟩⟩
  · rw [List.length_map]
    exact congrArg V.bl (decide_eq_true rfl)
  refine comp_mapT ht hD hz (fun σ => ∃ u0 : Option V, σ = [u0]) ⟨_, rfl⟩ (fun _ => V.bl true) ?_ ?_
  · rintro x σ H' N hx ⟨u0, rfl⟩ g k
    exact ⟨_, rfl, _, rfl, k _ _ ⟨_, rfl⟩ (Same.refl _)⟩
  · rintro σ H' _ g hd
    rw [map_const_bl] at hd
    exact ⟨D, _, _, rfl, SqL.of hd, all_true _, q H' g⟩
def sp__law_total (K : PySem.W.Frag) : Sp := fun vs H Q _ => ∃ (R S : Addr) (rvs svs : List V) (rs : List Row) (shs : List (Int × Int)) (n : Nat), vs = [.ref R, .ref S, .int (n : Int)] ∧ SqL K H R rvs ∧ Rows K H rvs rs ∧ SqL K H S svs ∧ Shs K H svs shs ∧ n ≤ 500 ∧ Fit rs shs ∧ (∀ r ∈ rs, r.1.length = n) ∧
  (sumS rs shs n = none → ∀ H', Same H H' → Q .non H') ∧ (∀ r, sumS rs shs n = some r → ∀ p H', Same H H' → H' p = some (.lst ((r.1 ++ [r.2]).map V.int)) → H p = none → Q (.ref p) H')
theorem rep_end (n : Nat) : List.replicate (n + 1) (0 : Int) = List.replicate n 0 ++ [0] := by rw [List.replicate_succ']
theorem ok__law_total {n : Nat} {f : Addr} {fd : FuncData} (F : Fun K "_law_total" "_law_total" s__law_total f fd) (z_list : mg "list" = none) (z_len : mg "len" = none) (z_zip : mg "zip" = none) : FnOk P w K mg base CX0 (n + 1) f fd ["_law_rows_here", "_law_shares_here", "_law_n"] (sp__law_total K) := by
  refine F.ok sc__law_total (fun vs H Q E h => ?_) (fun cdv A outer s H vs Q E hr h => ?_)
  · obtain ⟨R, S, rvs, svs, rs, shs, n, rfl, _⟩ := h; rfl
  obtain ⟨R, S, rvs, svs, rs, shs, n, rfl, hR, hrs, hS, hsh, hn, ⟨hfr, hfs⟩, hlen, q0, q1⟩ := h
  have hRl := hrs.1
  refine ⟨_, (pss_cons (ps_set (i := 3) sc__law_total.nd rfl (Or.inl rfl) (pe_op op_rep (pe_lst (pa_cons pe_int pa_nil se_Constant)) (pe_op op_add (pv 2) pe_int)))
      (pss_cons (ps_for PassesOwn.never rfl (pi_list (pv 1)) (pg_tup rfl (pgs_cons (pg_name (i := 4) sc__law_total.nd rfl (Or.inl rfl)) (pgs_cons (pg_name (i := 5) sc__law_total.nd rfl (Or.inr rfl)) pgs_nil))) (pss_cut (ps_if (PW.pt (pw_or (pt_cmpR op_lt (pv 4) pe_int (nomark _)) (pw_or (pt_cmpR op_ge (pv 4) (pe_callB call_len_seq rfl z_len PySem.boot_len (pa_cons (pv 0) pa_nil se_Name) (he := se_Name) (hpl := npl_nil)) (nomark _)) (pw_or1 (pt_cmpR op_lt (pv 5) pe_int (nomark _)))))) (pss_one (ps_ret pe_non)) pss_nil)
      (pss_cons (ps_set (i := 6) sc__law_total.nd rfl (Or.inl rfl) (pe_op op_cat (pe_callTy call_list_of rfl z_list PyProof.Rows.boot_list (pa_cons (pe_ix ix_tup (pe_ix ix_list (pv 0) (pv 4) (fun _ _ => rfl)) pe_int (fun _ _ => rfl)) pa_nil se_Subscript) (he := se_Subscript) (hpl := npl_nil)) (pe_lst (pa_cons (pe_ix ix_tup (pe_ix ix_list (pv 0) (pv 4) (fun _ _ => rfl)) pe_int (fun _ _ => rfl)) pa_nil se_Subscript))))
      (pss_one (ps_comp (i := 3) (N' := ["_law_one", "_law_more", "_law_weight"]) (cap := [none, none, some 5]) rfl sc__law_total.nd rfl (Or.inl rfl) (.ok (show compOk ["_law_rows_here", "_law_shares_here", "_law_n", "_law_total_here", "_law_number", "_law_weight", "_law_row"] (defScope s__law_total) _ ["_law_one", "_law_more", "_law_weight"] [none, none, some 5] = true by decide +kernel)) (pi_zip true true rfl z_zip (pa_cons (pv 3) (pa_cons (pv 6) pa_nil se_Name) se_Name)) (fun _ _ _ _ _ => (pg_tupK (K := K) (n := 2) rfl (pg_tup rfl (pgs_cons (pg_name (i := 0) (show List.Nodup (["_law_one", "_law_more", "_law_weight"] : List Str) by decide +kernel) rfl (Or.inl rfl)) (pgs_cons (pg_name (i := 1) (show List.Nodup (["_law_one", "_law_more", "_law_weight"] : List Str) by decide +kernel) rfl (Or.inl rfl)) pgs_nil))))) (fun _ _ _ _ _ => pifs_nil) (fun _ _ _ _ _ => (pe_op op_add (pv 0) (pe_op op_mulB (pv 2) (pv 1)))))))))
      (pss_one (ps_ret (pv 3))))), ?_⟩
  refine ⟨(by show 1 ≤ sizeLine; decide), fun l1 hl1 => ⟨_, rfl, _, _, rfl, rfl, l1, _, _, rfl, rfl, upd_same, by omega, by omega, (by rw [show [V.int 0].length = 1 from rfl]; exact small (by omega)), fun l2 hl2 => ?_⟩⟩
  have e2 : upd (upd H l1 (.lst [.int 0])) l2 (.lst (List.replicate (Int.toNat ((n : Int) + 1)) [V.int 0]).flatten) l2 = some (.lst ((List.replicate n (0 : Int) ++ [0]).map V.int)) := by rw [upd_same, rep_int, show Int.toNat ((n : Int) + 1) = n + 1 by omega, rep_end]
  have s2 := (same_new hl1 (.lst [.int 0])).trans (same_new hl2 (.lst (List.replicate (Int.toNat ((n : Int) + 1)) [V.int 0]).flatten))
  have hl2H : H l2 = none := (same_new hl1 (.lst [.int 0])).free hl2
  generalize upd (upd H l1 (.lst [.int 0])) l2 _ = H2 at e2 s2 ⊢
  refine ⟨_, rfl, S, rfl, ⟨_, s2.seq hS⟩, ?_⟩
  refine lp_list (xs := svs) (fun i σ H' => ∃ (a : Row) (e : Addr) (u4 u5 u6 : Option V), σ = [some (.ref R), some (.ref S), some (.int (n : Int)), some (.ref e), u4, u5, u6] ∧ Same H H' ∧ H' e = some (.lst ((a.1 ++ [a.2]).map V.int)) ∧ H e = none ∧ a.1.length = n ∧ sumS rs (shs.take i) n = some a) ⟨(List.replicate n 0, 0), l2, _, _, _, rfl, s2, e2, hl2H, List.length_replicate, rfl⟩ ?_ ?_ ?_
  · rintro i σ H' _ ⟨a, e, u4, u5, u6, rfl, g, _⟩
    exact g.seq hS
  · rintro i x σ H' hx ⟨a, e, u4, u5, u6, rfl, g, he, heH, hal, hsum⟩
    obtain ⟨⟨k, w⟩, hs, x, rfl, hx'⟩ := hsh.2 i x hx
    have hw := hfs _ (List.mem_of_getElem? hs)
    refine ⟨x, _, rfl, g.sqt hx', rfl, _, _, rfl, _, _, rfl, rfl, ?_⟩
    refine ⟨fun σ' H2 => H2 = H' ∧ okS rs (k, w) ∧ σ' = [some (.ref R), some (.ref S), some (.int (n : Int)), some (.ref e), some (.int k), some (.int w), u6], ?_, ?_⟩
    · refine ⟨_, rfl, _, _, rfl, rfl, _, rfl, ite2 (fun c => ?_) (fun c => ?_)⟩
      · refine iteT (q0 (sumS_bad hs fun ok => ?_) H' g)
        have h1 := ok.1.1
        have h2 := dP c
        simp only at *
        omega
      · refine ⟨_, rfl, _, rfl, R, _, rfl, .inl (g.seq hR), _, _, rfl, rfl, _, rfl, ite2 (fun c2 => ?_) (fun c2 => ?_)⟩
        · refine iteT (q0 (sumS_bad hs fun ok => ?_) H' g)
          have h1 := ok.1.2
          have h2 := dP c2
          simp only at *
          omega
        · refine ⟨_, rfl, _, _, rfl, rfl, _, rfl, ite2 (fun c3 => ?_) (fun c3 => ?_)⟩
          · refine q0 (sumS_bad hs fun ok => ?_) H' g
            have h1 := ok.2
            have h2 := dP c3
            simp only at *
            omega
          · have h1 := dP' c
            have h2 := dP' c2
            have h3 := dP' c3
            exact ⟨rfl, ⟨⟨by show 0 ≤ k; omega, by show k < rs.length; omega⟩, by show 0 ≤ w; omega⟩, rfl⟩
    rintro σ' H2 ⟨rfl, ok, rfl⟩
    have k0 : 0 ≤ k := ok.1.1
    have k1 : k < rs.length := ok.1.2
    obtain ⟨v, hv, y, z, rfl, hy, hz⟩ := hrs.at (rowAt_of k0 k1)
    have hmem := rowAt_mem k0 k1
    have hrow := hfr _ hmem
    have hrl := hlen _ hmem
    refine ⟨_, rfl, _, rfl, R, rvs, _, _, rfl, rfl, g.seq hR, atI_of hv (by omega), y, _, _, _, rfl, rfl, g.sqt hy, rfl, z, _, rfl, .inr (g.sqt hz), fun l1 hl1 => ?_⟩
    have s1 := same_new hl1 (.lst ((rowAt rs k).1.map V.int))
    have e1 : upd H2 l1 (.lst ((rowAt rs k).1.map V.int)) l1 = some (.lst ((rowAt rs k).1.map V.int)) := upd_same
    generalize upd H2 l1 _ = Ha at s1 e1 ⊢
    have ga := g.trans s1
    refine ⟨_, rfl, _, rfl, R, rvs, _, _, rfl, rfl, ga.seq hR, atI_of hv (by omega), y, _, _, _, rfl, rfl, ga.sqt hy, rfl, (by show 1 ≤ sizeLine; decide), fun l2 hl2 => ?_⟩
    have s2 := same_new hl2 (.lst [.int (rowAt rs k).2])
    have e1' := s2 _ _ e1
    have e2 : upd Ha l2 (.lst [.int (rowAt rs k).2]) l2 = some (.lst [.int (rowAt rs k).2]) := upd_same
    generalize upd Ha l2 _ = Hb at s2 e1' e2 ⊢
    refine ⟨l1, l2, _, _, rfl, rfl, e1', e2, (by rw [List.length_map, hrl]; exact small (by simp; omega)), fun l3 hl3 => ?_⟩
    have s3 := same_new hl3 (.lst ((rowAt rs k).1.map V.int ++ [.int (rowAt rs k).2]))
    have e3 : upd Hb l3 (.lst ((rowAt rs k).1.map V.int ++ [.int (rowAt rs k).2])) l3 = some (.lst (((rowAt rs k).1 ++ [(rowAt rs k).2]).map V.int)) := by rw [upd_same, List.map_append]; rfl
    generalize upd Hb l3 _ = Hc at s3 e3 ⊢
    have s13 := (s1.trans s2).trans s3
    have he3 := s13 _ _ he
    have gc := g.trans s13
    refine ⟨_, rfl, _, rfl, e, l3, _, _, rfl, SqL.of he3, SqL.of e3, fun D hD => ?_⟩
    refine comp_zip (b1 := true) (b2 := true) (xs := a.1 ++ [a.2]) (ys := (rowAt rs k).1 ++ [(rowAt rs k).2]) (SqL.of he3) (SqL.of e3) hD (by rw [List.length_append, hal]; simp; omega) (fun σ => ∃ u0 u1 : Option V, σ = [u0, u1, some (.int w)]) ⟨_, _, rfl⟩ (fun t e => V.int (t + w * e)) ?_ ?_
    · rintro t x y σ H' N ht hx hy ⟨u0, u1, rfl⟩ g k
      have hyb : y.natAbs < 2 ^ 60000 := by
        rcases List.mem_append.mp hy with h | h
        · exact hrow.1 y h
        · rw [List.mem_singleton.mp h]; exact hrow.2
      exact ⟨t, _, rfl, SqT.of ht, rfl, _, _, rfl, _, _, rfl, rfl, _, rfl, _, rfl, _, rfl, _, _, rfl, rfl, mulOk_of (by decide) (by decide) hw hyb (by decide), _, _, rfl, rfl, k _ _ ⟨_, _, rfl⟩ (Same.refl _)⟩
    rintro σ H4 _ g4 hd4
    refine ⟨addS rs a (k, w), D, _, _, _, rfl, gc.trans g4, ?_, gc.free hD, ?_, sumS_ok hs hsum ok⟩
    · rw [hd4, zw_int fun t e => t + w * e, zw_end (hal.trans hrl.symm)]
      rfl
    · unfold addS
      rw [List.length_zipWith, hal, hrl]
      exact Nat.min_self n
  · rintro σ H' ⟨a, e, u4, u5, u6, rfl, g, he, heH, hal, hsum⟩
    rw [hsh.1, List.take_length] at hsum
    exact ⟨_, rfl, q1 a hsum e H' g he heH⟩
def sp__law_line (K : PySem.W.Frag) : Sp := fun vs H Q _ => ∃ (R S : Addr) (rvs svs : List V) (rs : List Row) (shs : List (Int × Int)) (d : Int) (n : Nat), vs = [.ref R, .ref S, .int d, .int (n : Int)] ∧ SqL K H R rvs ∧ Rows K H rvs rs ∧ SqL K H S svs ∧ Shs K H svs shs ∧ n ≤ 500 ∧ Fit rs shs ∧ (∀ r ∈ rs, r.1.length = n) ∧ d < 2 ^ 9000 ∧
  (lineL rs shs d n = none → ∀ H', Same H H' → Q .non H') ∧ (∀ r, lineL rs shs d n = some r → ∀ v H', Same H H' → IsR K H' v r → Q v H')
theorem ok__law_line {n : Nat} {f : Addr} {fd : FuncData} (F : Fun K "_law_line" "_law_line" s__law_line f fd) {f__law_total : Addr} {d__law_total : FuncData} (G__law_total : FnOk P w K mg base CX0 n f__law_total d__law_total ["_law_rows_here", "_law_shares_here", "_law_n"] (sp__law_total K)) (b__law_total : Binds K d__law_total ["_law_rows_here", "_law_shares_here", "_law_n"] []) (k__law_total : PySem.W.keepIn K (.ref f__law_total) = true) (m__law_total : mg "_law_total" = some (.ref f__law_total)) (z_any : mg "any" = none) (z_tuple : mg "tuple" = none) (z_len : mg "len" = none) : FnOk P w K mg base CX0 (n + 1) f fd ["_law_rows_here", "_law_shares_here", "_law_divisor", "_law_n"] (sp__law_line K) := by
  refine F.ok sc__law_line (fun vs H Q E h => ?_) (fun cdv A outer s H vs Q E hr h => ?_)
  · obtain ⟨R, S, rvs, svs, rs, shs, d, n, rfl, _⟩ := h; rfl
  obtain ⟨R, S, rvs, svs, rs, shs, d, n, rfl, hR, hrs, hS, hsh, hn, hfit, hlen, hd9, q0, q1⟩ := h
  have hSl := hsh.1
  refine ⟨_, (pss_cut (ps_if (PW.pt (pw_or (pt_cmpR op_lt (pv 2) pe_int (nomark _)) (pw_or1 (pt_cmpR op_eq (pe_callB call_len_seq rfl z_len PySem.boot_len (pa_cons (pv 1) pa_nil se_Name) (he := se_Name) (hpl := npl_nil)) pe_int (nomark _))))) (pss_one (ps_ret pe_non)) pss_nil)
      (pss_cons (ps_set (i := 4) sc__law_line.nd rfl (Or.inl rfl) (pe_call G__law_total hr rfl m__law_total k__law_total b__law_total .nil pass0 (pa_cons (pv 0) (pa_cons (pv 1) (pa_cons (pv 3) pa_nil se_Name) se_Name) se_Name) (he := se_Name) (hpl := (npl_cons se_Name (npl_cons se_Name npl_nil)))))
      (pss_cut (ps_if (PW.pt (pw_or (pt_cmpR op_isN (pv 4) pe_non (nomark _)) (pw_or1 (pt_truth (pe_callB (call_anyE (K := K) true rfl rfl) rfl z_any PyProof.Rows.boot_any (pa_cons (pe_comp (N' := ["_law_one", "_law_divisor"]) (cap := [none, some 2]) rfl (.ok (show compOk ["_law_rows_here", "_law_shares_here", "_law_divisor", "_law_n", "_law_total_here"] (defScope s__law_line) _ ["_law_one", "_law_divisor"] [none, some 2] = true by decide +kernel)) (pi_list (pe_slice sl_list (pv 4) po_none (po_some (pv 3)))) (fun _ _ _ _ _ => (pg_name (i := 0) (show List.Nodup (["_law_one", "_law_divisor"] : List Str) by decide +kernel) rfl (Or.inl rfl))) (fun _ _ _ _ _ => pifs_nil) (fun _ _ _ _ _ => (pe_cmpR op_ne (pe_op op_mod (pv 0) (pv 1)) pe_int (nomark _)))) pa_nil se_ListComp) (he := se_ListComp) (hpl := npl_nil)) (fun _ => rfl))))) (pss_one (ps_ret pe_non)) pss_nil)
      (pss_one (ps_ret (pe_tup (pa_cons (pe_callTy call_tuple_of rfl z_tuple PyProof.Rows.boot_tuple (pa_cons (pe_comp (N' := ["_law_one", "_law_divisor"]) (cap := [none, some 2]) rfl (.ok (show compOk ["_law_rows_here", "_law_shares_here", "_law_divisor", "_law_n", "_law_total_here"] (defScope s__law_line) _ ["_law_one", "_law_divisor"] [none, some 2] = true by decide +kernel)) (pi_list (pe_slice sl_list (pv 4) po_none (po_some (pv 3)))) (fun _ _ _ _ _ => (pg_name (i := 0) (show List.Nodup (["_law_one", "_law_divisor"] : List Str) by decide +kernel) rfl (Or.inl rfl))) (fun _ _ _ _ _ => pifs_nil) (fun _ _ _ _ _ => (pe_op op_fdivB (pv 0) (pv 1)))) pa_nil se_ListComp) (he := se_ListComp) (hpl := npl_nil)) (pa_cons (pe_un un_neg (pe_op op_fdivB (pe_un un_neg (pe_ix ix_list (pv 4) (pv 3) (fun _ _ => rfl))) (pv 2))) pa_nil se_UnaryOp) se_Call))))))), ?_⟩
  refine ⟨fun σ' H' => H' = H ∧ ¬ (shs.length = 0 ∨ d < 1) ∧ σ' = [some (.ref R), some (.ref S), some (.int d), some (.int (n : Int)), none], ?_, ?_⟩
  · refine ⟨_, rfl, _, _, rfl, rfl, _, rfl, ite2 (fun c => ?_) (fun c => ?_)⟩
    · refine iteT (q0 ?_ H (Same.refl H))
      unfold lineL
      rw [if_pos (.inr (dP c))]
    · refine ⟨_, rfl, S, _, rfl, .inl hS, rfl, _, rfl, ite2 (fun c2 => ?_) (fun c2 => ⟨rfl, fun h => ?_, rfl⟩)⟩
      · refine q0 ?_ H (Same.refl H)
        have := dI c2
        unfold lineL
        rw [if_pos (.inl (by omega))]
      · have h1 := dP' c
        have h2 := dI' c2
        omega
  rintro σ' H' ⟨rfl, hc, rfl⟩
  have hd1 : 1 ≤ d := by omega
  have hL : lineL rs shs d n = (sumS rs shs n).bind fun a => if a.1.any (fun e => decide (e % d ≠ 0)) = true then none else some (a.1.map (· / d), -(-a.2 / d)) := by
    unfold lineL
    rw [if_neg hc]
  refine ⟨_, rfl, _, rfl, _, rfl, R, S, rvs, svs, rs, shs, n, rfl, hR, hrs, hS, hsh, hn, hfit, hlen, fun e H2 g => ?_, fun a ha p H2 g hp hpH => ?_⟩
  · refine ⟨fun _ _ => False, ⟨_, rfl, rfl, _, rfl, iteT (iteT (q0 ?_ H2 g))⟩, fun _ _ h => h.elim⟩
    rw [hL, e]
    rfl
  rw [ha, Option.bind_some] at hL
  have hal := sumS_len hlen ha
  have hcut : cutV ((a.1 ++ [a.2]).map V.int) none (some (n : Int)) = a.1.map V.int := by
    rw [cutV_map, cut_head, ← hal, List.take_left]
  have hcon : ∀ l, (V.ref l = V.non) → False := fun l e => nomatch e
  refine ⟨fun σ' H' => Same H2 H' ∧ a.1.any (fun e => decide (e % d ≠ 0)) ≠ true ∧ σ' = [some (.ref R), some (.ref S), some (.int d), some (.int (n : Int)), some (.ref p)], ?_, ?_⟩
  · refine ⟨_, rfl, rfl, _, rfl, ite2 (fun c => absurd (dP c) (hcon _)) (fun c => ⟨_, rfl, _, rfl, _, rfl, p, _, rfl, SqL.of hp, fun l hl => ?_⟩)⟩
    have sl := same_new hl (.lst (cutV ((a.1 ++ [a.2]).map V.int) none (some (n : Int))))
    have el : upd H2 l (.lst (cutV ((a.1 ++ [a.2]).map V.int) none (some (n : Int)))) l = some (.lst (a.1.map V.int)) := by rw [upd_same, hcut]
    generalize upd H2 l _ = H3 at sl el ⊢
    refine ⟨l, rfl, ⟨_, SqL.of el⟩, fun D hD => ?_⟩
    refine comp_mapL (SqL.of el) hD (by omega) (fun σ => ∃ u0 : Option V, σ = [u0, some (.int d)]) ⟨_, rfl⟩ (fun x => V.bl (decide (x % d ≠ 0))) ?_ ?_
    · rintro x σ H' N hx ⟨u0, rfl⟩ g k
      refine ⟨_, rfl, _, rfl, _, _, rfl, rfl, by omega, rfl, ?_⟩
      have e : (!decide (V.int (x % d) = V.int 0)) = decide (x % d ≠ 0) := by
        by_cases c : x % d = 0
        · rw [c]; rfl
        · rw [decide_eq_true c, decide_eq_false (fun e => c (by injection e))]; rfl
      rw [e]
      exact k _ _ ⟨_, rfl⟩ (Same.refl _)
    · rintro σ H' _ g' hd
      rw [any_map fun x => decide (x % d ≠ 0)] at hd
      refine ⟨D, _, _, rfl, SqL.of hd, any_is _ _, _, rfl, ite2 (fun c => ?_) (fun c => ⟨sl.trans g', c, rfl⟩)⟩
      refine q0 ?_ H' ((g.trans sl).trans g')
      rw [hL, if_pos c]
  rintro σ' H3 ⟨g3, hany, rfl⟩
  rw [if_neg hany] at hL
  refine ⟨_, rfl, _, rfl, _, rfl, p, _, rfl, SqL.of (g3 _ _ hp), fun l hl => ?_⟩
  have sl := same_new hl (.lst (cutV ((a.1 ++ [a.2]).map V.int) none (some (n : Int))))
  have el : upd H3 l (.lst (cutV ((a.1 ++ [a.2]).map V.int) none (some (n : Int)))) l = some (.lst (a.1.map V.int)) := by rw [upd_same, hcut]
  generalize upd H3 l _ = H4 at sl el ⊢
  refine ⟨l, rfl, ⟨_, SqL.of el⟩, fun D hD => ?_⟩
  refine comp_mapL (SqL.of el) hD (by omega) (fun σ => ∃ u0 : Option V, σ = [u0, some (.int d)]) ⟨_, rfl⟩ (fun x => V.int (x / d)) ?_ ?_
  · rintro x σ H' N hx ⟨u0, rfl⟩ g k
    exact ⟨_, rfl, _, rfl, _, _, rfl, rfl, CDivB.of (by omega) hd9, k _ _ ⟨_, rfl⟩ (Same.refl _)⟩
  · rintro σ H5 _ g5 hd5
    refine ⟨D, _, rfl, .inl ⟨SqL.of hd5, fun t4 ht4 => ?_⟩⟩
    have g6 := ((g3.trans sl).trans g5).trans (same_new ht4 (.tup (a.1.map fun x => V.int (x / d))))
    have hat : atI ((a.1 ++ [a.2]).map V.int) (n : Int) = some (.int a.2) := atI_of (i := n) (by rw [List.getElem?_map, List.getElem?_append_right (by omega), hal, Nat.sub_self]; rfl) rfl
    refine ⟨_, rfl, _, rfl, p, _, _, _, rfl, rfl, SqL.of (g6 _ _ hp), hat, _, rfl, _, rfl, _, _, rfl, rfl, CDivB.of (by omega) hd9, _, rfl, (by show 2 ≤ sizeLine; decide), fun r hr2 => ?_⟩
    refine q1 _ hL _ _ ((g.trans g6).trans (same_new hr2 _)) ⟨r, t4, rfl, SqT.of upd_same, SqT.of (same_new hr2 _ _ _ ?_)⟩
    rw [upd_same, List.map_map]
    rfl
def sp__law_rows (K : PySem.W.Frag) : Sp := fun vs H Q _ => ∃ (c s big : Int) (n many : Nat), vs = [.int c, .int s, .int (n : Int), .int (many : Int), .int big] ∧ 0 ≤ s ∧ s < 2 ^ 20 ∧ n ≤ 8 ∧ many ≤ 10 ∧ 0 < big ∧ big ≤ 2 ^ 100 ∧
  ∀ p rvs rs H', Same H H' → H p = none → H' p = some (.lst rvs) → Rows K H' rvs rs → rs.length = many → (∀ r ∈ rs, RowOk n (2 ^ 101) r) → Q (.ref p) H'
theorem mulN (i n : Nat) : (0 + (i : Int)) * ((n : Int) + 1) = ((i * (n + 1) : Nat) : Int) := by rw [Int.zero_add]; push_cast; rfl
theorem mulN1 (i n : Nat) : (0 + (i : Int) + 1) * ((n : Int) + 1) = (((i + 1) * (n + 1) : Nat) : Int) := by rw [Int.zero_add]; push_cast; rfl
theorem ok__law_rows {n : Nat} {f : Addr} {fd : FuncData} (F : Fun K "_law_rows" "_law_rows" s__law_rows f fd) {f__law_draws : Addr} {d__law_draws : FuncData} (G__law_draws : FnOk P w K mg base CX0 n f__law_draws d__law_draws ["_law_cell_here", "_law_salt", "_law_sizes"] (sp__law_draws K)) (b__law_draws : Binds K d__law_draws ["_law_cell_here", "_law_salt", "_law_sizes"] []) (k__law_draws : PySem.W.keepIn K (.ref f__law_draws) = true) (m__law_draws : mg "_law_draws" = some (.ref f__law_draws)) (z_range : mg "range" = none) (z_tuple : mg "tuple" = none) : FnOk P w K mg base CX0 (n + 1) f fd ["_law_cell_here", "_law_salt", "_law_n", "_law_many", "_law_big"] (sp__law_rows K) := by
  refine F.ok sc__law_rows (fun vs H Q E h => ?_) (fun cdv A outer s H vs Q E hr h => ?_)
  · obtain ⟨c, s, big, n, many, rfl, _⟩ := h; rfl
  obtain ⟨c, s0, big, n, many, rfl, hs0, hs1, hn, hm, hb0, hb1, q⟩ := h
  refine ⟨_, (pss_cons (ps_set (i := 5) sc__law_rows.nd rfl (Or.inl rfl) (pe_call G__law_draws hr rfl m__law_draws k__law_draws b__law_draws .nil pass0 (pa_cons (pv 0) (pa_cons (pv 1) (pa_cons (pe_op op_rep (pe_lst (pa_cons (pe_op op_add (pe_op op_mulB pe_int (pv 4)) pe_int) pa_nil se_BinOp)) (pe_op op_mulB (pe_op op_add (pv 2) pe_int) (pv 3))) pa_nil se_BinOp) se_Name) se_Name) (he := se_Name) (hpl := (npl_cons se_Name (npl_cons se_BinOp npl_nil)))))
      (pss_cons (ps_set (i := 6) sc__law_rows.nd rfl (Or.inl rfl) (pe_lst pa_nil))
      (pss_cons (ps_for PassesOwn.never rfl (pi_range1 rfl z_range (pa_cons (pv 3) pa_nil se_Name)) (pg_name (i := 7) sc__law_rows.nd rfl (Or.inl rfl)) (pss_cons (ps_set (i := 8) sc__law_rows.nd rfl (Or.inl rfl) (pe_slice sl_list (pv 5) (po_some (pe_op op_mulB (pv 7) (pe_op op_add (pv 2) pe_int))) (po_some (pe_op op_mulB (pe_op op_add (pv 7) pe_int) (pe_op op_add (pv 2) pe_int)))))
      (pss_one (ps_expr (pe_bm PySem.F.plainAttrs_list PySem.F.slot_list_append PySem.F.type_list_append mt_append (pv 6) (pa_cons (pe_tup (pa_cons (pe_callTy call_tuple_of rfl z_tuple PyProof.Rows.boot_tuple (pa_cons (pe_comp (N' := ["_law_one", "_law_big"]) (cap := [none, some 4]) rfl (.ok (show compOk ["_law_cell_here", "_law_salt", "_law_n", "_law_many", "_law_big", "_law_numbers", "_law_rows_here", "_law_k", "_law_part"] (defScope s__law_rows) _ ["_law_one", "_law_big"] [none, some 4] = true by decide +kernel)) (pi_list (pe_slice sl_list (pv 8) po_none (po_some (pv 2)))) (fun _ _ _ _ _ => (pg_name (i := 0) (show List.Nodup (["_law_one", "_law_big"] : List Str) by decide +kernel) rfl (Or.inl rfl))) (fun _ _ _ _ _ => pifs_nil) (fun _ _ _ _ _ => (pe_op op_sub (pv 0) (pv 1)))) pa_nil se_ListComp) (he := se_ListComp) (hpl := npl_nil)) (pa_cons (pe_op op_sub (pe_ix ix_list (pv 8) (pv 2) (fun _ _ => rfl)) (pv 4)) pa_nil se_BinOp) se_Call)) pa_nil se_Tuple) (hfew := few_of se_Tuple) (hs := se_Tuple) (hplain := npl_nil))))))
      (pss_one (ps_ret (pv 6)))))), ?_⟩
  have hnm : (n + 1) * many ≤ 90 := Nat.le_trans (Nat.mul_le_mul (show n + 1 ≤ 9 by omega) hm) (by decide)
  have hnmI : ((n : Int) + 1) * (many : Int) = (((n + 1) * many : Nat) : Int) := by push_cast; rfl
  refine ⟨_, rfl, _, rfl, _, rfl, _, _, rfl, rfl, mulOk_l (by decide) (by decide), _, _, rfl, rfl, (by show 1 ≤ sizeLine; decide), fun l hl => ⟨_, rfl, _, _, rfl, rfl, _, rfl, _, _, rfl, rfl, mulOk_r (by omega) (by omega), l, _, _, rfl, rfl, upd_same, by omega, by omega, (by rw [show [V.int (2 * big + 1)].length = 1 from rfl]; exact small (by omega)), fun l2 hl2 => ?_⟩⟩
  have e2 : upd (upd H l (.lst [.int (2 * big + 1)])) l2 (.lst (List.replicate (Int.toNat (((n : Int) + 1) * (many : Int))) [V.int (2 * big + 1)]).flatten) l2 = some (.lst ((List.replicate ((n + 1) * many) (2 * big + 1)).map V.int)) := by rw [upd_same, rep_int, hnmI, Int.toNat_natCast]
  have s2 := (same_new hl (.lst [.int (2 * big + 1)])).trans (same_new hl2 (.lst (List.replicate (Int.toNat (((n : Int) + 1) * (many : Int))) [V.int (2 * big + 1)]).flatten))
  generalize upd (upd H l (.lst [.int (2 * big + 1)])) l2 _ = Ha at e2 s2 ⊢
  refine ⟨_, _, l2, List.replicate ((n + 1) * many) (2 * big + 1), rfl, SqL.of e2, (by rw [List.length_replicate]; omega), hs0, hs1, fun z hz => ?_, fun pN H1 ds g1 hpN hd1 hD => ?_⟩
  · rw [(List.mem_replicate.mp hz).2]
    refine ⟨by omega, ?_⟩
    have : (2 : Int) * 2 ^ 100 + 1 < 2 ^ 9000 := by decide +kernel
    omega
  have hdl : ds.length = (n + 1) * many := by rw [hD.len, List.length_replicate]
  have hdb : ∀ d ∈ ds, 0 ≤ d ∧ d < 2 * big + 1 := fun d hd => by
    obtain ⟨z, hz, h⟩ := hD.mem d hd
    rw [(List.mem_replicate.mp hz).2] at h
    exact h
  have gA := s2.trans g1
  refine ⟨(by show 0 ≤ sizeLine; decide), fun pR hpR => ?_⟩
  have hpRH : H pR = none := gA.free hpR
  have hNR := same_new hpR (.lst []) _ _ hd1
  have gB := gA.trans (same_new hpR (.lst []))
  refine ⟨_, rfl, (many : Int), rfl, by omega, by omega, ?_⟩
  refine lp_range (n := many) (fun i σ H' => ∃ (rvs : List V) (rs : List Row) (u7 u8 : Option V), σ = [some (.int c), some (.int s0), some (.int (n : Int)), some (.int (many : Int)), some (.int big), some (.ref pN), some (.ref pR), u7, u8] ∧ Same H1 H' ∧ Same H H' ∧ H' pR = some (.lst rvs) ∧ Rows K H' rvs rs ∧ rs.length = i ∧ (∀ r ∈ rs, RowOk n (2 ^ 101) r)) ⟨[], [], _, _, rfl, same_new hpR _, gB, upd_same, .nil, rfl, fun r hr => absurd hr List.not_mem_nil⟩ ?_ ?_
  · rintro i σ H' hi ⟨rvs, rs, u7, u8, rfl, g1', g, hR, hrs, hrl, hrb⟩
    have hd' := g1' _ _ hd1
    have hi1 : (i + 1) * (n + 1) ≤ (n + 1) * many := by rw [Nat.mul_comm]; exact Nat.mul_le_mul_left _ hi
    have hi0 : i * (n + 1) ≤ (i + 1) * (n + 1) := Nat.mul_le_mul_right _ (by omega)
    refine ⟨_, rfl, _, rfl, _, rfl, _, _, rfl, rfl, _, _, rfl, rfl, mulOk_r (by omega) (by omega), _, rfl, _, rfl, _, _, rfl, rfl, _, rfl, _, _, rfl, rfl, _, _, rfl, rfl, mulOk_r (by omega) (by omega), _, rfl, pN, _, rfl, SqL.of hd', fun l hl => ?_⟩
    rw [mulN, mulN1]
    have ecut : cutL ds (some ((i * (n + 1) : Nat) : Int)) (some (((i + 1) * (n + 1) : Nat) : Int)) = (ds.drop (i * (n + 1))).take (n + 1) := by
      rw [cut_mid ds _ _ (by omega) hi0, Nat.add_mul, Nat.one_mul, Nat.add_sub_cancel_left]
    have el : upd H' l (.lst (cutV (ds.map V.int) (some ((i * (n + 1) : Nat) : Int)) (some (((i + 1) * (n + 1) : Nat) : Int)))) l = some (.lst (((ds.drop (i * (n + 1))).take (n + 1)).map V.int)) := by rw [upd_same, cutV_map, ecut]
    have sl := same_new hl (.lst (cutV (ds.map V.int) (some ((i * (n + 1) : Nat) : Int)) (some (((i + 1) * (n + 1) : Nat) : Int))))
    generalize upd H' l _ = Hb at el sl ⊢
    have hpl : ((ds.drop (i * (n + 1))).take (n + 1)).length = n + 1 := by
      rw [List.length_take, List.length_drop, hdl]
      have : i * (n + 1) + (n + 1) ≤ (n + 1) * many := by rw [Nat.add_mul, Nat.one_mul] at hi1; exact hi1
      omega
    have hpb : ∀ x ∈ (ds.drop (i * (n + 1))).take (n + 1), 0 ≤ x ∧ x < 2 * big + 1 := fun x hx => hdb x (List.mem_of_mem_drop (List.mem_of_mem_take hx))
    generalize (ds.drop (i * (n + 1))).take (n + 1) = ps at el hpl hpb ⊢
    have hRb := sl _ _ hR
    refine ⟨_, rfl, .inl ⟨rfl, _, SqL.of hRb⟩, _, rfl, _, rfl, _, rfl, l, _, rfl, SqL.of el, fun l2 hl2 => ?_⟩
    have el2 : upd Hb l2 (.lst (cutV (ps.map V.int) none (some (n : Int)))) l2 = some (.lst ((ps.take n).map V.int)) := by rw [upd_same, cutV_map, cut_head]
    have sl2 := same_new hl2 (.lst (cutV (ps.map V.int) none (some (n : Int))))
    generalize upd Hb l2 _ = Hc at el2 sl2 ⊢
    refine ⟨l2, rfl, ⟨_, SqL.of el2⟩, fun D hD => ?_⟩
    refine comp_mapL (SqL.of el2) hD (by rw [List.length_take]; omega) (fun σ => ∃ u0 : Option V, σ = [u0, some (.int big)]) ⟨_, rfl⟩ (fun x => V.int (x - big)) ?_ ?_
    · rintro x σ H' N hx ⟨u0, rfl⟩ g k
      exact ⟨_, rfl, _, rfl, _, _, rfl, rfl, k _ _ ⟨_, rfl⟩ (Same.refl _)⟩
    rintro σ Hd _ s7 hd7
    refine ⟨D, _, rfl, .inl ⟨SqL.of hd7, fun t ht => ?_⟩⟩
    have s8 := same_new ht (.tup ((ps.take n).map fun x => V.int (x - big)))
    have ht8 : upd Hd t (.tup ((ps.take n).map fun x => V.int (x - big))) t = some (.tup (((ps.take n).map fun x => x - big).map V.int)) := by rw [upd_same, List.map_map]; rfl
    generalize upd Hd t _ = He at s8 ht8 ⊢
    have s9 := (sl2.trans s7).trans s8
    have hpn : ps[n]? = some ps[n] := by simp
    refine ⟨_, rfl, _, rfl, l, _, _, _, rfl, rfl, SqL.of (s9 _ _ el), hat_of hpn rfl, _, rfl, _, _, rfl, rfl, (by show 2 ≤ sizeLine; decide), fun r hr2 => ?_⟩
    have hpnb := hpb _ (List.mem_of_getElem? hpn)
    generalize ps[n] = z at hpnb hpn ⊢
    have s10 := s9.trans (same_new hr2 (.tup [.ref t, .int (z - big)]))
    have hr10 : upd He r (.tup [.ref t, .int (z - big)]) r = some (.tup [.ref t, .int (z - big)]) := upd_same
    have ht10 := same_new hr2 (.tup [.ref t, .int (z - big)]) _ _ ht8
    generalize upd He r _ = Hf at s10 hr10 ht10 ⊢
    have hR10 := s10 _ _ hRb
    have s11 := sl.trans s10
    refine ⟨pR, _, _, rfl, rfl, hR10, small1000 (by rw [hrs.1]; omega), rvs ++ [.ref r], rs ++ [((ps.take n).map fun x => x - big, z - big)], _, _, rfl, same_upd (g1'.trans s11) hpR _, same_upd (g.trans s11) hpRH _, upd_same, ?_, by rw [List.length_append, hrl]; rfl, fun x hx => ?_⟩
    · exact (hrs.ts ((s11.ts).trans (TSame.lst hR10))).snoc ⟨r, t, rfl, TSame.lst hR10 _ _ (SqT.of hr10), TSame.lst hR10 _ _ (SqT.of ht10)⟩
    · rcases List.mem_append.mp hx with h | h
      · exact hrb x h
      · rw [List.mem_singleton.mp h]
        refine ⟨by rw [List.length_map, List.length_take]; omega, fun y hy => ?_, ?_⟩
        · obtain ⟨u, hu, rfl⟩ := List.mem_map.mp hy
          have := hpb u (List.mem_of_mem_take hu)
          omega
        · show (z - big).natAbs ≤ 2 ^ 101
          omega
  · rintro σ H' ⟨rvs, rs, u7, u8, rfl, g1', g, hR, hrs, hrl, hrb⟩
    exact ⟨_, rfl, q pR rvs rs H' g hpRH hR hrs hrl hrb⟩
def sp__law_shares (K : PySem.W.Frag) : Sp := fun vs H Q _ => ∃ (c heavy : Int) (many count : Nat) (wild : Bool), vs = [.int c, .int (many : Int), .int (count : Int), .bl wild, .int heavy] ∧ many ≤ 100 ∧ count ≤ 10 ∧ 0 < heavy ∧ heavy ≤ 2 ^ 70 ∧
  ∀ p svs shs H', Same H H' → H p = none → H' p = some (.lst svs) → Shs K H' svs shs → shs.length ≤ count → (∀ s ∈ shs, s.2.natAbs ≤ 2 ^ 72) → (wild = false → ∀ s ∈ shs, (0 ≤ s.1 ∧ s.1 < many) ∧ 0 ≤ s.2) → Q (.ref p) H'
theorem ok__law_shares {n : Nat} {f : Addr} {fd : FuncData} (F : Fun K "_law_shares" "_law_shares" s__law_shares f fd) {f__law_draws : Addr} {d__law_draws : FuncData} (G__law_draws : FnOk P w K mg base CX0 n f__law_draws d__law_draws ["_law_cell_here", "_law_salt", "_law_sizes"] (sp__law_draws K)) (b__law_draws : Binds K d__law_draws ["_law_cell_here", "_law_salt", "_law_sizes"] []) (k__law_draws : PySem.W.keepIn K (.ref f__law_draws) = true) (m__law_draws : mg "_law_draws" = some (.ref f__law_draws)) (z_range : mg "range" = none) : FnOk P w K mg base CX0 (n + 1) f fd ["_law_cell_here", "_law_many", "_law_count", "_law_wild", "_law_heavy"] (sp__law_shares K) := by
  refine F.ok sc__law_shares (fun vs H Q E h => ?_) (fun cdv A outer s H vs Q E hr h => ?_)
  · obtain ⟨c, heavy, many, count, wild, rfl, _⟩ := h; rfl
  obtain ⟨c, heavy, many, count, wild, rfl, hm, hc, hv0, hv1, q⟩ := h
  refine ⟨_, (pss_cons (ps_set (i := 5) sc__law_shares.nd rfl (Or.inl rfl) (pe_call G__law_draws hr rfl m__law_draws k__law_draws b__law_draws .nil pass0 (pa_cons (pv 0) (pa_cons pe_int (pa_cons (pe_op op_rep (pe_lst (pa_cons (pe_op op_add (pv 1) pe_int) (pa_cons (pe_op op_add (pv 4) pe_int) pa_nil se_BinOp) se_BinOp)) (pv 2)) pa_nil se_BinOp) se_Constant) se_Name) (he := se_Name) (hpl := (npl_cons se_Constant (npl_cons se_BinOp npl_nil)))))
      (pss_cons (ps_set (i := 6) sc__law_shares.nd rfl (Or.inl rfl) (pe_lst pa_nil))
      (pss_cons (ps_for PassesOwn.never rfl (pi_range1 rfl z_range (pa_cons (pv 2) pa_nil se_Name)) (pg_name (i := 7) sc__law_shares.nd rfl (Or.inl rfl)) (pss_one (ps_if (pt_truth (pv 3) (fun _ => rfl)) (pss_one (ps_expr (pe_bm PySem.F.plainAttrs_list PySem.F.slot_list_append PySem.F.type_list_append mt_append (pv 6) (pa_cons (pe_tup (pa_cons (pe_op op_sub (pe_ix ix_list (pv 5) (pe_op op_mulB pe_int (pv 7)) (fun _ _ => rfl)) pe_int) (pa_cons (pe_op op_sub (pe_ix ix_list (pv 5) (pe_op op_add (pe_op op_mulB pe_int (pv 7)) pe_int) (fun _ _ => rfl)) pe_int) pa_nil se_BinOp) se_BinOp)) pa_nil se_Tuple) (hfew := few_of se_Tuple) (hs := se_Tuple) (hplain := npl_nil)))) (pss_one (ps_if (pt_cmpR op_gt (pv 1) pe_int (nomark _)) (pss_one (ps_expr (pe_bm PySem.F.plainAttrs_list PySem.F.slot_list_append PySem.F.type_list_append mt_append (pv 6) (pa_cons (pe_tup (pa_cons (pe_op op_mod (pe_ix ix_list (pv 5) (pe_op op_mulB pe_int (pv 7)) (fun _ _ => rfl)) (pv 1)) (pa_cons (pe_op op_mod (pe_ix ix_list (pv 5) (pe_op op_add (pe_op op_mulB pe_int (pv 7)) pe_int) (fun _ _ => rfl)) (pe_op op_add (pv 4) pe_int)) pa_nil se_BinOp) se_BinOp)) pa_nil se_Tuple) (hfew := few_of se_Tuple) (hs := se_Tuple) (hplain := npl_nil)))) pss_nil)))))
      (pss_one (ps_ret (pv 6)))))), ?_⟩
  refine ⟨_, rfl, _, rfl, _, _, rfl, rfl, _, rfl, _, _, rfl, rfl, (by show 2 ≤ sizeLine; decide), fun l hl => ⟨_, rfl, l, _, _, rfl, rfl, upd_same, by omega, by omega, (by rw [show [V.int ((many : Int) + 5), V.int (heavy + 2)].length = 2 from rfl]; exact small (by omega)), fun l2 hl2 => ?_⟩⟩
  have e2 : upd (upd H l (.lst [.int ((many : Int) + 5), .int (heavy + 2)])) l2 (.lst (List.replicate (Int.toNat (count : Int)) [V.int ((many : Int) + 5), V.int (heavy + 2)]).flatten) l2 = some (.lst (((List.replicate count [(many : Int) + 5, heavy + 2]).flatten).map V.int)) := by rw [upd_same, Int.toNat_natCast]; exact congrArg (fun x => some (HO.lst x)) (rep_ints count [(many : Int) + 5, heavy + 2])
  have s2 := (same_new hl (.lst [.int ((many : Int) + 5), .int (heavy + 2)])).trans (same_new hl2 (.lst (List.replicate (Int.toNat (count : Int)) [V.int ((many : Int) + 5), V.int (heavy + 2)]).flatten))
  generalize upd (upd H l (.lst [.int ((many : Int) + 5), .int (heavy + 2)])) l2 _ = Ha at e2 s2 ⊢
  have hzl : ((List.replicate count [(many : Int) + 5, heavy + 2]).flatten).length = count * 2 := len_rep _ _
  have hzb : ∀ z ∈ (List.replicate count [(many : Int) + 5, heavy + 2]).flatten, 0 < z ∧ z ≤ 2 ^ 71 := fun z hz => by
    have := mem_rep hz
    simp only [List.mem_cons, List.not_mem_nil, or_false] at this
    rcases this with rfl | rfl <;> omega
  refine ⟨_, _, l2, (List.replicate count [(many : Int) + 5, heavy + 2]).flatten, rfl, SqL.of e2, (by rw [hzl]; omega), by decide, by decide, fun z hz => ?_, fun pN H1 ds g1 hpN hd1 hD => ?_⟩
  · have h1 := hzb z hz
    have : (2 : Int) ^ 71 < 2 ^ 9000 := by decide +kernel
    exact ⟨h1.1, by omega⟩
  have hdl : ds.length = count * 2 := by rw [hD.len, hzl]
  have hdb : ∀ d ∈ ds, 0 ≤ d ∧ d < 2 ^ 71 := fun d hd => by
    obtain ⟨z, hz, h⟩ := hD.mem d hd
    have := hzb z hz
    omega
  have gA := s2.trans g1
  refine ⟨(by show 0 ≤ sizeLine; decide), fun pS hpS => ?_⟩
  have hpSH : H pS = none := gA.free hpS
  refine ⟨_, rfl, (count : Int), rfl, by omega, by omega, ?_⟩
  refine lp_range (n := count) (fun i σ H' => ∃ (svs : List V) (shs : List (Int × Int)) (u7 : Option V), σ = [some (.int c), some (.int (many : Int)), some (.int (count : Int)), some (.bl wild), some (.int heavy), some (.ref pN), some (.ref pS), u7] ∧ Same H1 H' ∧ Same H H' ∧ H' pS = some (.lst svs) ∧ Shs K H' svs shs ∧ shs.length ≤ i ∧ (∀ s ∈ shs, s.2.natAbs ≤ 2 ^ 72) ∧ (wild = false → ∀ s ∈ shs, (0 ≤ s.1 ∧ s.1 < many) ∧ 0 ≤ s.2)) ⟨[], [], _, rfl, same_new hpS _, gA.trans (same_new hpS _), upd_same, .nil, Nat.le_refl _, fun r hr => absurd hr List.not_mem_nil, fun _ r hr => absurd hr List.not_mem_nil⟩ ?_ ?_
  · rintro i σ H' hi ⟨svs, shs, u7, rfl, g1', g, hS, hsh, hsl, hsb, hsw⟩
    have hd' := g1' _ _ hd1
    obtain ⟨x, hx, hxm⟩ := at_mem (ns := ds) (k := 2 * (0 + (i : Int))) (by omega) (by omega)
    obtain ⟨y, hy, hym⟩ := at_mem (ns := ds) (k := 2 * (0 + (i : Int)) + 1) (by omega) (by omega)
    have hxb := hdb x hxm
    have hyb := hdb y hym
    have close : ∀ (u v : Int) (H2 : Hp) (t : Addr), Same H' H2 → H2 t = some (.tup [.int u, .int v]) → v.natAbs ≤ 2 ^ 72 → (wild = false → (0 ≤ u ∧ u < many) ∧ 0 ≤ v) → ∃ (svs' : List V) (shs' : List (Int × Int)) (u7 : Option V), ([some (.int c), some (.int (many : Int)), some (.int (count : Int)), some (.bl wild), some (.int heavy), some (.ref pN), some (.ref pS), some (.int (0 + (i : Int)))] : St) = [some (.int c), some (.int (many : Int)), some (.int (count : Int)), some (.bl wild), some (.int heavy), some (.ref pN), some (.ref pS), u7] ∧ Same H1 (upd H2 pS (.lst (svs ++ [.ref t]))) ∧ Same H (upd H2 pS (.lst (svs ++ [.ref t]))) ∧ upd H2 pS (.lst (svs ++ [.ref t])) pS = some (.lst svs') ∧ Shs K (upd H2 pS (.lst (svs ++ [.ref t]))) svs' shs' ∧ shs'.length ≤ i + 1 ∧ (∀ s ∈ shs', s.2.natAbs ≤ 2 ^ 72) ∧ (wild = false → ∀ s ∈ shs', (0 ≤ s.1 ∧ s.1 < many) ∧ 0 ≤ s.2) := by
      intro u v H2 t s2 ht hv hw
      have hS2 := s2 _ _ hS
      refine ⟨svs ++ [.ref t], shs ++ [(u, v)], _, rfl, same_upd (g1'.trans s2) hpS _, same_upd (g.trans s2) hpSH _, upd_same, ?_, by rw [List.length_append]; simp; omega, fun s hs => ?_, fun e s hs => ?_⟩
      · exact (hsh.pts ((s2.ts).trans (TSame.lst hS2))).snoc ⟨t, rfl, TSame.lst hS2 _ _ (SqT.of ht)⟩
      · rcases List.mem_append.mp hs with h | h
        · exact hsb s h
        · rw [List.mem_singleton.mp h]; exact hv
      · rcases List.mem_append.mp hs with h | h
        · exact hsw e s h
        · rw [List.mem_singleton.mp h]; exact hw e
    have hsl2 : svs.length < sizeLine := small1000 (by rw [hsh.1]; omega)
    refine ⟨_, rfl, wild, rfl, ite2 (fun cw => ?_) (fun cw => ?_)⟩
    · refine ⟨_, rfl, .inl ⟨rfl, _, SqL.of hS⟩, _, rfl, _, rfl, _, _, rfl, rfl, mulOk_l (by decide) (by decide), pN, _, _, _, rfl, rfl, SqL.of hd', hx, _, _, rfl, rfl, _, rfl, _, rfl, _, _, rfl, rfl, mulOk_l (by decide) (by decide), _, _, rfl, rfl, pN, _, _, _, rfl, rfl, SqL.of hd', hy, _, _, rfl, rfl, (by show 2 ≤ sizeLine; decide), fun t ht => ?_⟩
      have s2 := same_new ht (.tup [.int (x - 2), .int (y - 1)])
      refine ⟨pS, _, _, rfl, rfl, s2 _ _ hS, hsl2, close (x - 2) (y - 1) _ t s2 upd_same (by omega) (fun e => ?_)⟩
      rw [cw] at e
      cases e
    · refine ⟨_, rfl, _, _, rfl, rfl, _, rfl, ite2 (fun cm => ?_) (fun cm => ⟨svs, shs, _, rfl, g1', g, hS, hsh, by omega, hsb, hsw⟩)⟩
      have cm' := dP cm
      refine ⟨_, rfl, .inl ⟨rfl, _, SqL.of hS⟩, _, rfl, _, rfl, _, _, rfl, rfl, mulOk_l (by decide) (by decide), pN, _, _, _, rfl, rfl, SqL.of hd', hx, _, rfl, _, _, rfl, rfl, cm', _, rfl, _, rfl, _, _, rfl, rfl, mulOk_l (by decide) (by decide), _, _, rfl, rfl, pN, _, _, _, rfl, rfl, SqL.of hd', hy, _, rfl, _, _, rfl, rfl, _, _, rfl, rfl, (by show 0 < heavy + 1; omega), (by show 2 ≤ sizeLine; decide), fun t ht => ?_⟩
      have s2 := same_new ht (.tup [.int (x % (many : Int)), .int (y % (heavy + 1))])
      have y1 := Int.emod_nonneg y (b := heavy + 1) (by omega)
      have y2 := Int.emod_lt_of_pos y (b := heavy + 1) (by omega)
      have x1 := Int.emod_nonneg x (b := (many : Int)) (by omega)
      have x2 := Int.emod_lt_of_pos x cm'
      exact ⟨pS, _, _, rfl, rfl, s2 _ _ hS, hsl2, close (x % (many : Int)) (y % (heavy + 1)) _ t s2 upd_same (by omega) (fun e => ⟨⟨x1, x2⟩, y1⟩)⟩
  · rintro σ H' ⟨svs, shs, u7, rfl, g1', g, hS, hsh, hsl, hsb, hsw⟩
    exact ⟨_, rfl, q pS svs shs H' g hpSH hS hsh hsl hsb hsw⟩
def sp__law_completed (K : PySem.W.Frag) : Sp := fun vs H Q _ => ∃ (c d : Int) (R S : Addr) (rvs svs : List V) (rs : List Row) (shs : List (Int × Int)) (n : Nat) (more : Bool), vs = [.int c, .ref R, .ref S, .int d, .int (n : Int), .bl more] ∧ H R = some (.lst rvs) ∧ Rows K H rvs rs ∧ H S = some (.lst svs) ∧ Shs K H svs shs ∧ n ≤ 8 ∧ rs.length ≤ 10 ∧ shs.length ≤ 10 ∧ (∀ r ∈ rs, RowOk n (2 ^ 101) r) ∧ (∀ s ∈ shs, s.2.natAbs ≤ 2 ^ 72) ∧ (∀ s ∈ shs, okS rs s) ∧ 0 < d ∧ d ≤ 2 ^ 60 ∧
  ∀ p R' S' rvs' svs' rs' shs' H', Same H H' → H' p = some (.tup [.ref R', .ref S']) → H' R' = some (.lst rvs') → Rows K H' rvs' rs' → H' S' = some (.lst svs') → Shs K H' svs' shs' → rs'.length ≤ 11 → shs'.length ≤ 11 → (∀ r ∈ rs', RowOk n (2 ^ 200) r) → (∀ s ∈ shs', s.2.natAbs ≤ 2 ^ 72) → Q (.ref p) H'
theorem ok__law_completed {n : Nat} {f : Addr} {fd : FuncData} (F : Fun K "_law_completed" "_law_completed" s__law_completed f fd) {f__law_total : Addr} {d__law_total : FuncData} (G__law_total : FnOk P w K mg base CX0 n f__law_total d__law_total ["_law_rows_here", "_law_shares_here", "_law_n"] (sp__law_total K)) (b__law_total : Binds K d__law_total ["_law_rows_here", "_law_shares_here", "_law_n"] []) (k__law_total : PySem.W.keepIn K (.ref f__law_total) = true) (m__law_total : mg "_law_total" = some (.ref f__law_total)) {f__law_draws : Addr} {d__law_draws : FuncData} (G__law_draws : FnOk P w K mg base CX0 n f__law_draws d__law_draws ["_law_cell_here", "_law_salt", "_law_sizes"] (sp__law_draws K)) (b__law_draws : Binds K d__law_draws ["_law_cell_here", "_law_salt", "_law_sizes"] []) (k__law_draws : PySem.W.keepIn K (.ref f__law_draws) = true) (m__law_draws : mg "_law_draws" = some (.ref f__law_draws)) (z_zip : mg "zip" = none) (z_len : mg "len" = none) (z_tuple : mg "tuple" = none) : FnOk P w K mg base CX0 (n + 1) f fd ["_law_cell_here", "_law_rows_here", "_law_shares_here", "_law_divisor", "_law_n", "_law_more"] (sp__law_completed K) := by
  refine F.ok sc__law_completed (fun vs H Q E h => ?_) (fun cdv A outer s H vs Q E hr h => ?_)
  · obtain ⟨c, d, R, S, rvs, svs, rs, shs, n, more, rfl, _⟩ := h; rfl
  obtain ⟨c, d, R, S, rvs, svs, rs, shs, n, more, rfl, hR, hrs, hS, hsh, hn, hrl, hsl, hro, hsw, hso, hd0, hd1, q⟩ := h
  refine ⟨_, (pss_cons (ps_set (i := 6) sc__law_completed.nd rfl (Or.inl rfl) (pe_call G__law_total hr rfl m__law_total k__law_total b__law_total .nil pass0 (pa_cons (pv 1) (pa_cons (pv 2) (pa_cons (pv 4) pa_nil se_Name) se_Name) se_Name) (he := se_Name) (hpl := (npl_cons se_Name (npl_cons se_Name npl_nil)))))
      (pss_cons (ps_set (i := 7) sc__law_completed.nd rfl (Or.inl rfl) (pe_call G__law_draws hr rfl m__law_draws k__law_draws b__law_draws .nil pass0 (pa_cons (pv 0) (pa_cons pe_int (pa_cons (pe_op op_cat (pe_op op_rep (pe_lst (pa_cons pe_int pa_nil se_Constant)) (pe_op op_add (pv 4) pe_int)) (pe_lst (pa_cons (pe_op op_add (pe_callB call_len_seq rfl z_len PySem.boot_len (pa_cons (pv 2) pa_nil se_Name) (he := se_Name) (hpl := npl_nil)) pe_int) (pa_cons (pe_op op_add (pv 4) pe_int) pa_nil se_BinOp) se_BinOp))) pa_nil se_BinOp) se_Constant) se_Name) (he := se_Name) (hpl := (npl_cons se_Constant (npl_cons se_BinOp npl_nil)))))
      (pss_cons (ps_comp (i := 8) (N' := ["_law_one", "_law_other", "_law_divisor"]) (cap := [none, none, some 3]) rfl sc__law_completed.nd rfl (Or.inl rfl) (.ok (show compOk ["_law_cell_here", "_law_rows_here", "_law_shares_here", "_law_divisor", "_law_n", "_law_more", "_law_total_here", "_law_numbers", "_law_entries", "_law_at", "_law_fuller"] (defScope s__law_completed) _ ["_law_one", "_law_other", "_law_divisor"] [none, none, some 3] = true by decide +kernel)) (pi_zip true true rfl z_zip (pa_cons (pv 7) (pa_cons (pe_slice sl_list (pv 6) po_none (po_some (pv 4))) pa_nil se_Subscript) se_Name)) (fun _ _ _ _ _ => (pg_tupK (K := K) (n := 2) rfl (pg_tup rfl (pgs_cons (pg_name (i := 0) (show List.Nodup (["_law_one", "_law_other", "_law_divisor"] : List Str) by decide +kernel) rfl (Or.inl rfl)) (pgs_cons (pg_name (i := 1) (show List.Nodup (["_law_one", "_law_other", "_law_divisor"] : List Str) by decide +kernel) rfl (Or.inl rfl)) pgs_nil))))) (fun _ _ _ _ _ => pifs_nil) (fun _ _ _ _ _ => (pe_op op_sub (pe_op op_mulB (pv 2) (pe_op op_sub (pv 0) pe_int)) (pv 1))))
      (pss_cut (ps_if (PW.pt (pw_and (pt_truth (pv 5) (fun _ => rfl)) (pw_and1 (pt_cmpR op_gt (pv 4) pe_int (nomark _))))) (pss_one (ps_augS (pv 8) (pe_op op_mod (pe_ix ix_list (pv 7) (pe_op op_add (pv 4) pe_int) (fun _ _ => rfl)) (pv 4)) get_list pe_int ip_add set_list)) pss_nil)
      (pss_cons (ps_set (i := 9) sc__law_completed.nd rfl (Or.inl rfl) (pe_ix ix_list (pv 7) (pe_op op_add (pv 4) pe_int) (fun _ _ => rfl)))
      (pss_cons (ps_set (i := 10) sc__law_completed.nd rfl (Or.inl rfl) (pe_op op_cat (pe_op op_cat (pe_slice sl_list (pv 2) po_none (po_some (pv 9))) (pe_lst (pa_cons (pe_tup (pa_cons (pe_callB call_len_seq rfl z_len PySem.boot_len (pa_cons (pv 1) pa_nil se_Name) (he := se_Name) (hpl := npl_nil)) (pa_cons pe_int pa_nil se_Constant) se_Call)) pa_nil se_Tuple))) (pe_slice sl_list (pv 2) (po_some (pv 9)) po_none)))
      (pss_one (ps_ret (pe_tup (pa_cons (pe_op op_cat (pv 1) (pe_lst (pa_cons (pe_tup (pa_cons (pe_callTy call_tuple_of rfl z_tuple PyProof.Rows.boot_tuple (pa_cons (pv 8) pa_nil se_Name) (he := se_Name) (hpl := npl_nil)) (pa_cons (pe_op op_sub (pe_ix ix_list (pv 7) (pv 4) (fun _ _ => rfl)) pe_int) pa_nil se_BinOp) se_Call)) pa_nil se_Tuple))) (pa_cons (pv 10) pa_nil se_Name) se_BinOp)))))))))), ?_⟩
  have hfit : Fit rs shs := ⟨fun r hr => ⟨fun x hx => Nat.lt_of_le_of_lt ((hro r hr).2.1 x hx) (Nat.pow_lt_pow_right (by decide) (by decide)), Nat.lt_of_le_of_lt (hro r hr).2.2 (Nat.pow_lt_pow_right (by decide) (by decide))⟩, fun s hs => Nat.lt_of_le_of_lt (hsw s hs) (Nat.pow_lt_pow_right (by decide) (by decide))⟩
  obtain ⟨a, ha⟩ := sumS_some (n := n) hso
  have hal := sumS_len (fun r hr => (hro r hr).1) ha
  have hab := sumS_le ha (fun r hr => (hro r hr).2) hsw
  have habb : ∀ x : Int, x.natAbs ≤ shs.length * (2 ^ 72 * 2 ^ 101) → x.natAbs ≤ 2 ^ 180 := fun x hx => Nat.le_trans hx (Nat.le_trans (Nat.mul_le_mul_right _ hsl) (by decide +kernel))
  refine ⟨_, rfl, _, rfl, _, rfl, R, S, rvs, svs, rs, shs, n, rfl, SqL.of hR, hrs, SqL.of hS, hsh, by omega, hfit, fun r hr => (hro r hr).1, (fun e => by rw [ha] at e; cases e), fun a' ha' pT H1 g1 hT hTH => ?_⟩
  rw [ha] at ha'
  cases ha'
  -- numbers
  refine ⟨_, rfl, (by show 1 ≤ sizeLine; decide), fun l1 hl1 => ⟨_, rfl, _, _, rfl, rfl, l1, _, _, rfl, rfl, upd_same, by omega, by omega, (by rw [show [V.int 7].length = 1 from rfl]; exact small (by omega)), fun l2 hl2 => ?_⟩⟩
  have e2 : upd (upd H1 l1 (.lst [.int 7])) l2 (.lst (List.replicate (Int.toNat ((n : Int) + 1)) [V.int 7]).flatten) l2 = some (.lst ((List.replicate (n + 1) 7).map V.int)) := by rw [upd_same, rep_int, show Int.toNat ((n : Int) + 1) = n + 1 by omega]
  have s2 := (same_new hl1 (.lst [.int 7])).trans (same_new hl2 (.lst (List.replicate (Int.toNat ((n : Int) + 1)) [V.int 7]).flatten))
  generalize upd (upd H1 l1 (.lst [.int 7])) l2 _ = H2 at e2 s2 ⊢
  have g2 := g1.trans s2
  refine ⟨_, rfl, S, _, rfl, .inl (g2.seq (SqL.of hS)), _, _, rfl, rfl, _, rfl, _, _, rfl, rfl, (by show 2 ≤ sizeLine; decide), fun l3 hl3 => ?_⟩
  have s3 := same_new hl3 (.lst [.int ((svs.length : Int) + 1), .int ((n : Int) + 1)])
  have e2' := s3 _ _ e2
  have e3 : upd H2 l3 (.lst [.int ((svs.length : Int) + 1), .int ((n : Int) + 1)]) l3 = some (.lst [.int ((svs.length : Int) + 1), .int ((n : Int) + 1)]) := upd_same
  generalize upd H2 l3 _ = H3 at s3 e2' e3 ⊢
  refine ⟨l2, l3, _, _, rfl, rfl, e2', e3, (by rw [List.length_map, List.length_replicate]; exact small (by simp; omega)), fun l4 hl4 => ?_⟩
  have e4 : upd H3 l4 (.lst ((List.replicate (n + 1) 7).map V.int ++ [.int ((svs.length : Int) + 1), .int ((n : Int) + 1)])) l4 = some (.lst ((List.replicate (n + 1) (7 : Int) ++ [(svs.length : Int) + 1, (n : Int) + 1]).map V.int)) := by rw [upd_same, List.map_append]; rfl
  have s4 := same_new hl4 (.lst ((List.replicate (n + 1) 7).map V.int ++ [.int ((svs.length : Int) + 1), .int ((n : Int) + 1)]))
  generalize upd H3 l4 _ = H4 at s4 e4 ⊢
  have s14 := (s2.trans s3).trans s4
  have hsvl := hsh.1
  have hzb : ∀ z ∈ List.replicate (n + 1) (7 : Int) ++ [(svs.length : Int) + 1, (n : Int) + 1], 0 < z ∧ z ≤ 100 := fun z hz => by
    rcases List.mem_append.mp hz with h | h
    · rw [(List.mem_replicate.mp h).2]; decide
    · simp only [List.mem_cons, List.not_mem_nil, or_false] at h
      rcases h with rfl | rfl <;> omega
  refine ⟨_, _, l4, List.replicate (n + 1) (7 : Int) ++ [(svs.length : Int) + 1, (n : Int) + 1], rfl, SqL.of e4, (by rw [List.length_append, List.length_replicate]; simp; omega), by decide, by decide, fun z hz => ?_, fun pN H5 ds g5 hpN hd5 hD => ?_⟩
  · have h1 := hzb z hz
    have : (100 : Int) < 2 ^ 9000 := by decide +kernel
    exact ⟨h1.1, by omega⟩
  have hdl : ds.length = n + 3 := by rw [hD.len, List.length_append, List.length_replicate]; rfl
  have hdb : ∀ x ∈ ds, 0 ≤ x ∧ x < 100 := fun x hx => by
    obtain ⟨z, hz, h⟩ := hD.mem x hx
    have := hzb z hz
    omega
  have s15 := s14.trans g5
  have g5' := g1.trans s15
  have hT5 := s15 _ _ hT
  -- entries
  have hcut : cutV ((a.1 ++ [a.2]).map V.int) none (some (n : Int)) = a.1.map V.int := by
    rw [cutV_map, cut_head, ← hal, List.take_left]
  refine ⟨_, rfl, _, rfl, _, rfl, _, rfl, pT, _, rfl, SqL.of hT5, fun l6 hl6 => ?_⟩
  have s6 := same_new hl6 (.lst (cutV ((a.1 ++ [a.2]).map V.int) none (some (n : Int))))
  have e6 : upd H5 l6 (.lst (cutV ((a.1 ++ [a.2]).map V.int) none (some (n : Int)))) l6 = some (.lst (a.1.map V.int)) := by rw [upd_same, hcut]
  generalize upd H5 l6 _ = H6 at s6 e6 ⊢
  have hd6 := s6 _ _ hd5
  refine ⟨pN, l6, _, _, rfl, SqL.of hd6, SqL.of e6, fun D hDn => ?_⟩
  refine comp_zip (b1 := true) (b2 := true) (xs := ds) (ys := a.1) (SqL.of hd6) (SqL.of e6) hDn (by omega) (fun σ => ∃ u0 u1 : Option V, σ = [u0, u1, some (.int d)]) ⟨_, _, rfl⟩ (fun x y => V.int (d * (x - 3) - y)) ?_ ?_
  · rintro t x y σ H' N ht hx hy ⟨u0, u1, rfl⟩ g k
    have := hdb x hx
    exact ⟨t, _, rfl, SqT.of ht, rfl, _, _, rfl, _, _, rfl, rfl, _, rfl, _, rfl, _, _, rfl, rfl, _, _, rfl, rfl, mulOk_r (by omega) (by omega), _, rfl, _, _, rfl, rfl, k _ _ ⟨_, _, rfl⟩ (Same.refl _)⟩
  rintro σ H7 _ g7 hd7
  rw [zw_int fun x y => d * (x - 3) - y] at hd7
  have hesl : (List.zipWith (fun x y => d * (x - 3) - y) ds a.1).length = n := by rw [List.length_zipWith]; omega
  have hesb : ∀ z ∈ List.zipWith (fun x y => d * (x - 3) - y) ds a.1, z.natAbs ≤ 2 ^ 190 := fun z hz => by
    obtain ⟨i, hi⟩ := List.getElem?_of_mem hz
    rw [List.getElem?_zipWith] at hi
    cases h1 : ds[i]? with
    | none => rw [h1] at hi; cases hi
    | some u =>
      cases h2 : a.1[i]? with
      | none => rw [h1, h2] at hi; cases hi
      | some v =>
        rw [h1, h2] at hi
        cases hi
        have b1 := habb v (hab.1 v (List.mem_of_getElem? h2))
        have b2 := hdb u (List.mem_of_getElem? h1)
        have b3 : (d * (u - 3)).natAbs ≤ 2 ^ 60 * 100 := by
          rw [Int.natAbs_mul]
          exact Nat.mul_le_mul (by omega) (by omega)
        have b4 := Int.natAbs_sub_le (d * (u - 3)) v
        omega
  generalize List.zipWith (fun x y => d * (x - 3) - y) ds a.1 = es at hd7 hesl hesb ⊢
  have h6 : Same H H6 := g5'.trans s6
  -- one entry more
  refine ⟨fun σ' H' => ∃ es : List Int, Same H6 H' ∧ H' D = some (.lst (es.map V.int)) ∧ es.length = n ∧ (∀ z ∈ es, z.natAbs ≤ 2 ^ 191) ∧ σ' = [some (.int c), some (.ref R), some (.ref S), some (.int d), some (.int (n : Int)), some (.bl more), some (.ref pT), some (.ref pN), some (.ref D), none, none], ?_, ?_⟩
  · have stay : ∃ es : List Int, Same H6 H7 ∧ H7 D = some (.lst (es.map V.int)) ∧ es.length = n ∧ (∀ z ∈ es, z.natAbs ≤ 2 ^ 191) ∧ ([some (.int c), some (.ref R), some (.ref S), some (.int d), some (.int (n : Int)), some (.bl more), some (.ref pT), some (.ref pN), some (.ref D), none, none] : St) = [some (.int c), some (.ref R), some (.ref S), some (.int d), some (.int (n : Int)), some (.bl more), some (.ref pT), some (.ref pN), some (.ref D), none, none] := ⟨es, g7, hd7, hesl, fun z hz => Nat.le_trans (hesb z hz) (by decide +kernel), rfl⟩
    refine ⟨_, rfl, more, rfl, ite2 (fun c1 => ?_) (fun c1 => iteF stay)⟩
    refine ⟨_, rfl, _, _, rfl, rfl, _, rfl, ite2 (fun c2 => ?_) (fun c2 => stay)⟩
    have hn0 : 0 < (n : Int) := dP c2
    obtain ⟨x, hx, hxm⟩ := at_mem (ns := ds) (k := (n : Int) + 2) (by omega) (by omega)
    have x1 := Int.emod_nonneg x (b := (n : Int)) (by omega)
    have x2 := Int.emod_lt_of_pos x hn0
    have hj : (x % (n : Int)).toNat < es.length := by omega
    have hje : x % (n : Int) = (((x % (n : Int)).toNat : Nat) : Int) := by omega
    have hv : (es.map V.int)[(x % (n : Int)).toNat]? = some (.int es[(x % (n : Int)).toNat]) := map_map_at (by simp [hj])
    refine ⟨_, rfl, _, rfl, _, rfl, _, _, rfl, rfl, pN, _, _, _, rfl, rfl, SqL.of (g7 _ _ hd6), hx, _, rfl, _, _, rfl, rfl, hn0, D, _, _, (x % (n : Int)).toNat, _, rfl, rfl, SqL.of hd7, hje, hv, _, _, rfl, rfl, D, _, _, (x % (n : Int)).toNat, rfl, rfl, hd7, ?_, ?_⟩
    · rw [hje, List.length_map, Int.toNat_natCast]
      exact ixN_nat hj
    · refine ⟨es.set (x % (n : Int)).toNat (es[(x % (n : Int)).toNat] + 1), same_upd g7 hDn _, by rw [upd_same, set_int], by rw [List.length_set]; exact hesl, fun z hz => ?_, rfl⟩
      rcases List.mem_or_eq_of_mem_set hz with h | h
      · exact Nat.le_trans (hesb z h) (by decide +kernel)
      · subst h
        have := hesb _ (List.getElem_mem hj)
        omega
  rintro σ' H8 ⟨es, g8, hd8, hesl, hesb, rfl⟩
  have g68 := h6.trans g8
  have hN8 := g8 _ _ hd6
  -- at
  obtain ⟨at_, hat, h0at, h1at⟩ := hD.at (i := n + 1) (z := (svs.length : Int) + 1) (by rw [List.getElem?_append_right (by simp), List.length_replicate, Nat.sub_self]; rfl)
  refine ⟨_, rfl, _, rfl, _, _, rfl, rfl, pN, _, _, _, rfl, rfl, SqL.of hN8, hat_of hat (by omega), ?_⟩
  have eat : at_ = ((at_.toNat : Nat) : Int) := by omega
  generalize at_.toNat = k at eat
  subst eat
  -- fuller
  refine ⟨_, rfl, _, rfl, _, rfl, S, _, rfl, g68.seq (SqL.of hS), fun m1 hm1 => ?_⟩
  have t1 := same_new hm1 (.lst (cutV svs none (some (k : Int))))
  have f1 : upd H8 m1 (.lst (cutV svs none (some (k : Int)))) m1 = some (.lst (svs.take k)) := by rw [upd_same, cutV_is, cut_head]
  generalize upd H8 m1 _ = H9 at t1 f1 ⊢
  have g9 := g68.trans t1
  refine ⟨_, rfl, R, _, rfl, .inl (g9.seq (SqL.of hR)), (by show 2 ≤ sizeLine; decide), fun m2 hm2 => ?_⟩
  have t2 := same_new hm2 (.tup [.int (rvs.length : Int), .int 1])
  have f2 : upd H9 m2 (.tup [.int (rvs.length : Int), .int 1]) m2 = some (.tup [.int (rvs.length : Int), .int 1]) := upd_same
  generalize upd H9 m2 _ = H10 at t2 f2 ⊢
  refine ⟨(by show 1 ≤ sizeLine; decide), fun m3 hm3 => ?_⟩
  have t3 := same_new hm3 (.lst [.ref m2])
  have f3 : upd H10 m3 (.lst [.ref m2]) m3 = some (.lst [.ref m2]) := upd_same
  generalize upd H10 m3 _ = H11 at t3 f3 ⊢
  have hkl : (svs.take k).length ≤ 10 := by rw [List.length_take]; omega
  refine ⟨m1, m3, _, _, rfl, rfl, t3 _ _ (t2 _ _ f1), f3, small (by simp only [List.length_cons, List.length_nil]; omega), fun m4 hm4 => ?_⟩
  have t4 := same_new hm4 (.lst (svs.take k ++ [.ref m2]))
  have f4 : upd H11 m4 (.lst (svs.take k ++ [.ref m2])) m4 = some (.lst (svs.take k ++ [.ref m2])) := upd_same
  generalize upd H11 m4 _ = H12 at t4 f4 ⊢
  have g12 := ((g9.trans t2).trans t3).trans t4
  refine ⟨_, rfl, _, rfl, _, rfl, S, _, rfl, g12.seq (SqL.of hS), fun m5 hm5 => ?_⟩
  have t5 := same_new hm5 (.lst (cutV svs (some (k : Int)) none))
  have f5 : upd H12 m5 (.lst (cutV svs (some (k : Int)) none)) m5 = some (.lst (svs.drop k)) := by rw [upd_same, cutV_is, cut_tail]
  generalize upd H12 m5 _ = H13 at t5 f5 ⊢
  refine ⟨m4, m5, _, _, rfl, rfl, t5 _ _ f4, f5, small (by rw [List.length_append, List.length_drop]; simp only [List.length_cons, List.length_nil]; omega), fun pF hpF => ?_⟩
  have t6 := same_new hpF (.lst (svs.take k ++ [.ref m2] ++ svs.drop k))
  have f6 : upd H13 pF (.lst (svs.take k ++ [.ref m2] ++ svs.drop k)) pF = some (.lst (svs.take k ++ [.ref m2] ++ svs.drop k)) := upd_same
  generalize upd H13 pF _ = H14 at t6 f6 ⊢
  have g14 := (g12.trans t5).trans t6
  have u814 : Same H8 H14 := ((((t1.trans t2).trans t3).trans t4).trans t5).trans t6
  have hd14 := u814 _ _ hd8
  have hN14 := u814 _ _ hN8
  have f2' := t6 _ _ (t5 _ _ (t4 _ _ (t3 _ _ f2)))
  -- the rows
  obtain ⟨b0, hb0, hb1⟩ := at_mem (ns := ds) (k := (n : Int)) (by omega) (by omega)
  refine ⟨_, rfl, _, rfl, D, _, rfl, .inl ⟨SqL.of hd14, fun t ht => ?_⟩⟩
  have t7 := same_new ht (.tup (es.map V.int))
  have f7 : upd H14 t (.tup (es.map V.int)) t = some (.tup (es.map V.int)) := upd_same
  generalize upd H14 t _ = H15 at t7 f7 ⊢
  refine ⟨_, rfl, _, rfl, pN, _, _, _, rfl, rfl, SqL.of (t7 _ _ hN14), hb0, _, _, rfl, rfl, (by show 2 ≤ sizeLine; decide), fun r hr2 => ?_⟩
  have t8 := same_new hr2 (.tup [.ref t, .int (b0 - 3)])
  have f8 : upd H15 r (.tup [.ref t, .int (b0 - 3)]) r = some (.tup [.ref t, .int (b0 - 3)]) := upd_same
  have f7' := t8 _ _ f7
  generalize upd H15 r _ = H16 at t8 f8 f7' ⊢
  refine ⟨(by show 1 ≤ sizeLine; decide), fun m6 hm6 => ?_⟩
  have t9 := same_new hm6 (.lst [.ref r])
  have f9 : upd H16 m6 (.lst [.ref r]) m6 = some (.lst [.ref r]) := upd_same
  generalize upd H16 m6 _ = H17 at t9 f9 ⊢
  have g17 := ((g14.trans t7).trans t8).trans t9
  have hrvl := hrs.1
  refine ⟨R, m6, _, _, rfl, rfl, g17 _ _ hR, f9, small (by simp only [List.length_cons, List.length_nil]; omega), fun pR hpR => ?_⟩
  have t10 := same_new hpR (.lst (rvs ++ [.ref r]))
  have f10 : upd H17 pR (.lst (rvs ++ [.ref r])) pR = some (.lst (rvs ++ [.ref r])) := upd_same
  generalize upd H17 pR _ = H18 at t10 f10 ⊢
  refine ⟨_, rfl, (by show 2 ≤ sizeLine; decide), fun p hp => ?_⟩
  have t11 := same_new hp (.tup [.ref pR, .ref pF])
  have gz := (g17.trans t10).trans t11
  have u16 := (t9.trans t10).trans t11
  have u14 := (((t7.trans t8).trans t9).trans t10).trans t11
  refine q p pR pF _ _ (rs ++ [(es, b0 - 3)]) (shs.take k ++ [((rs.length : Int), 1)] ++ shs.drop k) _ gz upd_same (t11 _ _ f10) ?_ (u14 _ _ f6) ?_ ?_ ?_ ?_ ?_
  · exact (hrs.ts gz.ts).snoc ⟨r, t, rfl, SqT.of (u16 _ _ f8), SqT.of (u16 _ _ f7')⟩
  · refine ((hsh.pts gz.ts).take k |>.append (.one ⟨m2, rfl, ?_⟩)).append ((hsh.pts gz.ts).drop k)
    rw [← hrvl]
    exact SqT.of (u14 _ _ f2')
  · rw [List.length_append]; simp only [List.length_cons, List.length_nil]; omega
  · rw [List.length_append, List.length_append, List.length_take, List.length_drop]; simp only [List.length_cons, List.length_nil]; omega
  · intro x hx
    rcases List.mem_append.mp hx with h | h
    · exact (hro x h).mono (by decide +kernel)
    · rw [List.mem_singleton.mp h]
      have := hdb b0 hb1
      exact ⟨hesl, fun y hy => Nat.le_trans (hesb y hy) (by decide +kernel), by show (b0 - 3).natAbs ≤ 2 ^ 200; omega⟩
  · intro x hx
    rcases List.mem_append.mp hx with h | h
    · rcases List.mem_append.mp h with h | h
      · exact hsw x (List.mem_of_mem_take h)
      · rw [List.mem_singleton.mp h]; show (1 : Int).natAbs ≤ 2 ^ 72; decide
    · exact hsw x (List.mem_of_mem_drop h)
theorem bigs {i : Int} (h0 : 0 ≤ i) (h1 : i < 4) : ∃ z : Int, atI [V.int 3, .int 12, .int (10 ^ Int.toNat 9), .int (10 ^ Int.toNat 30)] i = some (.int z) ∧ 0 < z ∧ z ≤ 2 ^ 100 := by
  have c : i = 0 ∨ i = 1 ∨ i = 2 ∨ i = 3 := by omega
  rcases c with rfl | rfl | rfl | rfl
  · exact ⟨3, rfl, by decide, by decide⟩
  · exact ⟨12, rfl, by decide, by decide⟩
  · exact ⟨10 ^ 9, rfl, by decide +kernel, by decide +kernel⟩
  · exact ⟨10 ^ 30, rfl, by decide +kernel, by decide +kernel⟩
theorem heavies {i : Int} (h0 : 0 ≤ i) (h1 : i < 3) : ∃ z : Int, atI [V.int 2, .int 9, .int (10 ^ Int.toNat 20)] i = some (.int z) ∧ 0 < z ∧ z ≤ 2 ^ 70 := by
  have c : i = 0 ∨ i = 1 ∨ i = 2 := by omega
  rcases c with rfl | rfl | rfl
  · exact ⟨2, rfl, by decide, by decide⟩
  · exact ⟨9, rfl, by decide, by decide⟩
  · exact ⟨10 ^ 20, rfl, by decide +kernel, by decide +kernel⟩
def sp_law (K : PySem.W.Frag) : Sp := fun vs H Q _ => ∃ (a : Addr) (ns : List Int), vs = [.ref a] ∧ SqL K H a (ns.map V.int) ∧ ns.length ≤ 63 ∧ ∀ H', Q (.bl true) H'
theorem ok_law {n : Nat} {f : Addr} {fd : FuncData} (F : Fun K "law" "law" s_law f fd) {f__law_draws : Addr} {d__law_draws : FuncData} (G__law_draws : FnOk P w K mg base CX0 n f__law_draws d__law_draws ["_law_cell_here", "_law_salt", "_law_sizes"] (sp__law_draws K)) (b__law_draws : Binds K d__law_draws ["_law_cell_here", "_law_salt", "_law_sizes"] []) (k__law_draws : PySem.W.keepIn K (.ref f__law_draws) = true) (m__law_draws : mg "_law_draws" = some (.ref f__law_draws)) {f__law_rows : Addr} {d__law_rows : FuncData} (G__law_rows : FnOk P w K mg base CX0 n f__law_rows d__law_rows ["_law_cell_here", "_law_salt", "_law_n", "_law_many", "_law_big"] (sp__law_rows K)) (b__law_rows : Binds K d__law_rows ["_law_cell_here", "_law_salt", "_law_n", "_law_many", "_law_big"] []) (k__law_rows : PySem.W.keepIn K (.ref f__law_rows) = true) (m__law_rows : mg "_law_rows" = some (.ref f__law_rows)) {f__law_shares : Addr} {d__law_shares : FuncData} (G__law_shares : FnOk P w K mg base CX0 n f__law_shares d__law_shares ["_law_cell_here", "_law_many", "_law_count", "_law_wild", "_law_heavy"] (sp__law_shares K)) (b__law_shares : Binds K d__law_shares ["_law_cell_here", "_law_many", "_law_count", "_law_wild", "_law_heavy"] []) (k__law_shares : PySem.W.keepIn K (.ref f__law_shares) = true) (m__law_shares : mg "_law_shares" = some (.ref f__law_shares)) {f__law_line : Addr} {d__law_line : FuncData} (G__law_line : FnOk P w K mg base CX0 n f__law_line d__law_line ["_law_rows_here", "_law_shares_here", "_law_divisor", "_law_n"] (sp__law_line K)) (b__law_line : Binds K d__law_line ["_law_rows_here", "_law_shares_here", "_law_divisor", "_law_n"] []) (k__law_line : PySem.W.keepIn K (.ref f__law_line) = true) (m__law_line : mg "_law_line" = some (.ref f__law_line)) {f_line_row : Addr} {d_line_row : FuncData} (G_line_row : FnOk P w K mg base CX0 n f_line_row d_line_row ["rows", "shares", "divisor"] (sp_line_row K)) (b_line_row : Binds K d_line_row ["rows", "shares", "divisor"] []) (k_line_row : PySem.W.keepIn K (.ref f_line_row) = true) (m_line_row : mg "line_row" = some (.ref f_line_row)) {f__law_cell : Addr} {d__law_cell : FuncData} (G__law_cell : FnOk P w K mg base CX0 n f__law_cell d__law_cell ["_law_script", "_law_k"] (sp__law_cell K)) (b__law_cell : Binds K d__law_cell ["_law_script", "_law_k"] []) (k__law_cell : PySem.W.keepIn K (.ref f__law_cell) = true) (m__law_cell : mg "_law_cell" = some (.ref f__law_cell)) {f__law_completed : Addr} {d__law_completed : FuncData} (G__law_completed : FnOk P w K mg base CX0 n f__law_completed d__law_completed ["_law_cell_here", "_law_rows_here", "_law_shares_here", "_law_divisor", "_law_n", "_law_more"] (sp__law_completed K)) (b__law_completed : Binds K d__law_completed ["_law_cell_here", "_law_rows_here", "_law_shares_here", "_law_divisor", "_law_n", "_law_more"] []) (k__law_completed : PySem.W.keepIn K (.ref f__law_completed) = true) (m__law_completed : mg "_law_completed" = some (.ref f__law_completed)) {f__law_wholes : Addr} {d__law_wholes : FuncData} (G__law_wholes : FnOk P w K mg base CX0 n f__law_wholes d__law_wholes ["_law_told", "_law_size"] (sp__law_wholes K)) (b__law_wholes : Binds K d__law_wholes ["_law_told", "_law_size"] []) (k__law_wholes : PySem.W.keepIn K (.ref f__law_wholes) = true) (m__law_wholes : mg "_law_wholes" = some (.ref f__law_wholes)) {f__law_whole : Addr} {d__law_whole : FuncData} (G__law_whole : FnOk P w K mg base CX0 n f__law_whole d__law_whole ["_law_told"] (sp__law_whole K)) (b__law_whole : Binds K d__law_whole ["_law_told"] []) (k__law_whole : PySem.W.keepIn K (.ref f__law_whole) = true) (m__law_whole : mg "_law_whole" = some (.ref f__law_whole)) (z_len : mg "len" = none) (z_tuple : mg "tuple" = none) (z_isinstance : mg "isinstance" = none) : FnOk P w K mg base CX0 (n + 1) f fd ["_law_script"] (sp_law K) := by
  refine F.ok sc_law (fun vs H Q E h => ?_) (fun cdv A outer s H vs Q E hr h => ?_)
  · obtain ⟨a, ns, rfl, _⟩ := h; rfl
  obtain ⟨a, ns, rfl, hS, h63, q⟩ := h
  refine ⟨_, (pss_cons (ps_set (i := 1) sc_law.nd rfl (Or.inl rfl) (pe_callI G__law_draws hr rfl m__law_draws k__law_draws b__law_draws .nil pass0 (pai_consI (PEi.of (pe_call G__law_cell hr rfl m__law_cell k__law_cell b__law_cell .nil pass0 (pa_cons (pv 0) (pa_cons pe_int pa_nil se_Constant) se_Name) (he := se_Name) (hpl := (npl_cons se_Constant npl_nil)))) (pai_consI (PEi.of pe_int) (pai_consI (pei_lst (pai_consI (PEi.of pe_int) (pai_consI (PEi.of pe_int) (pai_consI (PEi.of pe_int) (pai_consI (PEi.of pe_int) (pai_consI (PEi.of pe_int) (pai_consI (PEi.of pe_int) (pai_consI (PEi.of pe_int) (pai_consI (PEi.of pe_int) (pai_consI (PEi.of pe_int) (pai_consI (PEi.of pe_int) (pai_consI (PEi.of (pe_op op_pow pe_int pe_int)) (pai_consI (PEi.of pe_int) (pai_consI (PEi.of pe_int) pai_nil se_Constant) se_Constant) se_BinOp) se_Constant) se_Constant) se_Constant) se_Constant) se_Constant) se_Constant) se_Constant) se_Constant) se_Constant) se_Constant)) pai_nil se_List) se_Constant) se_Call) (he := se_Call) (hpl := (npl_cons se_Constant (npl_cons se_List npl_nil)))))
      (pss_cons (ps_set (i := 2) sc_law.nd rfl (Or.inl rfl) (pe_ix ix_list (pv 1) pe_int (fun _ _ => rfl)))
      (pss_cut (ps_if (pt_cmpR op_eq (pe_ix ix_list (pv 1) pe_int (fun _ _ => rfl)) pe_int (nomark _)) (pss_one (ps_set (i := 2) sc_law.nd rfl (Or.inl rfl) (pe_op op_add pe_int (pe_ix ix_list (pv 1) pe_int (fun _ _ => rfl))))) pss_nil)
      (pss_cons (ps_set (i := 3) sc_law.nd rfl (Or.inl rfl) (pe_ix ix_list (pe_lst (pa_cons pe_int (pa_cons pe_int (pa_cons (pe_op op_pow pe_int pe_int) (pa_cons (pe_op op_pow pe_int pe_int) pa_nil se_BinOp) se_BinOp) se_Constant) se_Constant)) (pe_ix ix_list (pv 1) pe_int (fun _ _ => rfl)) (fun _ _ => rfl)))
      (pss_cons (ps_set (i := 4) sc_law.nd rfl (Or.inl rfl) (pe_ix ix_list (pe_lst (pa_cons pe_int (pa_cons pe_int (pa_cons (pe_op op_pow pe_int pe_int) pa_nil se_BinOp) se_Constant) se_Constant)) (pe_ix ix_list (pv 1) pe_int (fun _ _ => rfl)) (fun _ _ => rfl)))
      (pss_cons (ps_set (i := 5) sc_law.nd rfl (Or.inl rfl) (pe_cmpR op_eq (pe_ix ix_list (pv 1) pe_int (fun _ _ => rfl)) pe_int (nomark _)))
      (pss_cons (ps_set (i := 6) sc_law.nd rfl (Or.inl rfl) (pe_call G__law_rows hr rfl m__law_rows k__law_rows b__law_rows .nil pass0 (PAi.pa (pai_cons (pe_call G__law_cell hr rfl m__law_cell k__law_cell b__law_cell .nil pass0 (pa_cons (pv 0) (pa_cons pe_int pa_nil se_Constant) se_Name) (he := se_Name) (hpl := (npl_cons se_Constant npl_nil))) (pai_cons pe_int (pai_cons (pv 2) (pai_cons (pe_ix ix_list (pv 1) pe_int (fun _ _ => rfl)) (pai_cons (pv 3) pai_nil se_Name) se_Subscript) se_Name) se_Constant) se_Call)) (he := se_Call) (hpl := (npl_cons se_Constant (npl_cons se_Name (npl_cons se_Subscript (npl_cons se_Name npl_nil)))))))
      (pss_cons (ps_set (i := 7) sc_law.nd rfl (Or.inl rfl) (pe_call G__law_shares hr rfl m__law_shares k__law_shares b__law_shares .nil pass0 (PAi.pa (pai_cons (pe_call G__law_cell hr rfl m__law_cell k__law_cell b__law_cell .nil pass0 (pa_cons (pv 0) (pa_cons pe_int pa_nil se_Constant) se_Name) (he := se_Name) (hpl := (npl_cons se_Constant npl_nil))) (pai_cons (pe_callB call_len_seq rfl z_len PySem.boot_len (pa_cons (pv 6) pa_nil se_Name) (he := se_Name) (hpl := npl_nil)) (pai_cons (pe_ix ix_list (pv 1) pe_int (fun _ _ => rfl)) (pai_cons (pv 5) (pai_cons (pv 4) pai_nil se_Name) se_Name) se_Subscript) se_Call) se_Call)) (he := se_Call) (hpl := (npl_cons se_Call (npl_cons se_Subscript (npl_cons se_Name (npl_cons se_Name npl_nil)))))))
      (pss_cons (ps_set (i := 8) sc_law.nd rfl (Or.inl rfl) (pe_op op_add pe_int (pe_ix ix_list (pv 1) pe_int (fun _ _ => rfl))))
      (pss_cut (ps_if (pt_cmpR op_eq (pe_ix ix_list (pv 1) pe_int (fun _ _ => rfl)) pe_int (nomark _)) (pss_one (ps_set (i := 8) sc_law.nd rfl (Or.inl rfl) (pe_op op_add pe_int (pe_ix ix_list (pv 1) pe_int (fun _ _ => rfl))))) pss_nil)
      (pss_cut (ps_if (pt_truth (pv 5) (fun _ => rfl)) (pss_one (ps_set (i := 8) sc_law.nd rfl (Or.inl rfl) (pe_op op_sub (pe_op op_mod (pe_ix ix_list (pv 1) pe_int (fun _ _ => rfl)) pe_int) pe_int))) pss_nil)
      (pss_cut (ps_if (PW.pt (pw_and (pt_cmpR op_eq (pe_ix ix_list (pv 1) pe_int (fun _ _ => rfl)) pe_int (nomark _)) (pw_and1 (pt_not (pt_truth (pv 5) (fun _ => rfl)))))) (pss_one (ps_asg (pe_call G__law_completed hr rfl m__law_completed k__law_completed b__law_completed .nil pass0 (PAi.pa (pai_cons (pe_call G__law_cell hr rfl m__law_cell k__law_cell b__law_cell .nil pass0 (pa_cons (pv 0) (pa_cons pe_int pa_nil se_Constant) se_Name) (he := se_Name) (hpl := (npl_cons se_Constant npl_nil))) (pai_cons (pv 6) (pai_cons (pv 7) (pai_cons (pv 8) (pai_cons (pv 2) (pai_cons (pe_cmpR op_eq (pe_ix ix_list (pv 1) pe_int (fun _ _ => rfl)) pe_int (nomark _)) pai_nil se_Compare) se_Name) se_Name) se_Name) se_Name) se_Call)) (he := se_Call) (hpl := (npl_cons se_Name (npl_cons se_Name (npl_cons se_Name (npl_cons se_Name (npl_cons se_Compare npl_nil))))))) (pg_tup rfl (pgs_cons (pg_name (i := 6) sc_law.nd rfl (Or.inl rfl)) (pgs_cons (pg_name (i := 7) sc_law.nd rfl (Or.inl rfl)) pgs_nil))))) pss_nil)
      (pss_cons (ps_set (i := 9) sc_law.nd rfl (Or.inl rfl) (pe_call G__law_line hr rfl m__law_line k__law_line b__law_line .nil pass0 (pa_cons (pv 6) (pa_cons (pv 7) (pa_cons (pv 8) (pa_cons (pv 2) pa_nil se_Name) se_Name) se_Name) se_Name) (he := se_Name) (hpl := (npl_cons se_Name (npl_cons se_Name (npl_cons se_Name npl_nil))))))
      (pss_cons (ps_set (i := 10) sc_law.nd rfl (Or.inl rfl) (pe_call G_line_row hr rfl m_line_row k_line_row b_line_row .nil pass0 (pa_cons (pe_callTy call_tuple_of rfl z_tuple PyProof.Rows.boot_tuple (pa_cons (pv 6) pa_nil se_Name) (he := se_Name) (hpl := npl_nil)) (pa_cons (pe_callTy call_tuple_of rfl z_tuple PyProof.Rows.boot_tuple (pa_cons (pv 7) pa_nil se_Name) (he := se_Name) (hpl := npl_nil)) (pa_cons (pv 8) pa_nil se_Name) se_Call) se_Call) (he := se_Call) (hpl := (npl_cons se_Call (npl_cons se_Name npl_nil)))))
      (pss_cut (ps_if (pt_cmpR op_isN (pv 9) pe_non (nomark _)) (pss_one (ps_ret (pe_cmpR op_isN (pv 10) pe_non (nomark _)))) pss_nil)
      (pss_cut (ps_if (PW.pt (pw_or (pt_not (pt_truth (pe_callB call_isi rfl z_isinstance PyProof.Rows.boot_isinstance (pa_cons (pv 10) (pa_cons (pe_bltn (v := .ty "tuple") rfl z_tuple PyProof.Rows.boot_tuple rfl) pa_nil se_Name) se_Name) (he := se_Name) (hpl := (npl_cons se_Name npl_nil))) (fun _ => rfl))) (pw_or1 (pt_cmpR op_ne (pe_callB call_len_seq rfl z_len PySem.boot_len (pa_cons (pv 10) pa_nil se_Name) (he := se_Name) (hpl := npl_nil)) pe_int (nomark _))))) (pss_one (ps_ret pe_bl)) pss_nil)
      (pss_one (ps_ret (pe_and (pe_call G__law_wholes hr rfl m__law_wholes k__law_wholes b__law_wholes .nil pass0 (pa_cons (pe_ix ix_tup (pv 10) pe_int (fun _ _ => rfl)) (pa_cons (pv 2) pa_nil se_Name) se_Subscript) (he := se_Subscript) (hpl := (npl_cons se_Name npl_nil))) (pe_and (pe_call G__law_whole hr rfl m__law_whole k__law_whole b__law_whole .nil pass0 (pa_cons (pe_ix ix_tup (pv 10) pe_int (fun _ _ => rfl)) pa_nil se_Subscript) (he := se_Subscript) (hpl := npl_nil)) (pe_one (pe_cmpR (op_eqD hr.units) (pv 10) (pv 9) (nomark _))))))))))))))))))))))), ?_⟩
  refine ⟨_, rfl, a, ns, _, rfl, hS, by omega, by decide, fun c0 => ?_⟩
  refine ⟨_, _, rfl, rfl, ⟨by decide, by decide, by decide⟩, (by show 13 ≤ sizeLine; decide), fun l hl => ?_⟩
  have g0 := same_new hl (.lst [.int 5, .int 7, .int 6, .int 4, .int 3, .int 2, .int 4, .int 3, .int 4, .int 12, .int (10 ^ Int.toNat 12), .int 8, .int 4])
  refine ⟨_, _, l, [5, 7, 6, 4, 3, 2, 4, 3, 4, 12, 10 ^ Int.toNat 12, 8, 4], rfl, SqL.of upd_same, by decide, by decide, by decide, by decide +kernel, fun pA H1 ds g1 hpA hd hD => ?_⟩
  obtain ⟨x0, e0, b0⟩ := hD.at (i := 0) rfl
  obtain ⟨x1, e1, b1⟩ := hD.at (i := 1) rfl
  obtain ⟨x2, e2, b2⟩ := hD.at (i := 2) rfl
  obtain ⟨x3, e3, b3⟩ := hD.at (i := 3) rfl
  obtain ⟨x4, e4, b4⟩ := hD.at (i := 4) rfl
  obtain ⟨x5, e5, b5⟩ := hD.at (i := 5) rfl
  obtain ⟨x6, e6, b6⟩ := hD.at (i := 6) rfl
  obtain ⟨x7, e7, b7⟩ := hD.at (i := 7) rfl
  obtain ⟨x8, e8, b8⟩ := hD.at (i := 8) rfl
  obtain ⟨x9, e9, b9⟩ := hD.at (i := 9) rfl
  obtain ⟨x10, e10, b10⟩ := hD.at (i := 10) rfl
  obtain ⟨x11, e11, b11⟩ := hD.at (i := 11) rfl
  obtain ⟨x12, e12, b12⟩ := hD.at (i := 12) rfl
  have b10' : x10 < 2 ^ 40 := Int.lt_of_lt_of_le b10.2 (by decide +kernel)
  have gA : Same H H1 := g0.trans g1
  -- n
  refine ⟨_, rfl, pA, _, _, _, rfl, rfl, SqL.of hd, hat_of e0 rfl, ?_⟩
  refine ⟨fun σ' H' => H' = H1 ∧ ∃ n : Nat, n ≤ 8 ∧ σ' = [some (.ref a), some (.ref pA), some (.int (n : Int)), none, none, none, none, none, none, none, none], ?_, ?_⟩
  · refine ⟨_, rfl, pA, _, _, _, rfl, rfl, SqL.of hd, hat_of e11 rfl, rfl, _, rfl, ite2 (fun c => ?_) (fun c => ⟨rfl, x0.toNat, by omega, ?_⟩)⟩
    · refine ⟨_, rfl, pA, _, _, _, rfl, rfl, SqL.of hd, hat_of e12 rfl, _, _, rfl, rfl, rfl, (5 + x12).toNat, by omega, ?_⟩
      rw [show (((5 + x12).toNat : Nat) : Int) = 5 + x12 by omega]
      rfl
    · rw [show ((x0.toNat : Nat) : Int) = x0 by omega]
      rfl
  rintro σ' H' ⟨rfl, n, hn, rfl⟩
  -- big, heavy, wild
  obtain ⟨big, hbat, hb0, hb1⟩ := bigs b3.1 b3.2
  obtain ⟨heavy, hhat, hh0, hh1⟩ := heavies b4.1 b4.2
  refine ⟨_, _, rfl, rfl, ⟨by decide, by decide, by decide⟩, _, _, rfl, rfl, ⟨by decide, by decide, by decide⟩, (by show 4 ≤ sizeLine; decide), fun l2 hl2 => ?_⟩
  have s2 := same_new hl2 (.lst [.int 3, .int 12, .int (10 ^ Int.toNat 9), .int (10 ^ Int.toNat 30)])
  have f2 : upd H' l2 (.lst [.int 3, .int 12, .int (10 ^ Int.toNat 9), .int (10 ^ Int.toNat 30)]) l2 = some (.lst [.int 3, .int 12, .int (10 ^ Int.toNat 9), .int (10 ^ Int.toNat 30)]) := upd_same
  generalize upd H' l2 _ = H2 at s2 f2 ⊢
  have hd2 := s2 _ _ hd
  refine ⟨_, rfl, pA, _, _, _, rfl, rfl, SqL.of hd2, hat_of e3 rfl, l2, _, _, _, rfl, rfl, SqL.of f2, hbat, ?_⟩
  refine ⟨_, _, rfl, rfl, ⟨by decide, by decide, by decide⟩, (by show 3 ≤ sizeLine; decide), fun l3 hl3 => ?_⟩
  have s3 := same_new hl3 (.lst [.int 2, .int 9, .int (10 ^ Int.toNat 20)])
  have f3 : upd H2 l3 (.lst [.int 2, .int 9, .int (10 ^ Int.toNat 20)]) l3 = some (.lst [.int 2, .int 9, .int (10 ^ Int.toNat 20)]) := upd_same
  generalize upd H2 l3 _ = H3 at s3 f3 ⊢
  have hd3 := s3 _ _ hd2
  refine ⟨_, rfl, pA, _, _, _, rfl, rfl, SqL.of hd3, hat_of e4 rfl, l3, _, _, _, rfl, rfl, SqL.of f3, hhat, ?_⟩
  have g3 := (gA.trans s2).trans s3
  refine ⟨_, rfl, pA, _, _, _, rfl, rfl, SqL.of hd3, hat_of e6 rfl, rfl, ?_⟩
  obtain ⟨wild, hwild⟩ : ∃ w : Bool, w = decide (V.int x6 = V.int 0) := ⟨_, rfl⟩
  rw [← hwild]
  clear hwild
  -- rows
  have ex1 : x1 = ((x1.toNat : Nat) : Int) := by omega
  have ex2 : x2 = ((x2.toNat : Nat) : Int) := by omega
  refine ⟨_, rfl, a, ns, _, rfl, g3.seq hS, by omega, by decide, fun c1 => ⟨_, rfl, _, rfl, pA, _, _, _, rfl, rfl, SqL.of hd3, hat_of e1 rfl, _, rfl, c1, 2, big, n, x1.toNat, (by rw [← ex1]; rfl), by decide, by decide, hn, by omega, hb0, hb1, fun pR rvs rs H4 g4 hpR hR hrs hrl hro => ?_⟩⟩
  have hd4 := g4 _ _ hd3
  have g34 := g3.trans g4
  have hrvl := hrs.1
  -- shares
  refine ⟨_, rfl, a, ns, _, rfl, g34.seq hS, by omega, by decide, fun c2 => ⟨_, rfl, pR, _, rfl, .inl (SqL.of hR), _, rfl, pA, _, _, _, rfl, rfl, SqL.of hd4, hat_of e2 rfl, _, rfl, _, rfl, c2, heavy, rvs.length, x2.toNat, wild, (by rw [← ex2]; rfl), by omega, by omega, hh0, hh1, fun pS svs shs H5 g5 hpS hSv hsh hsl hsb hsw => ?_⟩⟩
  have hd5 := g5 _ _ hd4
  have hR5 := g5 _ _ hR
  have hrs5 := hrs.ts (g5.ts (K := K))
  have g35 := g34.trans g5
  -- divisor
  refine ⟨_, rfl, pA, _, _, _, rfl, rfl, SqL.of hd5, hat_of e9 rfl, _, _, rfl, rfl, ?_⟩
  refine ⟨fun σ' H' => H' = H5 ∧ ∃ d : Int, 0 < d ∧ d ≤ 2 ^ 60 ∧ σ' = [some (.ref a), some (.ref pA), some (.int (n : Int)), some (.int big), some (.int heavy), some (.bl wild), some (.ref pR), some (.ref pS), some (.int d), none, none], ?_, ?_⟩
  · refine ⟨_, rfl, pA, _, _, _, rfl, rfl, SqL.of hd5, hat_of e8 rfl, rfl, _, rfl, ite2 (fun c => ?_) (fun c => ⟨rfl, 1 + x9, by omega, by omega, rfl⟩)⟩
    exact ⟨_, rfl, pA, _, _, _, rfl, rfl, SqL.of hd5, hat_of e10 rfl, _, _, rfl, rfl, rfl, 1 + x10, by omega, by omega, rfl⟩
  rintro σ' H6 ⟨rfl, d, hd0, hd1, rfl⟩
  refine ⟨fun σ' H' => H' = H6 ∧ ∃ d : Int, (wild = false → 0 < d) ∧ d ≤ 2 ^ 60 ∧ σ' = [some (.ref a), some (.ref pA), some (.int (n : Int)), some (.int big), some (.int heavy), some (.bl wild), some (.ref pR), some (.ref pS), some (.int d), none, none], ?_, ?_⟩
  · refine ⟨_, rfl, wild, rfl, ite2 (fun c => ?_) (fun c => ⟨rfl, d, fun _ => hd0, hd1, rfl⟩)⟩
    refine ⟨_, rfl, pA, _, _, _, rfl, rfl, SqL.of hd5, hat_of e9 rfl, _, _, rfl, rfl, (by decide : (0 : Int) < 6), _, _, rfl, rfl, rfl, x9 % 6 - 1, fun e => ?_, by omega, rfl⟩
    rw [c] at e
    cases e
  rintro σ' H7 ⟨rfl, d, hd0, hd1, rfl⟩
  -- completed
  have hro4 : ∀ r ∈ rs, RowOk n (2 ^ 101) r := hro
  refine ⟨fun σ' H' => ∃ (R S : Addr) (rvs svs : List V) (rs : List Row) (shs : List (Int × Int)), Same H H' ∧ H' R = some (.lst rvs) ∧ Rows K H' rvs rs ∧ H' S = some (.lst svs) ∧ Shs K H' svs shs ∧ rs.length ≤ 11 ∧ shs.length ≤ 11 ∧ (∀ r ∈ rs, RowOk n (2 ^ 200) r) ∧ (∀ s ∈ shs, s.2.natAbs ≤ 2 ^ 72) ∧ σ' = [some (.ref a), some (.ref pA), some (.int (n : Int)), some (.int big), some (.int heavy), some (.bl wild), some (.ref R), some (.ref S), some (.int d), none, none], ?_, ?_⟩
  · have stay : ∃ (R S : Addr) (rvs svs : List V) (rs : List Row) (shs : List (Int × Int)), Same H H7 ∧ H7 R = some (.lst rvs) ∧ Rows K H7 rvs rs ∧ H7 S = some (.lst svs) ∧ Shs K H7 svs shs ∧ rs.length ≤ 11 ∧ shs.length ≤ 11 ∧ (∀ r ∈ rs, RowOk n (2 ^ 200) r) ∧ (∀ s ∈ shs, s.2.natAbs ≤ 2 ^ 72) ∧ ([some (.ref a), some (.ref pA), some (.int (n : Int)), some (.int big), some (.int heavy), some (.bl wild), some (.ref pR), some (.ref pS), some (.int d), none, none] : St) = [some (.ref a), some (.ref pA), some (.int (n : Int)), some (.int big), some (.int heavy), some (.bl wild), some (.ref R), some (.ref S), some (.int d), none, none] := ⟨pR, pS, rvs, svs, rs, shs, g35, hR5, hrs5, hSv, hsh, by omega, by omega, fun r hr => (hro r hr).mono (by decide +kernel), hsb, rfl⟩
    refine ⟨_, rfl, pA, _, _, _, rfl, rfl, SqL.of hd5, hat_of e5 rfl, rfl, _, rfl, ite2 (fun c => ?_) (fun c => iteF stay)⟩
    refine ⟨_, rfl, wild, rfl, ?_⟩
    cases hw : wild with
    | true => rw [hw] at stay; exact iteF stay
    | false =>
      have hwf := hsw hw
      refine iteT ⟨_, rfl, a, ns, _, rfl, g35.seq hS, by omega, by decide, fun c3 => ?_⟩
      refine ⟨_, rfl, _, rfl, _, rfl, _, rfl, _, rfl, pA, _, _, _, rfl, rfl, SqL.of hd5, hat_of e7 rfl, rfl, c3, d, pR, pS, rvs, svs, rs, shs, n, _, rfl, hR5, hrs5, hSv, hsh, hn, by omega, by omega, hro, hsb, fun s hs => ?_, hd0 hw, hd1, fun p R' S' rvs' svs' rs' shs' H8 g8 hp hR' hrs' hS' hsh' hrl' hsl' hro' hsb' => ?_⟩
      · have := hwf s hs
        rw [hrvl] at this
        exact this
      · exact ⟨p, _, rfl, SqT.of hp, rfl, _, _, rfl, _, _, rfl, rfl, R', S', rvs', svs', rs', shs', g35.trans g8, hR', hrs', hS', hsh', hrl', hsl', hro', hsb', rfl⟩
  rintro σ' H8 ⟨R, S, rvs, svs, rs, shs, g8, hR, hrs, hSv, hsh, hrl, hsl, hro, hsb, rfl⟩
  have hfit : Fit rs shs := ⟨fun r hr => ⟨fun x hx => Nat.lt_of_le_of_lt ((hro r hr).2.1 x hx) (Nat.pow_lt_pow_right (by decide) (by decide)), Nat.lt_of_le_of_lt (hro r hr).2.2 (Nat.pow_lt_pow_right (by decide) (by decide))⟩, fun s hs => Nat.lt_of_le_of_lt (hsb s hs) (Nat.pow_lt_pow_right (by decide) (by decide))⟩
  have hlen : ∀ r ∈ rs, r.1.length = n := fun r hr => (hro r hr).1
  have h60 : (2 : Int) ^ 60 < 2 ^ 9000 := by decide +kernel
  have hd9 : d < 2 ^ 9000 := by omega
  -- due, told
  have told : ∀ (H9 : Hp) (σ1 : St) (D : V), Same H8 H9 → σ1 = [some (.ref a), some (.ref pA), some (.int (n : Int)), some (.int big), some (.int heavy), some (.bl wild), some (.ref R), some (.ref S), some (.int d), some (D), none] → True := fun _ _ _ _ _ => trivial
  refine ⟨_, rfl, _, rfl, _, rfl, _, rfl, R, S, rvs, svs, rs, shs, d, n, rfl, SqL.of hR, hrs, SqL.of hSv, hsh, by omega, hfit, hlen, hd9, fun eL H9 g9 => ?_, fun r eL v H9 g9 hv => ?_⟩
  · refine ⟨_, rfl, R, _, rfl, .inl ⟨SqL.of (g9 _ _ hR), fun tR htR => ?_⟩⟩
    have t1 := same_new htR (.tup rvs)
    have f1 : upd H9 tR (.tup rvs) tR = some (.tup rvs) := upd_same
    generalize upd H9 tR _ = H10 at t1 f1 ⊢
    refine ⟨_, rfl, S, _, rfl, .inl ⟨SqL.of (t1 _ _ (g9 _ _ hSv)), fun tS htS => ?_⟩⟩
    have t2 := same_new htS (.tup svs)
    have f2 : upd H10 tS (.tup svs) tS = some (.tup svs) := upd_same
    generalize upd H10 tS _ = H11 at t2 f2 ⊢
    have s11 := (g9.trans t1).trans t2
    refine ⟨_, rfl, tR, tS, rvs, svs, rs, shs, d, n, rfl, SqT.of (t2 _ _ f1), hrs.ts s11.ts, SqT.of f2, hsh.pts s11.ts, by omega, hfit, hlen, hd9, fun _ H12 g12 => ?_, fun r eL' => ?_⟩
    · exact ⟨fun _ _ => False, ⟨_, rfl, rfl, _, rfl, iteT ⟨_, rfl, rfl, q _⟩⟩, fun _ _ h => h.elim⟩
    · rw [eL] at eL'; cases eL'
  · refine ⟨_, rfl, R, _, rfl, .inl ⟨SqL.of (g9 _ _ hR), fun tR htR => ?_⟩⟩
    have t1 := same_new htR (.tup rvs)
    have f1 : upd H9 tR (.tup rvs) tR = some (.tup rvs) := upd_same
    generalize upd H9 tR _ = H10 at t1 f1 ⊢
    refine ⟨_, rfl, S, _, rfl, .inl ⟨SqL.of (t1 _ _ (g9 _ _ hSv)), fun tS htS => ?_⟩⟩
    have t2 := same_new htS (.tup svs)
    have f2 : upd H10 tS (.tup svs) tS = some (.tup svs) := upd_same
    generalize upd H10 tS _ = H11 at t2 f2 ⊢
    have s11 := (g9.trans t1).trans t2
    refine ⟨_, rfl, tR, tS, rvs, svs, rs, shs, d, n, rfl, SqT.of (t2 _ _ f1), hrs.ts s11.ts, SqT.of f2, hsh.pts s11.ts, by omega, hfit, hlen, hd9, fun eL' => (by rw [eL] at eL'; cases eL'), fun r' eL' v' H12 g12 hv' => ?_⟩
    rw [eL] at eL'
    cases eL'
    have hrlen : r.1.length = n := by
      unfold lineL at eL
      split at eL
      · cases eL
      · cases hs : sumS rs shs n with
        | none => rw [hs] at eL; cases eL
        | some a2 =>
          rw [hs, Option.bind_some] at eL
          split at eL
          · cases eL
          · cases eL
            rw [List.length_map]
            exact sumS_len hlen hs
    have hvD : IsR K H12 v r := hv.ts ((t1.trans t2).trans g12).ts
    obtain ⟨pv, tv, rfl, hpv, htv⟩ := hvD
    obtain ⟨pw, tw, rfl, hpw, htw⟩ := hv'
    refine cut_stay ⟨_, rfl, rfl, _, rfl, ite2 (fun c => absurd (dP c) (fun e => nomatch e)) (fun c => ⟨rfl, rfl⟩)⟩ ?_
    refine cut_stay ⟨_, rfl, _, _, _, rfl, .tup_tuple hpw, true, rfl, iteF ⟨_, rfl, pw, _, rfl, .inr hpw, rfl, _, rfl, iteF ⟨rfl, rfl⟩⟩⟩ ?_
    refine ⟨_, rfl, pw, _, _, _, rfl, rfl, hpw, rfl, _, rfl, tw, r.1, _, rfl, htw, (by rw [hrlen]), by omega, fun H13 g13 => ⟨true, rfl, iteT ?_⟩⟩
    refine ⟨_, rfl, pw, _, _, _, rfl, rfl, g13.sqt hpw, rfl, _, rfl, true, rfl, iteT ?_⟩
    exact ⟨_, rfl, _, rfl, IsR.eqT (d := 58) (r := r) ⟨pw, tw, rfl, g13.sqt hpw, g13.sqt htw⟩ ⟨pv, tv, rfl, g13.sqt hpv, g13.sqt htv⟩, q _⟩
end
theorem us_1 {A : Type} : ∀ us : List A, us.length = 1 → ∃ a0, us = [a0]
  | [a0], _ => ⟨a0, rfl⟩
theorem us_2 {A : Type} : ∀ us : List A, us.length = 2 → ∃ a0 a1, us = [a0, a1]
  | [a0, a1], _ => ⟨a0, a1, rfl⟩
theorem us_3 {A : Type} : ∀ us : List A, us.length = 3 → ∃ a0 a1 a2, us = [a0, a1, a2]
  | [a0, a1, a2], _ => ⟨a0, a1, a2, rfl⟩
theorem us_4 {A : Type} : ∀ us : List A, us.length = 4 → ∃ a0 a1 a2 a3, us = [a0, a1, a2, a3]
  | [a0, a1, a2, a3], _ => ⟨a0, a1, a2, a3, rfl⟩
theorem us_5 {A : Type} : ∀ us : List A, us.length = 5 → ∃ a0 a1 a2 a3 a4, us = [a0, a1, a2, a3, a4]
  | [a0, a1, a2, a3, a4], _ => ⟨a0, a1, a2, a3, a4, rfl⟩
theorem us_6 {A : Type} : ∀ us : List A, us.length = 6 → ∃ a0 a1 a2 a3 a4 a5, us = [a0, a1, a2, a3, a4, a5]
  | [a0, a1, a2, a3, a4, a5], _ => ⟨a0, a1, a2, a3, a4, a5, rfl⟩
theorem all_mk {l : PySem.W.OpenLaw} {w : World} {K : PySem.W.Frag} {h : Heap} {mg : Str → Option Value} {fa f1 f2 f3 f4 f5 f6 f7 f8 f9 f10 f11 f12 f13 f14 f15 : Addr} (X : K.In h) (G : h.Ns mainGlobals mg) (hfa : mg "law" = some (.ref fa))
    {od1 an1 od2 an2 od3 an3 od4 an4 od5 an5 od6 an6 od7 an7 od8 an8 od9 an9 od10 an10 od11 an11 od12 an12 od13 an13 od14 an14 od15 an15 : Option Addr} {sl1 sl2 sl3 sl4 sl5 sl6 sl7 sl8 sl9 sl10 sl11 sl12 sl13 sl14 sl15 : Array (Option Value)} {oc1 kV1 dc1 pm1 cd1 ct1 oc2 kV2 dc2 pm2 cd2 ct2 oc3 kV3 dc3 pm3 cd3 ct3 oc4 kV4 dc4 pm4 cd4 ct4 oc5 kV5 dc5 pm5 cd5 ct5 oc6 kV6 dc6 pm6 cd6 ct6 oc7 kV7 dc7 pm7 cd7 ct7 oc8 kV8 dc8 pm8 cd8 ct8 oc9 kV9 dc9 pm9 cd9 ct9 oc10 kV10 dc10 pm10 cd10 ct10 oc11 kV11 dc11 pm11 cd11 ct11 oc12 kV12 dc12 pm12 cd12 ct12 oc13 kV13 dc13 pm13 cd13 ct13 oc14 kV14 dc14 pm14 cd14 ct14 oc15 kV15 dc15 pm15 cd15 ct15 : Value}
    (a1 : PySem.W.nsIn K mainGlobals "up" = some (some (.ref f1))) (l1 : K.lookup f1 = some ⟨oc1, od1, .func (PySem.W.fnOf "up" "up" (defArgs s_up) (defBody s_up) (defScope s_up) .none kV1 dc1 pm1 an1 cd1 ct1), sl1⟩) (c1 : PySem.W.codeIn K cd1 "up" = true) (k1 : PySem.W.keepIn K (.ref f1) = true)
    (a2 : PySem.W.nsIn K mainGlobals "width" = some (some (.ref f2))) (l2 : K.lookup f2 = some ⟨oc2, od2, .func (PySem.W.fnOf "width" "width" (defArgs s_width) (defBody s_width) (defScope s_width) .none kV2 dc2 pm2 an2 cd2 ct2), sl2⟩) (c2 : PySem.W.codeIn K cd2 "width" = true) (k2 : PySem.W.keepIn K (.ref f2) = true)
    (a3 : PySem.W.nsIn K mainGlobals "is_row_number" = some (some (.ref f3))) (l3 : K.lookup f3 = some ⟨oc3, od3, .func (PySem.W.fnOf "is_row_number" "is_row_number" (defArgs s_is_row_number) (defBody s_is_row_number) (defScope s_is_row_number) .none kV3 dc3 pm3 an3 cd3 ct3), sl3⟩) (c3 : PySem.W.codeIn K cd3 "is_row_number" = true) (k3 : PySem.W.keepIn K (.ref f3) = true)
    (a4 : PySem.W.nsIn K mainGlobals "shares_sum" = some (some (.ref f4))) (l4 : K.lookup f4 = some ⟨oc4, od4, .func (PySem.W.fnOf "shares_sum" "shares_sum" (defArgs s_shares_sum) (defBody s_shares_sum) (defScope s_shares_sum) .none kV4 dc4 pm4 an4 cd4 ct4), sl4⟩) (c4 : PySem.W.codeIn K cd4 "shares_sum" = true) (k4 : PySem.W.keepIn K (.ref f4) = true)
    (a5 : PySem.W.nsIn K mainGlobals "line_row" = some (some (.ref f5))) (l5 : K.lookup f5 = some ⟨oc5, od5, .func (PySem.W.fnOf "line_row" "line_row" (defArgs s_line_row) (defBody s_line_row) (defScope s_line_row) .none kV5 dc5 pm5 an5 cd5 ct5), sl5⟩) (c5 : PySem.W.codeIn K cd5 "line_row" = true) (k5 : PySem.W.keepIn K (.ref f5) = true)
    (a6 : PySem.W.nsIn K mainGlobals "_law_cell" = some (some (.ref f6))) (l6 : K.lookup f6 = some ⟨oc6, od6, .func (PySem.W.fnOf "_law_cell" "_law_cell" (defArgs s__law_cell) (defBody s__law_cell) (defScope s__law_cell) .none kV6 dc6 pm6 an6 cd6 ct6), sl6⟩) (c6 : PySem.W.codeIn K cd6 "_law_cell" = true) (k6 : PySem.W.keepIn K (.ref f6) = true)
    (a7 : PySem.W.nsIn K mainGlobals "_law_draws" = some (some (.ref f7))) (l7 : K.lookup f7 = some ⟨oc7, od7, .func (PySem.W.fnOf "_law_draws" "_law_draws" (defArgs s__law_draws) (defBody s__law_draws) (defScope s__law_draws) .none kV7 dc7 pm7 an7 cd7 ct7), sl7⟩) (c7 : PySem.W.codeIn K cd7 "_law_draws" = true) (k7 : PySem.W.keepIn K (.ref f7) = true)
    (a8 : PySem.W.nsIn K mainGlobals "_law_whole" = some (some (.ref f8))) (l8 : K.lookup f8 = some ⟨oc8, od8, .func (PySem.W.fnOf "_law_whole" "_law_whole" (defArgs s__law_whole) (defBody s__law_whole) (defScope s__law_whole) .none kV8 dc8 pm8 an8 cd8 ct8), sl8⟩) (c8 : PySem.W.codeIn K cd8 "_law_whole" = true) (k8 : PySem.W.keepIn K (.ref f8) = true)
    (a9 : PySem.W.nsIn K mainGlobals "_law_wholes" = some (some (.ref f9))) (l9 : K.lookup f9 = some ⟨oc9, od9, .func (PySem.W.fnOf "_law_wholes" "_law_wholes" (defArgs s__law_wholes) (defBody s__law_wholes) (defScope s__law_wholes) .none kV9 dc9 pm9 an9 cd9 ct9), sl9⟩) (c9 : PySem.W.codeIn K cd9 "_law_wholes" = true) (k9 : PySem.W.keepIn K (.ref f9) = true)
    (a10 : PySem.W.nsIn K mainGlobals "_law_total" = some (some (.ref f10))) (l10 : K.lookup f10 = some ⟨oc10, od10, .func (PySem.W.fnOf "_law_total" "_law_total" (defArgs s__law_total) (defBody s__law_total) (defScope s__law_total) .none kV10 dc10 pm10 an10 cd10 ct10), sl10⟩) (c10 : PySem.W.codeIn K cd10 "_law_total" = true) (k10 : PySem.W.keepIn K (.ref f10) = true)
    (a11 : PySem.W.nsIn K mainGlobals "_law_line" = some (some (.ref f11))) (l11 : K.lookup f11 = some ⟨oc11, od11, .func (PySem.W.fnOf "_law_line" "_law_line" (defArgs s__law_line) (defBody s__law_line) (defScope s__law_line) .none kV11 dc11 pm11 an11 cd11 ct11), sl11⟩) (c11 : PySem.W.codeIn K cd11 "_law_line" = true) (k11 : PySem.W.keepIn K (.ref f11) = true)
    (a12 : PySem.W.nsIn K mainGlobals "_law_rows" = some (some (.ref f12))) (l12 : K.lookup f12 = some ⟨oc12, od12, .func (PySem.W.fnOf "_law_rows" "_law_rows" (defArgs s__law_rows) (defBody s__law_rows) (defScope s__law_rows) .none kV12 dc12 pm12 an12 cd12 ct12), sl12⟩) (c12 : PySem.W.codeIn K cd12 "_law_rows" = true) (k12 : PySem.W.keepIn K (.ref f12) = true)
    (a13 : PySem.W.nsIn K mainGlobals "_law_shares" = some (some (.ref f13))) (l13 : K.lookup f13 = some ⟨oc13, od13, .func (PySem.W.fnOf "_law_shares" "_law_shares" (defArgs s__law_shares) (defBody s__law_shares) (defScope s__law_shares) .none kV13 dc13 pm13 an13 cd13 ct13), sl13⟩) (c13 : PySem.W.codeIn K cd13 "_law_shares" = true) (k13 : PySem.W.keepIn K (.ref f13) = true)
    (a14 : PySem.W.nsIn K mainGlobals "_law_completed" = some (some (.ref f14))) (l14 : K.lookup f14 = some ⟨oc14, od14, .func (PySem.W.fnOf "_law_completed" "_law_completed" (defArgs s__law_completed) (defBody s__law_completed) (defScope s__law_completed) .none kV14 dc14 pm14 an14 cd14 ct14), sl14⟩) (c14 : PySem.W.codeIn K cd14 "_law_completed" = true) (k14 : PySem.W.keepIn K (.ref f14) = true)
    (a15 : PySem.W.nsIn K mainGlobals "law" = some (some (.ref f15))) (l15 : K.lookup f15 = some ⟨oc15, od15, .func (PySem.W.fnOf "law" "law" (defArgs s_law) (defBody s_law) (defScope s_law) .none kV15 dc15 pm15 an15 cd15 ct15), sl15⟩) (c15 : PySem.W.codeIn K cd15 "law" = true) (k15 : PySem.W.keepIn K (.ref f15) = true)
    (y_len : PySem.W.nsIn K mainGlobals "len" = some none)
    (y_tuple : PySem.W.nsIn K mainGlobals "tuple" = some none)
    (y_zip : PySem.W.nsIn K mainGlobals "zip" = some none)
    (y_any : PySem.W.nsIn K mainGlobals "any" = some none)
    (y_max : PySem.W.nsIn K mainGlobals "max" = some none)
    (y_enumerate : PySem.W.nsIn K mainGlobals "enumerate" = some none)
    (y_abs : PySem.W.nsIn K mainGlobals "abs" = some none)
    (y_isinstance : PySem.W.nsIn K mainGlobals "isinstance" = some none)
    (y_int : PySem.W.nsIn K mainGlobals "int" = some none)
    (y_bool : PySem.W.nsIn K mainGlobals "bool" = some none)
    (y_all : PySem.W.nsIn K mainGlobals "all" = some none)
    (y_list : PySem.W.nsIn K mainGlobals "list" = some none)
    (y_range : PySem.W.nsIn K mainGlobals "range" = some none) :
    ∃ fd : FuncData, (∀ (s : Shared) (v : Value), BindsTo s fd ⟨[v], []⟩ [("_law_script", v)]) ∧ ∀ base : Heap, K.In base → base.Ns mainGlobals mg → FnOk l.prog w K mg base CX0 4 fa fd ["_law_script"] (sp_law K) := by
  have e := hfa.symm.trans (PySem.W.mg_of X G a15)
  cases e
  have F1 := fun_mk (st := s_up) l1 c1 k1
  have b1 := F1.binds (ps := ["top", "bottom"]) fun _ _ _ _ _ _ us hl => by obtain ⟨_, _, rfl⟩ := us_2 us hl; rfl
  have F2 := fun_mk (st := s_width) l2 c2 k2
  have b2 := F2.binds (ps := ["rows"]) fun _ _ _ _ _ _ us hl => by obtain ⟨_, rfl⟩ := us_1 us hl; rfl
  have F3 := fun_mk (st := s_is_row_number) l3 c3 k3
  have b3 := F3.binds (ps := ["rows", "number"]) fun _ _ _ _ _ _ us hl => by obtain ⟨_, _, rfl⟩ := us_2 us hl; rfl
  have F4 := fun_mk (st := s_shares_sum) l4 c4 k4
  have b4 := F4.binds (ps := ["rows", "shares", "n"]) fun _ _ _ _ _ _ us hl => by obtain ⟨_, _, _, rfl⟩ := us_3 us hl; rfl
  have F5 := fun_mk (st := s_line_row) l5 c5 k5
  have b5 := F5.binds (ps := ["rows", "shares", "divisor"]) fun _ _ _ _ _ _ us hl => by obtain ⟨_, _, _, rfl⟩ := us_3 us hl; rfl
  have F6 := fun_mk (st := s__law_cell) l6 c6 k6
  have b6 := F6.binds (ps := ["_law_script", "_law_k"]) fun _ _ _ _ _ _ us hl => by obtain ⟨_, _, rfl⟩ := us_2 us hl; rfl
  have F7 := fun_mk (st := s__law_draws) l7 c7 k7
  have b7 := F7.binds (ps := ["_law_cell_here", "_law_salt", "_law_sizes"]) fun _ _ _ _ _ _ us hl => by obtain ⟨_, _, _, rfl⟩ := us_3 us hl; rfl
  have F8 := fun_mk (st := s__law_whole) l8 c8 k8
  have b8 := F8.binds (ps := ["_law_told"]) fun _ _ _ _ _ _ us hl => by obtain ⟨_, rfl⟩ := us_1 us hl; rfl
  have F9 := fun_mk (st := s__law_wholes) l9 c9 k9
  have b9 := F9.binds (ps := ["_law_told", "_law_size"]) fun _ _ _ _ _ _ us hl => by obtain ⟨_, _, rfl⟩ := us_2 us hl; rfl
  have F10 := fun_mk (st := s__law_total) l10 c10 k10
  have b10 := F10.binds (ps := ["_law_rows_here", "_law_shares_here", "_law_n"]) fun _ _ _ _ _ _ us hl => by obtain ⟨_, _, _, rfl⟩ := us_3 us hl; rfl
  have F11 := fun_mk (st := s__law_line) l11 c11 k11
  have b11 := F11.binds (ps := ["_law_rows_here", "_law_shares_here", "_law_divisor", "_law_n"]) fun _ _ _ _ _ _ us hl => by obtain ⟨_, _, _, _, rfl⟩ := us_4 us hl; rfl
  have F12 := fun_mk (st := s__law_rows) l12 c12 k12
  have b12 := F12.binds (ps := ["_law_cell_here", "_law_salt", "_law_n", "_law_many", "_law_big"]) fun _ _ _ _ _ _ us hl => by obtain ⟨_, _, _, _, _, rfl⟩ := us_5 us hl; rfl
  have F13 := fun_mk (st := s__law_shares) l13 c13 k13
  have b13 := F13.binds (ps := ["_law_cell_here", "_law_many", "_law_count", "_law_wild", "_law_heavy"]) fun _ _ _ _ _ _ us hl => by obtain ⟨_, _, _, _, _, rfl⟩ := us_5 us hl; rfl
  have F14 := fun_mk (st := s__law_completed) l14 c14 k14
  have b14 := F14.binds (ps := ["_law_cell_here", "_law_rows_here", "_law_shares_here", "_law_divisor", "_law_n", "_law_more"]) fun _ _ _ _ _ _ us hl => by obtain ⟨_, _, _, _, _, _, rfl⟩ := us_6 us hl; rfl
  have F15 := fun_mk (st := s_law) l15 c15 k15
  have b15 := F15.binds (ps := ["_law_script"]) fun _ _ _ _ _ _ us hl => by obtain ⟨_, rfl⟩ := us_1 us hl; rfl
  refine ⟨PySem.W.fnOf "law" "law" (defArgs s_law) (defBody s_law) (defScope s_law) .none kV15 dc15 pm15 an15 cd15 ct15, fun s v => .of_eq rfl, fun base _ _ => ?_⟩
  have z_len := PySem.W.mg_none_of X G y_len
  have z_tuple := PySem.W.mg_none_of X G y_tuple
  have z_zip := PySem.W.mg_none_of X G y_zip
  have z_any := PySem.W.mg_none_of X G y_any
  have z_max := PySem.W.mg_none_of X G y_max
  have z_enumerate := PySem.W.mg_none_of X G y_enumerate
  have z_abs := PySem.W.mg_none_of X G y_abs
  have z_isinstance := PySem.W.mg_none_of X G y_isinstance
  have z_int := PySem.W.mg_none_of X G y_int
  have z_bool := PySem.W.mg_none_of X G y_bool
  have z_all := PySem.W.mg_none_of X G y_all
  have z_list := PySem.W.mg_none_of X G y_list
  have z_range := PySem.W.mg_none_of X G y_range
  have H1 := ok_up (P := l.prog) (w := w) (mg := mg) (base := base) (n := 0) F1 
  have H2 := ok_width (P := l.prog) (w := w) (mg := mg) (base := base) (n := 0) F2 z_len
  have H3 := ok_is_row_number (P := l.prog) (w := w) (mg := mg) (base := base) (n := 0) F3 z_len
  have H4 := ok_shares_sum (P := l.prog) (w := w) (mg := mg) (base := base) (n := 1) F4 (H3.mono (by decide)) b3 k3 (PySem.W.mg_of X G a3) z_tuple z_zip
  have H5 := ok_line_row (P := l.prog) (w := w) (mg := mg) (base := base) (n := 2) F5 (H4.mono (by decide)) b4 k4 (PySem.W.mg_of X G a4) (H2.mono (by decide)) b2 k2 (PySem.W.mg_of X G a2) (H1.mono (by decide)) b1 k1 (PySem.W.mg_of X G a1) z_any z_tuple z_len
  have H6 := ok__law_cell (P := l.prog) (w := w) (mg := mg) (base := base) (n := 0) F6 z_len
  have H7 := ok__law_draws (P := l.prog) (w := w) (mg := mg) (base := base) (n := 0) F7 z_max z_enumerate z_abs
  have H8 := ok__law_whole (P := l.prog) (w := w) (mg := mg) (base := base) (n := 0) F8 z_isinstance z_int z_bool
  have H9 := ok__law_wholes (P := l.prog) (w := w) (mg := mg) (base := base) (n := 1) F9 (H8.mono (by decide)) b8 k8 (PySem.W.mg_of X G a8) z_isinstance z_tuple z_all z_len
  have H10 := ok__law_total (P := l.prog) (w := w) (mg := mg) (base := base) (n := 0) F10 z_list z_len z_zip
  have H11 := ok__law_line (P := l.prog) (w := w) (mg := mg) (base := base) (n := 1) F11 (H10.mono (by decide)) b10 k10 (PySem.W.mg_of X G a10) z_any z_tuple z_len
  have H12 := ok__law_rows (P := l.prog) (w := w) (mg := mg) (base := base) (n := 1) F12 (H7.mono (by decide)) b7 k7 (PySem.W.mg_of X G a7) z_range z_tuple
  have H13 := ok__law_shares (P := l.prog) (w := w) (mg := mg) (base := base) (n := 1) F13 (H7.mono (by decide)) b7 k7 (PySem.W.mg_of X G a7) z_range
  have H14 := ok__law_completed (P := l.prog) (w := w) (mg := mg) (base := base) (n := 1) F14 (H10.mono (by decide)) b10 k10 (PySem.W.mg_of X G a10) (H7.mono (by decide)) b7 k7 (PySem.W.mg_of X G a7) z_zip z_len z_tuple
  have H15 := ok_law (P := l.prog) (w := w) (mg := mg) (base := base) (n := 3) F15 (H7.mono (by decide)) b7 k7 (PySem.W.mg_of X G a7) (H12.mono (by decide)) b12 k12 (PySem.W.mg_of X G a12) (H13.mono (by decide)) b13 k13 (PySem.W.mg_of X G a13) (H11.mono (by decide)) b11 k11 (PySem.W.mg_of X G a11) (H5.mono (by decide)) b5 k5 (PySem.W.mg_of X G a5) (H6.mono (by decide)) b6 k6 (PySem.W.mg_of X G a6) (H14.mono (by decide)) b14 k14 (PySem.W.mg_of X G a14) (H9.mono (by decide)) b9 k9 (PySem.W.mg_of X G a9) (H8.mono (by decide)) b8 k8 (PySem.W.mg_of X G a8) z_len z_tuple z_isinstance
  exact H15
theorem walk {l : PySem.W.OpenLaw} {q : Program} {loose : List Str} {XP : (Str → Option Value) → Heap → Prop} {YP : World → Heap → Prop} {d : DefRec} {K : Params → PySem.W.Frag} (hn : l.most = some 63) (hdf : d.params.defaults = [])
    (hY : ∀ (w : World) (h : Heap), YP w h → (K w.params).In h)
    (F : ∀ (w : World) (mg : Str → Option Value) (fa : Addr) (h : Heap), (K w.params).In h → h.Ns mainGlobals mg → mg d.name = some (.ref fa) →
      ∃ fd : FuncData, (∀ (s : Shared) (u : Value), BindsTo s fd ⟨[u], []⟩ [("_law_script", u)]) ∧ ∀ base : Heap, (K w.params).In base → base.Ns mainGlobals mg → FnOk l.prog w (K w.params) mg base CX0 4 fa fd ["_law_script"] (sp_law (K w.params))) :
    PySem.W.WalkO q loose XP YP l.row.toRowW d [] (fun f vs => PySem.call f vs) :=
  L2.walk_of (n := 63) (k := 4) (x := "_law_script") (CX := fun _ => CX0) (sp := fun w => sp_law (K w.params)) hn (by decide) hdf ⟨rfl, by decide, by decide⟩ hY F (fun _ _ a ns hl _ hS => ⟨a, ns, rfl, hS, hl, fun _ => rfl⟩) fun _ _ _ _ _ z => z
end Kx
open PySem PySem.W PyProof.Rows
set_option maxRecDepth 100000 in
set_option maxHeartbeats 0 in
theorem PySem.Challenge.cw_cutyard_k15_a_cuts_row_holds : PySem.Challenge.rw_cutyard_k15_a_cuts_row.Holds := by
  w_on; o_law; k_head; (case hw => w_witness2)
  k_fill
  refine Kx.walk (l := PySem.Challenge.rw_cutyard_k15_a_cuts_row) rfl rfl (fun w h Y => PySem.W.kIn_of Y) ?F
  case F =>
    intro w mg fa h KX G hmg
    refine' Kx.all_mk KX G hmg ?a1 ?l1 ?c1 ?k1 ?a2 ?l2 ?c2 ?k2 ?a3 ?l3 ?c3 ?k3 ?a4 ?l4 ?c4 ?k4 ?a5 ?l5 ?c5 ?k5 ?a6 ?l6 ?c6 ?k6 ?a7 ?l7 ?c7 ?k7 ?a8 ?l8 ?c8 ?k8 ?a9 ?l9 ?c9 ?k9 ?a10 ?l10 ?c10 ?k10 ?a11 ?l11 ?c11 ?k11 ?a12 ?l12 ?c12 ?k12 ?a13 ?l13 ?c13 ?k13 ?a14 ?l14 ?c14 ?k14 ?a15 ?l15 ?c15 ?k15 ?y_len ?y_tuple ?y_zip ?y_any ?y_max ?y_enumerate ?y_abs ?y_isinstance ?y_int ?y_bool ?y_all ?y_list ?y_range
    (case a1 => k_is); (case l1 => k_is); (case c1 => k_is); (case k1 => k_is)
    (case a2 => k_is); (case l2 => k_is); (case c2 => k_is); (case k2 => k_is)
    (case a3 => k_is); (case l3 => k_is); (case c3 => k_is); (case k3 => k_is)
    (case a4 => k_is); (case l4 => k_is); (case c4 => k_is); (case k4 => k_is)
    (case a5 => k_is); (case l5 => k_is); (case c5 => k_is); (case k5 => k_is)
    (case a6 => k_is); (case l6 => k_is); (case c6 => k_is); (case k6 => k_is)
    (case a7 => k_is); (case l7 => k_is); (case c7 => k_is); (case k7 => k_is)
    (case a8 => k_is); (case l8 => k_is); (case c8 => k_is); (case k8 => k_is)
    (case a9 => k_is); (case l9 => k_is); (case c9 => k_is); (case k9 => k_is)
    (case a10 => k_is); (case l10 => k_is); (case c10 => k_is); (case k10 => k_is)
    (case a11 => k_is); (case l11 => k_is); (case c11 => k_is); (case k11 => k_is)
    (case a12 => k_is); (case l12 => k_is); (case c12 => k_is); (case k12 => k_is)
    (case a13 => k_is); (case l13 => k_is); (case c13 => k_is); (case k13 => k_is)
    (case a14 => k_is); (case l14 => k_is); (case c14 => k_is); (case k14 => k_is)
    (case a15 => k_is); (case l15 => k_is); (case c15 => k_is); (case k15 => k_is)
    (case y_len => k_is)
    (case y_tuple => k_is)
    (case y_zip => k_is)
    (case y_any => k_is)
    (case y_max => k_is)
    (case y_enumerate => k_is)
    (case y_abs => k_is)
    (case y_isinstance => k_is)
    (case y_int => k_is)
    (case y_bool => k_is)
    (case y_all => k_is)
    (case y_list => k_is)
    (case y_range => k_is)
