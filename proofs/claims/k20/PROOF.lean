import PyProof.Rows.All
import Wide.All
import OpenK.AllK
import Wide.FinOn
import Lean
import PyProof.EqAt
import PyProof.EqKinds
import PyProof.TupleCall
import PyProof.NeKinds
import PySem.Challenge.RW_cutyard_k20_endings_read
set_option Elab.async false
set_option linter.all false
set_option maxRecDepth 100000
namespace L2
open PySem PySem.Spec PyProof.Rows
abbrev Key := Sum Int Str
def keyIs : Key → Value → Bool
  | .inl k, v => Value.isInt k v
  | .inr x, v => Value.isStrOf x v
def keyH (w : World) : Key → Int
  | .inl k => hashInt k
  | .inr x => hashStr w x
theorem keyIs_shape : ∀ {k : Key} {v : Value}, keyIs k v = true → (∃ i t, k = Sum.inl i ∧ v = Value.int i t) ∨ (∃ x t, k = Sum.inr x ∧ v = Value.str x t)
  | .inl i, v, h => by
    obtain ⟨t, e⟩ := Value.isInt_shape (k := i) (v := v) h
    exact .inl ⟨i, t, rfl, e⟩
  | .inr x, v, h => by
    obtain ⟨t, e⟩ := Value.isStrOf_shape (x := x) (v := v) h
    exact .inr ⟨x, t, rfl, e⟩
theorem key_ll (a b : Int) : decide ((Sum.inl a : Key) = Sum.inl b) = (a == b) := by
  by_cases e : a = b
  · subst e; simp
  · have h : ¬ (Sum.inl a : Key) = Sum.inl b := fun q => e (Sum.inl.inj q)
    rw [decide_eq_false h]
    exact (beq_eq_false_iff_ne.mpr e).symm
theorem key_rr (a b : Str) : decide ((Sum.inr a : Key) = Sum.inr b) = decide (a = b) := by
  by_cases e : a = b
  · subst e; simp
  · have h : ¬ (Sum.inr a : Key) = Sum.inr b := fun q => e (Sum.inr.inj q)
    rw [decide_eq_false h, decide_eq_false e]
theorem key_lr (a : Int) (b : Str) : decide ((Sum.inl a : Key) = Sum.inr b) = false := decide_eq_false (fun q => nomatch q)
theorem key_rl (a : Str) (b : Int) : decide ((Sum.inr a : Key) = Sum.inl b) = false := decide_eq_false (fun q => nomatch q)
def mixKind (prog : Program) (w : World) : PySem.KeyKind prog w Key where
  is := keyIs
  hash := keyH w
  inj := fun v a b ha hb => by
    rcases keyIs_shape ha with ⟨i, t, rfl, rfl⟩ | ⟨x, t, rfl, rfl⟩
    · rcases keyIs_shape hb with ⟨j, u, rfl, e⟩ | ⟨y, u, rfl, e⟩
      · injection e with e1 _; rw [e1]
      · exact nomatch e
    · rcases keyIs_shape hb with ⟨j, u, rfl, e⟩ | ⟨y, u, rfl, e⟩
      · exact nomatch e
      · injection e with e1 _; rw [e1]
  byValue := fun k v h => by
    rcases keyIs_shape h with ⟨i, t, rfl, rfl⟩ | ⟨x, t, rfl, rfl⟩ <;> rfl
  pyHash := fun hv h => by
    rcases keyIs_shape hv with ⟨i, t, rfl, rfl⟩ | ⟨x, t, rfl, rfl⟩
    · exact wpAny_pyHash_int h
    · exact wpAny_pyHash_str h
  eqBool := fun hu hv h => by
    rcases keyIs_shape hu with ⟨i, t, rfl, rfl⟩ | ⟨x, t, rfl, rfl⟩
    · rcases keyIs_shape hv with ⟨j, u, rfl, rfl⟩ | ⟨y, u, rfl, rfl⟩
      · rw [key_ll] at h; exact wpAny_eqBool_int h
      · rw [key_lr] at h; exact SeqAt.EqAt.int_str i t y u _ _ _ _ h
    · rcases keyIs_shape hv with ⟨j, u, rfl, rfl⟩ | ⟨y, u, rfl, rfl⟩
      · rw [key_rl] at h; exact SeqAt.EqAt.str_int x t j u _ _ _ _ h
      · rw [key_rr] at h; exact wpAny_eqBool_str h
  «strs» := fun k x t v h => by
    rcases keyIs_shape h with ⟨i, u, rfl, e⟩ | ⟨y, u, rfl, e⟩
    · exact nomatch e
    · injection e with e1 _
      subst e1
      cases v <;> rfl
end L2
namespace L2
open PySem PySem.Spec PyProof.Rows
inductive V where
  | non | bl (b : Bool) | int (i : Int) | str (x : Str) | byt (b : Array UInt8) | flt (b : UInt64) | ref (a : Addr) | ty (n : String)
  deriving DecidableEq
def RelV : V → Value → Prop
  | .non, u => u = Value.none
  | .bl b, u => u = Value.bool b
  | .int i, u => ∃ t, u = Value.int i t
  | .str x, u => ∃ t, u = Value.str x t
  | .byt b, u => ∃ t, u = Value.bytes b t
  | .flt b, u => ∃ t, u = Value.float b t
  | .ref a, u => u = Value.ref a
  | .ty n, u => u = Value.type n
abbrev Vals : List V → List Value → Prop := Paired RelV
theorem Vals.length {xs : List V} {us : List Value} (r : Vals xs us) : xs.length = us.length := Paired.length r
theorem Vals.get : ∀ {xs : List V} {us : List Value} {i : Nat} {x : V}, Vals xs us → xs[i]? = some x → ∃ u, us[i]? = some u ∧ RelV x u
  | _, _, _, _, .nil, e => by simp at e
  | _, _, 0, _, .cons r _, e => by simp at e; subst e; exact ⟨_, rfl, r⟩
  | _, _, i + 1, x, .cons _ t, e => by
    obtain ⟨u, h1, h2⟩ := Vals.get (i := i) (x := x) t (by simpa using e)
    exact ⟨u, by simpa using h1, h2⟩
theorem Vals.append : ∀ {xs ys : List V} {us ws : List Value}, Vals xs us → Vals ys ws → Vals (xs ++ ys) (us ++ ws)
  | _, _, _, _, .nil, s => s
  | _, _, _, _, .cons r t, s => .cons r (Vals.append t s)
theorem Vals.take : ∀ {xs : List V} {us : List Value} (n : Nat), Vals xs us → Vals (xs.take n) (us.take n)
  | _, _, 0, _ => .nil
  | _, _, _ + 1, .nil => .nil
  | _, _, n + 1, .cons r t => .cons r (Vals.take n t)
theorem Vals.drop : ∀ {xs : List V} {us : List Value} (n : Nat), Vals xs us → Vals (xs.drop n) (us.drop n)
  | _, _, 0, r => r
  | _, _, _ + 1, .nil => .nil
  | _, _, n + 1, .cons _ t => Vals.drop n t
def RelO : Option V → Option Value → Prop
  | some v, some u => RelV v u
  | none, none => True
  | _, _ => False
def KV {κ : Type} : List (κ × V) → List (κ × Value) → Prop := Paired fun (p : κ × V) (q : κ × Value) => p.1 = q.1 ∧ RelV p.2 q.2
def kV : Key → V
  | .inl i => .int i
  | .inr x => .str x
inductive HO where
  /-- a list -/
  | lst (xs : List V)
  /-- a tuple (never changes) -/
  | tup (xs : List V)
  /-- a dict whose keys are ints and texts; one whose keys are tuples of ints and texts (the empty one is both) -/
  | dK (kvs : List (Key × V)) | dT (kvs : List (List Key × V))
  /-- a set of ints: its members, its size -/
  | set (S : Int → Bool) (n : Nat)
  /-- an instance of the class at C, its dict at dx, its attributes -/
  | ins (C dx : Addr) (fs : List (Str × V))
  /-- the dict of the instance at x -/
  | own (x : Addr)
  /-- the dict of an exception -/
  | xd (fs : List (Str × V))
  /-- a bound method, f of x -/
  | met (f x : Addr)
  /-- a range object lo, lo + 1, .. below hi -/
  | rng (lo hi : Int)
  /-- a thing that is known to the object (the script; a dict while a loop walks it): read, never written while it is so -/
  | frz (o : Obj) (u : HO)
  /-- a code object's table -/
  | tbl (ps : Array Value)
  /-- any other thing, by what is true of its one object (a def of one's own: SetO a S n := HO.ext fun h => ..) -/
  | ext (φ : Heap → Prop)
abbrev Hp := Addr → Option HO
def upd (H : Hp) (a : Addr) (o : HO) : Hp := fun b => if b = a then some o else H b
theorem upd_same {H : Hp} {a : Addr} {o : HO} : upd H a o a = some o := by unfold upd; rw [if_pos rfl]
theorem upd_ne {H : Hp} {a b : Addr} {o : HO} (h : b ≠ a) : upd H a o b = H b := by unfold upd; rw [if_neg h]
theorem ne_of_none {H : Hp} {a b : Addr} {o : HO} (h : H a = some o) (h' : H b = none) : a ≠ b := by
  intro e; subst e; rw [h] at h'; cases h'
section
variable (P : Program) (w : World)
def ObjOk (H : Hp) (h : Heap) (a : Addr) : HO → Prop
  | .lst xs => xs.length ≤ sizeLine ∧ ∃ (its : List Value) (n : Nat), Vals xs its ∧ h.get? a = some { cls := .type "list", data := .seq its.toArray n }
  | .tup xs => xs.length ≤ sizeLine ∧ ∃ its : List Value, Vals xs its ∧ IsTup h a its.toArray
  | .dK kvs => kvs.length ≤ sizeLine ∧ (a == sysModules) = false ∧ ∃ vs, KV kvs vs ∧ h.DictOf (mixKind P w) a vs
  | .dT kvs => kvs.length ≤ sizeLine ∧ (a == sysModules) = false ∧ ∃ xs : List (List Key × Addr × Value),
      Paired (fun (p : List Key × V) (q : List Key × Addr × Value) => p.1 = q.1 ∧ H q.2.1 = some (.tup (p.1.map kV)) ∧ RelV p.2 q.2.2) kvs xs ∧
      ∃ o es ep, h.get? a = some o ∧ o.ExactDict ∧ o.data = .dict es ep ∧ es.toList = xs.map (entryOfKey (tupleKind (mixKind P w))) ∧ (xs.map (·.1)).Nodup
  | .set S n => h.SetOf (intKind P w) a S n
  | .ins C dx fs => H dx = some (.own a) ∧ fs.length ≤ 1000 ∧ dx ≠ a ∧ h.get? a = some (PySem.W.instObj C dx) ∧
      ∃ mA, h.Ns1 dx mA ∧ (∀ f, RelO (fs.lookup f) (mA f)) ∧ PySem.Within mA (fs.map (·.1))
  | .own _ => ∃ o, h.get? a = some o
  | .xd fs => ∃ mA, h.Ns1 a mA ∧ ∀ f, RelO (fs.lookup f) (mA f)
  | .rng lo hi => ∃ t u v, h.get? a = some { cls := .type "range", data := .fields #[.int lo t, .int hi u, .int 1 v] }
  | .frz o u => h.get? a = some o ∧ ObjOk H h a u
  | .tbl ps => h.get? a = some { cls := .none, data := .fields ps }
  | .met f x => h.get? a = some (PySem.W.methodObj (.ref f) (.ref x))
  | .ext φ => φ h ∧ (∃ o, h.get? a = some o) ∧ ∀ h1 h2 : Heap, φ h1 → (∀ o, h1.get? a = some o → h2.get? a = some o) → φ h2
def HOk (H : Hp) (h : Heap) : Prop := ∀ a o, H a = some o → ObjOk P w H h a o
end
section
variable {P : Program} {w : World} {H H' : Hp} {h h' : Heap} {a : Addr} {o : HO}
theorem ObjOk.lt (x : ObjOk P w H h a o) : a < h.objs.size := by
  cases o with
  | lst xs => obtain ⟨_, _, _, _, e⟩ := x; exact Heap.lt_size e
  | tup xs => obtain ⟨_, _, _, p⟩ := x; exact p.lt
  | dK kvs => obtain ⟨_, _, _, _, o, _, _, e, _⟩ := x; exact Heap.lt_size e
  | dT kvs => obtain ⟨_, _, _, _, o, _, _, e, _⟩ := x; exact Heap.lt_size e
  | set S n => obtain ⟨o, _, _, _, e, _⟩ := x; exact Heap.lt_size e
  | ins C dx fs => obtain ⟨_, _, _, e, _⟩ := x; exact Heap.lt_size e
  | own y => obtain ⟨_, e⟩ := x; exact Heap.lt_size e
  | xd fs => obtain ⟨_, ⟨_, _, _, e, _⟩, _⟩ := x; exact Heap.lt_size e
  | rng lo hi => obtain ⟨_, _, _, e⟩ := x; exact Heap.lt_size e
  | frz ob u => obtain ⟨e, _⟩ := x; exact Heap.lt_size e
  | tbl ps => exact Heap.lt_size (show h.get? a = some _ from x)
  | met f y => exact Heap.lt_size (show h.get? a = some _ from x)
  | ext φ => obtain ⟨_, ⟨_, e⟩, _⟩ := x; exact Heap.lt_size e
theorem Paired.mapP {α β : Type} {F G : α → β → Prop} : ∀ {l₁ : List α} {l₂ : List β}, Paired F l₁ l₂ → (∀ a b, F a b → G a b) → Paired G l₁ l₂
  | _, _, .nil, _ => .nil
  | _, _, .cons r t, f => .cons (f _ _ r) (Paired.mapP t f)
theorem ObjOk.stay (x : ObjOk P w H h a o) (k : ∀ b u, (b = a ∨ H b = some (.own a)) → h.get? b = some u → h'.get? b = some u)
    (ho : ∀ b, H b = some (.own a) → H' b = some (.own a)) (ht : ∀ b xs, H b = some (.tup xs) → H' b = some (.tup xs)) : ObjOk P w H' h' a o := by
  induction o with
  | lst xs => obtain ⟨z, its, n, r, e⟩ := x; exact ⟨z, its, n, r, k _ _ (.inl rfl) e⟩
  | tup xs => obtain ⟨z, its, r, ob, e, c⟩ := x; exact ⟨z, its, r, ob, k _ _ (.inl rfl) e, c⟩
  | dK kvs => obtain ⟨z, y, vs, r, ob, es, ep, e, c⟩ := x; exact ⟨z, y, vs, r, ob, es, ep, k _ _ (.inl rfl) e, c⟩
  | dT kvs =>
    obtain ⟨z, y, xs, r, ob, es, ep, e, c⟩ := x
    exact ⟨z, y, xs, Paired.mapP r fun p q z => ⟨z.1, ht _ _ z.2.1, z.2.2⟩, ob, es, ep, k _ _ (.inl rfl) e, c⟩
  | set S n => obtain ⟨ob, es, ep, t, e, c⟩ := x; exact ⟨ob, es, ep, t, k _ _ (.inl rfl) e, c⟩
  | ins C dx fs =>
    obtain ⟨d, z, ne, e, mA, ⟨od, es, ep, e2, c⟩, r⟩ := x
    exact ⟨ho _ d, z, ne, k _ _ (.inl rfl) e, mA, ⟨od, es, ep, k _ _ (.inr d) e2, c⟩, r⟩
  | own y => obtain ⟨ob, e⟩ := x; exact ⟨ob, k _ _ (.inl rfl) e⟩
  | xd fs => obtain ⟨mA, ⟨od, es, ep, e, c⟩, r⟩ := x; exact ⟨mA, ⟨od, es, ep, k _ _ (.inl rfl) e, c⟩, r⟩
  | rng lo hi => obtain ⟨t, u, v, e⟩ := x; exact ⟨t, u, v, k _ _ (.inl rfl) e⟩
  | frz ob u ih => obtain ⟨e, q⟩ := x; exact ⟨k _ _ (.inl rfl) e, ih q⟩
  | tbl ps =>
    have e : h.get? a = some { cls := .none, data := .fields ps } := x
    show h'.get? a = some { cls := .none, data := .fields ps }
    exact k a _ (.inl rfl) e
  | met f y =>
    have e : h.get? a = some (PySem.W.methodObj (.ref f) (.ref y)) := x
    show h'.get? a = some (PySem.W.methodObj (.ref f) (.ref y))
    exact k a _ (.inl rfl) e
  | ext φ => obtain ⟨p, ⟨o, e⟩, st⟩ := x; exact ⟨st _ _ p fun o q => k _ _ (.inl rfl) q, ⟨o, k _ _ (.inl rfl) e⟩, st⟩
theorem HOk.lt (x : HOk P w H h) (e : H a = some o) : a < h.objs.size := (x a o e).lt
theorem HOk.fresh (x : HOk P w H h) (e : h.objs.size ≤ a) : H a = none := by
  cases q : H a with
  | none => rfl
  | some u => exact absurd (Nat.lt_of_lt_of_le (x.lt q) e) (Nat.lt_irrefl _)
theorem HOk.kept (x : HOk P w H h) (k : ∀ b u, h.get? b = some u → h'.get? b = some u) : HOk P w H h' := fun a o e =>
  (x a o e).stay (fun b u _ q => k b u q) (fun _ q => q) fun _ _ q => q
theorem HOk.laid (x : HOk P w H h) (k : ∀ b u, h.get? b = some u → h'.get? b = some u) (hp : h.objs.size ≤ a) (new : ObjOk P w (upd H a o) h' a o) : HOk P w (upd H a o) h' := fun b u e => by
  have hn := x.fresh hp
  by_cases hb : b = a
  · subst hb; rw [upd_same] at e; cases e; exact new
  · rw [upd_ne hb] at e
    exact (x b u e).stay (fun c v _ q => k c v q) (fun c q => by rw [upd_ne (ne_of_none q hn)]; exact q) fun c xs q => by rw [upd_ne (ne_of_none q hn)]; exact q
end
def Rd (H : Hp) (a : Addr) (u : HO) : Prop := H a = some u ∨ ∃ o, H a = some (.frz o u)
theorem Rd.ok {P : Program} {w : World} {H : Hp} {h : Heap} {a : Addr} {u : HO} (r : Rd H a u) (x : HOk P w H h) : ObjOk P w H h a u := by
  rcases r with r | ⟨o, r⟩
  · exact x a u r
  · obtain ⟨_, q⟩ := x a _ r
    exact q
def Mut : Option HO → Prop
  | some (.lst _) => True
  | some (.dK _) => True
  | some (.dT _) => True
  | some (.set _ _) => True
  | some (.ins _ _ _) => True
  | some (.ext _) => True
  | _ => False
section
variable {P : Program} {w : World} {H : Hp} {h h' : Heap} {x e : Addr} {o' : HO}
theorem HOk.write (ok : HOk P w H h) (mu : Mut (H x)) (he : e = x ∨ H e = some (.own x)) (k : ∀ b u, b ≠ e → h.get? b = some u → h'.get? b = some u) (heo : ∃ u, h'.get? e = some u)
    (new : ObjOk P w (upd H x o') h' x o') : HOk P w (upd H x o') h' := fun b u q => by
  have nown : ∀ c y, H c = some (.own y) → c ≠ x := fun c y r z => by subst z; rw [r] at mu; exact mu
  have ntup : ∀ c xs, H c = some (.tup xs) → c ≠ x := fun c xs r z => by subst z; rw [r] at mu; exact mu
  by_cases hb : b = x
  · subst hb; rw [upd_same] at q; cases q; exact new
  · rw [upd_ne hb] at q
    by_cases hbe : b = e
    · have q' : H b = some (.own x) := by
        rcases he with z | z
        · exact absurd (hbe.trans z) hb
        · rw [hbe]; exact z
      rw [q] at q'; cases q'
      obtain ⟨v, hv⟩ := heo
      exact ⟨v, by rw [hbe]; exact hv⟩
    · refine (ok b u q).stay (fun c v hc r => k c v ?_ r) (fun c r => by rw [upd_ne (nown c b r)]; exact r) fun c xs r => by rw [upd_ne (ntup c xs r)]; exact r
      rcases hc with rfl | hc
      · exact hbe
      · rintro rfl
        rcases he with z | z
        · exact nown c b hc z
        · rw [hc] at z; cases z; exact hb rfl
end
structure Un (fs ex : List Addr) (H H' : Hp) (h h' : Heap) : Prop where
  keep : ∀ b o, h.get? b = some o → H b = none → b ∉ fs → b ∉ ex → h'.get? b = some o
  slot : ∀ b o, h.get? b = some o → H b = none → b ∈ fs → b ∉ ex → ∃ sl, h'.get? b = some { o with slots := sl }
  free : ∀ b o, h.get? b = some o → H b = none → b ∉ ex → H' b = none
  there : ∀ b o, h.get? b = some o → b ∉ ex → ∃ o', h'.get? b = some o'
  tups : ∀ b xs, H b = some (.tup xs) → H' b = some (.tup xs)
  frzs : ∀ b o u, H b = some (.frz o u) → H' b = some (.frz o u)
  tbls : ∀ b ps, H b = some (.tbl ps) → ∃ more, H' b = some (.tbl (ps ++ more))
section
variable {fs fs' ex ex' : List Addr} {H H1 H2 : Hp} {h h1 h2 h' : Heap} {a x e : Addr} {o : HO}
theorem Un.any (u : Un fs ex H H1 h h1) {b : Addr} {ob : Obj} (q : h.get? b = some ob) (n : H b = none) (hx : b ∉ ex) : ∃ sl, h1.get? b = some { ob with slots := sl } := by
  by_cases hb : b ∈ fs
  · exact u.slot b ob q n hb hx
  · exact ⟨ob.slots, u.keep b ob q n hb hx⟩
theorem Un.kept (k : ∀ b u, h.get? b = some u → h'.get? b = some u) : Un fs ex H H h h' :=
  ⟨fun b ob q _ _ _ => k b ob q, fun b ob q _ _ _ => ⟨ob.slots, k b ob q⟩, fun _ _ _ n _ => n, fun b ob q _ => ⟨ob, k b ob q⟩, fun _ _ q => q, fun _ _ _ q => q, fun _ ps q => ⟨#[], by rw [q]; simp⟩⟩
theorem Un.refl : Un fs ex H H h h := Un.kept fun _ _ q => q
theorem Un.laid (k : ∀ b u, h.get? b = some u → h'.get? b = some u) (hp : h.objs.size ≤ a) (hn : H a = none) : Un fs ex H (upd H a o) h h' where
  keep := fun b u q _ _ _ => k b u q
  slot := fun b u q _ _ _ => ⟨u.slots, k b u q⟩
  free := fun b u q n _ => by rw [upd_ne (Nat.ne_of_lt (Nat.lt_of_lt_of_le (Heap.lt_size q) hp))]; exact n
  there := fun b u q _ => ⟨u, k b u q⟩
  tups := fun b xs q => by rw [upd_ne (ne_of_none q hn)]; exact q
  frzs := fun b u xs q => by rw [upd_ne (ne_of_none q hn)]; exact q
  tbls := fun b ps q => ⟨#[], by rw [upd_ne (ne_of_none q hn), q]; simp⟩
theorem Un.write (mu : Mut (H x)) (he : e = x ∨ H e = some (.own x)) (k : ∀ b u, b ≠ e → h.get? b = some u → h'.get? b = some u) (heo : ∃ u, h'.get? e = some u) : Un fs ex H (upd H x o) h h' := by
  have hx : ∀ b, H b = none → b ≠ x := fun b n z => by subst z; rw [n] at mu; exact mu
  have hb : ∀ b, H b = none → b ≠ e := fun b n z => by
    subst z
    rcases he with r | r
    · exact hx b n r
    · rw [n] at r; cases r
  have hm : ∀ b u, H b = some u → ¬ Mut (some u) → b ≠ x := fun b u q nm z => by subst z; rw [q] at mu; exact nm mu
  refine ⟨fun b u q n _ _ => k b u (hb b n) q, fun b u q n _ _ => ⟨u.slots, k b u (hb b n) q⟩, fun b u q n _ => by rw [upd_ne (hx b n)]; exact n, fun b u q _ => ?_,
    fun b xs q => by rw [upd_ne (hm b _ q fun z => z)]; exact q, fun b u xs q => by rw [upd_ne (hm b _ q fun z => z)]; exact q, fun b ps q => ⟨#[], by rw [upd_ne (hm b _ q fun z => z), q]; simp⟩⟩
  by_cases hbe : b = e
  · subst hbe; exact heo
  · exact ⟨u, k b u hbe q⟩
end
def trk (h : Heap) (H : Hp) : List Addr := (List.range h.objs.size).filter fun a => (H a).isSome
def hidT (h : Heap) (H : Hp) : Heap := PySem.W.hideAll h (trk h H)
theorem hidT_size (h : Heap) (H : Hp) : (hidT h H).objs.size = h.objs.size := PySem.W.hideAll_size _ _
theorem hidT_get {h : Heap} {H : Hp} {b : Addr} {o : Obj} (e : h.get? b = some o) (n : H b = none) : (hidT h H).get? b = some o :=
  PySem.W.hideAll_get _ e fun hm => by
    have q : (H b).isSome = true := (List.mem_filter.mp hm).2
    rw [n] at q; simp at q
theorem of_hidT {h : Heap} {H : Hp} {b : Addr} {o : Obj} (e : (hidT h H).get? b = some o) : h.get? b = some o ∧ H b = none := by
  have e' : h.get? b = some o := PySem.W.of_hideAll (trk h H) e
  refine ⟨e', ?_⟩
  cases q : H b with
  | none => rfl
  | some x =>
    have hm : b ∈ trk h H := List.mem_filter.mpr ⟨List.mem_range.mpr (Heap.lt_size e'), by simp [q]⟩
    have z : (hidT h H).get? b = none := PySem.W.hideAll_none (trk h H) hm
    rw [z] at e; cases e
end L2
namespace L2
open PySem PySem.Spec PyProof.Rows
structure Mod (K : PySem.W.Frag) (mg : Str → Option Value) (base : Heap) : Prop where
  kin : K.In base
  glob : base.Ns mainGlobals mg
  blt : ∃ mb, base.Ns builtinsNs mb ∧ ∀ x : Str, x ≠ "__name__" → mb x = bootBuiltins x
  nolimit : base.NoLimit
structure Cx where
  prog : Program
  w : World
  K : PySem.W.Frag
  mg : Str → Option Value
  base : Heap
  A : Around
  N : List Str
  s₀ : Shared
  H₀ : Hp
  env : Env
  outer : List Env
  stack : List Env
  ex : List Addr
  fn : Str → Bool
  calm : Bool
  pn : List (Addr × Obj)
  xe : Value → Shared → Prop
def frs (l : List Env) : List Addr := l.filterMap (·.frame)
abbrev Cx.fs (X : Cx) : List Addr := frs X.outer
def Vis (sc : Scope) (x : Str) : Prop := sc.names.lookup x = some .local ∨ sc.names.lookup x = some .cell ∨ sc.names.lookup x = some .free
def Loc (sc : Scope) (x : Str) : Prop := sc.names.lookup x = some .local ∨ sc.names.lookup x = some .cell
def Look (env : Env) (h : Heap) (m : Str → Option Value) (x : Str) (u : Value) : Prop :=
  (env.kindOf x = some .local ∧ m x = some u) ∨ ((env.kindOf x = some .cell ∨ env.kindOf x = some .free) ∧ ∃ c, env.cells.lookup x = some c ∧ h.IsCell c (some u))
structure Cx.Ok (X : Cx) : Prop where
  mod : Mod X.K X.mg X.base
  kind : X.env.scope.kind = .function
  glob : X.env.globals = mainGlobals
  blt : X.env.builtins = builtinsNs
  above : X.s₀.heap.objs.size ≤ X.env.locals
  inj : ∀ x y c, X.env.cells.lookup x = some c → X.env.cells.lookup y = some c → x = y
  has : ∀ x, (X.env.kindOf x = some .cell ∨ X.env.kindOf x = some .free) → ∃ c, X.env.cells.lookup x = some c
  cab : ∀ x c, X.fn x = true → X.env.cells.lookup x = some c → X.s₀.heap.objs.size ≤ c
  hd : X.calm = true → X.A.handled = none
  frames : X.A.frames = some X.stack
  stk : X.stack = X.outer ∨ (X.stack = X.env :: X.outer ∧ X.env.frame = some X.env.locals)
  exf : ∀ b ∈ X.ex, b ≠ X.env.locals ∧ ∀ x c, X.env.cells.lookup x = some c → c ≠ b
  bs : ∀ b o, X.base.get? b = some o → X.s₀.heap.get? b = some o ∧ X.H₀ b = none
  bsz : X.base.objs.size ≤ X.s₀.heap.objs.size
  noex : ∀ b o, X.base.get? b = some o → b ∉ X.ex
  exfs : ∀ b ∈ X.ex, b ∉ X.fs
  funs : X.s₀.heap.FunFrames X.base X.outer
  frf : ∀ b ∈ X.fs, X.H₀ b = none
structure Inv (X : Cx) (pins : List (Addr × Obj)) (σ : List (Option V)) (H : Hp) (s : Shared) : Prop where
  ok : X.Ok
  os : s.os = X.s₀.os
  bare : AllBare s.gens
  base : Un X.fs X.ex X.H₀ H X.s₀.heap s.heap
  loc : ∃ m, s.heap.Ns X.env.locals m ∧ ∀ (i : Nat) (x : Str) (v : V), X.N[i]? = some x → σ[i]? = some (some v) → Vis X.env.scope x → ∃ u, RelV v u ∧ Look X.env s.heap m x u
  cell : ∀ x c, X.env.cells.lookup x = some c → ∃ v, s.heap.IsCell c v
  free : H X.env.locals = none
  freeC : ∀ x c, X.env.cells.lookup x = some c → H c = none
  pin : ∀ p ∈ X.pn ++ pins, s.heap.get? p.1 = some p.2 ∧ H p.1 = none ∧ p.1 ≠ X.env.locals ∧ p.1 ∉ X.fs ∧ ∀ v, p.2.data ≠ .cell v
  hok : HOk X.prog X.w H s.heap
  len : σ.length = X.N.length
section
variable {X : Cx} {pins : List (Addr × Obj)} {σ : List (Option V)} {H H' : Hp} {s : Shared} {h' : Heap}
theorem Cx.Ok.nofr (ok : X.Ok) {b : Addr} {o : Obj} (e : X.base.get? b = some o) : b ∉ X.fs := fun hb => by
  have := (ok.funs.mem hb).1
  rw [e] at this; cases this
theorem Inv.bs (I : Inv X pins σ H s) : ∀ b o, X.base.get? b = some o → s.heap.get? b = some o ∧ H b = none := fun b o e =>
  ⟨I.base.keep b o (I.ok.bs b o e).1 (I.ok.bs b o e).2 (I.ok.nofr e) (I.ok.noex b o e), I.base.free b o (I.ok.bs b o e).1 (I.ok.bs b o e).2 (I.ok.noex b o e)⟩
theorem Inv.bk (I : Inv X pins σ H s) : ∀ b o, X.base.get? b = some o → s.heap.get? b = some o := fun b o e => (I.bs b o e).1
theorem Inv.mod (I : Inv X pins σ H s) : Mod X.K X.mg X.base := I.ok.mod
theorem Inv.kIn (I : Inv X pins σ H s) : X.K.In s.heap := I.ok.mod.kin.keeps I.bk
theorem Inv.lt (I : Inv X pins σ H s) : X.env.locals < s.heap.objs.size := let ⟨_, hn, _⟩ := I.loc; hn.lt
theorem Inv.sz (I : Inv X pins σ H s) : X.s₀.heap.objs.size ≤ s.heap.objs.size := Nat.le_trans I.ok.above (Nat.le_of_lt I.lt)
theorem Inv.nofs (I : Inv X pins σ H s) {a : Addr} (h : s.heap.objs.size ≤ a) : a ∉ X.fs := fun hb => by
  obtain ⟨_, o, ho, _⟩ := I.ok.funs.mem hb
  exact absurd (Nat.lt_of_lt_of_le (Heap.lt_size ho) (Nat.le_trans I.sz h)) (Nat.lt_irrefl _)
theorem Inv.cne (I : Inv X pins σ H s) : ∀ x c, X.env.cells.lookup x = some c → c ≠ X.env.locals := fun x c e z => by
  obtain ⟨v, o, ho, hd⟩ := I.cell x c e
  obtain ⟨m, ⟨o', es, ep, ho', hd', _⟩, _⟩ := I.loc
  rw [z, ho'] at ho; cases ho; rw [hd'] at hd; cases hd
theorem Inv.funs (I : Inv X pins σ H s) : s.heap.FunFrames X.base X.outer := by
  have all : ∀ (l : List Env), (∀ b ∈ frs l, b ∈ X.fs) → X.s₀.heap.FunFrames X.base l → s.heap.FunFrames X.base l := by
    intro l
    induction l with
    | nil => intro _ _; trivial
    | cons env r ih =>
      intro hs hl
      obtain ⟨hk, ⟨L, o, hf, hn, ho, hd⟩, hr⟩ := hl
      have hL : L ∈ X.fs := hs L (by unfold frs; rw [List.filterMap_cons, hf]; exact List.mem_cons_self)
      obtain ⟨sl, e⟩ := I.base.slot L o ho (I.ok.frf L hL) hL fun z => I.ok.exfs L z hL
      exact ⟨hk, ⟨L, _, hf, hn, e, hd⟩, ih (fun b hb => hs b (by unfold frs; rw [List.filterMap_cons, hf]; exact List.mem_cons_of_mem _ hb)) hr⟩
  exact all X.outer (fun _ hb => hb) I.ok.funs
theorem Inv.stack (I : Inv X pins σ H s) : s.heap.FunFrames X.base X.stack := by
  rcases I.ok.stk with e | ⟨e, hf⟩
  · rw [e]; exact I.funs
  · rw [e]
    obtain ⟨m, hn, _⟩ := I.loc
    refine .cons (by rw [I.ok.kind]; decide) hf hn ?_ I.funs
    exact Heap.get?_none_of_le (Nat.le_trans I.ok.bsz I.ok.above)
theorem Inv.stkSub (I : Inv X pins σ H s) : ∀ b ∈ frs X.stack, b ∈ X.env.locals :: X.fs := fun b hb => by
  rcases I.ok.stk with e | ⟨e, hf⟩
  · rw [e] at hb; exact List.mem_cons_of_mem _ hb
  · rw [e] at hb
    unfold frs at hb
    rw [List.filterMap_cons, hf] at hb
    exact hb
theorem Inv.stkFree (I : Inv X pins σ H s) : ∀ b ∈ frs X.stack, H b = none := fun b hb => by
  rcases List.mem_cons.mp (I.stkSub b hb) with e | hb
  · rw [e]; exact I.free
  · obtain ⟨_, o, ho, _⟩ := I.ok.funs.mem hb
    exact I.base.free b o ho (I.ok.frf b hb) fun z => I.ok.exfs b z hb
theorem Inv.step {g' : Array GenState} {t' : Nat} {d' : Drawn} {ch : List Addr} (I : Inv X pins σ H s)
    (hch : ∀ b ∈ ch, (b ∈ X.ex ∨ X.s₀.heap.objs.size ≤ b) ∧ b ≠ X.env.locals ∧ (∀ x c, X.env.cells.lookup x = some c → c ≠ b) ∧ ∀ p ∈ X.pn ++ pins, p.1 ≠ b)
    (keep : ∀ b o, b ≠ X.env.locals → b ∉ X.fs → b ∉ ch → s.heap.get? b = some o → H b = none → h'.get? b = some o)
    (slot : ∀ b o, b ≠ X.env.locals → b ∈ X.fs → b ∉ ch → s.heap.get? b = some o → H b = none → ∃ sl, h'.get? b = some { o with slots := sl }) (free : ∀ b o, b ∉ ch → s.heap.get? b = some o → H b = none → H' b = none)
    (there : ∀ b o, b ∉ ch → s.heap.get? b = some o → ∃ o', h'.get? b = some o')
    (tups : ∀ b xs, H b = some (.tup xs) → H' b = some (.tup xs)) (frzs : ∀ b o u, H b = some (.frz o u) → H' b = some (.frz o u)) (tbls : ∀ b ps, H b = some (.tbl ps) → ∃ more, H' b = some (.tbl (ps ++ more)))
    (ns : ∀ m, s.heap.Ns X.env.locals m → h'.Ns X.env.locals m) (hok : HOk X.prog X.w H' h') (hg : AllBare g') :
    Inv X pins σ H' { s with heap := h', gens := g', drawn := d', toks := t' } := by
  have neL : ∀ b o, X.s₀.heap.get? b = some o → b ≠ X.env.locals := fun b o e => Nat.ne_of_lt (Nat.lt_of_lt_of_le (Heap.lt_size e) I.ok.above)
  have neC : ∀ b o, X.s₀.heap.get? b = some o → b ∉ X.ex → b ∉ ch := fun b o e hx hb => by
    rcases (hch b hb).1 with z | z
    · exact hx z
    · exact absurd (Nat.lt_of_lt_of_le (Heap.lt_size e) z) (Nat.lt_irrefl _)
  have cellK : ∀ x c, X.env.cells.lookup x = some c → ∀ v, s.heap.IsCell c v → h'.IsCell c v := fun x c e v ⟨o, ho, hd⟩ => by
    have nch : c ∉ ch := fun z => (hch c z).2.2.1 x c e rfl
    by_cases hc : c ∈ X.fs
    · obtain ⟨sl, q⟩ := slot c o (I.cne x c e) hc nch ho (I.freeC x c e)
      exact ⟨_, q, hd⟩
    · exact ⟨o, keep c o (I.cne x c e) hc nch ho (I.freeC x c e), hd⟩
  refine ⟨I.ok, I.os, hg, ⟨fun b o e n hb hx => ?_, fun b o e n hb hx => ?_, fun b o e n hx => ?_, fun b o e hx => ?_, fun b xs e => tups b xs (I.base.tups b xs e), fun b o xs e => frzs b o xs (I.base.frzs b o xs e), fun b ps e => ?_⟩, ?_, fun x c e => ?_, ?_, fun x c e => ?_, fun p hp => ?_, hok, I.len⟩
  · exact keep b o (neL b o e) hb (neC b o e hx) (I.base.keep b o e n hb hx) (I.base.free b o e n hx)
  · obtain ⟨sl, e1⟩ := I.base.slot b o e n hb hx
    obtain ⟨sl', e2⟩ := slot b _ (neL b o e) hb (neC b o e hx) e1 (I.base.free b o e n hx)
    exact ⟨sl', e2⟩
  · obtain ⟨o', e1⟩ := I.base.there b o e hx
    exact free b o' (neC b o e hx) e1 (I.base.free b o e n hx)
  · obtain ⟨o', e1⟩ := I.base.there b o e hx
    exact there b o' (neC b o e hx) e1
  · obtain ⟨m1, e1⟩ := I.base.tbls b ps e
    obtain ⟨m2, e2⟩ := tbls b _ e1
    exact ⟨m1 ++ m2, by rw [e2, Array.append_assoc]⟩
  · obtain ⟨m, hn, hl⟩ := I.loc
    refine ⟨m, ns m hn, fun i x v e1 e2 e3 => ?_⟩
    obtain ⟨u, r, l⟩ := hl i x v e1 e2 e3
    refine ⟨u, r, ?_⟩
    rcases l with l | ⟨k, c, e, z⟩
    · exact .inl l
    · exact .inr ⟨k, c, e, cellK x c e _ z⟩
  · obtain ⟨v, z⟩ := I.cell x c e
    exact ⟨v, cellK x c e v z⟩
  · obtain ⟨m, ⟨o, _, _, ho, _⟩, _⟩ := I.loc
    exact free _ o (fun z => (hch _ z).2.1 rfl) ho I.free
  · obtain ⟨v, o, ho, hd⟩ := I.cell x c e
    exact free c o (fun z => (hch c z).2.2.1 x c e rfl) ho (I.freeC x c e)
  · obtain ⟨e, n, ne, nf, d⟩ := I.pin p hp
    have nch : p.1 ∉ ch := fun z => (hch p.1 z).2.2.2 p hp rfl
    exact ⟨keep p.1 p.2 ne nf nch e n, free p.1 p.2 nch e n, ne, nf, d⟩
theorem Inv.un {t' : Nat} (I : Inv X pins σ H s) (u : Un X.fs [] H H' s.heap h') (hok : HOk X.prog X.w H' h') : Inv X pins σ H' { s with heap := h', toks := t' } := by
  obtain ⟨m, ⟨o, es, ep, ho, r⟩, _⟩ := id I.loc
  obtain ⟨sl, hL⟩ := u.any ho I.free (by simp)
  exact I.step (g' := s.gens) (d' := s.drawn) (ch := []) (fun _ z => nomatch z) (fun b o _ hb _ e n => u.keep b o e n hb (by simp)) (fun b o _ hb _ e n => u.slot b o e n hb (by simp)) (fun b o _ e n => u.free b o e n (by simp)) (fun b o _ e => u.there b o e (by simp)) u.tups u.frzs u.tbls (fun m' hm => by
    obtain ⟨o', es', ep', ho', r'⟩ := hm
    rw [ho] at ho'; cases ho'
    exact ⟨_, es', ep', hL, r'⟩) hok I.bare
theorem Inv.call {g' : Array GenState} {t' : Nat} {d' : Drawn} {ch : List Addr} (I : Inv X pins σ H s) (u : Un (frs X.stack) ch H H' s.heap h') (hok : HOk X.prog X.w H' h') (hg : AllBare g')
    (hch : ∀ b ∈ ch, (b ∈ X.ex ∨ X.s₀.heap.objs.size ≤ b) ∧ b ≠ X.env.locals ∧ (∀ x c, X.env.cells.lookup x = some c → c ≠ b) ∧ ∀ p ∈ X.pn ++ pins, p.1 ≠ b) :
    Inv X pins σ H' { s with heap := h', gens := g', drawn := d', toks := t' } := by
  obtain ⟨m, ⟨o, es, ep, ho, r⟩, _⟩ := id I.loc
  obtain ⟨sl, hL⟩ := u.any ho I.free fun z => (hch _ z).2.1 rfl
  exact I.step (ch := ch) hch (fun b o hL hb hc e n => u.keep b o e n (fun z => (List.mem_cons.mp (I.stkSub b z)).elim hL hb) hc) (fun b o _ _ hc e n => u.any e n hc) (fun b o hc e n => u.free b o e n hc) (fun b o hc e => u.there b o e hc) u.tups u.frzs u.tbls (fun m' hm => by
    obtain ⟨o', es', ep', ho', r'⟩ := hm
    rw [ho] at ho'; cases ho'
    exact ⟨_, es', ep', hL, r'⟩) hok hg
theorem Inv.turned {t' : Nat} {it : Addr} (I : Inv X pins σ H s) (k : ∀ b o, b ≠ it → s.heap.get? b = some o → h'.get? b = some o) (hn : H it = none) (hL : it ≠ X.env.locals)
    (h1 : it ∈ X.ex ∨ X.s₀.heap.objs.size ≤ it) (h2 : ∀ x c, X.env.cells.lookup x = some c → c ≠ it) (h3 : ∀ p ∈ X.pn ++ pins, p.1 ≠ it) : Inv X pins σ H { s with heap := h', toks := t' } := by
  have nit : ∀ b u, H b = some u → b ≠ it := fun b u e z => by rw [z, hn] at e; cases e
  refine I.step (g' := s.gens) (d' := s.drawn) (ch := [it]) (fun b hb => ?_) (fun b o _ _ hc e _ => k b o (fun z => hc (by simp [z])) e) (fun b o _ _ hc e _ => ⟨o.slots, k b o (fun z => hc (by simp [z])) e⟩) (fun _ _ _ _ n => n)
    (fun b o hc e => ⟨o, k b o (fun z => hc (by simp [z])) e⟩) (fun _ _ e => e) (fun _ _ _ e => e) (fun b ps e => ⟨#[], by rw [e]; simp⟩) (fun m hm => ?_) (fun b u e => ?_) I.bare
  · have e : b = it := by simpa using hb
    subst e
    exact ⟨h1, hL, h2, h3⟩
  · obtain ⟨o, es, ep, ho, r⟩ := hm
    exact ⟨o, es, ep, k _ o (Ne.symm hL) ho, r⟩
  · refine (I.hok b u e).stay (fun c v hc q => k c v ?_ q) (fun _ q => q) fun _ _ q => q
    rcases hc with z | z
    · rw [z]; exact nit b u e
    · exact nit c _ z
theorem Inv.tok (I : Inv X pins σ H s) (t : Nat) : Inv X pins σ H { s with toks := t } := I.un (h' := s.heap) (t' := t) Un.refl I.hok
theorem Inv.kept {t' : Nat} (I : Inv X pins σ H s) (k : ∀ b u, s.heap.get? b = some u → h'.get? b = some u) : Inv X pins σ H { s with heap := h', toks := t' } := I.un (Un.kept k) (I.hok.kept k)
theorem Inv.laid {a : Addr} {o : HO} {t' : Nat} (I : Inv X pins σ H s) (k : ∀ b u, s.heap.get? b = some u → h'.get? b = some u) (hp : s.heap.objs.size ≤ a) (new : ObjOk X.prog X.w (upd H a o) h' a o) :
    Inv X pins σ (upd H a o) { s with heap := h', toks := t' } := I.un (Un.laid k hp (I.hok.fresh hp)) (I.hok.laid k hp new)
theorem Inv.write {x e : Addr} {o : HO} {t' : Nat} (I : Inv X pins σ H s) (mu : Mut (H x)) (he : e = x ∨ H e = some (.own x)) (k : ∀ b u, b ≠ e → s.heap.get? b = some u → h'.get? b = some u) (heo : ∃ u, h'.get? e = some u)
    (new : ObjOk X.prog X.w (upd H x o) h' x o) : Inv X pins σ (upd H x o) { s with heap := h', toks := t' } := I.un (Un.write mu he k heo) (I.hok.write mu he k heo new)
theorem Inv.pins_of {pins' : List (Addr × Obj)} (I : Inv X pins σ H s) (h : ∀ p ∈ pins', s.heap.get? p.1 = some p.2 ∧ H p.1 = none ∧ p.1 ≠ X.env.locals ∧ p.1 ∉ X.fs ∧ ∀ v, p.2.data ≠ .cell v) : Inv X pins' σ H s :=
  ⟨I.ok, I.os, I.bare, I.base, I.loc, I.cell, I.free, I.freeC, fun p hp => (List.mem_append.mp hp).elim (fun z => I.pin p (List.mem_append_left _ z)) (h p), I.hok, I.len⟩
theorem nodup_ix {N : List Str} (hN : N.Nodup) {i j : Nat} {x : Str} (a : N[i]? = some x) (b : N[j]? = some x) : i = j := by
  obtain ⟨h1, e1⟩ := List.getElem?_eq_some_iff.mp a
  obtain ⟨h2, e2⟩ := List.getElem?_eq_some_iff.mp b
  exact (List.getElem_inj hN).mp (e1.trans e2.symm)
theorem store_ok2 {M : Model} {A : Around} {E : Value → Shared → Prop} {i : Nat} {x : Str} {v : V} {u : Value} {Q : Unit → Shared → Prop} (I : Inv X pins σ H s) (hN : X.N.Nodup) (hi : X.N[i]? = some x) (hx : Loc X.env.scope x) (r : RelV v u)
    (h : ∀ s', Inv X pins (σ.set i (some v)) H s' → (∃ a, Heap.SameBut a s.heap s'.heap ∧ (a = X.env.locals ∨ X.env.cells.lookup x = some a)) → Q () s') (hf : X.fn x = true ∨ X.env.scope.names.lookup x = some .local := by first | exact .inl rfl | exact .inr rfl | assumption) : wpAny M A (storeName X.env x u) Q E s := by
  obtain ⟨m, hn, hl⟩ := id I.loc
  have hcls : (X.env.scope.kind == .class || (X.env.scope.kind == .module && X.env.locals != X.env.globals)) = false := by rw [I.ok.kind]; rfl
  have hiσ : i < σ.length := by rw [I.len]; exact (List.getElem?_eq_some_iff.mp hi).1
  have cne := I.cne
  have tracked : ∀ {a : Addr} {h' : Heap}, (∃ o, s.heap.get? a = some o ∧ H a = none) → Heap.SameBut a s.heap h' → HOk X.prog X.w H h' := fun {a h'} ha hs b ob e => by
    obtain ⟨_, _, hfree⟩ := ha
    refine (I.hok b ob e).stay (fun c w' hc q => (hs.2 c ?_).trans q) (fun _ q => q) fun _ _ q => q
    rintro rfl
    rcases hc with rfl | hc
    · rw [hfree] at e; cases e
    · rw [hfree] at hc; cases hc
  rcases hx with hk | hk
  · refine wpAny_storeName_local hk hn (fun h' hn' hs => ?_) hcls
    obtain ⟨oL, _, _, hoL, _⟩ := id hn
    refine h _ ⟨I.ok, I.os, I.bare, ⟨fun b o e n hb hx => ?_, fun b o e n hb hx => ?_, I.base.free, fun b o e hx => ?_, I.base.tups, I.base.frzs, I.base.tbls⟩, ⟨_, hn', fun j y v' e1 e2 e3 => ?_⟩, fun y c e => ?_, I.free, I.freeC, fun p hp => ?_, tracked ⟨oL, hoL, I.free⟩ hs, by simpa using I.len⟩ ⟨_, hs, .inl rfl⟩
    · exact (hs.2 b (Nat.ne_of_lt (Nat.lt_of_lt_of_le (Heap.lt_size e) I.ok.above))).trans (I.base.keep b o e n hb hx)
    · obtain ⟨sl, e1⟩ := I.base.slot b o e n hb hx
      exact ⟨sl, (hs.2 b (Nat.ne_of_lt (Nat.lt_of_lt_of_le (Heap.lt_size e) I.ok.above))).trans e1⟩
    · obtain ⟨o', e1⟩ := I.base.there b o e hx
      exact ⟨o', (hs.2 b (Nat.ne_of_lt (Nat.lt_of_lt_of_le (Heap.lt_size e) I.ok.above))).trans e1⟩
    · by_cases hj : j = i
      · subst hj
        rw [hi] at e1; cases e1
        rw [List.getElem?_set_self hiσ] at e2
        cases e2
        exact ⟨u, r, .inl ⟨hk, by simp⟩⟩
      · rw [List.getElem?_set_ne (Ne.symm hj)] at e2
        obtain ⟨u', r', q⟩ := hl j y v' e1 e2 e3
        refine ⟨u', r', ?_⟩
        rcases q with ⟨k, e⟩ | ⟨k, c, e, z⟩
        · refine .inl ⟨k, ?_⟩
          have : y ≠ x := fun e => hj (nodup_ix hN e1 (e ▸ hi))
          simp [this, e]
        · exact .inr ⟨k, c, e, z.sameBut hs (cne y c e)⟩
    · obtain ⟨w', z⟩ := I.cell y c e
      exact ⟨w', z.sameBut hs (cne y c e)⟩
    · obtain ⟨e, n, ne, nf, d⟩ := I.pin p hp
      exact ⟨(hs.2 p.1 ne).trans e, n, ne, nf, d⟩
  · have hfn : X.fn x = true := by
      rcases hf with z | z
      · exact z
      · rw [z] at hk; cases hk
    obtain ⟨c, hc⟩ := I.ok.has x (.inl hk)
    obtain ⟨w', z⟩ := I.cell x c hc
    refine wpAny_storeName_cell I.ok.kind hk hc z (fun h' hc' hs => ?_)
    obtain ⟨oc, hoc, hocd⟩ := id z
    refine h { s with heap := h' } ⟨I.ok, I.os, I.bare, ⟨fun b o e n hb hx => ?_, fun b o e n hb hx => ?_, I.base.free, fun b o e hx => ?_, I.base.tups, I.base.frzs, I.base.tbls⟩, ⟨m, hn.sameBut hs (Ne.symm (cne x c hc)), fun j y v' e1 e2 e3 => ?_⟩, fun y c' e => ?_, I.free, I.freeC, fun p hp => ?_, tracked ⟨oc, hoc, I.freeC x c hc⟩ hs, by simpa using I.len⟩ ⟨c, hs, .inr hc⟩
    · exact (hs.2 b (Nat.ne_of_lt (Nat.lt_of_lt_of_le (Heap.lt_size e) (I.ok.cab x c hfn hc)))).trans (I.base.keep b o e n hb hx)
    · obtain ⟨sl, e1⟩ := I.base.slot b o e n hb hx
      exact ⟨sl, (hs.2 b (Nat.ne_of_lt (Nat.lt_of_lt_of_le (Heap.lt_size e) (I.ok.cab x c hfn hc)))).trans e1⟩
    · obtain ⟨o', e1⟩ := I.base.there b o e hx
      exact ⟨o', (hs.2 b (Nat.ne_of_lt (Nat.lt_of_lt_of_le (Heap.lt_size e) (I.ok.cab x c hfn hc)))).trans e1⟩
    · by_cases hj : j = i
      · subst hj
        rw [hi] at e1; cases e1
        rw [List.getElem?_set_self hiσ] at e2
        cases e2
        exact ⟨u, r, .inr ⟨.inl hk, c, hc, hc'⟩⟩
      · rw [List.getElem?_set_ne (Ne.symm hj)] at e2
        obtain ⟨u', r', q⟩ := hl j y v' e1 e2 e3
        refine ⟨u', r', ?_⟩
        rcases q with q | ⟨k, c', e, z'⟩
        · exact .inl q
        · refine .inr ⟨k, c', e, z'.sameBut hs ?_⟩
          rintro rfl
          exact hj (nodup_ix hN e1 (I.ok.inj _ _ _ e hc ▸ hi))
    · by_cases hcc : c' = c
      · subst hcc; exact ⟨_, hc'⟩
      · obtain ⟨w2, z2⟩ := I.cell y c' e
        exact ⟨w2, z2.sameBut hs hcc⟩
    · obtain ⟨e, n, ne, nf, d⟩ := I.pin p hp
      refine ⟨(hs.2 p.1 ?_).trans e, n, ne, nf, d⟩
      intro q
      rw [q, hoc] at e
      have q' : oc = p.2 := Option.some.inj e
      exact d w' (by rw [← q']; exact hocd)
theorem store_ok {M : Model} {A : Around} {E : Value → Shared → Prop} {i : Nat} {x : Str} {v : V} {u : Value} {Q : Unit → Shared → Prop} (I : Inv X pins σ H s) (hN : X.N.Nodup) (hi : X.N[i]? = some x) (hx : Loc X.env.scope x) (r : RelV v u)
    (h : ∀ s', Inv X pins (σ.set i (some v)) H s' → Q () s') (hf : X.fn x = true ∨ X.env.scope.names.lookup x = some .local := by first | exact .inl rfl | exact .inr rfl | assumption) : wpAny M A (storeName X.env x u) Q E s :=
  store_ok2 I hN hi hx r (fun s' I' _ => h s' I') hf
theorem Inv.call' {s' : Shared} {ch : List Addr} (I : Inv X pins σ H s) (ho : s'.os = s.os) (u : Un (frs X.stack) ch H H' s.heap s'.heap) (hok : HOk X.prog X.w H' s'.heap) (hg : AllBare s'.gens)
    (hch : ∀ b ∈ ch, (b ∈ X.ex ∨ X.s₀.heap.objs.size ≤ b) ∧ b ≠ X.env.locals ∧ (∀ x c, X.env.cells.lookup x = some c → c ≠ b) ∧ ∀ p ∈ X.pn ++ pins, p.1 ≠ b) : Inv X pins σ H' s' := by
  obtain ⟨h', g', d', t', o'⟩ := s'
  have e : o' = s.os := ho
  subst e
  exact I.call (g' := g') (t' := t') (d' := d') u hok hg hch
end
abbrev XK := Value → Option Addr → Hp → Prop
abbrev St := List (Option V)
abbrev VK := V → Hp → Prop
abbrev TE := St → Hp → VK → Prop
abbrev TT := St → Hp → (Bool → Hp → Prop) → Prop
abbrev TA := St → Hp → (List V → Hp → Prop) → Prop
structure Ends where
  nx : St → Hp → Prop
  rt : VK
  bk : St → Hp → Prop := fun _ _ => False
  ct : St → Hp → Prop := fun _ _ => False
abbrev TS := Ends → St → Hp → Prop
def EP (X : Cx) (pins : List (Addr × Obj)) (σ : St) (Q : VK) (u : Value) (s' : Shared) : Prop := ∃ v H', Inv X pins σ H' s' ∧ RelV v u ∧ Q v H'
def TP (X : Cx) (pins : List (Addr × Obj)) (σ : St) (Q : Bool → Hp → Prop) (b : Bool) (s' : Shared) : Prop := ∃ H', Inv X pins σ H' s' ∧ Q b H'
def AP (X : Cx) (pins : List (Addr × Obj)) (σ : St) (Q : List V → Hp → Prop) (us : List Value) (s' : Shared) : Prop := ∃ vs H', Inv X pins σ H' s' ∧ Vals vs us ∧ Q vs H'
def SP (X : Cx) (pins : List (Addr × Obj)) (D : Ends) (f : Flow) (s' : Shared) : Prop :=
  match f with
  | .next => ∃ σ' H', Inv X pins σ' H' s' ∧ D.nx σ' H'
  | .brk => ∃ σ' H', Inv X pins σ' H' s' ∧ D.bk σ' H'
  | .cont => ∃ σ' H', Inv X pins σ' H' s' ∧ D.ct σ' H'
  | .ret u => ∃ v σ' H', Inv X pins σ' H' s' ∧ RelV v u ∧ D.rt v H'
def PE (X : Cx) (e : Expr) (t : TE) : Prop :=
  ∀ (pins : List (Addr × Obj)) (s : Shared) (σ : St) (H : Hp) (Q : VK), Inv X pins σ H s → t σ H Q → wpAny (model X.prog X.w) X.A (eval e X.env) (EP X pins σ Q) X.xe s
def PT (X : Cx) (e : Expr) (t : TT) : Prop :=
  ∀ (pins : List (Addr × Obj)) (s : Shared) (σ : St) (H : Hp) (Q : Bool → Hp → Prop), Inv X pins σ H s → t σ H Q → wpAny (model X.prog X.w) X.A (isTrue e X.env (eval e X.env)) (TP X pins σ Q) X.xe s
def PW (X : Cx) (e : Expr) (t : TT) : Prop :=
  ∀ (whole : Sem Value) (pins : List (Addr × Obj)) (s : Shared) (σ : St) (H : Hp) (Q : Bool → Hp → Prop), Inv X pins σ H s → t σ H Q → wpAny (model X.prog X.w) X.A (isTrue e X.env whole) (TP X pins σ Q) X.xe s
theorem PW.pt {X : Cx} {e : Expr} {t : TT} (h : PW X e t) : PT X e t := h _
def PA (X : Cx) (es : List Expr) (t : TA) : Prop :=
  ∀ (pos : Pos) (pins : List (Addr × Obj)) (s : Shared) (σ : St) (H : Hp) (Q : List V → Hp → Prop), Inv X pins σ H s → t σ H Q → wpAny (model X.prog X.w) X.A (spliced (backTo pos (starEach es X.env))) (AP X pins σ Q) X.xe s
def PS (X : Cx) (st : Stmt) (t : TS) : Prop :=
  ∀ (pins : List (Addr × Obj)) (s : Shared) (σ : St) (H : Hp) (D : Ends), Inv X pins σ H s → t D σ H → wpAny (model X.prog X.w) X.A (exec st X.env) (SP X pins D) X.xe s
def PSs (X : Cx) (st : List Stmt) (t : TS) : Prop :=
  ∀ (pins : List (Addr × Obj)) (s : Shared) (σ : St) (H : Hp) (D : Ends), Inv X pins σ H s → t D σ H → wpAny (model X.prog X.w) X.A (execs st X.env) (SP X pins D) X.xe s
theorem thn {α : Type} {t : Sem α} {Q Q' : α → Shared → Prop} {M : Model} {A : Around} {E : Value → Shared → Prop} {s : Shared} (h : wpAny M A t Q E s) (hQ : ∀ a s, Q a s → Q' a s) : wpAny M A t Q' E s := wpAny_mono h hQ fun _ _ x => x
end L2
namespace L2
open PySem PySem.Spec PyProof.Rows
section
variable {X : Cx}
def tVar (i : Nat) : TE := fun σ H Q => ∃ v, σ[i]? = some (some v) ∧ Q v H
def tC (v : V) : TE := fun _ H Q => Q v H
theorem pe_var {i : Nat} {x : Str} {pos : Pos} (hN : X.N[i]? = some x) (hv : Vis X.env.scope x) (hd : (x == ("__debug__" : Str)) = false := by decide) (hcd : (x == ("__classdict__" : Str)) = false := by decide) : PE X (.Name x pos) (tVar i) := by
  intro pins s σ H Q I h
  obtain ⟨v, e, h⟩ := h
  obtain ⟨m, hn, hl⟩ := I.loc
  obtain ⟨u, r, l⟩ := hl i x v hN e hv
  have fin : EP X pins σ Q u s := ⟨v, H, I, r, h⟩
  rcases l with ⟨hk, hm⟩ | ⟨hk, c, hc, hcell⟩
  · exact wpAny_Name (wpAny_loadName_local I.ok.kind hk hn hm fin) hd
  · rcases hk with hk | hk
    · exact wpAny_Name (wpAny_loadName_cell I.ok.kind hk hc hcell fin) hd
    · exact wpAny_Name (wpAny_loadName_free I.ok.kind hk hc hcell fin hcd) hd
theorem pe_int {i j pos} : PE X (.Constant (.int i) j pos) (tC (.int i)) := fun _ _ _ H _ I h => wpAny_Constant_int ⟨.int i, H, I.tok _, ⟨_, rfl⟩, h⟩
theorem pe_bl {b j pos} : PE X (.Constant (.bool b) j pos) (tC (.bl b)) := fun _ _ _ H _ I h => Constant_bool ⟨.bl b, H, I, rfl, h⟩
theorem pe_non {j pos} : PE X (.Constant .none j pos) (tC .non) := fun _ _ _ H _ I h => Constant_none ⟨.non, H, I, rfl, h⟩
theorem pe_str {x j pos} : PE X (.Constant (.str x) j pos) (tC (.str x)) := fun _ _ _ H _ I h => Calls.Constant_str ⟨.str x, H, I.tok _, ⟨_, rfl⟩, h⟩
def Gl (X : Cx) (x : Str) : Prop := X.env.kindOf x = some .globalImplicit
theorem ld_glob {E : Value → Shared → Prop} {pins : List (Addr × Obj)} {s : Shared} {σ : St} {H : Hp} {x : Str} {u : Value} {pos : Pos} {Q : Value → Shared → Prop} (I : Inv X pins σ H s) (hg : Gl X x) (hm : X.mg x = some u) (h : Q u s)
    (hd : (x == ("__debug__" : Str)) = false := by decide) : wpAny (model X.prog X.w) X.A (eval (.Name x pos) X.env) Q E s :=
  Calls.Name_function_global I.ok.kind hg (Calls.loadGlobal_global (by rw [I.ok.glob]; exact I.mod.glob.keeps I.bk) hm h) hd
theorem ld_blt {E : Value → Shared → Prop} {pins : List (Addr × Obj)} {s : Shared} {σ : St} {H : Hp} {x : Str} {u : Value} {pos : Pos} {Q : Value → Shared → Prop} (I : Inv X pins σ H s) (hg : Gl X x) (hm : X.mg x = none) (hv : bootBuiltins x = some u) (h : Q u s)
    (hn : x ≠ "__name__" := by decide) (hd : (x == ("__debug__" : Str)) = false := by decide) : wpAny (model X.prog X.w) X.A (eval (.Name x pos) X.env) Q E s := by
  obtain ⟨mb, h1, h2⟩ := I.mod.blt
  exact Calls.Name_function_global I.ok.kind hg (Calls.loadGlobal_builtin (by rw [I.ok.glob]; exact I.mod.glob.keeps I.bk) hm (by rw [I.ok.blt]; exact h1.keeps I.bk) ((h2 x hn).trans hv) h) hd
theorem pe_bltn {x : Str} {v : V} {u : Value} {pos : Pos} (hg : Gl X x) (hm : X.mg x = none) (hv : bootBuiltins x = some u) (r : RelV v u) (hn : x ≠ "__name__" := by decide) (hd : (x == ("__debug__" : Str)) = false := by decide) : PE X (.Name x pos) (tC v) :=
  fun _ _ _ H _ I h => ld_blt I hg hm hv ⟨v, H, I, r, h⟩ hn hd
variable {a b : Expr} {ta tb : TE} {pos : Pos}
variable {tA tB' : TT} {rest : List Expr}
def tAnd (t u : TT) : TT := fun σ H Q => t σ H fun c H1 => if c = true then u σ H1 Q else Q false H1
def tOr (t u : TT) : TT := fun σ H Q => t σ H fun c H1 => if c = true then Q true H1 else u σ H1 Q
def tNot (t : TT) : TT := fun σ H Q => t σ H fun c H1 => Q (!c) H1
theorem pw_and1 (ha : PT X a tA) : PW X (.BoolOp .And [a] pos) tA := by
  intro wh pins s σ H Q I h
  refine isTrue_and (thn (ha pins s σ H Q I h) fun c s1 e => ?_)
  cases c with
  | true => exact isTrue_and_nil e
  | false => exact e
theorem pw_or1 (ha : PT X a tA) : PW X (.BoolOp .Or [a] pos) tA := by
  intro wh pins s σ H Q I h
  refine isTrue_or (thn (ha pins s σ H Q I h) fun c s1 e => ?_)
  cases c with
  | false => exact isTrue_or_nil e
  | true => exact e
theorem pw_and (ha : PT X a tA) (hb : PW X (.BoolOp .And (b :: rest) pos) tB') : PW X (.BoolOp .And (a :: b :: rest) pos) (tAnd tA tB') := by
  intro wh pins s σ H Q I h
  refine isTrue_and (thn (ha pins s σ H _ I h) fun c s1 ⟨H1, I1, q1⟩ => ?_)
  cases c with
  | true => exact hb wh pins s1 σ H1 Q I1 q1
  | false => exact ⟨H1, I1, q1⟩
theorem pw_or (ha : PT X a tA) (hb : PW X (.BoolOp .Or (b :: rest) pos) tB') : PW X (.BoolOp .Or (a :: b :: rest) pos) (tOr tA tB') := by
  intro wh pins s σ H Q I h
  refine isTrue_or (thn (ha pins s σ H _ I h) fun c s1 ⟨H1, I1, q1⟩ => ?_)
  cases c with
  | true => exact ⟨H1, I1, q1⟩
  | false => exact hb wh pins s1 σ H1 Q I1 q1
theorem pt_not (ha : PT X a tA) : PT X (.UnaryOp .Not a pos) (tNot tA) := by
  intro pins s σ H Q I h
  exact isTrue_not (ha pins s σ H (fun c H1 => Q (!c) H1) I h)
def tAndV (ta tb : TE) : TE := fun σ H Q => ta σ H fun x H1 => ∃ c, x = .bl c ∧ if c = true then tb σ H1 Q else Q (.bl false) H1
def tOrV (ta tb : TE) : TE := fun σ H Q => ta σ H fun x H1 => ∃ c, x = .bl c ∧ if c = true then Q (.bl true) H1 else tb σ H1 Q
theorem pe_one {op} {t : TE} (h : PE X a t) : PE X (.BoolOp op [a] pos) t := fun pins s σ H Q I hw => BoolOp_one (h pins s σ H Q I hw)
theorem pe_and (ha : PE X a ta) (hb : PE X (.BoolOp .And (b :: rest) pos) tb) : PE X (.BoolOp .And (a :: b :: rest) pos) (tAndV ta tb) := by
  intro pins s σ H Q I h
  refine BoolOp_and (thn (ha pins s σ H _ I h) fun v s1 ⟨x, H1, I1, r1, q1⟩ => ?_)
  obtain ⟨c, rfl, q1⟩ := q1
  cases r1
  refine wpAny_truthy_bool ?_
  cases c with
  | true => exact hb pins s1 σ H1 Q I1 q1
  | false => exact ⟨.bl false, H1, I1, rfl, q1⟩
theorem pe_or (ha : PE X a ta) (hb : PE X (.BoolOp .Or (b :: rest) pos) tb) : PE X (.BoolOp .Or (a :: b :: rest) pos) (tOrV ta tb) := by
  intro pins s σ H Q I h
  refine BoolOp_or (thn (ha pins s σ H _ I h) fun v s1 ⟨x, H1, I1, r1, q1⟩ => ?_)
  obtain ⟨c, rfl, q1⟩ := q1
  cases r1
  refine wpAny_truthy_bool ?_
  cases c with
  | false => exact hb pins s1 σ H1 Q I1 q1
  | true => exact ⟨.bl true, H1, I1, rfl, q1⟩
end
end L2
namespace L2
open PySem PySem.Spec PyProof.Rows
def SqL (K : PySem.W.Frag) (H : Hp) (a : Addr) (xs : List V) : Prop :=
  Rd H a (.lst xs) ∨
    ∃ (o : Obj) (its : Array Value) (n : Nat), K.lookup a = some o ∧ o.cls = .type "list" ∧ o.dict = none ∧ o.data = .seq its n ∧ its.size ≤ sizeLine ∧ Vals xs its.toList
def SqT (K : PySem.W.Frag) (H : Hp) (a : Addr) (xs : List V) : Prop :=
  Rd H a (.tup xs) ∨
    ∃ (o : Obj) (its : Array Value) (n : Nat), K.lookup a = some o ∧ o.cls = .type "tuple" ∧ o.data = .seq its n ∧ its.size ≤ sizeLine ∧ Vals xs its.toList
def absV : Value → Option V
  | .none => some .non
  | .bool b => some (.bl b)
  | .int i _ => some (.int i)
  | .str x _ => some (.str x)
  | .bytes b _ => some (.byt b)
  | .float b _ => some (.flt b)
  | .ref a => some (.ref a)
  | .type n => some (.ty n)
  | _ => none
theorem RelV.abs {x : V} {u : Value} (r : RelV x u) : absV u = some x := by
  cases x with
  | non => cases r; rfl
  | bl _ => cases r; rfl
  | int _ => obtain ⟨t, rfl⟩ := r; rfl
  | str _ => obtain ⟨t, rfl⟩ := r; rfl
  | byt _ => obtain ⟨t, rfl⟩ := r; rfl
  | flt _ => obtain ⟨t, rfl⟩ := r; rfl
  | ref _ => cases r; rfl
  | ty _ => cases r; rfl
theorem RelV.inj {x y : V} {u : Value} (r : RelV x u) (q : RelV y u) : x = y := Option.some.inj (r.abs.symm.trans q.abs)
theorem Vals.inj : ∀ {xs ys : List V} {us : List Value}, Vals xs us → Vals ys us → xs = ys
  | _, _, _, .nil, .nil => rfl
  | _, _, _, .cons r t, .cons r' t' => by rw [r.inj r', Vals.inj t t']
section
variable {X : Cx} {pins : List (Addr × Obj)} {σ : St} {H : Hp} {s : Shared} {a : Addr} {xs ys : List V}
theorem SqL.of {K : PySem.W.Frag} (h : H a = some (.lst xs)) : SqL K H a xs := .inl (.inl h)
theorem SqT.of {K : PySem.W.Frag} (h : H a = some (.tup xs)) : SqT K H a xs := .inl (.inl h)
theorem Inv.list (I : Inv X pins σ H s) (h : SqL X.K H a xs) : ∃ its : List Value, Vals xs its ∧ PlainL s.heap a its.toArray ∧ xs.length ≤ sizeLine := by
  rcases h with h | ⟨o, its, n, hk, hc, hd, hs, hz, r⟩
  · obtain ⟨z, its, n, r, e⟩ := h.ok I.hok
    exact ⟨its, r, ⟨_, n, e, rfl, rfl, rfl⟩, z⟩
  · refine ⟨its.toList, r, ⟨o, n, I.kIn a o hk, hc, hd, by simpa using hs⟩, ?_⟩
    have e := r.length
    simp only [Array.length_toList] at e
    omega
theorem Inv.tuple (I : Inv X pins σ H s) (h : SqT X.K H a xs) : ∃ its : List Value, Vals xs its ∧ IsTup s.heap a its.toArray ∧ xs.length ≤ sizeLine := by
  rcases h with h | ⟨o, its, n, hk, hc, hs, hz, r⟩
  · obtain ⟨z, its, r, p⟩ := h.ok I.hok
    exact ⟨its, r, p, z⟩
  · refine ⟨its.toList, r, ⟨o, I.kIn a o hk, hc, n, by simpa using hs⟩, ?_⟩
    have e := r.length
    simp only [Array.length_toList] at e
    omega
theorem Inv.list_inj (I : Inv X pins σ H s) (h : SqL X.K H a xs) (h' : SqL X.K H a ys) : xs = ys := by
  obtain ⟨its, r, ⟨o, n, e, _, _, d⟩, _⟩ := I.list h
  obtain ⟨its', r', ⟨o', n', e', _, _, d'⟩, _⟩ := I.list h'
  rw [e] at e'; cases e'
  rw [d] at d'
  injection d' with d1 _
  have : its = its' := by simpa using congrArg Array.toList d1
  subst this
  exact r.inj r'
theorem Inv.tuple_inj (I : Inv X pins σ H s) (h : SqT X.K H a xs) (h' : SqT X.K H a ys) : xs = ys := by
  obtain ⟨its, r, ⟨o, e, _, n, d⟩, _⟩ := I.tuple h
  obtain ⟨its', r', ⟨o', e', _, n', d'⟩, _⟩ := I.tuple h'
  rw [e] at e'; cases e'
  rw [d] at d'
  injection d' with d1 _
  have : its = its' := by simpa using congrArg Array.toList d1
  subst this
  exact r.inj r'
end
abbrev Cx.wish (X : Cx) (E : Value → Shared → Prop) : Cx := { X with xe := E }
abbrev Cx.nox (X : Cx) : Cx := X.wish fun _ _ => False
theorem Cx.Ok.wish {X : Cx} (ok : X.Ok) (E : Value → Shared → Prop) : (X.wish E).Ok :=
  ⟨ok.mod, ok.kind, ok.glob, ok.blt, ok.above, ok.inj, ok.has, ok.cab, ok.hd, ok.frames, ok.stk, ok.exf, ok.bs, ok.bsz, ok.noex, ok.exfs, ok.funs, ok.frf⟩
theorem Cx.Ok.unwish {X : Cx} {E : Value → Shared → Prop} (ok : (X.wish E).Ok) : X.Ok :=
  ⟨ok.mod, ok.kind, ok.glob, ok.blt, ok.above, ok.inj, ok.has, ok.cab, ok.hd, ok.frames, ok.stk, ok.exf, ok.bs, ok.bsz, ok.noex, ok.exfs, ok.funs, ok.frf⟩
section
variable {X : Cx} {pins : List (Addr × Obj)} {σ : St} {H : Hp} {s : Shared} {E : Value → Shared → Prop}
theorem Inv.wish (I : Inv X pins σ H s) (E : Value → Shared → Prop) : Inv (X.wish E) pins σ H s := ⟨I.ok.wish E, I.os, I.bare, I.base, I.loc, I.cell, I.free, I.freeC, I.pin, I.hok, I.len⟩
theorem Inv.unwish (I : Inv (X.wish E) pins σ H s) : Inv X pins σ H s := ⟨I.ok.unwish, I.os, I.bare, I.base, I.loc, I.cell, I.free, I.freeC, I.pin, I.hok, I.len⟩
theorem SP.unwish {D : Ends} {f : Flow} {s' : Shared} (h : SP (X.wish E) pins D f s') : SP X pins D f s' := by
  cases f with
  | next => obtain ⟨σ', H', I, q⟩ := h; exact ⟨σ', H', I.unwish, q⟩
  | brk => obtain ⟨σ', H', I, q⟩ := h; exact ⟨σ', H', I.unwish, q⟩
  | cont => obtain ⟨σ', H', I, q⟩ := h; exact ⟨σ', H', I.unwish, q⟩
  | ret u => obtain ⟨v, σ', H', I, r, q⟩ := h; exact ⟨v, σ', H', I.unwish, r, q⟩
theorem PSs.nox {st : List Stmt} {t : TS} (h : PSs X.nox st t) : PSs X st t := fun pins s σ H D I hw =>
  wpAny_mono (h pins s σ H D (I.wish _) hw) (fun _ _ q => q.unwish) fun _ _ z => False.elim z
end
section
variable {X : Cx} {st : Stmt} {rest : List Stmt} {t u : TS} {e : Expr} {te : TE} {pos : Pos}
def tNext : TS := fun D σ H => D.nx σ H
def tSeq (t u : TS) : TS := fun D σ H => t { D with nx := u D } σ H
theorem pss_nil : PSs X [] tNext := fun _ _ σ H _ I h => wpAny_execs_nil ⟨σ, H, I, h⟩
theorem pss_cons (h1 : PS X st t) (h2 : PSs X rest u) : PSs X (st :: rest) (tSeq t u) := by
  intro pins s σ H D I h
  refine wpAny_execs_cons (thn (h1 pins s σ H { D with nx := u D } I h) fun f s1 q => ?_)
  cases f with
  | next =>
    obtain ⟨σ', H', I', q⟩ := q
    exact h2 pins s1 σ' H' D I' q
  | ret v => exact q
  | brk => exact q
  | cont => exact q
theorem pss_one (h1 : PS X st t) : PSs X [st] t := by
  intro pins s σ H D I h
  refine wpAny_execs_cons (thn (h1 pins s σ H D I h) fun f s1 q => ?_)
  cases f with
  | next => exact wpAny_execs_nil q
  | ret v => exact q
  | brk => exact q
  | cont => exact q
theorem Inv.quiet {pins : List (Addr × Obj)} {σ : St} {H : Hp} {s : Shared} (I : Inv X pins σ H s) : interactive X.env = false := by simp [interactive, I.ok.kind]
def tDrop (te : TE) : TS := fun D σ H => te σ H fun _ H1 => D.nx σ H1
theorem ps_expr (he : PE X e te) (hs : swapsWith e none pos.line X.env = pure false := by rfl) : PS X (.Expr e pos) (tDrop te) := by
  intro pins s σ H D I h
  exact wpAny_Expr_any (thn (he pins s σ H _ I h) fun v s1 ⟨x, H1, I1, r1, q1⟩ => ⟨σ, H1, I1, q1⟩) I.quiet hs
def tRet (te : TE) : TS := fun D σ H => te σ H D.rt
theorem ps_ret (he : PE X e te) : PS X (.Return (some e) pos) (tRet te) := by
  intro pins s σ H D I h
  exact wpAny_Return_some (thn (he pins s σ H _ I h) fun v s1 ⟨x, H1, I1, r1, q1⟩ => ⟨x, σ, H1, I1, r1, q1⟩)
def tIfS (c : TT) (t u : TS) : TS := fun D σ H => c σ H fun b H1 => if b = true then t D σ H1 else u D σ H1
theorem ps_if {c : Expr} {a b : List Stmt} {tc : TT} (hc : PT X c tc) (ha : PSs X a t) (hb : PSs X b u) : PS X (.If c a b pos) (tIfS tc t u) := by
  intro pins s σ H D I h
  refine wpAny_If (thn (hc pins s σ H _ I h) fun d s1 ⟨H1, I1, q1⟩ => ?_)
  cases d with
  | true => exact ha pins s1 σ H1 D I1 q1
  | false => exact hb pins s1 σ H1 D I1 q1
end
abbrev TG := V → St → Hp → (St → Hp → Prop) → Prop
abbrev TGs := List V → St → Hp → (St → Hp → Prop) → Prop
def PG (X : Cx) (target : Expr) (t : TG) : Prop :=
  ∀ (pins : List (Addr × Obj)) (s : Shared) (σ : St) (H : Hp) (v : V) (u : Value) (Q : St → Hp → Prop), Inv X pins σ H s → RelV v u → t v σ H Q →
    wpAny (model X.prog X.w) X.A (assign target X.env u) (fun _ s' => ∃ σ' H', Inv X pins σ' H' s' ∧ Q σ' H') X.xe s
def PGs (X : Cx) (ts : List Expr) (t : TGs) : Prop :=
  ∀ (pins : List (Addr × Obj)) (s : Shared) (σ : St) (H : Hp) (vs : List V) (us : List Value) (Q : St → Hp → Prop), Inv X pins σ H s → Vals vs us → t vs σ H Q →
    wpAny (model X.prog X.w) X.A (assignInOrder ((assignEach ts X.env).map (·.2)) us) (fun _ s' => ∃ σ' H', Inv X pins σ' H' s' ∧ Q σ' H') X.xe s
section
variable {X : Cx} {pos : Pos}
def gName (i : Nat) : TG := fun v σ H Q => Q (σ.set i (some v)) H
theorem pg_name {i : Nat} {x : Str} (hN : X.N.Nodup) (hi : X.N[i]? = some x) (hx : Loc X.env.scope x) (hf : X.fn x = true ∨ X.env.scope.names.lookup x = some .local := by first | exact .inl rfl | exact .inr rfl | assumption) : PG X (.Name x pos) (gName i) := by
  intro pins s σ H v u Q I r h
  exact wpAny_assign_Name (store_ok I hN hi hx r (fun s' I' => ⟨_, H, I', h⟩) hf)
def gNil : TGs := fun vs σ H Q => vs = [] ∧ Q σ H
def gCons (t : TG) (u : TGs) : TGs := fun vs σ H Q => ∃ v r, vs = v :: r ∧ t v σ H fun σ' H' => u r σ' H' Q
theorem pgs_nil : PGs X [] gNil := by
  intro pins s σ H vs us Q I r h
  obtain ⟨e, h⟩ := h
  subst e
  cases r
  exact assignInOrder_nil ⟨σ, H, I, h⟩
theorem pgs_cons {e : Expr} {es : List Expr} {t : TG} {u : TGs} (h1 : PG X e t) (h2 : PGs X es u)
    (hs : (assignEach (e :: es) X.env).map (·.2) = assign e X.env :: (assignEach es X.env).map (·.2) := by rfl) : PGs X (e :: es) (gCons t u) := by
  intro pins s σ H vs us Q I r h
  obtain ⟨v, vr, e1, h⟩ := h
  subst e1
  cases r with
  | cons r rr =>
    rw [hs]
    refine assignInOrder_cons (thn (h1 pins s σ H _ _ _ I r h) fun _ s1 ⟨σ1, H1, I1, q1⟩ => ?_)
    exact h2 pins s1 σ1 H1 _ _ Q I1 rr q1
def gTup (K : PySem.W.Frag) (n : Nat) (t : TGs) : TG := fun v σ H Q => ∃ a xs, v = .ref a ∧ SqT K H a xs ∧ xs.length = n ∧ t xs σ H Q
theorem pg_tup {es : List Expr} {k : Nat} {t : TGs} {n : Nat} (hc : X.calm = true) (h : PGs X es t)
    (hn : (assignEach es X.env).length = n := by rfl) (hst : (assignEach es X.env).findIdx? (·.1) = none := by rfl) : PG X (.Tuple es k pos) (gTup X.K n t) := by
  intro pins s σ H v u Q I r hw
  obtain ⟨a, xs, e1, hq, hl, hw⟩ := hw
  subst e1
  cases r
  obtain ⟨its, rv, ht, hz⟩ := I.tuple hq
  refine assign_Tuple_tuple (I.ok.hd hc) ht (by simp [hn, ← hl, rv.length]) hst fun h' hx => ?_
  have I1 : Inv X pins σ H { s with heap := h' } := I.kept (t' := s.toks) fun b o e => hx b o (Nat.ne_of_lt (Heap.lt_size e)) e
  exact h pins _ σ H xs _ Q I1 (by simpa using rv) hw
def tAsg (te : TE) (g : TG) : TS := fun D σ H => te σ H fun x H1 => g x σ H1 D.nx
theorem ps_asg {tg e : Expr} {te : TE} {g : TG} (he : PE X e te) (hg : PG X tg g) (hs : swapsWithSole [tg] e pos.line X.env = pure false := by rfl) (hw : swappedStores [tg] e X.env = pure none := by rfl)
    (h1 : (assignEach [tg] X.env).map (·.2) = [assign tg X.env] := by rfl) : PS X (.Assign [tg] e pos) (tAsg te g) := by
  intro pins s σ H D I h
  refine wpAny_Assign_stores (thn (he pins s σ H _ I h) fun v s1 ⟨x, H1, I1, r1, q1⟩ => ?_) hs hw
  rw [h1]
  exact thn (hg pins s1 σ H1 x v _ I1 r1 q1) fun _ s2 q => q
theorem ps_set {i : Nat} {x : Str} {e : Expr} {te : TE} {pos' : Pos} (hN : X.N.Nodup) (hi : X.N[i]? = some x) (hx : Loc X.env.scope x) (he : PE X e te) (hs : swapsWith e (some (.Name x pos')) pos.line X.env = pure false := by rfl) (hf : X.fn x = true ∨ X.env.scope.names.lookup x = some .local := by first | exact .inl rfl | exact .inr rfl | assumption) :
    PS X (.Assign [.Name x pos'] e pos) (tAsg te (gName i)) := by
  intro pins s σ H D I h
  refine wpAny_Assign_Name (thn (he pins s σ H _ I h) fun v s1 ⟨y, H1, I1, r1, q1⟩ => ?_) hs
  exact store_ok I1 hN hi hx r1 (fun s2 I2 => ⟨_, H1, I2, q1⟩) hf
end
section
variable {X : Cx} {pos : Pos}
end
structure It where
  go : Nat → Hp → Prop
  yld : Nat → Hp → V → Hp → Prop
  stop : Nat → Hp → Prop
def FpOk (X : Cx) (pins : List (Addr × Obj)) (H : Hp) (b : Addr) : Prop :=
  H b = none ∧ b ≠ X.env.locals ∧ b ∉ X.fs ∧ (b ∈ X.ex ∨ X.s₀.heap.objs.size ≤ b) ∧ (∀ x c, X.env.cells.lookup x = some c → c ≠ b) ∧ ∀ p ∈ X.pn ++ pins, p.1 ≠ b
theorem Inv.fpOk {X : Cx} {pins : List (Addr × Obj)} {σ : St} {H H' : Hp} {s : Shared} {b : Addr} (I : Inv X pins σ H s) (hb : s.heap.objs.size ≤ b) (hn : H' b = none) : FpOk X pins H' b := by
  refine ⟨hn, Nat.ne_of_gt (Nat.lt_of_lt_of_le I.lt hb), I.nofs hb, .inr (Nat.le_trans I.sz hb), fun x c e z => ?_, fun p hp z => ?_⟩
  · obtain ⟨v, q⟩ := I.cell x c e
    exact absurd (Nat.lt_of_lt_of_le q.lt (by rw [z]; exact hb)) (Nat.lt_irrefl _)
  · exact absurd (Nat.lt_of_lt_of_le (Heap.lt_size (I.pin p hp).1) (by rw [z]; exact hb)) (Nat.lt_irrefl _)
structure Turn (P : Program) (w : World) (K : PySem.W.Frag) (tg : Expr) (J : It) (fp : List Addr) (it : Addr) (tn : Nat → Heap → Prop) : Prop where
  mem : it ∈ fp
  obj : ∀ i h, tn i h → ∀ b ∈ fp, ∃ o, h.get? b = some o ∧ ∀ v, o.data ≠ .cell v
  keep : ∀ i h h', tn i h → (∀ b ∈ fp, ∀ o, h.get? b = some o → h'.get? b = some o) → tn i h'
  item : ∀ (X : Cx), X.prog = P → X.w = w → X.K = K → X.calm = true → ∀ (i : Nat) (pins : List (Addr × Obj)) (s : Shared) (σ : St) (H : Hp) (E : Value → Shared → Prop), Inv X pins σ H s → (∀ b ∈ fp, FpOk X pins H b) → tn i s.heap → J.go i H →
    wpAny (model P w) X.A (pyNext (.ref it)) (fun r s1 => ∃ u, r = some u ∧
      wpAny (model P w) X.A (letOwnedTupleGo tg (.ref it) u) (fun _ s2 => ∃ x H', Inv X pins σ H' s2 ∧ RelV x u ∧ J.yld i H x H' ∧ tn (i + 1) s2.heap ∧ ∀ b ∈ fp, H' b = none) E s1) E s
  done : ∀ (X : Cx), X.prog = P → X.w = w → X.K = K → X.calm = true → ∀ (i : Nat) (pins : List (Addr × Obj)) (s : Shared) (σ : St) (H : Hp) (E : Value → Shared → Prop), Inv X pins σ H s → (∀ b ∈ fp, FpOk X pins H b) → tn i s.heap → J.stop i H →
    wpAny (model P w) X.A (pyNext (.ref it)) (fun r s1 => r = none ∧ Inv X pins σ H s1) E s
  self : ∀ (A : Around) (i : Nat) (s : Shared) (Q : Value → Shared → Prop) (E : Value → Shared → Prop), tn i s.heap → Q (.ref it) s → wpAny (model P w) A (pyIter (.ref it)) Q E s
abbrev TI := St → Hp → (It → Hp → Prop) → Prop
def PIE (X : Cx) (pins : List (Addr × Obj)) (σ : St) (tg : Expr) (R : It → Hp → Prop) (itv : Value) (s2 : Shared) : Prop :=
  ∃ (it : Addr) (fp : List Addr) (tn : Nat → Heap → Prop) (J : It) (H' : Hp), itv = .ref it ∧ Inv X pins σ H' s2 ∧ Turn X.prog X.w X.K tg J fp it tn ∧ tn 0 s2.heap ∧ (∀ b ∈ fp, FpOk X pins H' b) ∧ R J H'
def PI (X : Cx) (tg iter : Expr) (wi : TI) : Prop :=
  ∀ (pins : List (Addr × Obj)) (s : Shared) (σ : St) (H : Hp) (R : It → Hp → Prop), Inv X pins σ H s → wi σ H R →
    wpAny (model X.prog X.w) X.A (eval iter X.env) (fun v s1 => wpAny (model X.prog X.w) X.A (pyIter v) (PIE X pins σ tg R) X.xe s1) X.xe s
theorem go_of {M : Model} {A : Around} {E : Value → Shared → Prop} {s : Shared} {tg : Expr} {it : Addr} {u : Value} {o : Obj} {n : String} {vs : Array Value} {Q : Unit → Shared → Prop} (ho : s.heap.get? it = some o) (hc : o.cls = .type n) (hd : o.data = .fields vs)
    (hn : ["enumerate", "zip", "dict_itemiterator", "dict_reverseitemiterator", "odict_iterator", "itertools.zip_longest", "itertools.pairwise"].contains n = false) (hQ : Q () s) : wpAny M A (letOwnedTupleGo tg (.ref it) u) Q E s := by
  unfold letOwnedTupleGo
  cases tg <;> first
    | exact wpAny_pure hQ
    | (cases u <;> first
        | exact wpAny_pure hQ
        | (refine wpAny_bind (wpAny_load ho ?_)
           rw [hc, hd]
           show wpAny M A (if (["enumerate", "zip", "dict_itemiterator", "dict_reverseitemiterator", "odict_iterator", "itertools.zip_longest", "itertools.pairwise"].contains n && vs[0]? == some (rawInt _)) = true then _ else _) Q E s
           rw [if_neg (by intro h; rw [hn, Bool.false_and] at h; cases h)]
           exact wpAny_pure hQ))
def Itl (K : PySem.W.Frag) (a : Addr) : It :=
  ⟨fun i H => ∃ xs x, SqL K H a xs ∧ xs[i]? = some x, fun i H x H' => H' = H ∧ ∀ xs, SqL K H a xs → xs[i]? = some x, fun i H => ∃ xs, SqL K H a xs ∧ xs.length ≤ i⟩
def Itt (K : PySem.W.Frag) (a : Addr) : It :=
  ⟨fun i H => ∃ xs x, SqT K H a xs ∧ xs[i]? = some x, fun i H x H' => H' = H ∧ ∀ xs, SqT K H a xs → xs[i]? = some x, fun i H => ∃ xs, SqT K H a xs ∧ xs.length ≤ i⟩
def Itr (lo : Int) (n : Nat) : It := ⟨fun i _ => i < n, fun i H x H' => H' = H ∧ x = .int (lo + i), fun i _ => n ≤ i⟩
theorem turn_list {P : Program} {w : World} {K : PySem.W.Frag} {tg : Expr} (a it : Addr) : Turn P w K tg (Itl K a) [it] it (fun i h => h.IsListIter it a i) where
  mem := by simp
  obj := fun i h st b hb => by
    have e : b = it := by simpa using hb
    subst e
    obtain ⟨o, e, c, d⟩ := st
    exact ⟨o, e, fun v z => by rw [d] at z; cases z⟩
  keep := fun i h h' st k => st.at fun o e => k it (by simp) o e
  item := by
    intro X hP hw hK hc i pins s σ H E I hf st hg
    subst hP hw hK
    obtain ⟨xs, x, hq, hx⟩ := hg
    obtain ⟨its, rv, p, hz⟩ := I.list hq
    obtain ⟨u, hu, ru⟩ := rv.get hx
    obtain ⟨f0, f1, f2, f3, f4, f5⟩ := hf it (by simp)
    refine wpAny_pyNext_list_item st p.isList (x := u) (by simpa using hu) fun h' st' sb => ?_
    have I1 : Inv X pins σ H { s with heap := h' } := I.turned (t' := s.toks) (fun b o hb e => (sb.2 b hb).trans e) f0 f1 f3 f4 f5
    obtain ⟨o, e, c, d⟩ := id st'
    exact ⟨u, rfl, go_of (s := { s with heap := h' }) e c d (by decide) ⟨x, H, I1, ru, ⟨rfl, fun ys hy => by rw [I.list_inj hy hq]; exact hx⟩, st', fun b hb => (hf b hb).1⟩⟩
  done := by
    intro X hP hw hK hc i pins s σ H E I hf st hg
    subst hP hw hK
    obtain ⟨xs, hq, hx⟩ := hg
    obtain ⟨its, rv, p, hz⟩ := I.list hq
    obtain ⟨f0, f1, f2, f3, f4, f5⟩ := hf it (by simp)
    have hl := rv.length
    exact wpAny_pyNext_list_end (I.ok.hd hc) st p.isList (by simp; omega) fun h' eb => ⟨rfl, I.turned (t' := s.toks) (fun b o hb e => eb b o hb e) f0 f1 f3 f4 f5⟩
  self := fun _ _ _ _ _ st h => wpAny_pyIter_listiter st h
theorem turn_tuple {P : Program} {w : World} {K : PySem.W.Frag} {tg : Expr} (a it : Addr) : Turn P w K tg (Itt K a) [it] it (fun i h => h.IsTupleIter it a i) where
  mem := by simp
  obj := fun i h st b hb => by
    have e : b = it := by simpa using hb
    subst e
    obtain ⟨o, e, c, d⟩ := st
    exact ⟨o, e, fun v z => by rw [d] at z; cases z⟩
  keep := fun i h h' st k => st.at fun o e => k it (by simp) o e
  item := by
    intro X hP hw hK hc i pins s σ H E I hf st hg
    subst hP hw hK
    obtain ⟨xs, x, hq, hx⟩ := hg
    obtain ⟨its, rv, p, hz⟩ := I.tuple hq
    obtain ⟨u, hu, ru⟩ := rv.get hx
    obtain ⟨f0, f1, f2, f3, f4, f5⟩ := hf it (by simp)
    refine wpAny_pyNext_tuple_item st (show s.heap.IsTuple a its.toArray from p) (x := u) (by simpa using hu) fun h' st' sb => ?_
    have I1 : Inv X pins σ H { s with heap := h' } := I.turned (t' := s.toks) (fun b o hb e => (sb.2 b hb).trans e) f0 f1 f3 f4 f5
    obtain ⟨o, e, c, d⟩ := id st'
    exact ⟨u, rfl, go_of (s := { s with heap := h' }) e c d (by decide) ⟨x, H, I1, ru, ⟨rfl, fun ys hy => by rw [I.tuple_inj hy hq]; exact hx⟩, st', fun b hb => (hf b hb).1⟩⟩
  done := by
    intro X hP hw hK hc i pins s σ H E I hf st hg
    subst hP hw hK
    obtain ⟨xs, hq, hx⟩ := hg
    obtain ⟨its, rv, p, hz⟩ := I.tuple hq
    obtain ⟨f0, f1, f2, f3, f4, f5⟩ := hf it (by simp)
    have hl := rv.length
    exact wpAny_pyNext_tuple_end (I.ok.hd hc) st (show s.heap.IsTuple a its.toArray from p) (by simp; omega) fun h' eb => ⟨rfl, I.turned (t' := s.toks) (fun b o hb e => eb b o hb e) f0 f1 f3 f4 f5⟩
  self := fun _ _ _ _ _ st h => wpAny_pyIter_tupleiter st h
theorem turn_range {P : Program} {w : World} {K : PySem.W.Frag} {tg : Expr} (it : Addr) (lo : Int) (n : Nat) : Turn P w K tg (Itr lo n) [it] it (fun i h => IsRangeIter h it (lo + (i : Nat) * 1) ((n : Int) - (i : Nat)) 1) where
  mem := by simp
  obj := fun i h st b hb => by
    have e : b = it := by simpa using hb
    subst e
    exact ⟨_, st, fun v z => by
      have z' : Data.fields _ = Data.cell v := z
      cases z'⟩
  keep := fun i h h' st k => k it (by simp) _ st
  item := by
    intro X hP hw hK hc i pins s σ H E I hf st hg
    subst hP hw hK
    obtain ⟨f0, f1, f2, f3, f4, f5⟩ := hf it (by simp)
    have W := Walks.range (prog := X.prog) (w := X.w) (I.ok.hd hc) it lo 1 n
    refine W.item i s _ _ hg st fun v h' tk hv st' kk => ?_
    obtain ⟨t, rfl⟩ := hv
    have I1 : Inv X pins σ H { s with heap := h', toks := tk } := I.turned (fun b o hb e => kk b o (by simpa using hb) e) f0 f1 f3 f4 f5
    refine ⟨_, rfl, go_of (s := { s with heap := h', toks := tk }) (n := "range_iterator") st' rfl rfl (by decide) ⟨.int (lo + i), H, I1, ⟨t, ?_⟩, ⟨rfl, rfl⟩, st', fun b hb => (hf b hb).1⟩⟩
    rw [Int.mul_one]
  done := by
    intro X hP hw hK hc i pins s σ H E I hf st hg
    subst hP hw hK
    obtain ⟨f0, f1, f2, f3, f4, f5⟩ := hf it (by simp)
    exact wpAny_pyNext_range_end (I.ok.hd hc) st (by have : n ≤ i := hg; omega) fun h' eb => ⟨rfl, I.turned (t' := s.toks) (fun b o hb e => eb b o hb e) f0 f1 f3 f4 f5⟩
  self := fun _ _ _ _ _ st h => wpAny_pyIter_rangeiter st h
end L2
namespace L2
open PySem PySem.Spec PyProof.Rows
section
variable {X : Cx} {tg : Expr}
theorem range_it {pins : List (Addr × Obj)} {σ : St} {H : Hp} {s : Shared} {R : It → Hp → Prop} {E : Value → Shared → Prop} {lo hi : Int} {t u v : Tok} {tk : Nat} (I : Inv X pins σ H s) (h1 : -(2 ^ 62) ≤ lo) (h2 : lo < 2 ^ 62) (h3 : -(2 ^ 62) ≤ hi) (h4 : hi < 2 ^ 62)
    (q : R (Itr lo (hi - lo).toNat) H) : wpAny (model X.prog X.w) X.A (pyIter (.ref s.heap.objs.size)) (PIE X pins σ tg R) E { s with heap := s.heap.push { cls := .type "range", data := .fields #[.int lo t, .int hi u, .int 1 v] }, toks := tk } := by
  refine wpAny_pyIter_range (IsRange.new ..) (small_one h1 h2 h3 h4) ?_
  have I1 : Inv X pins σ H { s with heap := s.heap.push { cls := .type "range", data := .fields #[.int lo t, .int hi u, .int 1 v] }, toks := tk } := I.kept fun b o e => Heap.get?_push_of_some _ e
  refine ⟨(s.heap.push { cls := .type "range", data := .fields #[.int lo t, .int hi u, .int 1 v] }).objs.size, [(s.heap.push { cls := .type "range", data := .fields #[.int lo t, .int hi u, .int 1 v] }).objs.size], _, _, H, rfl,
    I1.kept (t' := tk) fun b o e => Heap.get?_push_of_some _ e, turn_range _ lo (hi - lo).toNat, ?_, fun b hb => ?_, q⟩
  · have e1 : lo + ((0 : Nat) : Int) * 1 = lo := by simp
    have e2 : (((hi - lo).toNat : Nat) : Int) - ((0 : Nat) : Int) = Builtin.Range.rangeSize lo hi 1 := by rw [rangeSize_one]; split <;> omega
    show IsRangeIter _ _ (lo + ((0 : Nat) : Int) * 1) ((((hi - lo).toNat : Nat) : Int) - ((0 : Nat) : Int)) 1
    rw [e1, e2]
    exact Heap.get?_push_size _ rfl
  · have e : b = (s.heap.push { cls := .type "range", data := .fields #[.int lo t, .int hi u, .int 1 v] }).objs.size := by simpa using hb
    subst e
    exact I1.fpOk (Nat.le_refl _) (I1.hok.fresh (Nat.le_refl _))
def iRng1 (ta : TA) : TI := fun σ H R => ta σ H fun vs H1 => ∃ j : Int, vs = [.int j] ∧ -(2 ^ 62) ≤ j ∧ j < 2 ^ 62 ∧ R (Itr 0 j.toNat) H1
def iRng2 (ta : TA) : TI := fun σ H R => ta σ H fun vs H1 => ∃ i j : Int, vs = [.int i, .int j] ∧ (-(2 ^ 62) ≤ i ∧ i < 2 ^ 62 ∧ -(2 ^ 62) ≤ j ∧ j < 2 ^ 62) ∧ R (Itr i (j - i).toNat) H1
theorem pi_range1 {a : Expr} {ta : TA} {p pos : Pos} (hg : Gl X "range") (hm : X.mg "range" = none) (ha : PA X [a] ta) (hs : starEach [a] X.env = [(false, eval a X.env)] := by rfl) : PI X tg (.Call (.Name "range" p) [a] [] pos) (iRng1 ta) := by
  intro pins s σ H R I h
  refine Call_ (ld_blt I hg hm boot_range (PyProof.Rows.callWith_type1 (thn (ha pos pins s σ H _ I h) fun us s1 ⟨vs, H1, I1, r1, q1⟩ => ?_) hs rfl))
  obtain ⟨j, e, q1, q2, q⟩ := q1
  subst e
  cases r1 with
  | cons r rr =>
    cases rr
    obtain ⟨t, rfl⟩ := r
    exact call_range_1 (range_it I1 (by omega) (by omega) q1 q2 (by simpa using q))
theorem pi_range2 {a b : Expr} {ta : TA} {p pos : Pos} (hg : Gl X "range") (hm : X.mg "range" = none) (ha : PA X [a, b] ta) (hs : starEach [a, b] X.env = [(false, eval a X.env), (false, eval b X.env)] := by rfl) (hs2 : starEach [b] X.env = [(false, eval b X.env)] := by rfl) :
    PI X tg (.Call (.Name "range" p) [a, b] [] pos) (iRng2 ta) := by
  intro pins s σ H R I h
  refine Call_ (ld_blt I hg hm boot_range (PyProof.Rows.callWith_type1 (thn (ha pos pins s σ H _ I h) fun us s1 ⟨vs, H1, I1, r1, q1⟩ => ?_) (by rw [hs, hs2]) (by rw [hs2]; rfl)))
  obtain ⟨i, j, e, ⟨q1, q2, q3, q4⟩, q⟩ := q1
  subst e
  cases r1 with
  | cons r rr =>
    cases rr with
    | cons r' rr =>
      cases rr
      obtain ⟨t, rfl⟩ := r
      obtain ⟨t', rfl⟩ := r'
      exact call_range_2 (range_it I1 q1 q2 q3 q4 q)
def tFor (wi : TI) (g : TG) (tb : TS) : TS := fun D σ H => wi σ H fun J H1 => ∃ W : Nat → Nat → St → Hp → Prop, (∃ m, W 0 m σ H1) ∧ ∀ i m σ H, W i m σ H →
  (J.stop i H ∧ D.nx σ H) ∨ (J.go i H ∧ ∃ N : St → Hp → Prop, (∀ σ' H', N σ' H' → ∃ m', m' < m ∧ W (i + 1) m' σ' H') ∧ ∀ x H', J.yld i H x H' → g x σ H' fun σ2 H2 => tb { D with nx := N, ct := N, bk := D.nx } σ2 H2)
def pinsAt (fp : List Addr) (h : Heap) : List (Addr × Obj) := fp.filterMap fun b => (h.get? b).map fun o => (b, o)
theorem mem_pinsAt {fp : List Addr} {h : Heap} {b : Addr} {o : Obj} (hb : b ∈ fp) (e : h.get? b = some o) : (b, o) ∈ pinsAt fp h := List.mem_filterMap.mpr ⟨b, hb, by rw [e]; rfl⟩
theorem of_pinsAt {fp : List Addr} {h : Heap} {p : Addr × Obj} (hp : p ∈ pinsAt fp h) : p.1 ∈ fp ∧ h.get? p.1 = some p.2 := by
  obtain ⟨b, hb, e⟩ := List.mem_filterMap.mp hp
  cases q : h.get? b with
  | none => rw [q] at e; cases e
  | some o =>
    rw [q] at e
    have e' : (b, o) = p := Option.some.inj e
    subst e'
    exact ⟨hb, q⟩
theorem Inv.pinned {pins : List (Addr × Obj)} {σ : St} {H : Hp} {s : Shared} {fp : List Addr} (I : Inv X pins σ H s) (hf : ∀ b ∈ fp, FpOk X pins H b) (ho : ∀ b ∈ fp, ∃ o, s.heap.get? b = some o ∧ ∀ v, o.data ≠ .cell v) : Inv X (pins ++ pinsAt fp s.heap) σ H s :=
  I.pins_of fun p hp => (List.mem_append.mp hp).elim (fun z => I.pin p (List.mem_append_right _ z)) fun z => by
    obtain ⟨hb, e⟩ := of_pinsAt z
    obtain ⟨f0, f1, f2, _⟩ := hf p.1 hb
    obtain ⟨o, e', d⟩ := ho p.1 hb
    rw [e] at e'; cases e'
    exact ⟨e, f0, f1, f2, d⟩
theorem Inv.unpinned {pins pl : List (Addr × Obj)} {σ : St} {H : Hp} {s : Shared} (I : Inv X (pins ++ pl) σ H s) : Inv X pins σ H s := I.pins_of fun p hp => I.pin p (List.mem_append_right _ (List.mem_append_left _ hp))
theorem ps_for {iter : Expr} {body : List Stmt} {wi : TI} {g : TG} {tb : TS} {pos : Pos} (hp : PassesOwn (model X.prog X.w) X.A X.env X.xe) (hc : X.calm = true) (hi : PI X tg iter wi) (hg : PG X tg g) (hb : PSs X body tb)
    (hs : ∀ x, foldedSetIterable iter X.env x = pure x := by intro _; rfl) : PS X (.For tg iter body [] pos) (tFor wi g tb) := by
  intro pins s σ H D I h
  refine wpAny_For (thn (hi pins s σ H _ I h) fun v s1 h1 => thn h1 fun itv s2 h2 => ?_) hs
  obtain ⟨it, fp, tn, J, H2, e, I2, T, st2, f2, W, ⟨m0, w0⟩, turn⟩ := h2
  subst e
  -- what stays true of the iterator's objects through the loop
  have stat : ∀ {H' : Hp}, (∀ b ∈ fp, H' b = none) → ∀ b ∈ fp, FpOk X pins H' b := fun hn b hb => ⟨hn b hb, (f2 b hb).2⟩
  refine codeAny_forLoop_any (fun n s' => ∃ i σ' H', Inv X pins σ' H' s' ∧ tn i s'.heap ∧ (∀ b ∈ fp, H' b = none) ∧ W i n σ' H') ?_ m0 ⟨0, σ, H2, I2, st2, fun b hb => (f2 b hb).1, w0⟩
  rintro n s3 ⟨i, σ3, H3, I3, st3, fr3, w3⟩
  rcases turn i n σ3 H3 w3 with ⟨stop, qn⟩ | ⟨go, N, hN, step⟩
  · refine wpAny_passesOwn hp (thn (T.done X rfl rfl rfl hc i pins s3 σ3 H3 X.xe I3 (stat fr3) st3 stop) fun r s4 ⟨hr, I4⟩ => ?_)
    subst hr
    exact wpAny_execs_nil ⟨σ3, H3, I4, qn⟩
  · refine wpAny_passesOwn hp (thn (T.item X rfl rfl rfl hc i pins s3 σ3 H3 X.xe I3 (stat fr3) st3 go) fun r s4 ⟨u, hr, h4⟩ => ?_)
    subst hr
    refine wpAny_passesOwn hp (thn h4 fun _ s5 ⟨x, H5, I5, r5, y5, st5, fr5⟩ => ?_)
    have I5' := I5.pinned (stat fr5) (T.obj _ _ st5)
    refine wpAny_passesOwn hp (thn (hg _ s5 σ3 H5 x u _ I5' r5 (step x H5 y5)) fun _ s6 ⟨σ6, H6, I6, q6⟩ => ?_)
    refine wpAny_passesOwn hp (thn (hb _ s6 σ6 H6 _ I6 q6) fun f s7 q7 => ?_)
    have again : ∀ {σ7 : St} {H7 : Hp}, Inv X (pins ++ pinsAt fp s5.heap) σ7 H7 s7 → N σ7 H7 → ∃ m, m < n ∧ ∃ i σ' H', Inv X pins σ' H' s7 ∧ tn i s7.heap ∧ (∀ b ∈ fp, H' b = none) ∧ W i m σ' H' := fun {σ7 H7} I7 n7 => by
      obtain ⟨m', hm, w7⟩ := hN σ7 H7 n7
      refine ⟨m', hm, i + 1, σ7, H7, I7.unpinned, T.keep _ _ _ st5 fun b hb o e => (I7.pin (b, o) (List.mem_append_right _ (List.mem_append_right _ (mem_pinsAt hb e)))).1, fun b hb => ?_, w7⟩
      obtain ⟨o, e, d⟩ := T.obj _ _ st5 b hb
      exact (I7.pin (b, o) (List.mem_append_right _ (List.mem_append_right _ (mem_pinsAt hb e)))).2.1
    cases f with
    | next => obtain ⟨σ7, H7, I7, n7⟩ := q7; exact again I7 n7
    | cont => obtain ⟨σ7, H7, I7, n7⟩ := q7; exact again I7 n7
    | brk => obtain ⟨σ7, H7, I7, q7⟩ := q7; exact ⟨σ7, H7, I7.unpinned, q7⟩
    | ret v => obtain ⟨x7, σ7, H7, I7, r7, q7⟩ := q7; exact ⟨x7, σ7, H7, I7.unpinned, r7, q7⟩
end
end L2
namespace L2
open PySem PySem.Spec PyProof.Rows
abbrev R2 := V → V → Hp → VK → Prop
def OpR (X : Cx) (f : Value → Value → Sem Value) (r : R2) : Prop :=
  ∀ (pins : List (Addr × Obj)) (s : Shared) (σ : St) (H : Hp) (x y : V) (v u : Value) (Q : VK), Inv X pins σ H s → RelV x v → RelV y u → r x y H Q →
    wpAny (model X.prog X.w) X.A (f v u) (EP X pins σ Q) X.xe s
def UnR (X : Cx) (f : Value → Sem Value) (r : V → Hp → VK → Prop) : Prop :=
  ∀ (pins : List (Addr × Obj)) (s : Shared) (σ : St) (H : Hp) (x : V) (v : Value) (Q : VK), Inv X pins σ H s → RelV x v → r x H Q →
    wpAny (model X.prog X.w) X.A (f v) (EP X pins σ Q) X.xe s
def CallR (X : Cx) (f : Value) (r : List V → Hp → VK → Prop) : Prop :=
  ∀ (pins : List (Addr × Obj)) (s : Shared) (σ : St) (H : Hp) (xs : List V) (us : List Value) (Q : VK), Inv X pins σ H s → Vals xs us → r xs H Q →
    wpAny (model X.prog X.w) X.A (call f us) (EP X pins σ Q) X.xe s
def TruR (X : Cx) (r : V → Hp → (Bool → Hp → Prop) → Prop) : Prop :=
  ∀ (pins : List (Addr × Obj)) (s : Shared) (σ : St) (H : Hp) (x : V) (v : Value) (Q : Bool → Hp → Prop), Inv X pins σ H s → RelV x v → r x H Q →
    wpAny (model X.prog X.w) X.A (truthy v) (TP X pins σ Q) X.xe s
def tOp (r : R2) (ta tb : TE) : TE := fun σ H Q => ta σ H fun x H1 => tb σ H1 fun y H2 => r x y H2 Q
def tUn (r : V → Hp → VK → Prop) (ta : TE) : TE := fun σ H Q => ta σ H fun x H1 => r x H1 Q
def rI (C : Int → Int → Prop) (g : Int → Int → V) : R2 := fun x y H Q => ∃ i j, x = .int i ∧ y = .int j ∧ C i j ∧ Q (g i j) H
def rI0 (g : Int → Int → V) : R2 := fun x y H Q => ∃ i j, x = .int i ∧ y = .int j ∧ Q (g i j) H
def rU (g : Int → V) : V → Hp → VK → Prop := fun x H Q => ∃ i, x = .int i ∧ Q (g i) H
section
variable {X : Cx} {a b c : Expr} {ta tb tc : TE} {pos : Pos}
theorem binT (ha : PE X a ta) (hb : PE X b tb) {pins : List (Addr × Obj)} {s : Shared} {σ : St} {H : Hp} {R : V → V → Hp → Prop} (I : Inv X pins σ H s)
    (h : ta σ H fun x H1 => tb σ H1 fun y H2 => R x y H2) {Q : Value → Shared → Prop} {f : Value → Value → Sem Value}
    (hf : ∀ v u s2 x y H2, Inv X pins σ H2 s2 → RelV x v → RelV y u → R x y H2 → wpAny (model X.prog X.w) X.A (f v u) Q X.xe s2) :
    wpAny (model X.prog X.w) X.A (eval a X.env) (fun v s₁ => wpAny (model X.prog X.w) X.A (eval b X.env) (fun u s₂ => wpAny (model X.prog X.w) X.A (f v u) Q X.xe s₂) X.xe s₁) X.xe s := by
  refine thn (ha pins s σ H _ I h) fun v s1 ⟨x, H1, I1, r1, q1⟩ => ?_
  refine thn (hb pins s1 σ H1 _ I1 q1) fun u s2 ⟨y, H2, I2, r2, q2⟩ => ?_
  exact hf v u s2 x y H2 I2 r1 r2 q2
theorem pe_op {op : Operator} {r : R2} (ho : OpR X (binaryOp op) r) (ha : PE X a ta) (hb : PE X b tb) : PE X (.BinOp a op b pos) (tOp r ta tb) := by
  intro pins s σ H Q I h
  exact wpAny_BinOp (binT ha hb I h fun v u s2 x y H2 I2 rx ry q => ho pins s2 σ H2 x y v u Q I2 rx ry q)
theorem pe_un {op : UnaryOp} {r : V → Hp → VK → Prop} (ho : UnR X (unaryOp op) r) (ha : PE X a ta) : PE X (.UnaryOp op a pos) (tUn r ta) := by
  intro pins s σ H Q I h
  exact UnaryOp_ (thn (ha pins s σ H _ I h) fun v s1 ⟨x, H1, I1, r1, q1⟩ => ho pins s1 σ H1 x v Q I1 r1 q1)
theorem opI {f : Value → Value → Sem Value} {C : Int → Int → Prop} {g : Int → Int → Int}
    (rule : ∀ (i j : Int) (t u : Tok) (s : Shared) (Q : Value → Shared → Prop) (E : Value → Shared → Prop), C i j → Q (.int (g i j) s.toks) { s with toks := s.toks + 1 } → wpAny (model X.prog X.w) X.A (f (.int i t) (.int j u)) Q E s) :
    OpR X f (rI C fun i j => .int (g i j)) := by
  intro pins s σ H x y v u Q I rx ry h
  obtain ⟨i, j, rfl, rfl, hc, q⟩ := h
  obtain ⟨t, rfl⟩ := rx
  obtain ⟨t', rfl⟩ := ry
  exact rule i j t t' s _ _ hc ⟨.int (g i j), H, I.tok _, ⟨_, rfl⟩, q⟩
theorem opI0 {f : Value → Value → Sem Value} {g : Int → Int → Int}
    (rule : ∀ (i j : Int) (t u : Tok) (s : Shared) (Q : Value → Shared → Prop) (E : Value → Shared → Prop), Q (.int (g i j) s.toks) { s with toks := s.toks + 1 } → wpAny (model X.prog X.w) X.A (f (.int i t) (.int j u)) Q E s) :
    OpR X f (rI0 fun i j => .int (g i j)) := by
  intro pins s σ H x y v u Q I rx ry h
  obtain ⟨i, j, rfl, rfl, q⟩ := h
  obtain ⟨t, rfl⟩ := rx
  obtain ⟨t', rfl⟩ := ry
  exact rule i j t t' s _ _ ⟨.int (g i j), H, I.tok _, ⟨_, rfl⟩, q⟩
theorem opB0 {f : Value → Value → Sem Value} {g : Int → Int → Bool}
    (rule : ∀ (i j : Int) (t u : Tok) (s : Shared) (Q : Value → Shared → Prop) (E : Value → Shared → Prop), Q (.bool (g i j)) s → wpAny (model X.prog X.w) X.A (f (.int i t) (.int j u)) Q E s) :
    OpR X f (rI0 fun i j => .bl (g i j)) := by
  intro pins s σ H x y v u Q I rx ry h
  obtain ⟨i, j, rfl, rfl, q⟩ := h
  obtain ⟨t, rfl⟩ := rx
  obtain ⟨t', rfl⟩ := ry
  exact rule i j t t' s _ _ ⟨.bl (g i j), H, I, rfl, q⟩
def CPow (i j : Int) : Prop := 0 ≤ j ∧ j ≤ 1000000 ∧ i.natAbs < 2 ^ 64
theorem op_add : OpR X (binaryOp .Add) (rI0 fun i j => .int (i + j)) := opI0 fun _ _ _ _ _ _ _ q => add_int q
theorem op_sub : OpR X (binaryOp .Sub) (rI0 fun i j => .int (i - j)) := opI0 fun _ _ _ _ _ _ _ q => sub_int q
theorem op_mod : OpR X (binaryOp .Mod) (rI (fun _ j => 0 < j) fun i j => .int (i % j)) := opI fun i j _ _ _ _ _ hc q => by
  have h1 : (0 : Int) < j := hc
  exact mod_int' (by omega) (by rw [Int.fmod_eq_emod_of_nonneg i (by omega)]; exact q)
theorem op_pow : OpR X (binaryOp .Pow) (rI CPow fun i j => .int (i ^ j.toNat)) := opI fun _ _ _ _ _ _ _ hc q => pow_int_small hc.1 hc.2.1 hc.2.2 q
theorem unI {f : Value → Sem Value} {g : Int → Int}
    (rule : ∀ (i : Int) (t : Tok) (s : Shared) (Q : Value → Shared → Prop) (E : Value → Shared → Prop), Q (.int (g i) s.toks) { s with toks := s.toks + 1 } → wpAny (model X.prog X.w) X.A (f (.int i t)) Q E s) :
    UnR X f (rU fun i => .int (g i)) := by
  intro pins s σ H x v Q I rx h
  obtain ⟨i, rfl, q⟩ := h
  obtain ⟨t, rfl⟩ := rx
  exact rule i t s _ _ ⟨.int (g i), H, I.tok _, ⟨_, rfl⟩, q⟩
theorem un_neg : UnR X (unaryOp .USub) (rU fun i => .int (-i)) := unI fun _ _ _ _ _ q => neg_int q
end
section
variable {X : Cx} {a b c : Expr} {ta tb tc : TE} {pos : Pos}
theorem fin_bl {pins : List (Addr × Obj)} {σ : St} {H : Hp} {s : Shared} {Q : VK} {k k' : Bool} (I : Inv X pins σ H s) (q : Q (.bl k) H) (e : k = k') : EP X pins σ Q (.bool k') s := by
  subst e
  exact ⟨.bl k, H, I, rfl, q⟩
theorem op_lt : OpR X (compareOp .Lt) (rI0 fun i j => .bl (decide (i < j))) := opB0 fun _ _ _ _ _ _ _ q => lt_int q
theorem op_le : OpR X (compareOp .LtE) (rI0 fun i j => .bl (decide (i ≤ j))) := opB0 fun _ _ _ _ _ _ _ q => le_int q
theorem op_gt : OpR X (compareOp .Gt) (rI0 fun i j => .bl (decide (j < i))) := opB0 fun _ _ _ _ _ _ _ q => gt_int q
theorem op_ge : OpR X (compareOp .GtE) (rI0 fun i j => .bl (decide (j ≤ i))) := opB0 fun _ _ _ _ _ _ _ q => ge_int q
theorem op_isN : OpR X (compareOp .Is) (fun x y H Q => y = .non ∧ Q (.bl (decide (x = .non))) H) := by
  intro pins s σ H x y v u Q I rx ry h
  obtain ⟨rfl, q⟩ := h
  cases ry
  refine is_none_gen (fin_bl I q ?_)
  cases x <;> first
    | (cases rx; rfl)
    | (obtain ⟨t, rfl⟩ := rx; rfl)
theorem nomark (b : Expr) {op : CmpOp} (h : op ≠ .In := by decide) (h2 : op ≠ .NotIn := by decide) : behindInMarks op b = false := by
  have e1 : (op == CmpOp.In) = false := by cases op <;> first | rfl | exact absurd rfl h
  have e2 : (op == CmpOp.NotIn) = false := by cases op <;> first | rfl | exact absurd rfl h2
  cases b <;> simp [behindInMarks, e1, e2]
theorem pe_cmpR {op : CmpOp} {r : R2} (ho : OpR X (compareOp op) r) (ha : PE X a ta) (hb : PE X b tb) (hm : behindInMarks op b = false) : PE X (.Compare a [op] [b] pos) (tOp r ta tb) := by
  intro pins s σ H Q I h
  exact wpAny_Compare1 (binT ha hb I h fun v u s2 x y H2 I2 rx ry q => ho pins s2 σ H2 x y v u Q I2 rx ry q) hm
def tTest (t : TE) : TT := fun σ H Q => t σ H fun x H' => ∃ k, x = .bl k ∧ Q k H'
theorem pt_cmpR {op : CmpOp} {r : R2} (ho : OpR X (compareOp op) r) (ha : PE X a ta) (hb : PE X b tb) (hm : behindInMarks op b = false) : PT X (.Compare a [op] [b] pos) (tTest (tOp r ta tb)) := by
  intro pins s σ H Q I h
  refine wpAny_isTrue_Compare1 (thn (ha pins s σ H _ I h) fun v s1 ⟨x, H1, I1, r1, q1⟩ => thn (hb pins s1 σ H1 _ I1 q1) fun u s2 ⟨y, H2, I2, r2, q2⟩ =>
    thn (ho pins s2 σ H2 x y v u _ I2 r1 r2 q2) fun c s3 ⟨z, H3, I3, r3, k, e, q3⟩ => ?_) hm
  subst e
  cases r3
  exact wpAny_truthy_bool ⟨H3, I3, q3⟩
def TruV (K : PySem.W.Frag) (x : V) (H : Hp) (k : Bool) : Prop :=
  match x with
  | .non => k = false
  | .bl b => k = b
  | .int i => k = (i != 0)
  | .str y => y.length ≤ sizeLine ∧ k = ((y.length : Int) != 0)
  | .byt y => y.size ≤ sizeLine ∧ k = ((y.size : Int) != 0)
  | .ref p => (∃ xs, SqL K H p xs ∧ k = !xs.isEmpty) ∨ (∃ xs, SqT K H p xs ∧ k = !xs.isEmpty) ∨ ∃ kvs, H p = some (.dK kvs) ∧ k = !kvs.isEmpty
  | _ => False
theorem isEmpty_kv {κ : Type} {kvs : List (κ × V)} {vs : List (κ × Value)} (r : KV kvs vs) : (!vs.isEmpty) = !kvs.isEmpty := by
  cases r <;> rfl
theorem isEmpty_of {xs : List V} {its : List Value} (r : Vals xs its) : (!its.toArray.isEmpty) = !xs.isEmpty := by
  cases r <;> simp
theorem line63 : (sizeLine : Nat) < 2 ^ 63 := by rw [sizeLine_eq]; decide
theorem tru_ok : TruR X (fun x H Q => ∃ k, TruV X.K x H k ∧ Q k H) := by
  intro pins s σ H x v Q I rx h
  obtain ⟨k, e, q⟩ := h
  have hl := line63
  have hs : sizeLine = 16777216 := sizeLine_eq
  cases x with
  | non =>
    cases rx
    have e' : k = false := e
    subst e'
    exact truthy_none ⟨H, I, q⟩
  | bl b =>
    cases rx
    have e' : k = b := e
    subst e'
    exact wpAny_truthy_bool ⟨H, I, q⟩
  | int i =>
    obtain ⟨t, rfl⟩ := rx
    have e' : k = (i != 0) := e
    subst e'
    exact PySem.P.truthy_int ⟨H, I, q⟩
  | str y =>
    obtain ⟨t, rfl⟩ := rx
    obtain ⟨hy, e'⟩ : y.length ≤ sizeLine ∧ k = ((y.length : Int) != 0) := e
    subst e'
    exact PySem.P.truthy_str (by omega) ⟨H, I.tok _, q⟩
  | byt y =>
    obtain ⟨t, rfl⟩ := rx
    obtain ⟨hy, e'⟩ : y.size ≤ sizeLine ∧ k = ((y.size : Int) != 0) := e
    subst e'
    exact PySem.W.truthy_bytes (by omega) ⟨H, I.tok _, q⟩
  | ref p =>
    cases rx
    have e' : (∃ xs, SqL X.K H p xs ∧ k = !xs.isEmpty) ∨ (∃ xs, SqT X.K H p xs ∧ k = !xs.isEmpty) ∨ ∃ kvs, H p = some (.dK kvs) ∧ k = !kvs.isEmpty := e
    rcases e' with ⟨xs, hx, e'⟩ | ⟨xs, hx, e'⟩ | ⟨kvs, hx, e'⟩
    · subst e'
      obtain ⟨its, r, pl, hz⟩ := I.list hx
      have hlen := r.length
      exact wpAny_truthy_list pl.isList (by simp only [List.size_toArray]; omega) ⟨H, I.tok _, by rw [isEmpty_of r]; exact q⟩
    · subst e'
      obtain ⟨its, r, pl, hz⟩ := I.tuple hx
      have hlen := r.length
      exact truthy_tuple pl (by simp only [List.size_toArray]; omega) ⟨H, I.tok _, by rw [isEmpty_of r]; exact q⟩
    · subst e'
      obtain ⟨hz, hS, vs, r, m⟩ : kvs.length ≤ sizeLine ∧ (p == sysModules) = false ∧ ∃ vs, KV kvs vs ∧ s.heap.DictOf (mixKind X.prog X.w) p vs := I.hok p _ hx
      have hlen : kvs.length = vs.length := Paired.length r
      exact wpAny_truthy_dict hS m (by omega) ⟨H, I.tok _, by rw [isEmpty_kv r]; exact q⟩
  | _ => exact (show False from e).elim
theorem pt_truth (ha : PE X a ta) (he : ∀ whole, isTrue a X.env whole = (do let v ← whole; standAt a.pos; holding [v] (truthy v))) :
    PT X a (fun σ H Q => ta σ H fun x H' => ∃ k, TruV X.K x H' k ∧ Q k H') := by
  intro pins s σ H Q I h
  exact isTrue_plain (thn (ha pins s σ H _ I h) fun v s1 ⟨x, H1, I1, r1, q1⟩ => tru_ok pins s1 σ H1 x v Q I1 r1 q1) (he _)
theorem op_add_str : OpR X (binaryOp .Add) (fun x y H Q => ∃ i j, x = .str i ∧ y = .str j ∧ i.length + j.length ≤ sizeLine ∧ Q (.str (i ++ j)) H) := by
  intro pins s σ H x y v u Q I rx ry h
  obtain ⟨i, j, rfl, rfl, hz, q⟩ := h
  obtain ⟨t, rfl⟩ := rx
  obtain ⟨t', rfl⟩ := ry
  exact add_str (fun t' tk => ⟨.str (i ++ j), H, I.tok _, ⟨_, rfl⟩, q⟩) hz
theorem vals1 {x : V} {us : List Value} (r : Vals [x] us) : ∃ u, us = [u] ∧ RelV x u := by
  cases r with
  | cons r1 r2 => cases r2; exact ⟨_, rfl, r1⟩
theorem vals2 {x y : V} {us : List Value} (r : Vals [x, y] us) : ∃ u w', us = [u, w'] ∧ RelV x u ∧ RelV y w' := by
  cases r with
  | cons r1 r2 =>
    cases r2 with
    | cons r3 r4 => cases r4; exact ⟨_, _, rfl, r1, r3⟩
theorem call_abs : CallR X (.builtin "abs") (fun xs H Q => ∃ i, xs = [.int i] ∧ Q (.int (if i < 0 then -i else i)) H) := by
  intro pins s σ H xs us Q I r h
  obtain ⟨i, rfl, q⟩ := h
  obtain ⟨u, rfl, t, rfl⟩ := vals1 r
  exact call_abs_int fun u tk => ⟨.int (if i < 0 then -i else i), H, I.tok _, ⟨_, rfl⟩, q⟩
theorem call_max2 (hc : X.calm = true) : CallR X (.builtin "max") (fun xs H Q => ∃ i j, xs = [.int i, .int j] ∧ Q (.int (if j > i then j else i)) H) := by
  intro pins s σ H xs us Q I r h
  obtain ⟨i, j, rfl, q⟩ := h
  obtain ⟨u, w', rfl, ⟨t, rfl⟩, ⟨t', rfl⟩⟩ := vals2 r
  refine max_two_ints (I.ok.hd hc) fun h' tk k => ⟨_, H, I.kept k, ?_, q⟩
  by_cases hj : j > i
  · rw [if_pos hj, if_pos hj]; exact ⟨_, rfl⟩
  · rw [if_neg hj, if_neg hj]; exact ⟨_, rfl⟩
theorem call_int1 : CallR X (.type "int") (fun xs H Q => (∃ i, xs = [.int i] ∧ Q (.int i) H) ∨ ∃ k, xs = [.bl k] ∧ Q (.int (if k then 1 else 0)) H) := by
  intro pins s σ H xs us Q I r h
  rcases h with ⟨i, rfl, q⟩ | ⟨k, rfl, q⟩
  · obtain ⟨u, rfl, t, rfl⟩ := vals1 r
    exact call_int_int ⟨.int i, H, I, ⟨_, rfl⟩, q⟩
  · obtain ⟨u, rfl, r1⟩ := vals1 r
    cases r1
    exact call_int_bool ⟨.int (if k then 1 else 0), H, I.tok _, ⟨_, rfl⟩, q⟩
end
end L2
namespace L2
open PySem PySem.Spec PyProof.Rows
section
variable {prog : Program} {w : World} {A : Around} {E : Value → Shared → Prop} {s : Shared} {K : PySem.W.Frag} {x dx C f : Addr} {mA : Str → Option Value} {name : Str} {v : Value}
end
section
variable {P : Program} {w : World} {H H' : Hp} {h h' : Heap} {a C dx : Addr} {fs fs' : List (Str × V)}
end
structure Cls (K : PySem.W.Frag) (C : Addr) : Prop where
  pg : PySem.W.plainGet K C Str.empty = true
  hd : PySem.W.hasDictIn K C = true
  po : PySem.W.plainOver K C = true
  sa : PySem.W.findIn K (.ref C) "__setattr__" = some (some (.builtin "object.__setattr__"))
section
variable {X : Cx} {pins : List (Addr × Obj)} {σ : St} {H : Hp} {s : Shared} {a C dx : Addr} {fs : List (Str × V)} {f : Str} {v : V} {A : Around} {E : Value → Shared → Prop}
end
section
variable {X : Cx} {o e value : Expr} {f : Str} {pos pos' tpos : Pos} {ta tv : TE}
end
section
variable {X : Cx} {pins : List (Addr × Obj)} {σ : St} {H : Hp} {s : Shared} {A : Around} {E : Value → Shared → Prop} {Q : Value → Shared → Prop} {c : Value} {b : Bool}
inductive TyOf (K : PySem.W.Frag) (H : Hp) : V → Value → Prop where
  | non : TyOf K H .non (.type "NoneType")
  | bl (x : Bool) : TyOf K H (.bl x) (.type "bool")
  | int (i : Int) : TyOf K H (.int i) (.type "int")
  | str (x : Str) : TyOf K H (.str x) (.type "str")
  | flt (x : UInt64) : TyOf K H (.flt x) (.type "float")
  | lst {a : Addr} {xs : List V} (e : H a = some (.lst xs)) : TyOf K H (.ref a) (.type "list")
  | frz {a : Addr} {o : Obj} {xs : List V} (e : H a = some (.frz o (.lst xs))) : TyOf K H (.ref a) (.type "list")
  | tup {a : Addr} {xs : List V} (e : H a = some (.tup xs)) : TyOf K H (.ref a) (.type "tuple")
  | dK {a : Addr} {kvs : List (Key × V)} (e : H a = some (.dK kvs)) : TyOf K H (.ref a) (.type "dict")
  | dT {a : Addr} {kvs : List (List Key × V)} (e : H a = some (.dT kvs)) : TyOf K H (.ref a) (.type "dict")
  | ins {a C dx : Addr} {fs : List (Str × V)} (e : H a = some (.ins C dx fs)) (cl : Cls K C) (ha : PySem.W.findIn K (.ref C) "__class__" = some (some (.builtin "object.__class__")))
      (hn : PySem.W.specialIn K (.builtin "object.__class__") "__get__" = some (some (.builtin "getset_descriptor.__get__"))) (htk : PySem.W.takesIn K (.builtin "object.__class__") = some true)
      (hm : PySem.W.mroIn K C (.type "object") = some true) : TyOf K H (.ref a) (.ref C)
end
end L2
namespace L2
open PySem PySem.Spec PyProof.Rows
structure Room (k : Nat) (A : Around) : Prop where
  hd : A.handled = none
  dp : A.depth + 3 * k + 5 < recursionLimit
  un : A.units + 16 * k + 200 < cLine
theorem Room.mono {j k : Nat} {A : Around} (r : Room k A) (h : j ≤ k) : Room j A := ⟨r.hd, by have := r.dp; omega, by have := r.un; omega⟩
theorem Room.deeper {k : Nat} {A : Around} (r : Room (k + 1) A) (env : Env) : Room k (A.deeper env) :=
  ⟨r.hd, by have := r.dp; show A.depth + 1 + 3 * k + 5 < _; omega, by have := r.un; show A.units + 3 + 16 * k + 200 < _; omega⟩
theorem Room.depth {k : Nat} {A : Around} (r : Room k A) : A.depth < recursionLimit := by have := r.dp; omega
theorem Room.units {k : Nat} {A : Around} (r : Room k A) : A.units + 64 < cLine := by have := r.un; omega
def tNil : TA := fun _ H Q => Q [] H
def tCons (ta : TE) (tr : TA) : TA := fun σ H Q => ta σ H fun x H1 => tr σ H1 fun xs H2 => Q (x :: xs) H2
section
variable {X : Cx} {e : Expr} {es : List Expr} {te : TE} {t : TA} {pos : Pos}
theorem pa_nil : PA X [] tNil := fun _ _ _ _ H Q I h => Calls.spliced_nil ⟨[], H, I, .nil, h⟩
theorem pa_cons (ha : PE X e te) (hr : PA X es t) (hs : starEach (e :: es) X.env = (false, eval e X.env) :: starEach es X.env := by rfl) : PA X (e :: es) (tCons te t) := by
  intro pos pins s σ H Q I h
  rw [hs]
  show wpAny _ _ (spliced ((false, eval e X.env) :: backTo pos (starEach es X.env))) _ _ s
  refine Calls.spliced_cons (thn (ha pins s σ H _ I h) fun u s1 ⟨x, H1, I1, r1, q1⟩ => ?_)
  exact thn (hr pos pins s1 σ H1 _ I1 q1) fun us s2 ⟨xs, H2, I2, r2, q2⟩ => ⟨x :: xs, H2, I2, .cons r1 r2, q2⟩
def tTup (t : TA) : TE := fun σ H Q => t σ H fun xs H1 => xs.length ≤ sizeLine ∧ ∀ p, H1 p = none → Q (.ref p) (upd H1 p (.tup xs))
def tLst (t : TA) : TE := fun σ H Q => t σ H fun xs H1 => xs.length ≤ sizeLine ∧ ∀ p, H1 p = none → Q (.ref p) (upd H1 p (.lst xs))
theorem pe_tup {x1} (h : PA X es t) : PE X (.Tuple es x1 pos) (tTup t) := by
  intro pins s σ H Q I hq
  refine wpAny_Tuple_spliced (thn (h pos pins s σ H _ I hq) fun us s1 ⟨xs, H1, I1, r, z, q⟩ => ⟨by rw [← r.length]; exact z, ?_⟩)
  have hf : H1 s1.heap.objs.size = none := I1.hok.fresh (Nat.le_refl _)
  refine ⟨.ref s1.heap.objs.size, upd H1 s1.heap.objs.size (.tup xs), I1.laid (t' := s1.toks) (fun b u e => Heap.get?_push_of_some _ e) (Nat.le_refl _) ?_, rfl, q _ hf⟩
  exact ⟨z, us, r, ⟨_, Heap.get?_push_size _ rfl, rfl, _, rfl⟩⟩
theorem pe_lst (h : PA X es t) : PE X (.List es pos) (tLst t) := by
  intro pins s σ H Q I hq
  refine wpAny_List_spliced (thn (h pos pins s σ H _ I hq) fun us s1 ⟨xs, H1, I1, r, z, q⟩ => ⟨by rw [← r.length]; exact z, ?_⟩)
  have hf : H1 s1.heap.objs.size = none := I1.hok.fresh (Nat.le_refl _)
  refine ⟨.ref s1.heap.objs.size, upd H1 s1.heap.objs.size (.lst xs), I1.laid (t' := s1.toks) (fun b u e => Heap.get?_push_of_some _ e) (Nat.le_refl _) ?_, rfl, q _ hf⟩
  exact ⟨z, us, 0, r, Heap.get?_push_size _ rfl⟩
end
abbrev Sp := List V → Hp → VK → XK → Prop
abbrev CXT := List Env → Hp → Shared → XK → Value → Shared → Prop
structure Env0 (P : Program) (w : World) (K : PySem.W.Frag) (mg : Str → Option Value) (base : Heap) (A : Around) (outer : List Env) (s : Shared) (H : Hp) : Prop where
  frames : A.frames = some outer
  mod : Mod K mg base
  bs : ∀ b o, base.get? b = some o → s.heap.get? b = some o ∧ H b = none
  bsz : base.objs.size ≤ s.heap.objs.size
  funs : s.heap.FunFrames base outer
  frf : ∀ b ∈ frs outer, H b = none
  hok : HOk P w H s.heap
  bare : AllBare s.gens
def CE (outer : List Env) (P : Program) (w : World) (H : Hp) (s : Shared) (Q : VK) (u : Value) (s' : Shared) : Prop :=
  ∃ v H', s'.os = s.os ∧ AllBare s'.gens ∧ Un (frs outer) [] H H' s.heap s'.heap ∧ HOk P w H' s'.heap ∧ RelV v u ∧ Q v H'
def CR (CX : CXT) (outer : List Env) (P : Program) (w : World) (H : Hp) (s : Shared) (Q : VK) (E : XK) (r : Result) (s' : Shared) : Prop :=
  match r with
  | .ok (.ret u) => CE outer P w H s Q u s'
  | .ok _ => False
  | .error e => CX outer H s E e s'
structure FnOk (P : Program) (w : World) (K : PySem.W.Frag) (mg : Str → Option Value) (base : Heap) (CX : CXT) (k : Nat) (f : Addr) (fd : FuncData) (ps : List Str) (sp : Sp) : Prop where
  len : ∀ vs H Q E, sp vs H Q E → vs.length = ps.length
  run : ∀ (A : Around) (outer : List Env) (s : Shared) (H : Hp) (args : Args) (us : List Value) (vs : List V) (Q : VK) (E : XK), Room k A → Env0 P w K mg base A outer s H → BindsTo s fd args (ps.zip us) → Vals vs us → sp vs H Q E →
    codeAny (model P w) A (.call (.ref f) args) (CR CX outer P w H s Q E) s
theorem FnOk.mono {P : Program} {w : World} {K : PySem.W.Frag} {mg : Str → Option Value} {base : Heap} {CX : CXT} {j k : Nat} {f : Addr} {fd : FuncData} {ps : List Str} {sp : Sp} (F : FnOk P w K mg base CX j f fd ps sp) (h : j ≤ k) :
    FnOk P w K mg base CX k f fd ps sp := ⟨F.len, fun A outer s H args us vs Q E hr => F.run A outer s H args us vs Q E (hr.mono h)⟩
theorem FnOk.imp {P : Program} {w : World} {K : PySem.W.Frag} {mg : Str → Option Value} {base : Heap} {CX : CXT} {k : Nat} {f : Addr} {fd : FuncData} {ps : List Str} {sp sp' : Sp} (F : FnOk P w K mg base CX k f fd ps sp)
    (h : ∀ vs H Q E, sp' vs H Q E → sp vs H Q E) : FnOk P w K mg base CX k f fd ps sp' :=
  ⟨fun vs H Q E q => F.len vs H Q E (h _ _ _ _ q), fun A outer s H args us vs Q E hr he hb hv hs => F.run A outer s H args us vs Q E hr he hb hv (h _ _ _ _ hs)⟩
section
variable {X : Cx} {pins : List (Addr × Obj)} {σ : St} {H : Hp} {s s' : Shared}
theorem Inv.env0 (I : Inv X pins σ H s) : Env0 X.prog X.w X.K X.mg X.base X.A X.stack s H :=
  ⟨I.ok.frames, I.ok.mod, I.bs, Nat.le_trans I.ok.bsz I.sz, I.stack, I.stkFree, I.hok, I.bare⟩
theorem Inv.after {Q : VK} {u : Value} (I : Inv X pins σ H s) (h : CE X.stack X.prog X.w H s Q u s') : EP X pins σ Q u s' := by
  obtain ⟨v, H', os, bare, un, hok, r, q⟩ := h
  obtain ⟨hh, g, d, t, os'⟩ := s'
  obtain rfl : os' = s.os := os
  exact ⟨v, H', I.call (h' := hh) (g' := g) (d' := d) (t' := t) (ch := []) un hok bare (fun b z => absurd z (by simp)), r, q⟩
end
def tCall (sp : Sp) (dvs : List V) (E : XK) (t : TA) : TE := fun σ H Q => t σ H fun vs H1 => sp (vs ++ dvs) H1 Q E
def Binds (K : PySem.W.Frag) (fd : FuncData) (ps : List Str) (ds : List Value) : Prop :=
  ∀ (s : Shared) (us : List Value), K.In s.heap → (us ++ ds).length = ps.length → BindsTo s fd ⟨us, []⟩ (ps.zip (us ++ ds))
theorem Binds.all {K : PySem.W.Frag} {fd : FuncData} {ps : List Str} (h : ∀ us : List Value, us.length = ps.length → bindArgs fd ⟨us, []⟩ = pure (ps.zip us)) : Binds K fd ps [] := fun s us _ hl => by
  rw [List.append_nil] at hl ⊢
  exact .of_eq (h us hl)
def Passes (CX : CXT) (X : Cx) (E : XK) : Prop := ∀ (pins : List (Addr × Obj)) (σ : St) (H : Hp) (s : Shared) (e : Value) (s' : Shared), Inv X pins σ H s → CX X.stack H s E e s' → X.xe e s'
section
variable {X : Cx} {CX : CXT} {k : Nat} {f C : Addr} {fd : FuncData} {ps : List Str} {sp : Sp} {dvs : List V} {ds : List Value} {E : XK} {x m : Str} {p pos apos : Pos} {e o : Expr} {es : List Expr} {ta : TE} {t : TA}
theorem run_fn {pins : List (Addr × Obj)} {σ : St} {H : Hp} {s : Shared} {Q : VK} {us : List Value} {vs : List V} (F : FnOk X.prog X.w X.K X.mg X.base CX k f fd ps sp) (hr : Room k X.A) (hb : Binds X.K fd ps ds) (hd : Vals dvs ds) (hx : Passes CX X E)
    (I : Inv X pins σ H s) (r : Vals vs us) (h : sp (vs ++ dvs) H Q E) : wpAny (model X.prog X.w) X.A (call (.ref f) us) (EP X pins σ Q) X.xe s := by
  have r2 : Vals (vs ++ dvs) (us ++ ds) := r.append hd
  have hl : (us ++ ds).length = ps.length := by rw [← r2.length]; exact F.len _ _ _ _ h
  refine wpAny_call (codeAny_mono (F.run X.A X.stack s H ⟨us, []⟩ (us ++ ds) (vs ++ dvs) Q E hr I.env0 (hb s us I.kIn hl) r2 h) fun r s' hq => ?_)
  cases r with
  | error e => exact hx pins σ H s e s' I hq
  | ok fl =>
    cases fl with
    | ret u => exact I.after hq
    | next => exact False.elim hq
    | brk => exact False.elim hq
    | cont => exact False.elim hq
theorem pe_call (F : FnOk X.prog X.w X.K X.mg X.base CX k f fd ps sp) (hr : Room k X.A) (hg : Gl X x) (hm : X.mg x = some (.ref f)) (hk : PySem.W.keepIn X.K (.ref f) = true) (hb : Binds X.K fd ps ds) (hd : Vals dvs ds) (hx : Passes CX X E)
    (ha : PA X (e :: es) t) (hdb : (x == ("__debug__" : Str)) = false := by decide) (he : starEach (e :: es) X.env = (false, eval e X.env) :: starEach es X.env := by rfl) (hpl : (backTo pos (starEach es X.env)).any (·.1) = false := by rfl) :
    PE X (.Call (.Name x p) (e :: es) [] pos) (tCall sp dvs E t) := by
  intro pins s σ H Q I h
  refine wpAny_Call_Name_kw (ld_glob I hg hm ?_ hdb)
  refine PySem.W.callWith_K (h₀ := X.base) I.ok.mod.kin hk (thn (ha pos pins s σ H _ I h) fun us s1 ⟨vs, H1, I1, r, q⟩ => ⟨I1.kIn, ?_⟩) he hpl
  exact run_fn F hr hb hd hx I1 r q
structure Mk (K : PySem.W.Frag) (C f : Addr) : Prop where
  makes : PySem.W.makesIn K C = true
  init : PySem.W.findIn K (.ref C) "__init__" = some (some (.ref f))
  fn : PySem.W.isFn K (.ref f) = true
  kp : PySem.W.keepIn K (.ref C) = true
end
section
variable {X : Cx} {CX : CXT} {k : Nat} {f C : Addr} {fd : FuncData} {ps ks : List Str} {sp : Sp} {E : XK} {x m : Str} {p pos apos kpos : Pos} {e o : Expr} {es : List Expr} {kws : List Keyword} {te ta : TE} {t tk : TA} {nm : Option Str}
variable {g : List Value → List Value → List Value} {gV : List V → List V → List V}
end
structure FnScope (N P : List Str) (sc : Scope) : Prop where
  kind : sc.kind = .function
  co : sc.isCoroutine = false
  gen : sc.isGenerator = false
  nd : N.Nodup
  pre : N.take P.length = P
  par : ∀ x ∈ P, sc.names.lookup x = some .local ∨ sc.names.lookup x = some .cell
  nofree : ∀ y ∈ sc.names, y.2 ≠ .free
theorem bindL_out {kindOf : Str → Option NameKind} {x : Str} : ∀ {binds : List (Str × Value)} {m : Str → Option Value}, (∀ v, (x, v) ∉ binds) → bindL kindOf binds m x = m x
  | [], _, _ => rfl
  | (n, v) :: r, m, h => by
    unfold bindL
    rw [bindL_out fun w hw => h w (List.mem_cons_of_mem _ hw)]
    split
    · have : x ≠ n := by rintro rfl; exact h v List.mem_cons_self
      simp [this]
    · rfl
theorem bindC_out {kindOf : Str → Option NameKind} {x : Str} : ∀ {binds : List (Str × Value)} {m : Str → Option Value}, (∀ v, (x, v) ∉ binds) → bindC kindOf binds m x = m x
  | [], _, _ => rfl
  | (n, v) :: r, m, h => by
    unfold bindC
    rw [bindC_out fun w hw => h w (List.mem_cons_of_mem _ hw)]
    split
    · rfl
    · have : x ≠ n := by rintro rfl; exact h v List.mem_cons_self
      simp [this]
theorem bindL_get {kindOf : Str → Option NameKind} {x : Str} {v : Value} : ∀ {P : List Str} {vs : List Value} {i : Nat} {m : Str → Option Value}, P.Nodup → P[i]? = some x → vs[i]? = some v → kindOf x = some .local →
    bindL kindOf (P.zip vs) m x = some v
  | [], _, _, _, _, h, _, _ => by simp at h
  | _ :: _, [], _, _, _, _, h, _ => by simp at h
  | p :: P, w :: vs, 0, m, nd, h1, h2, hk => by
    simp at h1 h2; subst h1; subst h2
    show bindL kindOf ((p, w) :: P.zip vs) m p = _
    unfold bindL
    rw [bindL_out fun v hv => (List.nodup_cons.mp nd).1 (List.of_mem_zip hv).1, if_pos hk]
    simp
  | p :: P, w :: vs, i + 1, m, nd, h1, h2, hk => by
    show bindL kindOf ((p, w) :: P.zip vs) m x = _
    unfold bindL
    exact bindL_get (i := i) (List.nodup_cons.mp nd).2 (by simpa using h1) (by simpa using h2) hk
theorem bindC_get {kindOf : Str → Option NameKind} {x : Str} {v : Value} : ∀ {P : List Str} {vs : List Value} {i : Nat} {m : Str → Option Value}, P.Nodup → P[i]? = some x → vs[i]? = some v → kindOf x ≠ some .local →
    bindC kindOf (P.zip vs) m x = some v
  | [], _, _, _, _, h, _, _ => by simp at h
  | _ :: _, [], _, _, _, _, h, _ => by simp at h
  | p :: P, w :: vs, 0, m, nd, h1, h2, hk => by
    simp at h1 h2; subst h1; subst h2
    show bindC kindOf ((p, w) :: P.zip vs) m p = _
    unfold bindC
    rw [bindC_out fun v hv => (List.nodup_cons.mp nd).1 (List.of_mem_zip hv).1, if_neg hk]
    simp
  | p :: P, w :: vs, i + 1, m, nd, h1, h2, hk => by
    show bindC kindOf ((p, w) :: P.zip vs) m x = _
    unfold bindC
    exact bindC_get (i := i) (List.nodup_cons.mp nd).2 (by simpa using h1) (by simpa using h2) hk
def start (N : List Str) (vs : List V) : St := vs.map some ++ List.replicate (N.length - vs.length) none
def cxOf (CX : CXT) (P : Program) (w : World) (K : PySem.W.Frag) (mg : Str → Option Value) (base : Heap) (N : List Str) (qual : Str) (scope : Scope) (f : Addr) (cd : Value) (A : Around) (outer : List Env) (s : Shared) (H : Hp) (E : XK) : Cx where
  prog := P
  w := w
  K := K
  mg := mg
  base := base
  A := A.deeper (envOfC qual scope s.heap.objs.size f cd)
  N := N
  s₀ := s
  H₀ := H
  env := envOfC qual scope s.heap.objs.size f cd
  outer := outer
  stack := envOfC qual scope s.heap.objs.size f cd :: outer
  ex := []
  calm := true
  fn := fun _ => true
  pn := []
  xe := fun e s' => wpAny (model P w) (A.deeper (envOfC qual scope s.heap.objs.size f cd)) (leaving (envOfC qual scope s.heap.objs.size f cd) e) (fun _ s'' => CX outer H s E e s'') (fun e' s'' => CX outer H s E e' s'') s'
theorem cell_has {sc : Scope} {n : Nat} {x : Str} (h : sc.names.lookup x = some .cell) : ∃ c, (cellsFrom n sc.names []).lookup x = some c := by
  have q := PySem.W.cellsFrom_some sc.names n [] (.inl h)
  exact Option.isSome_iff_exists.mp q
theorem inv_start {CX : CXT} {P : Program} {w : World} {K : PySem.W.Frag} {mg : Str → Option Value} {base : Heap} {N ps : List Str} {qual : Str} {scope : Scope} {f : Addr} {cd : Value} {A : Around} {outer : List Env} {s s1 : Shared} {H : Hp} {E : XK} {us : List Value} {vs : List V}
    (S : FnScope N ps scope) (hd : A.handled = none) (e0 : Env0 P w K mg base A outer s H) (hl : vs.length = ps.length) (r : Vals vs us)
    (x : InCallC s s.heap.objs.size (bindL (envOfC qual scope s.heap.objs.size f cd).kindOf (ps.zip us) fun _ => none) (cellsFrom (s.heap.objs.size + 1) scope.names []) (bindC (envOfC qual scope s.heap.objs.size f cd).kindOf (ps.zip us) fun _ => none) s1) :
    Inv (cxOf CX P w K mg base N qual scope f cd A outer s H E) [] (start N vs) H s1 := by
  have hpl : ps.length ≤ N.length := by have := congrArg List.length S.pre; rw [List.length_take] at this; omega
  obtain ⟨h1, tk, rfl, hk⟩ := x.done
  have noA : ∀ b : Addr, b ∉ (cxOf CX P w K mg base N qual scope f cd A outer s H E).ex := fun b z => absurd (show b ∈ ([] : List Addr) from z) (by simp)
  refine ⟨⟨e0.mod, S.kind, rfl, rfl, Nat.le_refl _, fun y z c h1 h2 => ?_, fun y hy => ?_, fun y c _ h => ?_, fun _ => hd, Around.frames_deeper e0.frames, .inr ⟨rfl, rfl⟩, fun b z => absurd z (noA b), e0.bs, e0.bsz, fun b _ _ => noA b, fun b z => absurd z (noA b), e0.funs, e0.frf⟩,
    rfl, e0.bare, Un.kept hk, ⟨_, x.toInCall.ns, fun i y v h1 h2 h3 => ?_⟩, fun y c h => ⟨_, x.cell y c h⟩, e0.hok.fresh (Nat.le_refl _), fun y c h => ?_, fun p hp => absurd (show p ∈ ([] : List (Addr × Obj)) from hp) (by simp), e0.hok.kept hk, ?_⟩
  · exact name_of_addr x.apart (PySem.mem_of_lookup h1) (PySem.mem_of_lookup h2)
  · have hy : scope.names.lookup y = some .cell ∨ scope.names.lookup y = some .free := hy
    rcases hy with hy | hy
    · exact cell_has hy
    · exact absurd rfl (S.nofree _ (PySem.mem_of_lookup hy))
  · exact Nat.le_of_lt (x.above y c (PySem.mem_of_lookup h))
  · have hi : i < vs.length := by
      unfold start at h2
      by_cases hi : i < vs.length
      · exact hi
      · rw [List.getElem?_append_right (by simpa using hi)] at h2
        rw [List.getElem?_replicate] at h2
        split at h2 <;> cases h2
    have ha : vs[i]? = some v := by
      unfold start at h2
      rw [List.getElem?_append_left (by simpa using hi), List.getElem?_map] at h2
      cases e : vs[i]? with
      | none => rw [e] at h2; cases h2
      | some a => rw [e] at h2; cases h2; rfl
    obtain ⟨u, hu, rv⟩ := r.get ha
    have hp : ps[i]? = some y := by
      rw [← S.pre, List.getElem?_take_of_lt (by omega)]; exact h1
    have ndP : ps.Nodup := by rw [← S.pre]; exact S.nd.sublist (List.take_sublist _ _)
    refine ⟨u, rv, ?_⟩
    rcases S.par y (List.mem_of_getElem? hp) with k | k
    · exact .inl ⟨k, bindL_get ndP hp hu k⟩
    · obtain ⟨c, e⟩ := cell_has (n := s.heap.objs.size + 1) k
      refine .inr ⟨.inl k, c, e, ?_⟩
      have q := x.cell y c e
      rw [bindC_get ndP hp hu (by show scope.names.lookup y ≠ _; rw [k]; decide)] at q
      exact q
  · exact e0.hok.fresh (Nat.le_of_lt (x.above y c (PySem.mem_of_lookup h)))
  · unfold start
    show _ = N.length
    rw [List.length_append, List.length_map, List.length_replicate]
    omega
theorem fn_of {CX : CXT} {P : Program} {w : World} {K : PySem.W.Frag} {mg : Str → Option Value} {base : Heap} {k : Nat} {f : Addr} {name qual : Str} {params : Arguments} {body : List Stmt} {scope : Scope} {dV kV doc pm cdv ct oc : Value} {an od : Option Addr}
    {osl : Array (Option Value)} {N ps : List Str} {sp : Sp} (lk : K.lookup f = some ⟨oc, od, .func (PySem.W.fnOf name qual params body scope dV kV doc pm an cdv ct), osl⟩) (hcd : PySem.W.codeIn K cdv qual = true) (S : FnScope N ps scope)
    (len : ∀ vs H Q E, sp vs H Q E → vs.length = ps.length)
    (hbody : ∀ (A : Around) (outer : List Env) (s : Shared) (H : Hp) (vs : List V) (Q : VK) (E : XK), Room k (A.deeper (envOfC qual scope s.heap.objs.size f cdv)) → sp vs H Q E →
      ∃ t, PSs (cxOf CX P w K mg base N qual scope f cdv A outer s H E) body t ∧ t { nx := fun _ H' => Q .non H', rt := Q } (start N vs) H) :
    FnOk P w K mg base CX (k + 1) f (PySem.W.fnOf name qual params body scope dV kV doc pm an cdv ct) ps sp := by
  refine ⟨len, fun A outer s H args us vs Q E hr e0 hb r hsp => ?_⟩
  have hl := len _ _ _ _ hsp
  have KX : K.In s.heap := e0.mod.kin.keeps fun b o e => (e0.bs b o e).1
  have lim : s.heap.NoLimit := e0.mod.nolimit.keeps fun b o e => (e0.bs b o e).1
  have hkind : ∀ y ∈ ps.zip us, scope.names.lookup y.1 = some .local ∨ (scope.names.lookup y.1 = some .cell ∧ ((cellsFrom (s.heap.objs.size + 1) scope.names []).lookup y.1).isSome = true) := fun ⟨n, v⟩ hy => by
    rcases S.par n (List.of_mem_zip hy).1 with q | q
    · exact .inl q
    · exact .inr ⟨q, PySem.W.cellsFrom_some _ _ _ (.inl q)⟩
  refine codeAny_call_function hr.depth (KX _ _ lk) rfl S.co S.gen rfl (PySem.W.codeRec_of KX hcd) (hb _ _ _ _ ?_)
  refine wpAny_newFunctionEnv_cells S.kind hkind fun env he s1 x => ?_
  subst he
  refine ⟨lim.keeps x.toInCall.keep, codeAny_func ?_⟩
  obtain ⟨t, ht, hq⟩ := hbody A outer s H vs Q E (hr.deeper _) hsp
  have I : Inv (cxOf CX P w K mg base N qual scope f cdv A outer s H E) [] (start N vs) H s1 := inv_start S hr.hd e0 hl r x
  refine wpAny_mono (ht [] s1 (start N vs) H _ I hq) (fun fl s' hs => ?_) fun e s' hs => hs
  have fin : ∀ {σ' : St} {H' : Hp} {v : V} {u : Value}, Inv (cxOf CX P w K mg base N qual scope f cdv A outer s H E) [] σ' H' s' → RelV v u → Q v H' → CE outer P w H s Q u s' :=
    fun {σ' H' v u} J rv q => ⟨v, H', J.os, J.bare, J.base, J.hok, rv, q⟩
  cases fl with
  | ret u =>
    obtain ⟨v, σ', H', J, rv, q⟩ := hs
    exact fin J rv q
  | next =>
    obtain ⟨σ', H', J, q⟩ := hs
    exact fin (v := V.non) (u := Value.none) J rfl q
  | brk =>
    obtain ⟨_, _, _, q⟩ := hs
    exact False.elim q
  | cont =>
    obtain ⟨_, _, _, q⟩ := hs
    exact False.elim q
end L2
namespace L2
open PySem PySem.Spec PyProof.Rows
section
variable {X : Cx} {x : Str} {p pos : Pos} {e : Expr} {es : List Expr} {t : TA} {id T : String} {r : List V → Hp → VK → Prop}
def tCB (r : List V → Hp → VK → Prop) (t : TA) : TE := fun σ H Q => t σ H fun vs H1 => r vs H1 Q
theorem pe_callB (hc : CallR X (.builtin id) r) (hg : Gl X x) (hm : X.mg x = none) (hv : bootBuiltins x = some (.builtin id)) (ha : PA X (e :: es) t) (hn : x ≠ "__name__" := by decide) (hdb : (x == ("__debug__" : Str)) = false := by decide)
    (he : starEach (e :: es) X.env = (false, eval e X.env) :: starEach es X.env := by rfl) (hpl : (backTo pos (starEach es X.env)).any (·.1) = false := by rfl) : PE X (.Call (.Name x p) (e :: es) [] pos) (tCB r t) := by
  intro pins s σ H Q I h
  refine wpAny_Call_Name_kw (ld_blt I hg hm hv ?_ hn hdb)
  exact PyProof.Rows.callWith_builtin1 (thn (ha pos pins s σ H _ I h) fun us s1 ⟨vs, H1, I1, r1, q1⟩ => hc pins s1 σ H1 vs us Q I1 r1 q1) he hpl
theorem pe_callTy (hc : CallR X (.type T) r) (hg : Gl X x) (hm : X.mg x = none) (hv : bootBuiltins x = some (.type T)) (ha : PA X (e :: es) t) (hn : x ≠ "__name__" := by decide) (hdb : (x == ("__debug__" : Str)) = false := by decide)
    (he : starEach (e :: es) X.env = (false, eval e X.env) :: starEach es X.env := by rfl) (hpl : (backTo pos (starEach es X.env)).any (·.1) = false := by rfl) : PE X (.Call (.Name x p) (e :: es) [] pos) (tCB r t) := by
  intro pins s σ H Q I h
  refine wpAny_Call_Name_kw (ld_blt I hg hm hv ?_ hn hdb)
  exact PyProof.Rows.callWith_type1 (thn (ha pos pins s σ H _ I h) fun us s1 ⟨vs, H1, I1, r1, q1⟩ => hc pins s1 σ H1 vs us Q I1 r1 q1) he hpl
end
end L2
namespace HT
open PySem PyProof.Rows
section
open PySem.SeqAt
open PySem.AutoSeq1 (wpAny_loadPart')
open PySem.MeetsSeq PySem.MeetsSeq2 PySem.MeetsSeq3
end
section
variable {prog : Program} {w : World} {A : Around} {E : Value → Shared → Prop} {s : Shared}
theorem cat_tup {t b : Addr} {vs ws : List Value} {Q : Value → Shared → Prop} (ht : IsTup s.heap t vs.toArray) (hb : IsTup s.heap b ws.toArray) (hv : vs ≠ [])
    (h1 : ws = [] → Q (.ref t) s) (h2 : ws ≠ [] → Q (.ref s.heap.objs.size) { s with heap := s.heap.push { cls := .type "tuple", data := .seq (vs ++ ws).toArray } })
    (hsz : vs.length + ws.length ≤ sizeLine) : wpAny (model prog w) A (binaryOp .Add (.ref t) (.ref b)) Q E s := by
  obtain ⟨⟨cls, dd, data, sl⟩, ho, hc, n, hd⟩ := id ht
  obtain ⟨⟨cls2, dd2, data2, sl2⟩, ho2, hc2, n2, hd2⟩ := id hb
  simp only at hc hd hc2 hd2
  subst hc hd hc2 hd2
  have e : vs.toArray ++ ws.toArray = (vs ++ ws).toArray := by simp
  by_cases hw : ws = []
  · exact concat_meets ⟨_, ho, rfl⟩ ⟨_, ho2, rfl⟩ noFill_tuple_add seq_tuple_add PySem.F.slot_tuple_add PySem.F.entry_tuple_add (PySem.F.args_tuple_add_2 _ _)
      (tuple_addW1 t b vs.toArray ws.toArray n n2 dd dd2 sl sl2 (by simpa using hv) (by simp [hw])) ⟨ho, ho2, h1 hw⟩
  · refine concat_meets ⟨_, ho, rfl⟩ ⟨_, ho2, rfl⟩ noFill_tuple_add seq_tuple_add PySem.F.slot_tuple_add PySem.F.entry_tuple_add (PySem.F.args_tuple_add_2 _ _)
      (tuple_addW2 t b vs.toArray ws.toArray n n2 dd dd2 sl sl2 (by simpa using hv) (by simpa using hw) (by rw [List.size_toArray, List.size_toArray]; exact hsz)) ⟨ho, ho2, ?_⟩
    rw [e]
    exact h2 hw
def sIx (n d : Nat) : Option Int → Nat
  | none => d
  | some v => if v < 0 then (v + (n : Int)).toNat else min v.toNat n
theorem sIx_nat (n d k : Nat) : sIx n d (some (k : Int)) = min k n := by
  show (if (k : Int) < 0 then ((k : Int) + (n : Int)).toNat else min (k : Int).toNat n) = min k n
  rw [if_neg (by omega), Int.toNat_natCast]
theorem sIx_le (n d : Nat) (hd : d ≤ n) (o : Option Int) : sIx n d o ≤ n := by
  cases o with
  | none => exact hd
  | some v =>
    show (if v < 0 then (v + (n : Int)).toNat else min v.toNat n) ≤ n
    by_cases hv : v < 0
    · rw [if_pos hv]; omega
    · rw [if_neg hv]; exact Nat.min_le_right _ _
theorem clip_eq (v : Int) (n d : Nat) : (if v < 0 then max (v + (n : Int)) 0 else min v (n : Int)) = ((sIx n d (some v) : Nat) : Int) := by
  show (if v < 0 then max (v + (n : Int)) 0 else min v (n : Int)) = (((if v < 0 then (v + (n : Int)).toNat else min v.toNat n) : Nat) : Int)
  by_cases hv : v < 0
  · simp only [if_pos hv]; omega
  · simp only [if_neg hv]; omega
theorem adjust_gen (lo hi : Option Int) (n : Nat) : Builtin.Slice.sliceAdjust lo hi 1 (n : Int) = (((sIx n 0 lo : Nat) : Int), ((sIx n n hi : Nat) : Int)) := by
  have h1 : ¬ ((1 : Int) < 0) := by omega
  unfold Builtin.Slice.sliceAdjust
  simp only [h1, if_false]
  refine Prod.ext ?_ ?_
  · cases lo with
    | none => rfl
    | some v => exact clip_eq v n 0
  · cases hi with
    | none => rfl
    | some v => exact clip_eq v n n
theorem places_gen (i j : Nat) : Builtin.Slice.slicePlaces (i : Int) (j : Int) 1 = j - i := by
  unfold Builtin.Slice.slicePlaces
  have h1 : (1 : Int) > 0 := by omega
  simp only [h1, if_true, Int.ediv_one]
  split <;> omega
theorem slicePart_ {v : Value} {o : Option Int} {Q : Option Int → Shared → Prop} (p : IsPart v o) (h : Q o s) : wpAny (model prog w) A (Builtin.Slice.slicePartIndex v) Q E s := by
  cases p with
  | none => exact slicePart_none h
  | int i t => exact slicePart_int h
theorem sliceApplied_gen {sl : Addr} {vl vu : Value} {lo hi : Option Int} {n : Nat} {Q : Int × Int × Nat → Shared → Prop} (hs : s.heap.IsSliceOf sl vl vu .none) (pl : IsPart vl lo) (pu : IsPart vu hi)
    (h : Q (((sIx n 0 lo : Nat) : Int), 1, sIx n n hi - sIx n 0 lo) s) : wpAny (model prog w) A (Builtin.Slice.sliceApplied (.ref sl) (pure (n : Int))) Q E s := by
  obtain ⟨os, hos, hcs, hds⟩ := id hs
  unfold Builtin.Slice.sliceApplied Builtin.Slice.sliceFields
  refine wpAny_bind (wpAny_bind (wpAny_field hos hds (x := vl) rfl (wpAny_bind (wpAny_field hos hds (x := vu) rfl (wpAny_bind (wpAny_field hos hds (x := .none) rfl (wpAny_pure ?_)))))))
  refine wpAny_bind (slicePart_none ?_)
  show wpAny _ _ (if ((1 : Int) == 0) = true then _ else _) _ _ s
  rw [if_neg (by decide)]
  refine wpAny_bind (slicePart_ pl (wpAny_bind (slicePart_ pu (wpAny_bind (wpAny_pure ?_)))))
  show wpAny _ _ (match Builtin.Slice.sliceAdjust lo hi 1 (n : Int) with | (lo, hi) => pure (lo, (1 : Int), Builtin.Slice.slicePlaces lo hi 1)) _ _ s
  rw [adjust_gen lo hi n]
  show wpAny _ _ (pure (((sIx n 0 lo : Nat) : Int), (1 : Int), Builtin.Slice.slicePlaces ((sIx n 0 lo : Nat) : Int) ((sIx n n hi : Nat) : Int) 1)) _ _ s
  rw [places_gen]
  exact wpAny_pure h
theorem pick_gen (xs : Array Value) (i k : Nat) : ((List.range k).filterMap fun (m : Nat) => xs[((i : Int) + (m : Int) * 1).toNat]?).toArray = ((xs.toList.drop i).take k).toArray := by
  have e : (fun (m : Nat) => xs[((i : Int) + (m : Int) * 1).toNat]?) = fun m => xs[i + m]? := by
    funext m
    have : ((i : Int) + (m : Int) * 1).toNat = i + m := by omega
    rw [this]
  rw [e]
  have := pick_run xs i k
  rw [List.filterMap_map] at this
  have e2 : ((fun x => xs[x]?) ∘ fun x => i + x) = fun m => xs[i + m]? := rfl
  rw [e2] at this
  rw [this]
theorem getItem_tuple_cut {t sl : Addr} {items : Array Value} {vl vu : Value} {lo hi : Option Int} {Q : Value → Shared → Prop} (ht : IsTup s.heap t items) (hs : s.heap.IsSliceOf sl vl vu .none) (pl : IsPart vl lo) (pu : IsPart vu hi)
    (hw : ¬ (sIx items.size 0 lo = 0 ∧ sIx items.size items.size hi = items.size))
    (h : Q (.ref s.heap.objs.size) { s with heap := s.heap.push { cls := .type "tuple", data := .seq ((items.toList.drop (sIx items.size 0 lo)).take (sIx items.size items.size hi - sIx items.size 0 lo)).toArray } })
    (hsz : items.size ≤ sizeLine) : wpAny (model prog w) A (getItem (.ref t) (.ref sl)) Q E s := by
  have htake : sizeOk (.seq ((items.toList.drop (sIx items.size 0 lo)).take (sIx items.size items.size hi - sIx items.size 0 lo)).toArray) := by
    show ((items.toList.drop (sIx items.size 0 lo)).take (sIx items.size items.size hi - sIx items.size 0 lo)).toArray.size ≤ sizeLine
    rw [List.size_toArray, List.length_take, List.length_drop, Array.length_toList]
    omega
  have hj : sIx items.size items.size hi ≤ items.size := sIx_le _ _ (Nat.le_refl _) hi
  obtain ⟨os, hos, hcs, hds⟩ := id hs
  have hTs : s.TypeIs (.ref sl) "slice" := ⟨os, hos, hcs⟩
  unfold getItem
  try with_reducible refine wpAny_holding ?_
  first | refine wpAny_bind (wpAny_pure ?_) | skip
  refine wpAny_bind (wpAny_sequenceKey ht.typeIs (by decide) ?_)
  refine wpAny_bind (wpAny_callSpecial?_slot (name := Str.ofString "__getitem__") ht.typeIs PyProof.Rows.slot_tuple_getitem
    (wpAny_call_entry PyProof.Rows.slot_tuple_getitem ht.typeIs entry_tuple_getitem ?_ (args_tuple_getitem _ _)))
  show wpAny _ _ (Builtin.Tuple.tupleItemsOf (.ref t) >>= _) _ _ s
  refine wpAny_bind (tupleItemsOf_ ht ?_)
  refine wpAny_bind (wpAny_typeOf hTs ?_)
  rw [if_pos (by decide)]
  refine wpAny_bind (sliceApplied_gen hs pl pu ?_)
  have hno : ¬ ((((sIx items.size 0 lo : Nat) : Int) == 0 && (1 : Int) == 1 && (sIx items.size items.size hi - sIx items.size 0 lo) == items.size) = true) := by
    intro q
    rw [Bool.and_eq_true, Bool.and_eq_true] at q
    have q1 : ((sIx items.size 0 lo : Nat) : Int) = 0 := eq_of_beq q.1.1
    have q2 : sIx items.size items.size hi - sIx items.size 0 lo = items.size := eq_of_beq q.2
    exact hw ⟨by omega, by omega⟩
  show wpAny _ _ (if (((sIx items.size 0 lo : Nat) : Int) == 0 && (1 : Int) == 1 && (sIx items.size items.size hi - sIx items.size 0 lo) == items.size) = true then _ else _) _ _ s
  rw [if_neg hno, pick_gen]
  first
    | exact wpAny_bind (m := Builtin.Tuple.tupleExact _) (wpAny_newObj_type (wpAny_pure ⟨_, rfl, wpAny_pure h⟩) htake)
    | exact wpAny_bind (m := Builtin.Tuple.tupleExact _) (wpAny_newObj_type (wpAny_bind (wpAny_pure (wpAny_pure ⟨_, rfl, wpAny_pure h⟩))) htake)
    | exact wpAny_bind (wpAny_bind (m := Builtin.Tuple.tupleExact _) (wpAny_newObj_type (wpAny_pure (wpAny_pure ⟨_, rfl, wpAny_pure h⟩)) htake))
    | exact wpAny_bind (wpAny_bind (m := Builtin.Tuple.tupleExact _) (wpAny_newObj_type (wpAny_pure ⟨_, rfl, wpAny_pure h⟩) htake))
end
end HT
namespace L2
open PySem PySem.Spec PyProof.Rows
abbrev TO := St → Hp → (Option Int → Hp → Prop) → Prop
def PO (X : Cx) (e : Option Expr) (t : TO) : Prop :=
  ∀ (pins : List (Addr × Obj)) (s : Shared) (σ : St) (H : Hp) (Q : Option Int → Hp → Prop), Inv X pins σ H s → t σ H Q →
    wpAny (model X.prog X.w) X.A (evalPart e X.env) (fun u s' => ∃ o H', Inv X pins σ H' s' ∧ IsPart u o ∧ Q o H') X.xe s
def tNoPart : TO := fun _ H Q => Q none H
def tPart (t : TE) : TO := fun σ H Q => t σ H fun x H1 => ∃ i, x = .int i ∧ Q (some i) H1
section
variable {X : Cx} {e : Expr} {te : TE} {lo hi : Option Expr} {tl th : TO} {pos p2 : Pos}
theorem po_none : PO X none tNoPart := by
  intro pins s σ H Q I h
  rw [evalPart_none]
  exact wpAny_pure ⟨none, H, I, .none, h⟩
theorem po_some (h : PE X e te) : PO X (some e) (tPart te) := by
  intro pins s σ H Q I hw
  rw [evalPart_some]
  refine thn (h pins s σ H _ I hw) fun u s1 ⟨x, H1, I1, r1, q1⟩ => ?_
  obtain ⟨i, rfl, q⟩ := q1
  obtain ⟨t, rfl⟩ := r1
  exact ⟨some i, H1, I1, .int i t, q⟩
def SlR (X : Cx) (r : V → Option Int → Option Int → Hp → VK → Prop) : Prop :=
  ∀ (pins : List (Addr × Obj)) (s : Shared) (σ : St) (H : Hp) (x : V) (v vl vu : Value) (lo hi : Option Int) (sl : Addr) (Q : VK), Inv X pins σ H s → RelV x v → s.heap.IsSliceOf sl vl vu .none → IsPart vl lo → IsPart vu hi → r x lo hi H Q →
    ∃ T id, typeLookup (.type T) "__getitem__" = pure (some (.builtin id)) ∧ s.TypeIs v T ∧ wpAny (model X.prog X.w) X.A (getItem v (.ref sl)) (EP X pins σ Q) X.xe s
theorem SlR.or {r r' : V → Option Int → Option Int → Hp → VK → Prop} (h : SlR X r) (h' : SlR X r') : SlR X (fun x lo hi H Q => r x lo hi H Q ∨ r' x lo hi H Q) := by
  intro pins s σ H x v vl vu lo hi sl Q I rx hs pl pu q
  rcases q with q | q
  · exact h pins s σ H x v vl vu lo hi sl Q I rx hs pl pu q
  · exact h' pins s σ H x v vl vu lo hi sl Q I rx hs pl pu q
def tSl (r : V → Option Int → Option Int → Hp → VK → Prop) (te : TE) (tl th : TO) : TE := fun σ H Q => te σ H fun x H1 => tl σ H1 fun l H2 => th σ H2 fun u H3 => r x l u H3 Q
theorem pe_slice {r : V → Option Int → Option Int → Hp → VK → Prop} (hr : SlR X r) (he : PE X e te) (hl : PO X lo tl) (hu : PO X hi th) : PE X (.Subscript e (.Slice lo hi none p2) pos) (tSl r te tl th) := by
  intro pins s σ H Q I h
  refine Subscript_ (thn (he pins s σ H _ I h) fun v s1 ⟨x, H1, I1, r1, q1⟩ => ?_)
  refine wpAny_Slice (thn (hl pins s1 σ H1 _ I1 q1) fun vl s2 ⟨l, H2, I2, pl, q2⟩ => thn (hu pins s2 σ H2 _ I2 q2) fun vu s3 ⟨u, H3, I3, pu, q3⟩ => ?_)
  rw [evalPart_none]
  refine wpAny_pure ?_
  have I4 : Inv X pins σ H3 { s3 with heap := s3.heap.push { cls := .type "slice", data := .fields #[vl, vu, .none] } } := I3.kept (t' := s3.toks) fun b ob q => Heap.get?_push_of_some _ q
  obtain ⟨T, id, hT, ht, hg⟩ := hr pins { s3 with heap := s3.heap.push { cls := .type "slice", data := .fields #[vl, vu, .none] } } σ H3 x v vl vu l u s3.heap.objs.size Q I4 r1 (Heap.IsSliceOf.new ..) pl pu q3
  show wpAny (model X.prog X.w) X.A (subscriptTail e (.Slice lo hi none p2) v (.ref s3.heap.objs.size)) (EP X pins σ Q) X.xe { s3 with heap := s3.heap.push { cls := .type "slice", data := .fields #[vl, vu, .none] } }
  exact tail_any (ops := [.ref s3.heap.objs.size, v]) ht hT hg (by with_unfolding_all rfl)
def cutV (xs : List V) (lo hi : Option Int) : List V := (xs.drop (HT.sIx xs.length 0 lo)).take (HT.sIx xs.length xs.length hi - HT.sIx xs.length 0 lo)
theorem cutV_length (xs : List V) (lo hi : Option Int) : (cutV xs lo hi).length ≤ xs.length := by
  unfold cutV
  rw [List.length_take, List.length_drop]
  omega
def rSlT (K : PySem.W.Frag) : V → Option Int → Option Int → Hp → VK → Prop := fun x lo hi H Q => ∃ a xs, x = .ref a ∧ SqT K H a xs ∧
  ¬ (HT.sIx xs.length 0 lo = 0 ∧ HT.sIx xs.length xs.length hi = xs.length) ∧ ∀ p, H p = none → Q (.ref p) (upd H p (.tup (cutV xs lo hi)))
theorem sl_tup : SlR X (rSlT X.K) := by
  intro pins s σ H x v vl vu lo hi sl Q I rx hs pl pu h
  obtain ⟨a, xs, rfl, hx, hw, q⟩ := h
  cases rx
  obtain ⟨its, r, ht, hz⟩ := I.tuple hx
  have hlen : its.toArray.size = xs.length := by rw [List.size_toArray]; exact r.length.symm
  refine ⟨"tuple", _, PyProof.Rows.slot_tuple_getitem.lookup, ht.typeIs, ?_⟩
  refine HT.getItem_tuple_cut ht hs pl pu (by rw [hlen]; exact hw) ?_ (by rw [hlen]; exact hz)
  rw [hlen]
  refine ⟨.ref s.heap.objs.size, _, I.laid (t' := s.toks) (o := .tup (cutV xs lo hi)) (fun b ob q => Heap.get?_push_of_some _ q) (Nat.le_refl _) ?_, rfl, q _ (I.hok.fresh (Nat.le_refl _))⟩
  exact ⟨Nat.le_trans (cutV_length xs lo hi) hz, _, (r.drop (HT.sIx xs.length 0 lo)).take (HT.sIx xs.length xs.length hi - HT.sIx xs.length 0 lo), IsTup.new _ _⟩
def rCatT (K : PySem.W.Frag) : R2 := fun x y H Q => ∃ a b xs ys, x = .ref a ∧ y = .ref b ∧ SqT K H a xs ∧ SqT K H b ys ∧ xs ≠ [] ∧ xs.length + ys.length ≤ sizeLine ∧
  (ys = [] → Q (.ref a) H) ∧ (ys ≠ [] → ∀ p, H p = none → Q (.ref p) (upd H p (.tup (xs ++ ys))))
theorem Vals.nil_iff {xs : List V} {us : List Value} (r : Vals xs us) : us = [] ↔ xs = [] := by
  cases r with
  | nil => simp
  | cons _ _ => simp
theorem op_catT : OpR X (binaryOp .Add) (rCatT X.K) := by
  intro pins s σ H x y v u Q I rx ry h
  obtain ⟨a, b, xs, ys, rfl, rfl, ha, hb, hx, hz, q1, q2⟩ := h
  cases rx
  cases ry
  obtain ⟨its, r1, p1, _⟩ := I.tuple ha
  obtain ⟨its2, r2, p2, _⟩ := I.tuple hb
  refine HT.cat_tup p1 p2 (fun z => hx (r1.nil_iff.mp z)) (fun z => ⟨.ref a, H, I, rfl, q1 (r2.nil_iff.mp z)⟩) (fun z => ?_) (by rw [← r1.length, ← r2.length]; exact hz)
  refine ⟨.ref s.heap.objs.size, _, I.laid (t' := s.toks) (o := .tup (xs ++ ys)) (fun b ob q => Heap.get?_push_of_some _ q) (Nat.le_refl _) ?_, rfl, q2 (fun w => z (r2.nil_iff.mpr w)) _ (I.hok.fresh (Nat.le_refl _))⟩
  exact ⟨by rw [List.length_append]; exact hz, _, r1.append r2, IsTup.new _ _⟩
end
end L2
namespace L2
open PySem PySem.Spec PyProof.Rows
def ixN (n : Nat) (i : Int) : Option Nat := if 0 ≤ i then (if i < n then some i.toNat else none) else if -(n : Int) ≤ i then some (i + n).toNat else none
def atI {α : Type} (xs : List α) (i : Int) : Option α := (ixN xs.length i).bind fun j => xs[j]?
theorem ixN_seq {n : Nat} {i : Int} {j : Nat} (h : ixN n i = some j) : seqIndex? i n = some j ∧ j < n ∧ -(n : Int) ≤ i ∧ i < n := by
  unfold ixN at h
  by_cases h0 : 0 ≤ i
  · rw [if_pos h0] at h
    by_cases h1 : i < n
    · rw [if_pos h1] at h
      have e : i.toNat = j := Option.some.inj h
      exact ⟨by rw [seqIndex_of h0 h1, e], by omega, by omega, h1⟩
    · rw [if_neg h1] at h; cases h
  · rw [if_neg h0] at h
    by_cases h1 : -(n : Int) ≤ i
    · rw [if_pos h1] at h
      have e : (i + n).toNat = j := Option.some.inj h
      exact ⟨by rw [seqIndex_neg (by omega) h1, e], by omega, h1, by omega⟩
    · rw [if_neg h1] at h; cases h
theorem atI_get {α : Type} {xs : List α} {i : Int} {v : α} (h : atI xs i = some v) : ∃ j, seqIndex? i xs.length = some j ∧ xs[j]? = some v ∧ j < xs.length ∧ -(xs.length : Int) ≤ i ∧ i < xs.length := by
  unfold atI at h
  cases e : ixN xs.length i with
  | none => rw [e] at h; cases h
  | some j =>
    rw [e] at h
    obtain ⟨h1, h2, h3, h4⟩ := ixN_seq e
    exact ⟨j, h1, h, h2, h3, h4⟩
theorem atI_nat {α : Type} {xs : List α} {j : Nat} {v : α} (h : xs[j]? = some v) : atI xs (j : Int) = some v := by
  have hj : j < xs.length := (List.getElem?_eq_some_iff.mp h).1
  have e : ixN xs.length (j : Int) = some j := by
    unfold ixN
    rw [if_pos (by omega), if_pos (by omega)]; simp
  unfold atI; rw [e]; exact h
def PlainIx (b : Expr) : Prop := ∀ o i, subscripted b false o i = operate [o, i] (getItem o i)
def IxR (X : Cx) (r : R2) : Prop :=
  ∀ (value slice : Expr) (pins : List (Addr × Obj)) (s : Shared) (σ : St) (H : Hp) (x y : V) (v u : Value) (Q : VK), Inv X pins σ H s → RelV x v → RelV y u → r x y H Q →
    subscripted slice false v u = operate [v, u] (getItem v u) → wpAny (model X.prog X.w) X.A (subscriptTail value slice v u) (EP X pins σ Q) X.xe s
def MtR (X : Cx) (id : String) (r : V → List V → Hp → VK → Prop) : Prop :=
  ∀ (pins : List (Addr × Obj)) (s : Shared) (σ : St) (H : Hp) (x : V) (xs : List V) (v : Value) (us : List Value) (Q : VK), Inv X pins σ H s → RelV x v → Vals xs us → r x xs H Q →
    wpAny (model X.prog X.w) X.A (call (.builtin id) (v :: us)) (EP X pins σ Q) X.xe s
section
variable {X : Cx} {a b : Expr} {ta tb : TE} {pos : Pos}
theorem pe_ix {r : R2} (hr : IxR X r) (ha : PE X a ta) (hb : PE X b tb) (hs : PlainIx b) : PE X (.Subscript a b pos) (tOp r ta tb) := by
  intro pins s σ H Q I h
  exact Subscript_ (binT ha hb I h fun v u s2 x y H2 I2 rx ry q => hr a b pins s2 σ H2 x y v u Q I2 rx ry q (hs _ _))
def rIxL (K : PySem.W.Frag) : R2 := fun x y H Q => ∃ p xs i v, x = .ref p ∧ y = .int i ∧ SqL K H p xs ∧ atI xs i = some v ∧ Q v H
def rIxT (K : PySem.W.Frag) : R2 := fun x y H Q => ∃ p xs i v, x = .ref p ∧ y = .int i ∧ SqT K H p xs ∧ atI xs i = some v ∧ Q v H
def rIxS : R2 := fun x y H Q => ∃ z i c, x = .str z ∧ y = .int i ∧ z.length ≤ sizeLine ∧ atI z.cps.toList i = some c ∧ Q (.str ⟨#[c]⟩) H
theorem ix_list : IxR X (rIxL X.K) := by
  intro value slice pins s σ H x y v u Q I rx ry h hs
  obtain ⟨p, xs, i, z, rfl, rfl, hq, he, q⟩ := h
  cases rx
  obtain ⟨t, rfl⟩ := ry
  obtain ⟨its, r, pl, hz⟩ := I.list hq
  obtain ⟨j, h1, h2, h3, h4, h5⟩ := atI_get he
  obtain ⟨w, ew, rw'⟩ := r.get h2
  have hl := r.length
  have hn := line63
  have fin : EP X pins σ Q w s := ⟨z, H, I, rw', q⟩
  by_cases h0 : 0 ≤ i
  · have hj : i.toNat = j := by
      rw [seqIndex_of h0 h5] at h1
      exact Option.some.inj h1
    exact item_listR pl.isList h0 (by omega) (by rw [hj]; simpa using ew) fin hs
  · have hj : (i + (its.toArray.size : Int)).toNat = j := by
      rw [seqIndex_neg (by omega) h4] at h1
      rw [List.size_toArray, ← hl]
      exact Option.some.inj h1
    exact subscriptTail_builtinR (x := w) pl.isList.typeIs slot_list_getitem.lookup
      (wpAny_getItem_list_neg (Q := fun r s' => r = w ∧ EP X pins σ Q r s') pl.isList (by omega) (by rw [List.size_toArray] <;> omega) (by omega) (by rw [hj]; simpa using ew) ⟨rfl, fin⟩) hs
theorem ix_tup : IxR X (rIxT X.K) := by
  intro value slice pins s σ H x y v u Q I rx ry h hs
  obtain ⟨p, xs, i, z, rfl, rfl, hq, he, q⟩ := h
  cases rx
  obtain ⟨t, rfl⟩ := ry
  obtain ⟨its, r, pl, hz⟩ := I.tuple hq
  obtain ⟨j, h1, h2, h3, h4, h5⟩ := atI_get he
  obtain ⟨w, ew, rw'⟩ := r.get h2
  have hl := r.length
  have hn := line63
  have fin : EP X pins σ Q w s := ⟨z, H, I, rw', q⟩
  exact subscriptTail_builtinR (x := w) pl.typeIs slot_tuple_getitem.lookup
    (getItem_tuple (j := j) (Q := fun r s' => r = w ∧ EP X pins σ Q r s') pl (by omega) (by omega) (by rw [List.size_toArray, ← hl]; exact h1) (by simpa using ew) ⟨rfl, fin⟩) hs
theorem ix_str : IxR X rIxS := by
  intro value slice pins s σ H x y v u Q I rx ry h hs
  obtain ⟨z, i, c, rfl, rfl, hz, he, q⟩ := h
  obtain ⟨t, rfl⟩ := rx
  obtain ⟨t', rfl⟩ := ry
  obtain ⟨j, h1, h2, h3, h4, h5⟩ := atI_get he
  have hl : z.cps.toList.length = z.length := by simp [Str.length]
  rw [hl] at h1 h4 h5
  have hn := line63
  exact tail_any (typeIs_str s z t) slot_str_getitem.lookup (getItem_str (c := c) (by
    have e1 : decide (i < -(2 ^ 63 : Int)) = false := decide_eq_false (by omega)
    have e2 : decide (i ≥ 2 ^ 63) = false := decide_eq_false (by omega)
    rw [e1, e2, Bool.or_false]) (by rw [h1]; simpa using h2) ⟨.str ⟨#[c]⟩, H, I.tok _, ⟨_, rfl⟩, q⟩) hs
theorem slice_bounds (lo hi : Option Int) (n : Nat) : (sliceBounds lo hi none n).1 = ((HT.sIx n 0 lo : Nat) : Int) ∧ (sliceBounds lo hi none n).2.1 = ((HT.sIx n n hi : Nat) : Int) ∧ (sliceBounds lo hi none n).2.2 = 1 := by
  refine ⟨?_, ?_, rfl⟩
  · cases lo with
    | none => simp [sliceBounds, HT.sIx]
    | some i =>
      simp only [sliceBounds, HT.sIx, Option.getD_none, show (1 : Int) > 0 by decide, if_true]
      by_cases h : i < 0
      · simp only [h, if_true] <;> omega
      · simp only [h, if_false] <;> omega
  · cases hi with
    | none => simp [sliceBounds, HT.sIx]
    | some i =>
      simp only [sliceBounds, HT.sIx, Option.getD_none, show (1 : Int) > 0 by decide, if_true]
      by_cases h : i < 0
      · simp only [h, if_true] <;> omega
      · simp only [h, if_false] <;> omega
theorem slicePick_cut (its : List Value) (lo hi : Option Int) : slicePick its.toArray lo hi none = ((its.drop (HT.sIx its.length 0 lo)).take (HT.sIx its.length its.length hi - HT.sIx its.length 0 lo)).toArray := by
  obtain ⟨h1, h2, h3⟩ := slice_bounds lo hi its.toArray.size
  unfold slicePick
  rw [h1, h2, h3]
  simp only [sliceRange_one, pick_run, List.size_toArray] <;> rfl
def rSlL (K : PySem.W.Frag) : V → Option Int → Option Int → Hp → VK → Prop := fun x lo hi H Q => ∃ a xs, x = .ref a ∧ SqL K H a xs ∧ ∀ p, H p = none → Q (.ref p) (upd H p (.lst (cutV xs lo hi)))
theorem sl_list : SlR X (rSlL X.K) := by
  intro pins s σ H x v vl vu lo hi sl Q I rx hs pl pu h
  obtain ⟨a, xs, rfl, hx, q⟩ := h
  cases rx
  obtain ⟨its, r, ht, hz⟩ := I.list hx
  have hlen := r.length
  refine ⟨"list", _, slot_list_getitem.lookup, ht.isList.typeIs, ?_⟩
  refine wpAny_getItem_list_slice ht.isList hs pl pu .none (by simp) ?_ (by rw [List.size_toArray] <;> omega)
  rw [slicePick_cut, ← hlen]
  refine ⟨.ref s.heap.objs.size, _, I.laid (t' := s.toks) (o := .lst (cutV xs lo hi)) (fun b ob q => Heap.get?_push_of_some _ q) (Nat.le_refl _) ?_, rfl, q _ (I.hok.fresh (Nat.le_refl _))⟩
  exact ⟨Nat.le_trans (cutV_length xs lo hi) hz, _, 0, (r.drop (HT.sIx xs.length 0 lo)).take (HT.sIx xs.length xs.length hi - HT.sIx xs.length 0 lo), Heap.get?_push_size _ rfl⟩
theorem call_len_seq : CallR X (.builtin "len") (fun xs H Q => ∃ p ys, xs = [.ref p] ∧ (SqL X.K H p ys ∨ SqT X.K H p ys) ∧ Q (.int ys.length) H) := by
  intro pins s σ H xs us Q I r h
  obtain ⟨p, ys, rfl, hq, q⟩ := h
  obtain ⟨u, rfl, rx⟩ := vals1 r
  cases rx
  have hn := line63
  rcases hq with hq | hq
  · obtain ⟨its, r', pl, hz⟩ := I.list hq
    have hlen := r'.length
    exact Calls.call_len_list pl.isList (by simp only [List.size_toArray] <;> omega) ⟨.int ys.length, H, I.tok _, ⟨s.toks + 1, by rw [List.size_toArray, hlen]⟩, q⟩
  · obtain ⟨its, r', pl, hz⟩ := I.tuple hq
    have hlen := r'.length
    exact len_tuple pl (by simp only [List.size_toArray] <;> omega) ⟨.int ys.length, H, I.tok _, ⟨s.toks + 1, by rw [List.size_toArray, hlen]⟩, q⟩
theorem call_len_str : CallR X (.builtin "len") (fun xs H Q => ∃ z, xs = [.str z] ∧ z.length ≤ sizeLine ∧ Q (.int z.length) H) := by
  intro pins s σ H xs us Q I r h
  obtain ⟨z, rfl, hz, q⟩ := h
  obtain ⟨u, rfl, t, rfl⟩ := vals1 r
  have hn := line63
  exact len_str (by omega) ⟨.int z.length, H, I.tok _, ⟨_, rfl⟩, q⟩
theorem call_list_of : CallR X (.type "list") (fun xs H Q => ∃ p ys, xs = [.ref p] ∧ (SqL X.K H p ys ∨ SqT X.K H p ys) ∧ ∀ l, H l = none → Q (.ref l) (upd H l (.lst ys))) := by
  intro pins s σ H xs us Q I r h
  obtain ⟨p, ys, rfl, hq, q⟩ := h
  obtain ⟨u, rfl, rx⟩ := vals1 r
  cases rx
  have fin : ∀ (its : List Value), Vals ys its → ys.length ≤ sizeLine → ∀ (h' : Heap) (c' : Nat), (∀ b o', s.heap.get? b = some o' → h'.get? b = some o') →
      h'.get? s.heap.objs.size = some { cls := .type "list", dict := none, data := .seq its.toArray c', slots := #[] } → EP X pins σ Q (.ref s.heap.objs.size) { s with heap := h' } := fun its r' hz h' c' kp e =>
    ⟨.ref s.heap.objs.size, _, I.laid (t' := s.toks) kp (Nat.le_refl _) (show ObjOk X.prog X.w _ h' _ (.lst ys) from ⟨hz, its, c', r', e⟩), rfl, q _ (I.hok.fresh (Nat.le_refl _))⟩
  rcases hq with hq | hq
  · obtain ⟨its, r', pl, hz⟩ := I.list hq
    have hlen := r'.length
    obtain ⟨o, ho, hc, n, hd⟩ := pl.isList
    exact call_list_seq p (.inl rfl) ho hc hd (fun h' c' kp e => fin its r' hz h' c' kp e) (by simp only [List.size_toArray] <;> omega)
  · obtain ⟨its, r', pl, hz⟩ := I.tuple hq
    have hlen := r'.length
    obtain ⟨o, ho, hc, n, hd⟩ := pl
    exact call_list_seq p (.inr rfl) ho hc hd (fun h' c' kp e => fin its r' hz h' c' kp e) (by simp only [List.size_toArray] <;> omega)
theorem call_tuple_of : CallR X (.type "tuple") (fun xs H Q => ∃ p ys, xs = [.ref p] ∧ ((SqL X.K H p ys ∧ ∀ l, H l = none → Q (.ref l) (upd H l (.tup ys))) ∨ (SqT X.K H p ys ∧ Q (.ref p) H))) := by
  intro pins s σ H xs us Q I r h
  obtain ⟨p, ys, rfl, h⟩ := h
  obtain ⟨u, rfl, rx⟩ := vals1 r
  cases rx
  rcases h with ⟨hq, q⟩ | ⟨hq, q⟩
  · obtain ⟨its, r', pl, hz⟩ := I.list hq
    have hlen := r'.length
    refine call_tuple_list pl.isList (fun h' kp => ?_) (by simp only [List.size_toArray] <;> omega)
    have I1 : Inv X pins σ H { s with heap := h' } := I.kept (t' := s.toks) kp
    have I2 : Inv X pins σ (upd H h'.objs.size (.tup ys)) { s with heap := h'.push { cls := .type "tuple", data := .seq its.toArray } } :=
      I1.laid (t' := s.toks) (fun b o e => Heap.get?_push_of_some _ e) (Nat.le_refl _) (show ObjOk X.prog X.w _ _ _ (.tup ys) from ⟨hz, its, r', IsTup.new _ _⟩)
    exact ⟨.ref h'.objs.size, _, I2, rfl, q _ (I1.hok.fresh (Nat.le_refl _))⟩
  · obtain ⟨its, r', pl, hz⟩ := I.tuple hq
    exact call_tuple_same pl ⟨.ref p, H, I, rfl, q⟩
def tyV (K : PySem.W.Frag) (T : String) (x : V) (H : Hp) : Prop := match x with
  | .str _ => T = "str"
  | .int _ => T = "int"
  | .ref p => (T = "list" ∧ ∃ xs, SqL K H p xs) ∨ (T = "tuple" ∧ ∃ o, K.lookup p = some o ∧ o.cls = .type "tuple" ∧ o.dict = none) ∨
      (T = "dict" ∧ ((∃ kvs, H p = some (.dK kvs)) ∨ ∃ kvs, H p = some (.dT kvs))) ∨ (T = "set" ∧ ∃ S n, H p = some (.set S n))
  | _ => False
theorem tyV_is {pins : List (Addr × Obj)} {σ : St} {H : Hp} {s : Shared} {T : String} {x : V} {v : Value} (I : Inv X pins σ H s) (r : RelV x v) (ty : tyV X.K T x H) :
    s.TypeIs v T ∧ ∀ a, v = .ref a → ∃ ob, s.heap.get? a = some ob ∧ ob.dict = none := by
  cases x with
  | str z =>
    obtain ⟨t, rfl⟩ := r
    cases (show T = "str" from ty)
    exact ⟨typeIs_str s z t, fun _ e => nomatch e⟩
  | int i =>
    obtain ⟨t, rfl⟩ := r
    cases (show T = "int" from ty)
    exact ⟨typeIs_int s i t, fun _ e => nomatch e⟩
  | ref p =>
    cases r
    rcases ty with ⟨rfl, xs, hq⟩ | ⟨rfl, o, hk, hc, hd⟩ | ⟨rfl, hk⟩ | ⟨rfl, S, n, hk⟩
    · obtain ⟨its, _, pl, _⟩ := I.list hq
      refine ⟨pl.isList.typeIs, fun a e => ?_⟩
      cases e
      obtain ⟨o, n, e, c, hd, _⟩ := pl
      exact ⟨o, e, hd⟩
    · refine ⟨⟨o, I.kIn p o hk, hc⟩, fun a e => ?_⟩
      cases e
      exact ⟨o, I.kIn _ o hk, hd⟩
    · have z : ∃ o, s.heap.get? p = some o ∧ o.ExactDict := by
        rcases hk with ⟨kvs, hk⟩ | ⟨kvs, hk⟩
        · obtain ⟨_, _, _, _, o, _, _, e, ex, _⟩ := I.hok p _ hk
          exact ⟨o, e, ex⟩
        · obtain ⟨_, _, _, _, o, _, _, e, ex, _⟩ := I.hok p _ hk
          exact ⟨o, e, ex⟩
      obtain ⟨o, e, ex⟩ := z
      refine ⟨⟨o, e, ex.1⟩, fun a e2 => ?_⟩
      cases e2
      exact ⟨o, e, ex.2.1⟩
    · obtain ⟨o, _, _, _, e, ex, _⟩ := I.hok p _ hk
      refine ⟨⟨o, e, ex.1⟩, fun a e2 => ?_⟩
      cases e2
      exact ⟨o, e, ex.2.1⟩
  | _ => exact False.elim ty
def tBM (K : PySem.W.Frag) (T : String) (r : V → List V → Hp → VK → Prop) (to : TE) (t : TA) : TE := fun σ H Q => to σ H fun x H1 => tyV K T x H1 ∧ t σ H1 fun xs H2 => r x xs H2 Q
variable {o e : Expr} {es : List Expr} {to : TE} {t : TA} {name : Str} {apos cpos : Pos} {T id : String} {r : V → List V → Hp → VK → Prop}
theorem pe_bm (pa : PlainAttrs T) (slot : Slot T name id) (hty : typeOf (.builtin id) = pure (.type "method_descriptor")) (hm : MtR X id r) (ho : PE X o to) (ha : PA X (e :: es) t)
    (hbase : attributeBase o name X.env (eval o X.env) = eval o X.env := by rfl)
    (hfew : ((backTo cpos (starEach (e :: es) X.env)).all (fun x => !x.1) && (backToKw cpos (keywordEach [] X.env)).all (fun x => x.1.isSome)
      && decide ((e :: es).length + ([] : List Keyword).length + (if ([] : List Keyword).isEmpty then 0 else 1) < 30)) = true := by rfl)
    (hline : (apos.endLine == cpos.line) = true := by rfl) (hs : starEach (e :: es) X.env = (false, eval e X.env) :: starEach es X.env := by rfl) (hplain : (backTo cpos (starEach es X.env)).any (·.1) = false := by rfl) :
    PE X (.Call (.Attribute o name apos) (e :: es) [] cpos) (tBM X.K T r to t) := by
  intro pins s σ H Q I h
  refine wpAny_Call_method_late hbase hfew hline rfl (thn (ho pins s σ H _ I h) fun v s1 ⟨x, H1, I1, r1, ty, q1⟩ => ?_)
  obtain ⟨h1, h2⟩ := tyV_is I1 r1 ty
  refine ⟨T, id, pa, slot, hty, h1, h2, ?_⟩
  have hA := ha cpos pins s1 σ H1 _ I1 q1
  rw [hs] at hA ⊢
  refine Calls.callWith_builtin (by show (false || (backTo cpos (starEach es X.env)).any (·.1)) = false; rw [hplain] <;> rfl) (Calls.evalArgs_plain ?_)
  exact thn hA fun us s2 ⟨vs, H2, I2, r2, q2⟩ => hm pins s2 σ H2 x vs v us Q I2 r1 r2 q2
end
end L2
namespace L2
open PySem PySem.Spec PyProof.Rows
def MtM (X : Cx) (id : String) (r : V → List V → Hp → VK → Prop) : Prop :=
  ∀ (pins : List (Addr × Obj)) (s : Shared) (σ : St) (H : Hp) (x : V) (xs : List V) (v : Value) (us : List Value) (Q : VK), Inv X pins σ H s → RelV x v → Vals xs us → r x xs H Q →
    wpAny (model X.prog X.w) X.A (call (.builtin id) (v :: us)) (EP X pins σ Q) X.xe s
theorem Vals.one : ∀ {x : V} {us : List Value}, Vals [x] us → ∃ u, us = [u] ∧ RelV x u
  | _, _, .cons r .nil => ⟨_, rfl, r⟩
theorem Vals.reverse {xs : List V} {us : List Value} (h : Vals xs us) : Vals xs.reverse us.reverse := by
  induction h with
  | nil => exact .nil
  | cons r t ih => rw [List.reverse_cons, List.reverse_cons]; exact Vals.append ih (.cons r .nil)
theorem Vals.rep {xs : List V} {us : List Value} (h : Vals xs us) : ∀ k : Nat, Vals (List.replicate k xs).flatten (List.replicate k us).flatten
  | 0 => .nil
  | k + 1 => by
    rw [List.replicate_succ, List.replicate_succ, List.flatten_cons, List.flatten_cons]
    exact Vals.append h (Vals.rep h k)
theorem foldl_rep (its : List Value) : ∀ (k : Nat) (acc : List Value),
    List.foldl (fun x1 x2 => x1 ++ x2) acc.toArray (List.replicate k its.toArray) = (acc ++ (List.replicate k its).flatten).toArray
  | 0, acc => by simp
  | k + 1, acc => by
    have e : acc.toArray ++ its.toArray = (acc ++ its).toArray := by simp
    have e2 : (acc ++ its) ++ (List.replicate k its).flatten = acc ++ (List.replicate (k + 1) its).flatten := by
      rw [List.replicate_succ, List.flatten_cons, List.append_assoc]
    rw [← e2, ← foldl_rep its k (acc ++ its), ← e, List.replicate_succ, List.foldl_cons]
section
variable {X : Cx} {pins : List (Addr × Obj)} {σ : St} {H : Hp} {s : Shared} {l b : Addr} {xs ys zs : List V}
theorem Inv.lset {its its' : List Value} {n : Nat} {f : Array Value → Array Value} {t' : Nat} (I : Inv X pins σ H s) (hH : H l = some (.lst xs))
    (e : s.heap.get? l = some { cls := .type "list", data := .seq its.toArray n }) (hf : f its.toArray = its'.toArray) (hv : Vals ys its') (hz : ys.length ≤ sizeLine) :
    Inv X pins σ (upd H l (.lst ys)) { s with heap := s.heap.update l (Obj.mapSeq f), toks := t' } := by
  have q := PySem.IsL.update e f
  rw [hf] at q
  refine I.write (x := l) (e := l) (by rw [hH]; exact trivial) (.inl rfl) (fun b' u hb hu => (Heap.get?_update_other s.heap (Obj.mapSeq f) (Ne.symm hb)).trans hu) ⟨_, q⟩ ?_
  exact ⟨hz, its', _, hv, q⟩
theorem Inv.lnew {its : List Value} {t' : Nat} (I : Inv X pins σ H s) (hv : Vals ys its) (hz : ys.length ≤ sizeLine) :
    Inv X pins σ (upd H s.heap.objs.size (.lst ys)) { s with heap := s.heap.push { cls := .type "list", data := .seq its.toArray }, toks := t' } :=
  I.laid (fun _ _ q => Heap.get?_push_of_some _ q) (Nat.le_refl _) ⟨hz, its, 0, hv, Heap.get?_push_size _ rfl⟩
theorem Inv.fresh (I : Inv X pins σ H s) : H s.heap.objs.size = none := I.hok.fresh (Nat.le_refl _)
theorem Inv.lstM (I : Inv X pins σ H s) (hH : H l = some (.lst xs)) : xs.length ≤ sizeLine ∧ ∃ (its : List Value) (n : Nat), Vals xs its ∧ xs.length = its.length ∧ s.heap.get? l = some { cls := .type "list", data := .seq its.toArray n } := by
  obtain ⟨z, its, n, r, e⟩ := I.hok l _ hH
  exact ⟨z, its, n, r, r.length, e⟩
theorem notLongL {n : Nat} (h : n ≤ sizeLine) : Builtin.List.listTooLong n = false := by
  unfold Builtin.List.listTooLong
  exact decide_eq_false (by omega)
end
section
variable {X : Cx}
def rAppend : V → List V → Hp → VK → Prop := fun x vs H Q => ∃ l xs y, x = .ref l ∧ vs = [y] ∧ H l = some (.lst xs) ∧ xs.length < sizeLine ∧ Q .non (upd H l (.lst (xs ++ [y])))
theorem mt_append : MtM X "list.append" rAppend := by
  intro pins s σ H x vs v us Q I rx rv h
  obtain ⟨l, xs, y, rfl, rfl, hH, hz, q⟩ := h
  cases rx
  obtain ⟨u, rfl, ru⟩ := rv.one
  obtain ⟨z, its, n, r, hl, e⟩ := I.lstM hH
  refine call_meets F.slot_list_append ⟨_, e, rfl⟩ F.entry_list_append (F.args_list_append_2 _ _) (PySem.list_append l its.toArray n u (by rw [List.size_toArray]; omega)) ⟨e, ?_⟩
  refine ⟨.non, _, I.lset (its' := its ++ [u]) hH e (by simp) (r.append (.cons ru .nil)) ?_, rfl, q⟩
  rw [List.length_append, List.length_singleton]
  omega
def rCat : R2 := fun x y H Q => ∃ l b xs zs, x = .ref l ∧ y = .ref b ∧ H l = some (.lst xs) ∧ H b = some (.lst zs) ∧ xs.length + zs.length ≤ sizeLine ∧ ∀ p, H p = none → Q (.ref p) (upd H p (.lst (xs ++ zs)))
theorem op_cat : OpR X (binaryOp .Add) rCat := by
  intro pins s σ H x y v u Q I rx ry h
  obtain ⟨l, b, xs, zs, rfl, rfl, hH, hB, hz, q⟩ := h
  cases rx
  cases ry
  obtain ⟨z, its, n, r, hl, e⟩ := I.lstM hH
  obtain ⟨z2, its2, n2, r2, hl2, e2⟩ := I.lstM hB
  refine PySem.P.add_list e e2 ?_ (by rw [List.size_toArray, List.size_toArray]; omega)
  have ea : its.toArray ++ its2.toArray = (its ++ its2).toArray := by simp
  rw [ea]
  exact ⟨.ref _, _, I.lnew (t' := s.toks) (r.append r2) (by rw [List.length_append]; omega), rfl, q _ I.fresh⟩
def rRep : R2 := fun x y H Q => ∃ l k xs, x = .ref l ∧ y = .int k ∧ H l = some (.lst xs) ∧ -(2 ^ 63) ≤ k ∧ k < 2 ^ 63 ∧ xs.length * k.toNat ≤ sizeLine ∧
  ∀ p, H p = none → Q (.ref p) (upd H p (.lst (List.replicate k.toNat xs).flatten))
theorem len_rep {α : Type} (xs : List α) (k : Nat) : (List.replicate k xs).flatten.length = k * xs.length := by
  induction k with
  | zero => simp
  | succ k ih => rw [List.replicate_succ, List.flatten_cons, List.length_append, ih, Nat.succ_mul, Nat.add_comm]
theorem op_rep : OpR X (binaryOp .Mult) rRep := by
  intro pins s σ H x y v u Q I rx ry h
  obtain ⟨l, k, xs, rfl, rfl, hH, h1, h2, hz, q⟩ := h
  cases rx
  obtain ⟨t, rfl⟩ := ry
  obtain ⟨z, its, n, r, hl, e⟩ := I.lstM hH
  have hlen : its.toArray.size * k.toNat ≤ sizeLine := by rw [List.size_toArray, ← hl]; exact hz
  have hcap : ¬ its.toArray.size * k.toNat > (2 ^ 63 - 1) / 8 := by
    have : (sizeLine : Nat) ≤ (2 ^ 63 - 1) / 8 := by decide
    omega
  have hfit : ¬ (!Builtin.List.listFitsIndex k) = true := by
    rw [fitsIndex_both h1 h2]
    exact Bool.false_ne_true
  have hlong : ¬ Builtin.List.listTooLong (its.toArray.size * k.toNat) = true := by
    rw [notLongL hlen]
    exact Bool.false_ne_true
  have hnew : List.foldl (fun x1 x2 => x1 ++ x2) #[] (List.replicate (if its.toArray.isEmpty = true then 0 else k.toNat) its.toArray) = (List.replicate k.toNat its).flatten.toArray := by
    have f0 : ∀ m : Nat, List.foldl (fun x1 x2 => x1 ++ x2) #[] (List.replicate m its.toArray) = (List.replicate m its).flatten.toArray := fun m => by
      have := foldl_rep its m []
      rw [List.nil_append] at this
      exact this
    rw [f0]
    cases its with
    | nil => simp
    | cons a r' => rw [if_neg (by simp)]
  refine wpAny_binaryOp_repeat_ref (T := "list") (U := "int") (by decide) ⟨_, e, rfl⟩ (fun s' => typeIs_int s' k t) noFill_list_mul F.fills_int_mul F.slot_int_rmul repeat_list F.slot_int_index.lookup
    (call_meets F.slot_int_rmul (typeIs_int s k t) F.entry_int_rmul (F.args_int_rmul_2 _ _) (int___rmul___int_list k t l its.toArray n)
      ⟨e, rfl, ⟨_, e, rfl⟩, call_meets F.slot_list_mul ⟨_, e, rfl⟩ F.entry_list_mul (F.args_list_mul_2 _ _) (AutoListH.list___mul___list_int_3 l its.toArray n k t hfit hcap hlong) ⟨e, ?_⟩⟩)
  rw [hnew]
  exact ⟨.ref _, _, I.lnew (t' := s.toks) (r.rep k.toNat) (by rw [len_rep, Nat.mul_comm]; exact hz), rfl, q _ I.fresh⟩
end
section
variable {prog : Program} {w : World} {A : Around} {E : Value → Shared → Prop} {s : Shared}
end
section
variable {X : Cx}
end
end L2
namespace Att
open PySem PySem.W PySem.Calls PyProof.Rows
theorem ints_of_wellAll {P : Params} {h : Heap} : ∀ (ns : List Int) (vs : List Value), WellAll P h vs (ns.map WData.int) → IntsAre vs ns := by
  intro ns
  induction ns with
  | nil =>
    intro vs w
    rw [List.map_nil] at w
    cases w
    exact .nil
  | cons n ns ih =>
    intro vs w
    rw [List.map_cons] at w
    cases w with
    | cons a b =>
      cases a
      exact .cons _ _ (ih _ b)
theorem script_of {l : OpenLaw} {n : Nat} (hn : l.most = some n) {P : Params} {h : Heap} {args : List WData} {vals : List Value}
    (hpre : l.row.toRowW.claim.pre args = true) (hwl : WellAll P h vals args) :
    ∃ a vs ns, vals = [Value.ref a] ∧ args = [WData.list (ns.map WData.int)] ∧ h.get? a = some { cls := .type "list", data := .seq vs.toArray } ∧ IntsAre vs ns ∧ ns.length ≤ n := by
  have hsh : WShape.hasAll [] args [.list .int] = true := (pre_splitW hpre).1
  have hc : l.pre.holds [] { args := args } = true := (pre_splitW hpre).2
  obtain ⟨d, r, rfl, h1, h2⟩ := hasAllW_cons hsh
  obtain rfl := hasAllW_nil h2
  obtain ⟨xs, rfl, h3⟩ := hasW_list h1
  obtain ⟨ns, rfl⟩ := items_int h3
  have hlen : ns.length ≤ n := by
    unfold OpenLaw.pre at hc
    have h4 : (WTm.not (.lt (.lit (.int (n : Int))) (.len (.arg 0)))).holds [] { args := [.list (ns.map .int)] } = true := by
      have h4 := (holds_andW hc).1
      rw [hn] at h4
      exact h4
    have h5 := condW_of h4 (w_not (w_lt w_lit (w_len_list (w_arg rfl))))
    rw [List.length_map] at h5
    refine Nat.le_of_not_lt fun q => ?_
    have q' : (n : Int) < ((ns.length : Nat) : Int) := by omega
    first
      | (rw [decide_eq_true q'] at h5; exact absurd h5 (by decide))
      | (simp at h5; omega)
  cases hwl with
  | cons w1 w2 =>
    cases w2
    cases w1 with
    | list ho hall => exact ⟨_, _, ns, rfl, rfl, ho, ints_of_wellAll ns _ hall, hlen⟩
theorem post_true (l : OpenLaw) (args : List WData) : l.row.toRowW.claim.post args (.bool true) args = true :=
  postW_of (r := l.row.toRowW) (X := (true == true))
    (show WShape.has [] (.bool true) .bool = true by first | rfl | decide | simp [WShape.has, WShape.arms, WShape.armsAll])
    (show (WTm.eq .res (.lit (.bool true))).value [] { args := args, res := some (.bool true), after := args } = some (.bool (true == true)) from w_eq_bool (w_res rfl) w_lit) rfl
theorem attach_call {l : OpenLaw} {n : Nat} {q : Program} {loose : List Str} {XP : (Str → Option Value) → Heap → Prop} {YP : World → Heap → Prop} {d : DefRec}
    (hn : l.most = some n) (hdf : d.params.defaults = [])
    (call : ∀ (w : World) (s₀ s₁ : Shared) (mg mb : Str → Option Value) (fa : Addr) (o : Obj) (pm cd doc : Value) (a : Addr) (vs : List Value) (ns : List Int),
      Ground q loose [] XP w s₀ mg mb s₁.heap → YP w s₁.heap →
      s₁.heap.get? fa = some o → o.data = .func (docDef d.name d.params d.body d.scope pm cd doc) → s₁.heap.CodeRec cd d.name → mg d.name = some (.ref fa) →
      s₁.heap.get? a = some { cls := .type "list", data := .seq vs.toArray } → IntsAre vs ns → ns.length ≤ n → s₁.gens = #[] →
      codeAny (model l.prog w) callerA (.call (.ref fa) ⟨[.ref a], []⟩) (fun r s' => r = .ok (.ret (.bool true)) ∧ OldK s₁.heap s'.heap ∧ s'.os = s₁.os ∧ AllBare s'.gens) s₁) :
    WalkO q loose XP YP l.row.toRowW d [] (fun f vs => PySem.call f vs) := by
  intro w s₀ s₁ mg mb G Y fa o pm cd doc dV kV ho hd hcd hD hmg hg args vals as hpre hlay hrd hwl hlo
  obtain rfl : dV = .none := Dflts.none hD hdf
  obtain rfl : kV = .none := Dflts.noKw hD
  obtain ⟨a, vs, ns, rfl, rfl, hobj, hints, hlen⟩ := script_of hn hpre hwl
  refine enter_call (codeAny_mono (call w s₀ s₁ mg mb fa o pm cd doc a vs ns G Y ho (fd_plain hd) hcd hmg hobj hints hlen hg) fun r s' hq => ?_)
  obtain ⟨rfl, h2, h3, h4⟩ := hq
  exact ⟨.inl ⟨.bool true, .bool true, [], rfl, fun _ => rfl, .bool true, post_true l _, fun _ => ⟨List.Pairwise.nil, fun _ hm => (nomatch hm)⟩⟩, h2, h3, h4⟩
section
variable {prog : Program} {w : World} {A : Around} {E : Value → Shared → Prop} {s : Shared} {K : Frag}
end
end Att
namespace L2
open PySem PySem.Spec PyProof.Rows
theorem vals_ints : ∀ {vs : List Value} {ns : List Int}, IntsAre vs ns → Vals (ns.map V.int) vs
  | _, _, .nil => .nil
  | _, _, .cons n t h => .cons ⟨t, rfl⟩ (vals_ints h)
def Only (H : Hp) : Prop := ∀ b, H b = none ∨ ∃ o xs, H b = some (.frz o (.lst xs))
theorem law_call {P : Program} {w : World} {K : PySem.W.Frag} {mg mb : Str → Option Value} {CX : CXT} {k : Nat} {fa a : Addr} {fd : FuncData} {x : Str} {sp : Sp} {s₁ : Shared} {vs : List Value} {ns : List Int}
    (KX : K.In s₁.heap) (hns : s₁.heap.Ns mainGlobals mg) (hb : s₁.heap.Ns builtinsNs mb) (hbb : ∀ x : Str, x ≠ "__name__" → mb x = bootBuiltins x) (hlim : s₁.heap.NoLimit) (hg : s₁.gens = #[])
    (ha : s₁.heap.get? a = some { cls := .type "list", data := .seq vs.toArray }) (hi : IntsAre vs ns) (hl : ns.length ≤ sizeLine) (hr : Room k callerA)
    (F : ∀ base : Heap, K.In base → base.Ns mainGlobals mg → FnOk P w K mg base CX k fa fd [x] sp) (hbind : ∀ (s : Shared) (u : Value), BindsTo s fd ⟨[u], []⟩ [(x, u)])
    (hsp : ∀ H : Hp, Only H → SqL K H a (ns.map V.int) → sp [.ref a] H (fun v _ => v = .bl true) fun _ _ _ => False)
    (hCX : ∀ H e s', CX [] H s₁ (fun _ _ _ => False) e s' → False) :
    codeAny (model P w) callerA (.call (.ref fa) ⟨[.ref a], []⟩) (fun r s' => r = .ok (.ret (.bool true)) ∧ OldK s₁.heap s'.heap ∧ s'.os = s₁.os ∧ AllBare s'.gens) s₁ := by
  have rv := vals_ints hi
  have lenV := hi.length
  -- from an abstract heap in which nothing but the script may be tracked
  have core : ∀ H : Hp, Only H → SqL K H a (ns.map V.int) → HOk P w H s₁.heap → (∀ b, H b ≠ none → b = a) → (H a ≠ none → K.lookup a = none) →
      codeAny (model P w) callerA (.call (.ref fa) ⟨[.ref a], []⟩) (fun r s' => r = .ok (.ret (.bool true)) ∧ OldK s₁.heap s'.heap ∧ s'.os = s₁.os ∧ AllBare s'.gens) s₁ := by
    intro H hO hS hok hA hK
    have base_of : ∀ {b : Addr} {o : Obj}, s₁.heap.get? b = some o → H b = none → (hidT s₁.heap H).get? b = some o := fun e n => hidT_get e n
    have noA : ∀ {b : Addr} {o : Obj} {es : Array DictEntry} {ep : Nat}, s₁.heap.get? b = some o → o.data = .dict es ep → H b = none := fun {b o es ep} e d => by
      cases q : H b with
      | none => rfl
      | some u =>
        have e' : b = a := hA b (by rw [q]; simp)
        subst e'
        rw [ha] at e; cases e
        have d' : Data.seq vs.toArray _ = Data.dict es ep := d
        cases d'
    have nsK : ∀ {b : Addr} {m : Str → Option Value}, s₁.heap.Ns b m → (hidT s₁.heap H).Ns b m := fun {b m} ⟨o, es, ep, e, d, r⟩ => ⟨o, es, ep, base_of e (noA e d), d, r⟩
    have hKb : K.In (hidT s₁.heap H) := fun b o e => base_of (KX b o e) (by
      cases q : H b with
      | none => rfl
      | some u =>
        have e' : b = a := hA b (by rw [q]; simp)
        subst e'
        rw [hK (by rw [q]; simp)] at e; cases e)
    have hM : Mod K mg (hidT s₁.heap H) := ⟨hKb, nsK hns, ⟨mb, nsK hb, hbb⟩, let ⟨mc, h1, h2⟩ := hlim; ⟨mc, nsK h1, h2⟩⟩
    have e0 : Env0 P w K mg (hidT s₁.heap H) callerA [] s₁ H := ⟨rfl, hM, fun b o e => of_hidT e, Nat.le_of_eq (hidT_size _ _), trivial, fun b hb => absurd (show b ∈ ([] : List Addr) from hb) (by simp), hok, .of_eq hg⟩
    refine codeAny_mono ((F _ hKb (nsK hns)).run callerA [] s₁ H ⟨[.ref a], []⟩ [.ref a] [.ref a] _ _ hr e0 (hbind s₁ (.ref a)) (.cons rfl .nil) (hsp H hO hS)) fun r s' h => ?_
    cases r with
    | error e => exact (hCX H e s' h).elim
    | ok fl =>
      cases fl with
      | next => exact False.elim h
      | brk => exact False.elim h
      | cont => exact False.elim h
      | ret u =>
        obtain ⟨v, H', os, bare, un, hok', r', q⟩ := h
        have q' : v = .bl true := q
        subst q'
        obtain rfl : u = Value.bool true := r'
        refine ⟨rfl, OldK.of_keep fun b o e => ?_, os, bare⟩
        cases q : H b with
        | none => exact un.keep b o e q (by intro z; exact absurd (show b ∈ ([] : List Addr) from z) (by simp)) (by simp)
        | some u =>
          rcases hO b with z | ⟨ob, xs, z⟩
          · rw [q] at z; cases z
          · have z2 := un.frzs b ob _ z
            obtain ⟨e1, _⟩ := hok b _ z
            obtain ⟨e2, _⟩ := hok' b _ z2
            rw [e] at e1; cases e1
            exact e2
  cases hk : K.lookup a with
  | some o =>
    -- the script is one of the module's own objects
    have e := KX a o hk
    rw [ha] at e
    cases e
    refine core (fun _ => none) (fun _ => .inl rfl) (.inr ⟨_, vs.toArray, _, hk, rfl, rfl, rfl, by rw [List.size_toArray, lenV]; exact hl, by simpa using rv⟩) (fun b u z => by have z' : (none : Option HO) = some u := z; cases z') (fun b z => absurd rfl z) fun z => absurd rfl z
  | none =>
    refine core (fun b => if b = a then some (.frz { cls := .type "list", data := .seq vs.toArray } (.lst (ns.map V.int))) else none) (fun b => ?_) (.inl (.inr ⟨{ cls := .type "list", data := .seq vs.toArray }, if_pos rfl⟩)) (fun b u z => ?_) (fun b z => ?_) fun _ => hk
    · by_cases hb : b = a
      · exact .inr ⟨_, _, if_pos hb⟩
      · exact .inl (if_neg hb)
    · by_cases hb : b = a
      · have z' := (if_pos hb).symm.trans z
        cases z'
        subst hb
        exact ⟨ha, by rw [List.length_map]; exact hl, vs, _, rv, ha⟩
      · have z' := (if_neg hb).symm.trans z
        cases z'
    · by_cases hb : b = a
      · exact hb
      · exact absurd (if_neg hb) z
end L2
namespace L2
open PySem PySem.Spec PyProof.Rows
theorem walk_of {l : PySem.W.OpenLaw} {n k : Nat} {q : Program} {loose : List Str} {XP : (Str → Option Value) → Heap → Prop} {YP : World → Heap → Prop} {d : DefRec} {K : Params → PySem.W.Frag} {CX : World → CXT} {sp : World → Sp} {x : Str}
    (hn : l.most = some n) (hn2 : n ≤ sizeLine) (hdf : d.params.defaults = []) (hr : Room k callerA)
    (hY : ∀ (w : World) (h : Heap), YP w h → (K w.params).In h)
    (F : ∀ (w : World) (mg : Str → Option Value) (fa : Addr) (h : Heap), (K w.params).In h → h.Ns mainGlobals mg → mg d.name = some (.ref fa) →
      ∃ fd : FuncData, (∀ (s : Shared) (u : Value), BindsTo s fd ⟨[u], []⟩ [(x, u)]) ∧
        ∀ base : Heap, (K w.params).In base → base.Ns mainGlobals mg → FnOk l.prog w (K w.params) mg base (CX w) k fa fd [x] (sp w))
    (hsp : ∀ (w : World) (H : Hp) (a : Addr) (ns : List Int), ns.length ≤ n → Only H → SqL (K w.params) H a (ns.map V.int) → sp w [.ref a] H (fun v _ => v = .bl true) fun _ _ _ => False)
    (hCX : ∀ (w : World) (H : Hp) (s : Shared) (e : Value) (s' : Shared), CX w [] H s (fun _ _ _ => False) e s' → False) :
    PySem.W.WalkO q loose XP YP l.row.toRowW d [] (fun f vs => PySem.call f vs) := by
  refine Att.attach_call hn hdf fun w s₀ s₁ mg mb fa o pm cd doc a vs ns G Y ho hd hcd hmg hobj hints hlen hg => ?_
  have KX := hY w _ Y
  obtain ⟨fd, hb, hF⟩ := F w mg fa _ KX G.T.g hmg
  exact law_call KX G.T.g G.T.b G.T.builtins G.T.nolimit hg hobj hints (Nat.le_trans hlen hn2) hr hF hb (fun H hO hS => hsp w H a ns hlen hO hS) fun H e s' => hCX w H s₁ e s'
end L2
/- THE LAST THEOREM (shape; LID, My.* are yours):
   My.Adr: a structure of the addresses that your layer names (classes, functions); My.Txt K t: a structure (Prop) of the equations over K;
   My.txt_mk : {K} {implicit addresses ..} (e1 : nsIn K mainGlobals "law" = some (some (.ref f))) (e2 : K.lookup f = some ⟨oc, od, .func (fnOf "law" "law" params body scope dV kV doc pm an cdv ct), sl⟩) (e3 : codeIn K cdv "law" = true) .. : ∃ t, My.Txt K t
set_option maxRecDepth 100000 in
set_option maxHeartbeats 0 in
theorem PySem.Challenge.cw_LID_holds : PySem.Challenge.rw_LID.Holds := by
  w_on; o_law; k_head; (case hw => w_witness2)
  k_fill
  refine L2.walk_of (l := PySem.Challenge.rw_LID) (n := 63) (k := 40) (x := "script") (CX := fun w => ..) (sp := fun _ => My.sp_law) rfl (by decide) rfl ⟨rfl, by decide, by decide⟩ (fun w h Y => PySem.W.kIn_of Y) ?F ?S ?C
  case F =>
    intro w mg fa h KX G hmg
    have T : ∃ t, My.Txt (L2.KOf KX) t := by
      dsimp only [L2.KOf]                          -- K must stand as «<heap const> w.params» for k_is
      refine' My.txt_mk ?e1 ?e2 ?e3 ..
      (case e1 => PySem.W.k_is)                    -- in the order: a name -> its address -> its object -> its parts
      (case e2 => PySem.W.k_is)
      ..
    obtain ⟨t, T⟩ := T
    have e0 := hmg.symm.trans (PySem.W.mg_of KX G T.law)
    cases e0                                       -- fa is the law's own address
    exact ⟨_, fun s u => .of_eq rfl, fun base kb nb => My.law_fn T kb nb⟩     -- if «.of_eq rfl» comes too early: refine' ⟨_, ?b, fun base kb nb => My.law_fn T kb nb⟩; exact fun s u => .of_eq rfl
  case S => exact fun w H a ns hl hO hS => ..
  case C => exact ..
(the tactic k_is has no namespace: write k_is) -/
namespace L2
open PySem PySem.Spec PyProof.Rows
def defArgs (s : Stmt) : Arguments := match s with
  | .FunctionDef _ a _ _ _ _ _ _ _ _ => a
  | _ => { posonlyargs := [], args := [], vararg := none, kwonlyargs := [], kw_defaults := [], kwarg := none, defaults := [] }
def defBody (s : Stmt) : List Stmt := match s with
  | .FunctionDef _ _ b _ _ _ _ _ _ _ => b
  | _ => []
def defScope (s : Stmt) : Scope := match s with
  | .FunctionDef _ _ _ _ _ _ sc _ _ _ => sc
  | _ => { kind := .function, names := [], isGenerator := false, isCoroutine := false }
abbrev CX0 : CXT := fun _ _ _ _ _ _ => False
abbrev E0 : XK := fun _ _ _ => False
theorem pass0 {X : Cx} : Passes CX0 X E0 := fun _ _ _ _ _ _ _ h => h.elim
structure Fun (K : PySem.W.Frag) (x qual : Str) (st : Stmt) (f : Addr) (fd : FuncData) : Prop where
  ex : ∃ (oc : Value) (od : Option Addr) (kV doc pm : Value) (an : Option Addr) (cdv ct : Value) (osl : Array (Option Value)),
    fd = PySem.W.fnOf x qual (defArgs st) (defBody st) (defScope st) .none kV doc pm an cdv ct ∧ K.lookup f = some ⟨oc, od, .func fd, osl⟩ ∧ PySem.W.codeIn K cdv qual = true
  kp : PySem.W.keepIn K (.ref f) = true
section
variable {P : Program} {w : World} {K : PySem.W.Frag} {mg : Str → Option Value} {base : Heap}
theorem Fun.ok {x qual : Str} {st : Stmt} {f : Addr} {fd : FuncData} {N ps : List Str} {k : Nat} {sp : Sp} (F : Fun K x qual st f fd) (S : FnScope N ps (defScope st)) (len : ∀ vs H Q E, sp vs H Q E → vs.length = ps.length)
    (hbody : ∀ (cdv : Value) (A : Around) (outer : List Env) (s : Shared) (H : Hp) (vs : List V) (Q : VK) (E : XK), Room k (A.deeper (envOfC qual (defScope st) s.heap.objs.size f cdv)) → sp vs H Q E →
      ∃ t, PSs (cxOf CX0 P w K mg base N qual (defScope st) f cdv A outer s H E).nox (defBody st) t ∧ t { nx := fun _ H' => Q .non H', rt := Q } (start N vs) H) : FnOk P w K mg base CX0 (k + 1) f fd ps sp := by
  obtain ⟨oc, od, kV, doc, pm, an, cdv, ct, osl, rfl, lk, hcd⟩ := F.ex
  refine fn_of lk hcd S len fun A outer s H vs Q E hr hsp => ?_
  obtain ⟨t, h, q⟩ := hbody cdv A outer s H vs Q E hr hsp
  exact ⟨t, h.nox, q⟩
theorem Fun.binds {x qual : Str} {st : Stmt} {f : Addr} {fd : FuncData} {ps : List Str} (F : Fun K x qual st f fd)
    (h : ∀ (kV doc pm : Value) (an : Option Addr) (cdv ct : Value) (us : List Value), us.length = ps.length → bindArgs (PySem.W.fnOf x qual (defArgs st) (defBody st) (defScope st) .none kV doc pm an cdv ct) ⟨us, []⟩ = pure (ps.zip us)) : Binds K fd ps [] := by
  obtain ⟨oc, od, kV, doc, pm, an, cdv, ct, osl, rfl, lk, hcd⟩ := F.ex
  exact .all (h kV doc pm an cdv ct)
theorem fun_mk {x qual : Str} {st : Stmt} {f : Addr} {oc : Value} {od an : Option Addr} {osl : Array (Option Value)} {kV doc pm cdv ct : Value} (l : K.lookup f = some ⟨oc, od, .func (PySem.W.fnOf x qual (defArgs st) (defBody st) (defScope st) .none kV doc pm an cdv ct), osl⟩)
    (c : PySem.W.codeIn K cdv qual = true) (k : PySem.W.keepIn K (.ref f) = true) : Fun K x qual st f (PySem.W.fnOf x qual (defArgs st) (defBody st) (defScope st) .none kV doc pm an cdv ct) := ⟨⟨oc, od, kV, doc, pm, an, cdv, ct, osl, rfl, l, c⟩, k⟩
end
theorem small1000 {n : Nat} (h : n ≤ 1000) : n < sizeLine := Nat.lt_of_le_of_lt h (by decide)
section
variable {X : Cx}
theorem pv (i : Nat) {x : Str} {pos : Pos} (hN : X.N[i]? = some x := by rfl) (hv : Vis X.env.scope x := by first | exact Or.inl rfl | exact Or.inr (Or.inl rfl) | exact Or.inr (Or.inr rfl)) (hd : (x == ("__debug__" : Str)) = false := by decide)
    (hcd : (x == ("__classdict__" : Str)) = false := by decide) : PE X (.Name x pos) (tVar i) := pe_var hN hv hd hcd
end
theorem iteF {A B : Prop} (h : B) : if false = true then A else B := by
  rw [if_neg Bool.false_ne_true]
  exact h
theorem iteT {A B : Prop} (h : A) : if true = true then A else B := by
  rw [if_pos rfl]
  exact h
def Same (H H' : Hp) : Prop := ∀ b o, H b = some o → H' b = some o
theorem Same.refl (H : Hp) : Same H H := fun _ _ h => h
theorem Same.trans {H H1 H2 : Hp} (a : Same H H1) (b : Same H1 H2) : Same H H2 := fun c o h => b c o (a c o h)
theorem Same.free {H H' : Hp} (e : Same H H') {l : Addr} (h : H' l = Option.none) : H l = Option.none := by
  cases q : H l with
  | none => rfl
  | some o =>
    rw [e l o q] at h
    cases h
theorem Same.seq {K : PySem.W.Frag} {H H' : Hp} {a : Addr} {xs : List V} (e : Same H H') (h : SqL K H a xs) : SqL K H' a xs := by
  rcases h with (h | ⟨o, h⟩) | h
  · exact .inl (.inl (e _ _ h))
  · exact .inl (.inr ⟨o, e _ _ h⟩)
  · exact .inr h
end L2
set_option Elab.async false
set_option linter.all false
set_option maxRecDepth 100000
set_option maxHeartbeats 4000000
namespace L2
open PySem PySem.Spec PyProof.Rows
theorem closure_ex {env : Env} (names : List (Str × NameKind)) (hf : ∀ x ∈ names, x.2 = .free → ∃ c, env.cells.lookup x.1 = some c) : ∀ acc : List (Str × Addr),
    ∃ cl : List (Str × Addr), (forIn names acc (fun (x : Str × NameKind) cs => if (x.2 == .free) = true then do let a ← cellOf env x.1; pure (ForInStep.yield ((x.1, a) :: cs)) else pure (ForInStep.yield cs)) : Sem (List (Str × Addr))) = pure cl ∧
      (∀ p ∈ cl, p ∈ acc ∨ env.cells.lookup p.1 = some p.2) ∧ (∀ p ∈ acc, p ∈ cl) ∧ ∀ x, (x, NameKind.free) ∈ names → ∃ c, (x, c) ∈ cl := by
  induction names with
  | nil => intro acc; exact ⟨acc, rfl, fun p hp => .inl hp, fun _ hp => hp, fun x hx => by simp at hx⟩
  | cons n r ih =>
    intro acc
    obtain ⟨n, k⟩ := n
    have hr : ∀ x ∈ r, x.2 = .free → ∃ c, env.cells.lookup x.1 = some c := fun x hx => hf x (List.mem_cons_of_mem _ hx)
    by_cases hk : k = .free
    · subst hk
      obtain ⟨c, hc⟩ := hf (n, .free) List.mem_cons_self rfl
      obtain ⟨cl, e, h1, h2, h3⟩ := ih hr ((n, c) :: acc)
      refine ⟨cl, ?_, fun p hp => ?_, fun p hp => h2 p (List.mem_cons_of_mem _ hp), fun x hx => ?_⟩
      · rw [List.forIn_cons, ← e]
        have q : cellOf env n = pure c := by unfold cellOf; rw [hc]
        simp [q]
      · rcases h1 p hp with z | z
        · rcases List.mem_cons.mp z with rfl | z
          · exact .inr hc
          · exact .inl z
        · exact .inr z
      · rcases List.mem_cons.mp hx with z | z
        · cases z; exact ⟨c, h2 _ List.mem_cons_self⟩
        · exact h3 x z
    · obtain ⟨cl, e, h1, h2, h3⟩ := ih hr acc
      refine ⟨cl, ?_, h1, h2, fun x hx => ?_⟩
      · rw [List.forIn_cons, ← e]
        have q : (k == NameKind.free) = false := by simpa using hk
        simp [q]
      · rcases List.mem_cons.mp hx with z | z
        · cases z; exact absurd rfl hk
        · exact h3 x z
theorem lookup_of_mem {cl : List (Str × Addr)} {cells : List (Str × Addr)} (h : ∀ p ∈ cl, cells.lookup p.1 = some p.2) : ∀ x c, cl.lookup x = some c → cells.lookup x = some c := fun x c e => h (x, c) (PySem.mem_of_lookup e)
theorem lookup_has {cl : List (Str × Addr)} {x : Str} {c : Addr} : (x, c) ∈ cl → ∃ c', cl.lookup x = some c' := by
  induction cl with
  | nil => intro h; simp at h
  | cons p r ih =>
    intro h
    rw [List.lookup_cons]
    cases e : x == p.1 with
    | true => exact ⟨_, rfl⟩
    | false =>
      rcases List.mem_cons.mp h with z | z
      · subst z; simp at e
      · exact ih z
theorem closureFor_ex {scope : Scope} {env : Env} (hf : ∀ x ∈ scope.names, x.2 = .free → ∃ c, env.cells.lookup x.1 = some c) :
    ∃ cl, closureFor scope env = pure cl ∧ (∀ x c, cl.lookup x = some c → env.cells.lookup x = some c) ∧ ∀ x, (x, NameKind.free) ∈ scope.names → ∃ c, cl.lookup x = some c := by
  obtain ⟨cl, e, h1, _, h3⟩ := closure_ex (env := env) scope.names hf []
  refine ⟨cl, ?_, lookup_of_mem fun p hp => (h1 p hp).elim (fun z => by simp at z) id, fun x hx => ?_⟩
  · unfold closureFor
    simp only
    rw [← e]
    simp
  · obtain ⟨c, hc⟩ := h3 x hx
    exact lookup_has hc
theorem relabel_has {env : Env} : ∀ {names : List (Str × NameKind)} {x : Str} {k : NameKind}, (∀ y ∈ names, y.2 ≠ .cell) →
    (names.map fun (n, k) => if (k == NameKind.free && env.scope.kind == .function && env.kindOf n == some .cell) then (n, NameKind.cell) else (n, k)).lookup x = some k → (k = .cell ∨ k = .free) → (x, NameKind.free) ∈ names
  | [], _, _, _, h, _ => by simp at h
  | (n, k) :: r, x, kk, hc, h, hk => by
    have ih := @relabel_has env r x kk (fun y hy => hc y (List.mem_cons_of_mem _ hy))
    have h : List.lookup x ((if (k == NameKind.free && env.scope.kind == .function && env.kindOf n == some .cell) = true then (n, NameKind.cell) else (n, k)) :: _) = _ := h
    by_cases hb : (k == NameKind.free && env.scope.kind == .function && env.kindOf n == some .cell) = true
    · rw [if_pos hb] at h
      have kf : k = .free := by
        simp only [Bool.and_eq_true, beq_iff_eq] at hb
        exact hb.1.1
      rw [List.lookup_cons] at h
      cases e : x == n with
      | true =>
        have : x = n := by simpa using e
        subst this; subst kf
        exact List.mem_cons_self
      | false =>
        simp only [e] at h
        exact List.mem_cons_of_mem _ (ih h hk)
    · rw [if_neg hb] at h
      rw [List.lookup_cons] at h
      cases e : x == n with
      | true =>
        have kk' : k = kk := by simpa [e] using h
        have : x = n := by simpa using e
        subst this
        subst kk'
        rcases hk with rfl | rfl
        · exact absurd rfl (hc _ List.mem_cons_self)
        · exact List.mem_cons_self
      | false =>
        simp only [e] at h
        exact List.mem_cons_of_mem _ (ih h hk)
def cxComp (X : Cx) (scope : Scope) (N' : List Str) (cl : List (Str × Addr)) (C : Addr) (s0 : Shared) (H0 : Hp) (fp : List Addr) : Cx where
  prog := X.prog
  w := X.w
  K := X.K
  mg := X.mg
  base := X.base
  A := X.A
  N := N'
  s₀ := s0
  H₀ := H0
  env := compEnvC scope cl C X.env
  outer := X.stack
  stack := X.stack
  ex := fp
  fn := fun _ => false
  calm := X.calm
  pn := []
  xe := fun _ _ => False
def capSt (cap : List (Option Nat)) (σ : St) : St := cap.map fun o => o.bind fun i => (σ[i]?).join
structure CompScope (N : List Str) (sc scope : Scope) (N' : List Str) (cap : List (Option Nat)) : Prop where
  kind : scope.kind = .function
  nocell : ∀ y ∈ scope.names, y.2 ≠ .cell
  names : ∀ x ∈ scope.names, x.2 = .local → scope.names.lookup x.1 = some .local
  free : ∀ x ∈ scope.names, x.2 = .free → sc.names.lookup x.1 = some .cell
  fst : ∀ x ∈ scope.names, x.2 = .free → scope.names.lookup x.1 = some .free
  nd : N'.Nodup
  len : cap.length = N'.length
  at_ : ∀ p ∈ cap.zip N', ∀ i, p.1 = some i → N[i]? = some p.2 ∧ (p.2, NameKind.free) ∈ scope.names
def PIfs (X : Cx) (ifs : List Expr) (t : TT) : Prop :=
  ∀ (pins : List (Addr × Obj)) (s : Shared) (σ : St) (H : Hp) (Q : Bool → Hp → Prop), Inv X pins σ H s → t σ H Q →
    wpAny (model X.prog X.w) X.A (forIn ifs true fun c r => if r = true then do let ok ← isTrue c X.env (eval c X.env); pure (ForInStep.yield ok) else pure (ForInStep.yield r)) (TP X pins σ Q) X.xe s
def tTru : TT := fun _ H Q => Q true H
theorem pifs_nil {X : Cx} : PIfs X [] tTru := fun _ _ _ H _ I h => wpAny_tests_nil ⟨H, I, h⟩
def tComp (wi : TI) (cap : List (Option Nat)) (g : TG) (tc : TT) (te : TE) : TE := fun σ H Q => wi σ H fun J H1 => ∀ D, H1 D = none → ∃ W : Nat → Nat → St → Hp → Prop, (∃ m, W 0 m (capSt cap σ) (upd H1 D (.lst []))) ∧
  ∀ i m σ' H', W i m σ' H' → (J.stop i H' ∧ Q (.ref D) H') ∨ (J.go i H' ∧ ∃ N : St → Hp → Prop, (∀ σ2 H2, N σ2 H2 → ∃ m', m' < m ∧ W (i + 1) m' σ2 H2) ∧
    ∀ x H2, J.yld i H' x H2 → g x σ' H2 fun σ3 H3 => tc σ3 H3 fun b H4 => if b = true then te σ3 H4 fun y H5 => ∃ ys, H5 D = some (.lst ys) ∧ ys.length < sizeLine ∧ N σ3 (upd H5 D (.lst (ys ++ [y]))) else N σ3 H4)
theorem compLoop_go {prog : Program} {w : World} {A : Around} {R : Result → Shared → Prop} {s : Shared} {elt target iter : Expr} {ifs : List Expr} {scope : Scope} {pos : Pos} {it acc : Value} {env : Env} (I : Nat → Shared → Prop)
    (turn : ∀ n s, I n s → wpAny (model prog w) A (pyNext it) (fun r s₁ => match r with
      | none => R (.ok .next) s₁
      | some v => wpAny (model prog w) A (letOwnedTupleGo target it v) (fun _ s₁' => wpAny (model prog w) A (assign target env v) (fun _ s₂ =>
          wpAny (model prog w) A (forIn ifs true fun c r => if r = true then do let ok ← isTrue c env (eval c env); pure (ForInStep.yield ok) else pure (ForInStep.yield r)) (fun ok s₃ =>
            if ok = true then wpAny (model prog w) A (eval elt env) (fun x s₄ =>
              wpAny (model prog w) A (call (.builtin "list.append") [acc, x]) (fun _ s₅ => ∃ m, m < n ∧ I m s₅) (fun _ _ => False) s₄) (fun _ _ => False) s₃
            else ∃ m, m < n ∧ I m s₃) (fun _ _ => False) s₂) (fun _ _ => False) s₁') (fun _ _ => False) s₁) (fun _ _ => False) s)
    (n : Nat) (h : I n s) : codeAny (model prog w) A (.compLoop (.ListComp elt [⟨target, iter, ifs, 0⟩] scope pos) 0 it acc env) R s := by
  refine codeAny_loop rfl I (fun n s hI => ?_) n h
  show wpAny _ A ((compTurn (.ListComp elt [⟨target, iter, ifs, 0⟩] scope pos) 0 it acc env).onRaise (fun x => do noteFrame x env; theTreesLotGoes x)) _ _ s
  refine wpAny_noted ?_
  rw [compTurn_list]
  refine wpAny_bind (wpAny_standAt (wpAny_bind (wpAny_mono (turn n s hI) (fun r s₁ h₁ => ?_) fun _ _ h' => h'.elim)))
  cases r with
  | none => exact wpAny_pure h₁
  | some v =>
    refine wpAny_bind (wpAny_mono h₁ (fun _ s₁' h₁' => ?_) fun _ _ h' => h'.elim)
    refine wpAny_bind (wpAny_mono h₁' (fun _ s₂ h₂ => wpAny_bind (wpAny_mono h₂ (fun ok s₃ h₃ => ?_) fun _ _ h' => h'.elim)) fun _ _ h' => h'.elim)
    cases ok with
    | false => exact wpAny_pure ⟨rfl, h₃⟩
    | true =>
      exact wpAny_bind (wpAny_bind (wpAny_mono h₃ (fun x s₄ h₄ => wpAny_bind (wpAny_mono h₄ (fun _ s₅ h₅ => wpAny_pure (wpAny_pure ⟨rfl, h₅⟩)) fun _ _ h' => h'.elim)) fun _ _ h' => h'.elim))
section
variable {X : Cx} {elt tg iter : Expr} {ifs : List Expr} {scope : Scope} {pos : Pos} {N' : List Str} {cap : List (Option Nat)} {wi : TI} {g : TG} {tc : TT} {te : TE}
theorem inv_comp {pins : List (Addr × Obj)} {σ : St} {H : Hp} {s s4 : Shared} {cl : List (Str × Addr)} {C : Addr} {fp : List Addr} {m : Str → Option Value} (S : CompScope X.N X.env.scope scope N' cap) (I : Inv X pins σ H s)
    (hcl : ∀ x c, cl.lookup x = some c → X.env.cells.lookup x = some c) (hfr : ∀ x, (x, NameKind.free) ∈ scope.names → ∃ c, cl.lookup x = some c) (hC : s.heap.objs.size ≤ C) (hos : s4.os = s.os) (hg : s4.gens = s.gens)
    (hk : ∀ b o, s.heap.get? b = some o → s4.heap.get? b = some o) (hn : s4.heap.Ns C m) (hfp : ∀ b ∈ fp, FpOk X pins H b) (hfz : ∀ b ∈ fp, b < s.heap.objs.size) :
    Inv (cxComp X scope N' cl C s H fp) [] (capSt cap σ) H s4 := by
  refine ⟨⟨I.ok.mod, S.kind, I.ok.glob, I.ok.blt, hC, fun x y c h1 h2 => I.ok.inj x y c (hcl x c h1) (hcl y c h2), fun x hx => ?_, fun x c hx _ => absurd hx (by show ¬ (false = true); decide), I.ok.hd, I.ok.frames, .inl rfl,
      fun b hb => ⟨Nat.ne_of_lt (Nat.lt_of_lt_of_le (hfz b hb) hC), fun x c e => (hfp b hb).2.2.2.2.1 x c (hcl x c e)⟩, I.bs, Nat.le_trans I.ok.bsz I.sz, fun b o e hb => ?_, fun b hb hf => ?_, I.stack, I.stkFree⟩,
    hos, by rw [hg]; exact I.bare, Un.kept hk, ⟨m, hn, fun i x v h1 h2 h3 => ?_⟩, fun x c e => ?_, I.hok.fresh hC, fun x c e => I.freeC x c (hcl x c e), fun p hp => absurd (show p ∈ ([] : List (Addr × Obj)) from hp) (by simp), I.hok.kept hk, ?_⟩
  · have q : (x, NameKind.free) ∈ scope.names := by
      rcases hx with hx | hx
      · exact relabel_has S.nocell hx (.inl rfl)
      · exact relabel_has S.nocell hx (.inr rfl)
    exact hfr x q
  · rcases (hfp b hb).2.2.2.1 with z | z
    · exact I.ok.noex b o e z
    · exact absurd (Nat.lt_of_lt_of_le (Heap.lt_size e) (Nat.le_trans I.ok.bsz z)) (Nat.lt_irrefl _)
  · rcases List.mem_cons.mp (I.stkSub b hf) with z | z
    · exact (hfp b hb).2.1 z
    · exact (hfp b hb).2.2.1 z
  · have h2 : (cap.map fun o => o.bind fun i => (σ[i]?).join)[i]? = some (some v) := h2
    rw [List.getElem?_map] at h2
    cases ec : cap[i]? with
    | none => rw [ec] at h2; cases h2
    | some o =>
      rw [ec] at h2
      have h2 : (o.bind fun i => (σ[i]?).join) = some v := by simpa using h2
      cases o with
      | none => cases h2
      | some j =>
        have h2 : (σ[j]?).join = some v := h2
        have hj : σ[j]? = some (some v) := by
          cases ej : σ[j]? with
          | none => rw [ej] at h2; cases h2
          | some y => rw [ej] at h2; exact congrArg some h2
        have hz : (cap.zip N')[i]? = some (some j, x) := by rw [List.getElem?_zip_eq_some]; exact ⟨ec, h1⟩
        obtain ⟨q1, q2⟩ := S.at_ _ (List.mem_of_getElem? hz) j rfl
        obtain ⟨mx, hnx, hl⟩ := I.loc
        have kc := S.free _ q2 rfl
        obtain ⟨u, r, lk⟩ := hl j x v q1 hj (.inr (.inl kc))
        refine ⟨u, r, ?_⟩
        rcases lk with ⟨k1, _⟩ | ⟨_, c, e, z⟩
        · have : X.env.scope.names.lookup x = some .local := k1
          rw [kc] at this; cases this
        · obtain ⟨c', hc'⟩ := hfr x q2
          have := hcl x c' hc'
          rw [e] at this; cases this
          have kx : (compEnvC scope cl C X.env).kindOf x = some .cell ∨ (compEnvC scope cl C X.env).kindOf x = some .free ∨ (compEnvC scope cl C X.env).kindOf x = some .local := by
            rcases h3 with z | z | z
            · exact .inr (.inr z)
            · exact .inl z
            · exact .inr (.inl z)
          rcases kx with kx | kx | kx
          · exact .inr ⟨.inl kx, c, hc', let ⟨o, ho, hd⟩ := z; ⟨o, hk c o ho, hd⟩⟩
          · exact .inr ⟨.inr kx, c, hc', let ⟨o, ho, hd⟩ := z; ⟨o, hk c o ho, hd⟩⟩
          · exfalso
            have kl : (relabel scope X.env).names.lookup x = some .local := kx
            have ml := PySem.mem_of_lookup kl
            obtain ⟨⟨n, k⟩, hm, e2⟩ := List.mem_map.mp ml
            have e2 : (if (k == NameKind.free && X.env.scope.kind == .function && X.env.kindOf n == some .cell) = true then (n, NameKind.cell) else (n, k)) = (x, NameKind.local) := e2
            split at e2
            · cases e2
            · cases e2
              have a1 := S.names _ hm rfl
              have a3 : scope.names.lookup x = some .free := S.fst _ q2 rfl
              have a1 : scope.names.lookup x = some .local := a1
              rw [a3] at a1; cases a1
  · obtain ⟨v, o, ho, hd⟩ := I.cell x c (hcl x c e)
    exact ⟨v, o, hk c o ho, hd⟩
  · show (capSt cap σ).length = N'.length
    unfold capSt
    rw [List.length_map, S.len]
theorem comp_block {pins : List (Addr × Obj)} {σ : St} {H2 : Hp} {s2 : Shared} {it : Addr} {fp : List Addr} {tn : Nat → Heap → Prop} {J : It} {cl : List (Str × Addr)} {RR : Value → Addr → Result → Shared → Prop} {E : Value → Shared → Prop} (hcalm : X.calm = true) (S : CompScope X.N X.env.scope scope N' cap)
    (hg : ∀ (C : Addr) (s0 : Shared) (H0 : Hp), PG (cxComp X scope N' cl C s0 H0 fp) tg g) (ht : ∀ (C : Addr) (s0 : Shared) (H0 : Hp), PIfs (cxComp X scope N' cl C s0 H0 fp) ifs tc) (he : ∀ (C : Addr) (s0 : Shared) (H0 : Hp), PE (cxComp X scope N' cl C s0 H0 fp) elt te)
    (I2 : Inv X pins σ H2 s2) (T : Turn X.prog X.w X.K tg J fp it tn) (st2 : tn 0 s2.heap) (f2 : ∀ b ∈ fp, FpOk X pins H2 b)
    (hcl : ∀ x c, cl.lookup x = some c → X.env.cells.lookup x = some c) (hfr : ∀ x, (x, NameKind.free) ∈ scope.names → ∃ c, cl.lookup x = some c)
    {P : V → Hp → Prop}
    (w : ∀ D, H2 D = none → ∃ W : Nat → Nat → St → Hp → Prop, (∃ m, W 0 m (capSt cap σ) (upd H2 D (.lst []))) ∧
      ∀ i m σ' H', W i m σ' H' → (J.stop i H' ∧ P (.ref D) H') ∨ (J.go i H' ∧ ∃ N : St → Hp → Prop, (∀ σ2 H2, N σ2 H2 → ∃ m', m' < m ∧ W (i + 1) m' σ2 H2) ∧
        ∀ x H2, J.yld i H' x H2 → g x σ' H2 fun σ3 H3 => tc σ3 H3 fun b H4 => if b = true then te σ3 H4 fun y H5 => ∃ ys, H5 D = some (.lst ys) ∧ ys.length < sizeLine ∧ N σ3 (upd H5 D (.lst (ys ++ [y]))) else N σ3 H4))
    (hRR : ∀ D C H' s' m', X.env.locals ≠ C → X.s₀.heap.objs.size ≤ C → (∀ x c, X.env.cells.lookup x = some c → c ≠ C) → (∀ p ∈ X.pn ++ pins, p.1 ≠ C) → H' C = none → s'.heap.Ns C m' → Inv X pins σ H' s' → P (.ref D) H' → RR (.ref D) C (.ok .next) s') :
    wpAny (model X.prog X.w) X.A (newList []) (fun acc s₃ => wpAny (model X.prog X.w) X.A (newFunctionEnv scope X.env.globals cl [] X.env.qual none .none (some X.env)) (fun cenv s₄ =>
      codeAny (model X.prog X.w) X.A (.compStart (.ListComp elt [⟨tg, iter, ifs, 0⟩] scope pos) 0 (.ref it) acc { cenv with scope := relabel scope X.env }) (RR acc cenv.locals) s₄) E s₃) E s2 := by
  refine wpAny_newObj_type ?_ (by show 0 ≤ sizeLine; decide)
  have I3 : Inv X pins σ (upd H2 s2.heap.objs.size (.lst [])) { s2 with heap := s2.heap.push { cls := .type "list", data := .seq ([] : List Value).toArray } } := I2.lnew (t' := s2.toks) .nil (by show 0 ≤ sizeLine; decide)
  have k3 : ∀ b o, s2.heap.get? b = some o → (s2.heap.push { cls := .type "list", data := .seq ([] : List Value).toArray }).get? b = some o := fun b o e => Heap.get?_push_of_some _ e
  have z3 : (s2.heap.push { cls := .type "list", data := .seq ([] : List Value).toArray }).objs.size = s2.heap.objs.size + 1 := Heap.size_push ..
  have hD0 : H2 s2.heap.objs.size = none := I2.fresh
  generalize hs3 : ({ s2 with heap := s2.heap.push { cls := .type "list", data := .seq ([] : List Value).toArray } } : Shared) = s3 at I3 ⊢
  have eh3 : s3.heap = s2.heap.push { cls := .type "list", data := .seq ([] : List Value).toArray } := by rw [← hs3]
  have eo3 : s3.os = s2.os := by rw [← hs3]
  generalize hDD : s2.heap.objs.size = D at I3 hD0 z3 ⊢
  rw [← eh3] at k3 z3
  have live : ∀ b ∈ fp, ∃ o, s2.heap.get? b = some o ∧ ∀ v, o.data ≠ .cell v := fun b hb => T.obj 0 _ st2 b hb
  have ltD : ∀ b ∈ fp, b < D := fun b hb => by obtain ⟨o, e, _⟩ := live b hb; rw [← hDD]; exact Heap.lt_size e
  have f3 : ∀ b ∈ fp, FpOk X pins (upd H2 D (.lst [])) b := fun b hb => ⟨by rw [upd_ne (Nat.ne_of_lt (ltD b hb))]; exact (f2 b hb).1, (f2 b hb).2⟩
  refine wpAny_newFunctionEnv S.nocell (by intro y hy; simp at hy) (fun h4 hn4 hs4 => ?_) S.kind
  have k4 : ∀ b o, s3.heap.get? b = some o → h4.get? b = some o := fun b o e => hs4.extBut b o (Nat.ne_of_lt (Heap.lt_size e)) (Heap.get?_push_of_some _ e)
  have st4 : tn 0 h4 := T.keep 0 _ _ st2 fun b _ o e => k4 b o (k3 b o e)
  have I4 : Inv (cxComp X scope N' cl s3.heap.objs.size s3 (upd H2 D (.lst [])) fp) [] (capSt cap σ) (upd H2 D (.lst [])) { s3 with heap := h4, toks := s3.toks + ([] : List (Str × Value)).length } :=
    inv_comp S I3 hcl hfr (Nat.le_refl _) rfl rfl k4 hn4 f3 fun b hb => by rw [z3]; exact Nat.lt_succ_of_lt (ltD b hb)
  obtain ⟨W, ⟨m0, w0⟩, turn⟩ := w D hD0
  have fpY : ∀ {H' : Hp}, (∀ b ∈ fp, H' b = none) → ∀ b ∈ fp, FpOk (cxComp X scope N' cl s3.heap.objs.size s3 (upd H2 D (.lst [])) fp) [] H' b := fun hn b hb =>
    ⟨hn b hb, Nat.ne_of_lt (by show b < s3.heap.objs.size; rw [z3]; exact Nat.lt_succ_of_lt (ltD b hb)), fun hf => I4.ok.exfs b hb hf, .inl hb, fun x c e => (I4.ok.exf b hb).2 x c e, fun p hp => absurd (show p ∈ ([] : List (Addr × Obj)) from hp) (by simp)⟩
  have loop : ∀ s₃ : Shared, s₃ = { s3 with heap := h4, toks := s3.toks + ([] : List (Str × Value)).length } →
      codeAny (model X.prog X.w) X.A (.compLoop (.ListComp elt [⟨tg, iter, ifs, 0⟩] scope pos) 0 (.ref it) (.ref D) (compEnvC scope cl s3.heap.objs.size X.env)) (RR (.ref D) s3.heap.objs.size) s₃ := by
    rintro s₃ rfl
    refine compLoop_go (fun n s' => ∃ i σ' H', Inv (cxComp X scope N' cl s3.heap.objs.size s3 (upd H2 D (.lst [])) fp) [] σ' H' s' ∧ tn i s'.heap ∧ (∀ b ∈ fp, H' b = none) ∧ W i n σ' H') ?_ m0
      ⟨0, capSt cap σ, upd H2 D (.lst []), I4, st4, fun b hb => (f3 b hb).1, w0⟩
    rintro n s5 ⟨i, σ5, H5, I5, st5, fr5, w5⟩
    rcases turn i n σ5 H5 w5 with ⟨stop, qn⟩ | ⟨go, N, hN, step⟩
    · refine thn (T.done (cxComp X scope N' cl s3.heap.objs.size s3 (upd H2 D (.lst [])) fp) rfl rfl rfl hcalm i [] s5 σ5 H5 _ I5 (fpY fr5) st5 stop) fun r s6 ⟨hr, I6⟩ => ?_
      subst hr
      obtain ⟨m6, hn6, _⟩ := I6.loc
      have un : Un (frs X.stack) fp (upd H2 D (.lst [])) H5 s3.heap s6.heap := I6.base
      refine hRR D s3.heap.objs.size H5 s6 m6 (Nat.ne_of_lt I3.lt) I3.sz (fun x c e => ?_) (fun p hp => ?_) I6.free hn6 ?_ qn
      · obtain ⟨v, q⟩ := I3.cell x c e
        exact Nat.ne_of_lt q.lt
      · exact Nat.ne_of_lt (Heap.lt_size (I3.pin p hp).1)
      · exact I3.call' I6.os un I6.hok I6.bare fun b hb => ⟨(f3 b hb).2.2.2.1, (f3 b hb).2.1, (f3 b hb).2.2.2.2.1, (f3 b hb).2.2.2.2.2⟩
    · refine thn (T.item (cxComp X scope N' cl s3.heap.objs.size s3 (upd H2 D (.lst [])) fp) rfl rfl rfl hcalm i [] s5 σ5 H5 (fun _ _ => False) I5 (fpY fr5) st5 go) fun r s6 ⟨u, hr, h6⟩ => ?_
      subst hr
      refine thn h6 fun _ s7 ⟨x, H7, I7, r7, y7, st7, fr7⟩ => ?_
      have I7' := I7.pinned (fpY fr7) (T.obj _ _ st7)
      refine thn (hg _ _ _ _ s7 σ5 H7 x u _ I7' r7 (step x H7 y7)) fun _ s8 ⟨σ8, H8, I8, q8⟩ => ?_
      refine thn (ht _ _ _ _ s8 σ8 H8 _ I8 q8) fun b s9 ⟨H9, I9, q9⟩ => ?_
      have again : ∀ {σ9 : St} {H9 : Hp} {s9 : Shared}, Inv (cxComp X scope N' cl s3.heap.objs.size s3 (upd H2 D (.lst [])) fp) ([] ++ pinsAt fp s7.heap) σ9 H9 s9 → N σ9 H9 → ∃ m, m < n ∧ ∃ i σ' H', Inv (cxComp X scope N' cl s3.heap.objs.size s3 (upd H2 D (.lst [])) fp) [] σ' H' s9 ∧ tn i s9.heap ∧ (∀ b ∈ fp, H' b = none) ∧ W i m σ' H' := fun {σ9 H9 s9} I9 n9 => by
        obtain ⟨m', hm, w9⟩ := hN σ9 H9 n9
        refine ⟨m', hm, i + 1, σ9, H9, I9.unpinned, T.keep _ _ _ st7 fun b hb o e => (I9.pin (b, o) (List.mem_append_right _ (List.mem_append_right _ (mem_pinsAt hb e)))).1, fun b hb => ?_, w9⟩
        obtain ⟨o, e, d⟩ := T.obj _ _ st7 b hb
        exact (I9.pin (b, o) (List.mem_append_right _ (List.mem_append_right _ (mem_pinsAt hb e)))).2.1
      cases b with
      | false =>
        rw [if_neg (by decide)] at q9 ⊢
        exact again I9 q9
      | true =>
        rw [if_pos rfl] at q9 ⊢
        refine thn (he _ _ _ _ s9 σ8 H9 _ I9 q9) fun yv s10 ⟨y, H10, I10, r10, ys, hD10, hz10, q10⟩ => ?_
        refine thn (mt_append _ s10 σ8 H10 (.ref D) [y] (.ref D) [yv] (fun _ H' => N σ8 H') I10 rfl (.cons r10 .nil) ⟨D, ys, y, rfl, rfl, hD10, hz10, q10⟩) fun _ s11 ⟨_, H11, I11, _, q11⟩ => ?_
        exact again I11 q11
  exact codeAny_compStart_list (loop _ rfl) (T.self _ 0 _ _ _ st4 (loop _ rfl))
theorem pe_comp (hcalm : X.calm = true) (S : CompScope X.N X.env.scope scope N' cap) (hi : PI X tg iter wi)
    (hg : ∀ (cl : List (Str × Addr)) (fp : List Addr) (C : Addr) (s0 : Shared) (H0 : Hp), PG (cxComp X scope N' cl C s0 H0 fp) tg g) (ht : ∀ (cl : List (Str × Addr)) (fp : List Addr) (C : Addr) (s0 : Shared) (H0 : Hp), PIfs (cxComp X scope N' cl C s0 H0 fp) ifs tc)
    (he : ∀ (cl : List (Str × Addr)) (fp : List Addr) (C : Addr) (s0 : Shared) (H0 : Hp), PE (cxComp X scope N' cl C s0 H0 fp) elt te) (hs : ∀ x, foldedSetIterable iter X.env x = pure x := by intro _; rfl) :
    PE X (.ListComp elt [⟨tg, iter, ifs, 0⟩] scope pos) (tComp wi cap g tc te) := by
  intro pins s σ H Q I h
  obtain ⟨cl, ecl, hcl, hfr⟩ := closureFor_ex (scope := scope) (env := X.env) fun x hx hf => I.ok.has x.1 (.inl (S.free x hx hf))
  rw [eval_ListComp]
  refine wpAny_comprehension_free (use := none) rfl hs ecl S.kind S.names (thn (hi pins s σ H _ I h) fun v s1 h1 => thn h1 fun itv s2 h2 => ?_)
  obtain ⟨it, fp, tn, J, H2, e, I2, T, st2, f2, w⟩ := h2
  subst e
  refine comp_block (RR := fun acc C => compPost (model X.prog X.w) X.A X.xe none (EP X pins σ Q) acc C) hcalm S (hg cl fp) (ht cl fp) (he cl fp) I2 T st2 f2 hcl hfr (P := Q) w ?_
  intro D C H' s' m' hL hz hcc hpp hC hn I' q
  refine ⟨m', hn, fun h' hs' => ⟨.ref D, H', I'.turned (t' := s'.toks) (fun b o hb e => (hs'.2 b hb).trans e) hC (Ne.symm hL) (.inr hz) hcc hpp, rfl, q⟩⟩
theorem ps_comp {i : Nat} {y : Str} {py spos : Pos} (hcalm : X.calm = true) (hN : X.N.Nodup) (hy : X.N[i]? = some y) (hx : Loc X.env.scope y) (S : CompScope X.N X.env.scope scope N' cap) (hi : PI X tg iter wi)
    (hg : ∀ (cl : List (Str × Addr)) (fp : List Addr) (C : Addr) (s0 : Shared) (H0 : Hp), PG (cxComp X scope N' cl C s0 H0 fp) tg g) (ht : ∀ (cl : List (Str × Addr)) (fp : List Addr) (C : Addr) (s0 : Shared) (H0 : Hp), PIfs (cxComp X scope N' cl C s0 H0 fp) ifs tc)
    (he : ∀ (cl : List (Str × Addr)) (fp : List Addr) (C : Addr) (s0 : Shared) (H0 : Hp), PE (cxComp X scope N' cl C s0 H0 fp) elt te) (hsw : swapsWith (.ListComp elt [⟨tg, iter, ifs, 0⟩] scope pos) (some (.Name y py)) spos.line X.env = pure true := by rfl)
    (hs : ∀ x, foldedSetIterable iter X.env x = pure x := by intro _; rfl) (hf : X.fn y = true ∨ X.env.scope.names.lookup y = some .local := by first | exact .inl rfl | exact .inr rfl | assumption) :
    PS X (.Assign [.Name y py] (.ListComp elt [⟨tg, iter, ifs, 0⟩] scope pos) spos) (tAsg (tComp wi cap g tc te) (gName i)) := by
  intro pins s σ H D I h
  obtain ⟨cl, ecl, hcl, hfr⟩ := closureFor_ex (scope := scope) (env := X.env) fun x hx hf => I.ok.has x.1 (.inl (S.free x hx hf))
  rw [exec_Assign_Name_used _ _ _ _ hsw]
  refine wpAny_bind (wpAny_standAt (wpAny_bind ?_))
  show wpAny _ X.A (do let _ ← comprehension (.ListComp elt [⟨tg, iter, ifs, 0⟩] scope pos) scope X.env _ (newList []) false (eval iter X.env) (some (assign (.Name y py) X.env))) _ _ s
  refine wpAny_bind (wpAny_mono (wpAny_comprehension_free (use := some (assign (.Name y py) X.env)) (Q := fun _ s' => SP X pins D .next s') rfl hs ecl S.kind S.names
    (thn (hi pins s σ H _ I h) fun v s1 h1 => thn h1 fun itv s2 h2 => ?_)) (fun _ s' hq => wpAny_pure (wpAny_pure hq)) fun _ _ e => e)
  obtain ⟨it, fp, tn, J, H2, e, I2, T, st2, f2, w⟩ := h2
  subst e
  refine comp_block (RR := fun acc C => compPost (model X.prog X.w) X.A X.xe (some (assign (.Name y py) X.env)) (fun _ s' => SP X pins D .next s') acc C) hcalm S (hg cl fp) (ht cl fp) (he cl fp) I2 T st2 f2 hcl hfr (P := fun v H' => D.nx (σ.set i (some v)) H') w ?_
  intro Dd C H' s' m' hL hz hcc hpp hC hn I' q
  show wpAny _ X.A (assign (.Name y py) X.env (.ref Dd)) _ _ s'
  refine wpAny_assign_Name (store_ok2 (v := .ref Dd) I' hN hy hx rfl (fun s'' I'' hsb => ?_) hf)
  obtain ⟨a, sb, ha⟩ := hsb
  have hCa : C ≠ a := by
    rcases ha with z | z
    · rw [z]; exact Ne.symm hL
    · exact Ne.symm (hcc y a z)
  refine ⟨m', hn.sameBut sb hCa, fun h' hs' => ?_⟩
  exact ⟨_, H', I''.turned (t' := s''.toks) (fun b o hb e => (hs'.2 b hb).trans e) hC (Ne.symm hL) (.inr hz) hcc hpp, q⟩
end
end L2
set_option Elab.async false
set_option linter.all false
set_option maxRecDepth 100000
set_option maxHeartbeats 4000000
namespace L2
open PySem PySem.Spec PyProof.Rows
open AutoSeq1 (wpAny_loadPart')
theorem Inv.turnedL {X : Cx} {pins : List (Addr × Obj)} {σ : St} {H : Hp} {s : Shared} {h' : Heap} {ch : List Addr} {t' : Nat} (I : Inv X pins σ H s) (k : ∀ b o, b ∉ ch → s.heap.get? b = some o → h'.get? b = some o) (hf : ∀ b ∈ ch, FpOk X pins H b) :
    Inv X pins σ H { s with heap := h', toks := t' } := by
  have nit : ∀ b u, H b = some u → b ∉ ch := fun b u e z => by rw [(hf b z).1] at e; cases e
  refine I.step (g' := s.gens) (d' := s.drawn) (ch := ch) (fun b hb => ⟨(hf b hb).2.2.2.1, (hf b hb).2.1, (hf b hb).2.2.2.2.1, (hf b hb).2.2.2.2.2⟩) (fun b o _ _ hc e _ => k b o hc e) (fun b o _ _ hc e _ => ⟨o.slots, k b o hc e⟩) (fun _ _ _ _ n => n)
    (fun b o hc e => ⟨o, k b o hc e⟩) (fun _ _ e => e) (fun _ _ _ e => e) (fun b ps e => ⟨#[], by rw [e]; simp⟩) (fun m hm => ?_) (fun b u e => ?_) I.bare
  · obtain ⟨o, es, ep, ho, r⟩ := hm
    exact ⟨o, es, ep, k _ o (fun z => (hf _ z).2.1 rfl) ho, r⟩
  · refine (I.hok b u e).stay (fun c v hc q => k c v ?_ q) (fun _ q => q) fun _ _ q => q
    rcases hc with z | z
    · rw [z]; exact nit b u e
    · exact nit c _ z
def SqI (b : Bool) (h : Heap) (it a : Addr) (i : Nat) : Prop := match b with | true => h.IsListIter it a i | false => h.IsTupleIter it a i
def SqO (b : Bool) (h : Heap) (a : Addr) (its : Array Value) : Prop := match b with | true => h.IsList a its | false => h.IsTuple a its
def SqB (K : PySem.W.Frag) (b : Bool) (H : Hp) (a : Addr) (xs : List V) : Prop := match b with | true => SqL K H a xs | false => SqT K H a xs
def itObj (b : Bool) (a : Addr) : Obj := match b with
  | true => { cls := .type "list_iterator", data := .fields #[.ref a, .int 0 0] }
  | false => { cls := .type "tuple_iterator", data := .fields #[.ref a, .int 0 0] }
theorem SqI.at {b : Bool} {h h' : Heap} {it a : Addr} {i : Nat} (x : SqI b h it a i) (k : ∀ o, h.get? it = some o → h'.get? it = some o) : SqI b h' it a i := by
  cases b <;> (obtain ⟨o, e, r⟩ := x; exact ⟨o, k o e, r⟩)
theorem SqO.at {b : Bool} {h h' : Heap} {a : Addr} {its : Array Value} (x : SqO b h a its) (k : ∀ o, h.get? a = some o → h'.get? a = some o) : SqO b h' a its := by
  cases b <;> (obtain ⟨o, e, r⟩ := x; exact ⟨o, k o e, r⟩)
theorem SqI.obj {b : Bool} {h : Heap} {it a : Addr} {i : Nat} (x : SqI b h it a i) : ∃ o, h.get? it = some o ∧ ∀ v, o.data ≠ .cell v := by
  cases b <;> (obtain ⟨o, e, _, d⟩ := x; exact ⟨o, e, fun v z => by rw [d] at z; cases z⟩)
theorem SqI.lt {b : Bool} {h : Heap} {it a : Addr} {i : Nat} (x : SqI b h it a i) : it < h.objs.size := by obtain ⟨o, e, _⟩ := x.obj; exact Heap.lt_size e
theorem SqO.lt {b : Bool} {h : Heap} {a : Addr} {its : Array Value} (x : SqO b h a its) : a < h.objs.size := by
  cases b <;> (obtain ⟨o, e, _⟩ := x; exact Heap.lt_size e)
theorem Inv.sqb {X : Cx} {pins : List (Addr × Obj)} {σ : St} {H : Hp} {s : Shared} {b : Bool} {a : Addr} {xs : List V} (I : Inv X pins σ H s) (h : SqB X.K b H a xs) : ∃ its : List Value, Vals xs its ∧ SqO b s.heap a its.toArray ∧ xs.length ≤ sizeLine := by
  cases b with
  | true => obtain ⟨its, rv, p, hz⟩ := I.list h; exact ⟨its, rv, p.isList, hz⟩
  | false => obtain ⟨its, rv, p, hz⟩ := I.tuple h; exact ⟨its, rv, p, hz⟩
theorem Inv.sqb_inj {X : Cx} {pins : List (Addr × Obj)} {σ : St} {H : Hp} {s : Shared} {b : Bool} {a : Addr} {xs ys : List V} (I : Inv X pins σ H s) (h : SqB X.K b H a xs) (h' : SqB X.K b H a ys) : xs = ys := by
  cases b with
  | true => exact I.list_inj h h'
  | false => exact I.tuple_inj h h'
theorem SqB.same {K : PySem.W.Frag} {b : Bool} {H H' : Hp} {a : Addr} {xs : List V} (e : Same H H') (h : SqB K b H a xs) : SqB K b H' a xs := by
  cases b with
  | true => exact e.seq h
  | false =>
    rcases h with (h | ⟨o, h⟩) | h
    · exact .inl (.inl (e _ _ h))
    · exact .inl (.inr ⟨o, e _ _ h⟩)
    · exact .inr h
section
variable {prog : Program} {w : World} {A : Around} {E : Value → Shared → Prop} {s : Shared}
theorem iter_sq {b : Bool} {a : Addr} {its : Array Value} {Q : Value → Shared → Prop} (h : SqO b s.heap a its) (q : Q (.ref s.heap.objs.size) { s with heap := s.heap.push (itObj b a) }) : wpAny (model prog w) A (pyIter (.ref a)) Q E s := by
  cases b with
  | true => exact wpAny_pyIter_list h q
  | false => exact wpAny_pyIter_tuple h q
theorem itObj_is {b : Bool} {h : Heap} {it a : Addr} (e : h.get? it = some (itObj b a)) : SqI b h it a 0 := by
  cases b <;> exact ⟨_, e, rfl, rfl⟩
theorem next_sq {b : Bool} {it a : Addr} {i : Nat} {its : Array Value} {x : Value} {Q : Value → Shared → Prop} (hit : SqI b s.heap it a i) (hl : SqO b s.heap a its) (hx : its[i]? = some x)
    (hQ : ∀ h', SqI b h' it a (i + 1) → Heap.SameBut it s.heap h' → Q x { s with heap := h' }) : wpAny (model prog w) A (Builtin.SmallTypes.nextOf (.ref it)) Q E s := by
  cases b with
  | true => exact wpAny_nextOf_list_item hit hl hx hQ
  | false =>
    have hit : s.heap.IsTupleIter it a i := hit
    obtain ⟨o, ho, hc, hd⟩ := id hit
    obtain ⟨ol, hol, _, nl, hdl⟩ := hl
    unfold Builtin.SmallTypes.nextOf
    refine wpAny_bind (wpAny_callSpecial?_slot (name := Str.ofString "__next__") hit.typeIs F.slot_tuple_iterator_next (wpAny_call_entry F.slot_tuple_iterator_next hit.typeIs F.entry_tuple_iterator_next ?_ (F.args_tuple_iterator_next_1 _)))
    show wpAny _ _ (field (.ref it) 0 >>= _) _ _ s
    refine wpAny_bind (wpAny_field ho hd (x := .ref a) rfl ?_)
    show wpAny _ _ (if (Value.ref a == Value.none) = true then _ else _) _ _ s
    rw [if_neg (show ¬ ((Value.ref a == Value.none) = true) from Bool.false_ne_true)]
    show wpAny _ _ (field (.ref it) 1 >>= _) _ _ s
    refine wpAny_bind (wpAny_field ho hd (x := .int i 0) rfl ?_)
    show wpAny _ _ (seqItems? (.ref a) >>= _) _ _ s
    refine wpAny_bind (wpAny_seqItems hol hdl ?_)
    simp only [Int.toNat_natCast, hx]
    refine wpAny_bind (wpAny_setField ho hd (by simp) (wpAny_pure ⟨x, rfl, wpAny_pure (hQ _ ?_ (Heap.SameBut.update ..))⟩))
    exact ⟨_, Heap.get?_update_self _ ho (Obj.isFreed_of_fields (Obj.data_mapFields hd _)), (Obj.cls_mapFields ..).trans hc, by rw [Obj.data_mapFields hd]; simp [rawInt]⟩
theorem end_sq {b : Bool} {it a : Addr} {i : Nat} {its : Array Value} {Q : Value → Shared → Prop} (hh : A.handled = none) (hit : SqI b s.heap it a i) (hl : SqO b s.heap a its) (hx : its[i]? = none)
    (hE : ∀ h' e, Heap.ExtBut it s.heap h' → (∃ o, h'.get? e = some o ∧ o.cls = .type "StopIteration") → E (.ref e) { s with heap := h' }) : wpAny (model prog w) A (Builtin.SmallTypes.nextOf (.ref it)) Q E s := by
  cases b with
  | true => exact wpAny_nextOf_list_end hh hit hl hx hE
  | false =>
    have hit : s.heap.IsTupleIter it a i := hit
    obtain ⟨o, ho, hc, hd⟩ := id hit
    obtain ⟨ol, hol, _, nl, hdl⟩ := hl
    unfold Builtin.SmallTypes.nextOf
    refine wpAny_bind (wpAny_callSpecial?_slot (name := Str.ofString "__next__") hit.typeIs F.slot_tuple_iterator_next (wpAny_call_entry F.slot_tuple_iterator_next hit.typeIs F.entry_tuple_iterator_next ?_ (F.args_tuple_iterator_next_1 _)))
    show wpAny _ _ (field (.ref it) 0 >>= _) _ _ s
    refine wpAny_bind (wpAny_field ho hd (x := .ref a) rfl ?_)
    show wpAny _ _ (if (Value.ref a == Value.none) = true then _ else _) _ _ s
    rw [if_neg (show ¬ ((Value.ref a == Value.none) = true) from Bool.false_ne_true)]
    show wpAny _ _ (field (.ref it) 1 >>= _) _ _ s
    refine wpAny_bind (wpAny_field ho hd (x := .int i 0) rfl ?_)
    show wpAny _ _ (seqItems? (.ref a) >>= _) _ _ s
    refine wpAny_bind (wpAny_seqItems hol hdl ?_)
    simp only [Int.toNat_natCast, hx]
    refine wpAny_bind (wpAny_rule (wpAny_bind (wpAny_setField ho hd (by simp) ?_)))
    show wpAny _ _ (newExc (.type "StopIteration") [] >>= _) _ _ _
    refine wpAny_bind ?_
    simp only [newExc, newTuple]
    refine wpAny_bind (wpAny_newObj_type ?_ (by size_fits))
    refine wpAny_bind (m := firstArgMember _ _) (wpAny_of_eq (a := Value.none) (by first | rfl | (simp only [firstArgMember]; rfl)) ?_)
    refine wpAny_newObj_type ?_ (by size_fits)
    simp only [raiseNew]
    refine wpAny_bind (wpAny_handled ?_)
    first | rw [show A.in1.handled = none from hh] | rw [hh]
    refine wpAny_bind (wpAny_pure (wpAny_throw ?_))
    exact hE _ _ (((Heap.SameBut.update ..).extBut.push _).push _) ⟨_, Heap.get?_push_size _ rfl, rfl⟩
theorem draws_sq (hh : A.handled = none) (b : Bool) (it a : Addr) (hne : a ≠ it) (its : Array Value) : Draws prog w A it [it, a] its.size (fun i v => its[i]? = some v) (fun i h => SqI b h it a i ∧ SqO b h a its) where
  live := fun _ _ st => let ⟨o, e, _⟩ := st.1.obj; ⟨o, e⟩
  frame := fun _ _ _ st k => ⟨st.1.at fun o e => k it (by simp) o e, st.2.at fun o e => k a (by simp) o e⟩
  item := fun i s Q E hi st hQ => next_sq st.1 st.2 (x := its[i]) (by simp [hi]) fun h' q sb => hQ _ h' s.toks (by simp [hi]) ⟨q, st.2.at fun o e => (sb.2 a hne).trans e⟩ sb
  done := fun s Q E st hE => end_sq hh st.1 st.2 (by simp) hE
theorem new_enumT (l : Addr) (items : Array Value) (n : Nat) (dct : Option Addr) (sl : Array (Option Value)) :
    Meets (Builtin.«enumerate.__new__» ⟨[.type "enumerate", .ref l], []⟩) (fun _ R s => s.heap.get? l = some { cls := .type "tuple", dict := dct, data := .seq items n, slots := sl } ∧
      R (.ok (.ret (.ref (s.heap.push (itObj false l)).objs.size)))
        { s with heap := (s.heap.push (itObj false l)).push { cls := .type "enumerate", data := .fields #[.none, .bool false, .ref s.heap.objs.size, rawInt 0, .none, .none] } }) :=
  .of_wp fun prog w A R s h => by
    obtain ⟨hp, g, d, tk, os⟩ := s; obtain ⟨hl, h⟩ := h
    have hsub := sub_enumerate
    have hL : Heap.IsTuple (Shared.heap ⟨hp, g, d, tk, os⟩) l items := ⟨_, hl, rfl, n, rfl⟩
    wp_walk using wpAny_loadPart' hl
    refine wpAny_stack_any fun st => wpAny_pure ?_
    split
    · rename_i c _ _ _ _ _
      cases (c == Value.type "enumerate")
      · (wp_walk using wpAny_loadPart' hl, wpAny_pyIter_tuple hL); exact ⟨_, rfl, h⟩
      · (wp_walk using wpAny_loadPart' hl, wpAny_pyIter_tuple hL); exact ⟨_, rfl, h⟩
    · (wp_walk using wpAny_loadPart' hl, wpAny_pyIter_tuple hL); exact ⟨_, rfl, h⟩
theorem call_enum {b : Bool} {l : Addr} {items : Array Value} {Q : Value → Shared → Prop} (hL : SqO b s.heap l items)
    (h : ∀ h', IsEnum h' (s.heap.objs.size + 1) s.heap.objs.size 0 .none → SqI b h' s.heap.objs.size l 0 → h'.objs.size = s.heap.objs.size + 2 → (∀ b o, s.heap.get? b = some o → h'.get? b = some o) → Q (.ref (s.heap.objs.size + 1)) { s with heap := h' }) :
    wpAny (model prog w) A (call (.type "enumerate") [.ref l]) Q E s := by
  cases b with
  | true => exact call_enumerate_list hL h
  | false =>
    obtain ⟨⟨c, dct, dt, sl⟩, hl, hc, n, hd⟩ := hL
    replace hc : c = .type "tuple" := hc
    replace hd : dt = .seq items n := hd
    subst hc hd
    refine callType_new F.called_enumerate (by decide) (F.typeCall_enumerate_1 _) (F.newCall_enumerate_1 _) (fun obj => F.args_object_init_2 obj _) F.entry_enumerate_new (new_enumT l items n dct sl) ⟨hl, ?_⟩
    have hz : (s.heap.push (itObj false l)).objs.size = s.heap.objs.size + 1 := Heap.size_push ..
    show _ ∧ _
    rw [hz]
    have he := Heap.get?_push_size (s.heap.push (itObj false l)) (o := { cls := .type "enumerate", data := .fields #[.none, .bool false, .ref s.heap.objs.size, rawInt 0, .none, .none] }) rfl
    rw [hz] at he
    have hi : (s.heap.push (itObj false l)).get? s.heap.objs.size = some (itObj false l) := Heap.get?_push_size _ rfl
    exact ⟨⟨_, he, rfl⟩, h _ he (itObj_is (Heap.get?_push_of_some _ hi)) (by rw [Heap.size_push, hz]) fun b o x => Heap.get?_push_of_some _ (Heap.get?_push_of_some _ x)⟩
theorem enum_end {b : Bool} {e it a : Addr} {i : Nat} {j : Int} {its : Array Value} {old : Value} {Q : Option Value → Shared → Prop} (hh : A.handled = none) (he : IsEnum s.heap e it j old) (hit : SqI b s.heap it a i) (hl : SqO b s.heap a its) (hx : its[i]? = none)
    (hQ : ∀ h', Heap.ExtBut it s.heap h' → Q none { s with heap := h' }) : wpAny (model prog w) A (pyNext (.ref e)) Q E s := by
  have hT : s.TypeIs (.ref e) "enumerate" := ⟨_, he, rfl⟩
  unfold pyNext
  refine wpAny_bind (wpAny_attempt (wpAny_callSpecial?_slot (name := Str.ofString "__next__") hT F.slot_enumerate_next (wpAny_call_entry F.slot_enumerate_next hT F.entry_enumerate_next ?_ (F.args_enumerate_next_1 _))))
  show wpAny _ _ (field (.ref e) 2 >>= _) _ _ _
  refine wpAny_bind (wpAny_field he rfl (x := .ref it) rfl (wpAny_bind (end_sq hh hit hl hx fun h' x he' hx' => ?_)))
  obtain ⟨o, ho, hc⟩ := hx'
  exact wpAny_bind (wpAny_isInstance (T := "StopIteration") (b := true) ⟨o, ho, hc⟩ isSubtype_stop (wpAny_pure (hQ _ he')))
end
def Ite (K : PySem.W.Frag) (b : Bool) (a : Addr) : It :=
  ⟨fun i H => ∃ xs x, SqB K b H a xs ∧ xs[i]? = some x, fun i H x H' => ∃ t y, H t = none ∧ x = .ref t ∧ H' = upd H t (.tup [.int i, y]) ∧ ∀ xs, SqB K b H a xs → xs[i]? = some y, fun i H => ∃ xs, SqB K b H a xs ∧ xs.length ≤ i⟩
theorem turn_enum {P : Program} {w : World} {K : PySem.W.Frag} {es : List Expr} {k : Nat} {pos : Pos} (b : Bool) (a e it : Addr) (hei : e ≠ it) : Turn P w K (.Tuple es k pos) (Ite K b a) [e, it] e (fun i h => (∃ old, IsEnum h e it i old) ∧ SqI b h it a i) where
  mem := by simp
  obj := fun i h st c hc => by
    obtain ⟨⟨old, he⟩, hs⟩ := st
    rcases List.mem_cons.mp hc with rfl | hc
    · exact ⟨_, he, fun v z => by have z' : Data.fields _ = Data.cell v := z; cases z'⟩
    · rw [List.mem_singleton.mp hc]; exact hs.obj
  keep := fun i h h' st k => by
    obtain ⟨⟨old, he⟩, hs⟩ := st
    exact ⟨⟨old, k e (by simp) _ he⟩, hs.at fun o q => k it (by simp) o q⟩
  item := by
    intro X hP hw hK hc i pins s σ H E I hf st hg
    subst hP hw hK
    obtain ⟨xs, x, hq, hx⟩ := hg
    obtain ⟨⟨old, he⟩, hs⟩ := st
    obtain ⟨its, rv, p, hz⟩ := I.sqb hq
    obtain ⟨u, hu, ru⟩ := rv.get hx
    have hne : a ≠ it := fun z => by
      subst z
      have h1 := p; have h2 := hs
      cases b <;> (obtain ⟨o1, e1, c1, _⟩ := h1; obtain ⟨o2, e2, c2, _⟩ := h2; rw [e1] at e2; cases e2; rw [c1] at c2; exact absurd c2 (by simp))
    have hne2 : a ≠ e := fun z => by
      subst z
      have h1 := p
      cases b <;> (obtain ⟨o1, e1, c1, _⟩ := h1; rw [he] at e1; cases e1; exact absurd c1 (by simp))
    have hil : i < its.toArray.size := by
      have : i < its.length := (List.getElem?_eq_some_iff.mp hu).1
      simpa using this
    have hh : X.A.in1.handled = none := I.ok.hd hc
    refine wpAny_pyNext_enum_itemD (draws_sq hh b it a hne its.toArray) he ⟨hs, p⟩ hil hei (by simp [hei, Ne.symm hne2]) fun y h' tk hP' ho hst hT hsz hk => ?_
    have hy : y = u := by
      have : its.toArray[i]? = some u := by simpa using hu
      rw [this] at hP'; exact (Option.some.inj hP').symm
    subst hy
    refine ⟨.ref s.heap.objs.size, rfl, wpAny_letOwnedTupleGo_enum ho fun h2 he2 hs2 => ?_⟩
    have zn : H s.heap.objs.size = none := I.fresh
    have I1 : Inv X pins σ (upd H s.heap.objs.size (.tup [.int i, x])) { s with heap := s.heap.push { cls := .type "tuple", data := .seq #[.int i tk, y] }, toks := tk } :=
      I.laid (fun c o q => Heap.get?_push_of_some _ q) (Nat.le_refl _) ⟨by show 2 ≤ sizeLine; decide, [.int i tk, y], .cons ⟨tk, rfl⟩ (.cons ru .nil), _, Heap.get?_push_size _ rfl, rfl, 0, rfl⟩
    have lts : ∀ c ∈ [e, it], c < s.heap.objs.size := fun c hc => by
      rcases List.mem_cons.mp hc with rfl | hc
      · exact Heap.lt_size he
      · rw [List.mem_singleton.mp hc]; exact hs.lt
    have f1 : ∀ c ∈ [e, it], FpOk X pins (upd H s.heap.objs.size (.tup [.int i, x])) c := fun c hc => ⟨by rw [upd_ne (Nat.ne_of_lt (lts c hc))]; exact (hf c hc).1, (hf c hc).2⟩
    have I2 := I1.turnedL (h' := h2) (ch := [e, it]) (t' := tk + 1) (fun c o hc q => ?_) f1
    · refine ⟨.ref s.heap.objs.size, _, I2, rfl, ⟨s.heap.objs.size, x, zn, rfl, rfl, fun ys hy => by rw [I.sqb_inj hy hq]; exact hx⟩, ⟨⟨_, by simpa using he2⟩, hst.1.at fun o q => (hs2.2 it (Ne.symm hei)).trans q⟩, fun c hc => (f1 c hc).1⟩
    · have hce : c ≠ e := fun z => hc (by simp [z])
      have hci : c ≠ it := fun z => hc (by simp [z])
      refine (hs2.2 c hce).trans ?_
      rcases Heap.get?_push_cases q with ⟨z, z'⟩ | q'
      · subst z; subst z'; exact hT
      · exact hk c o hce hci q'
  done := by
    intro X hP hw hK hc i pins s σ H E I hf st hg
    subst hP hw hK
    obtain ⟨xs, hq, hx⟩ := hg
    obtain ⟨⟨old, he⟩, hs⟩ := st
    obtain ⟨its, rv, p, hz⟩ := I.sqb hq
    have hl := rv.length
    refine enum_end (I.ok.hd hc) he hs p (by simp; omega) fun h' eb => ⟨rfl, ?_⟩
    exact I.turnedL (ch := [e, it]) (t' := s.toks) (fun c o hc q => eb c o (fun z => hc (by simp [z])) q) hf
  self := fun _ _ _ _ _ st h => by obtain ⟨⟨old, he⟩, _⟩ := st; exact wpAny_pyIter_enum he h
end L2
set_option Elab.async false
set_option linter.all false
set_option maxRecDepth 100000
set_option maxHeartbeats 4000000
namespace L2
open PySem PySem.Spec PyProof.Rows
open AutoSeq1 (wpAny_loadPart')
section
variable {X : Cx}
end
structure ZAp (z TI TO i1 i2 : Addr) : Prop where
  a1 : TI ≠ z
  a2 : TO ≠ z
  a3 : i1 ≠ z
  a4 : i2 ≠ z
  a5 : TI ≠ TO
  a6 : TI ≠ i1
  a7 : TI ≠ i2
  a8 : TO ≠ i1
  a9 : TO ≠ i2
  a0 : i1 ≠ i2
theorem SqI.but {b : Bool} {h h' : Heap} {it a c : Addr} {i : Nat} (x : SqI b h it a i) (s : Heap.SameBut c h h') (n : it ≠ c) : SqI b h' it a i := x.at fun o e => (s.2 it n).trans e
theorem SqO.but {b : Bool} {h h' : Heap} {a c : Addr} {its : Array Value} (x : SqO b h a its) (s : Heap.SameBut c h h') (n : a ≠ c) : SqO b h' a its := x.at fun o e => (s.2 a n).trans e
theorem SqO.ne {b : Bool} {h : Heap} {a c : Addr} {its : Array Value} {o : Obj} (x : SqO b h a its) (e : h.get? c = some o) (n1 : o.cls ≠ .type "list") (n2 : o.cls ≠ .type "tuple") : a ≠ c := fun z => by
  subst z
  cases b <;> (obtain ⟨o', e', c', _⟩ := x; rw [e] at e'; cases e')
  · exact n2 c'
  · exact n1 c'
theorem SqO.ne_it {b b' : Bool} {h : Heap} {a it l : Addr} {its : Array Value} {i : Nat} (x : SqO b h a its) (y : SqI b' h it l i) : a ≠ it := by
  cases b' <;> (obtain ⟨o, e, c, _⟩ := y; exact x.ne e (by rw [c]; simp) (by rw [c]; simp))
section
variable {prog : Program} {w : World} {A : Around} {E : Value → Shared → Prop} {s : Shared}
theorem zip_item {b1 b2 : Bool} {z TI TO i1 i2 l1 l2 : Addr} {k1 k2 : Nat} {xs ys : Array Value} {x y a b : Value} {Q : Value → Shared → Prop} (D : ZAp z TI TO i1 i2)
    (hz : IsZip s.heap z TI TO .none) (hTI : IsPair s.heap TI (.ref i1) (.ref i2)) (hTO : IsPair s.heap TO a b) (n1 : l1 ≠ TO) (n2 : l2 ≠ TO)
    (h1 : SqI b1 s.heap i1 l1 k1) (h2 : SqI b2 s.heap i2 l2 k2) (hl1 : SqO b1 s.heap l1 xs) (hl2 : SqO b2 s.heap l2 ys) (hx : xs[k1]? = some x) (hy : ys[k2]? = some y)
    (hQ : ∀ h', IsZip h' z TI TO (rawInt s.heap.objs.size) → IsPair h' TO x y → SqI b1 h' i1 l1 (k1 + 1) → SqI b2 h' i2 l2 (k2 + 1) → IsPair h' s.heap.objs.size x y → h'.objs.size = s.heap.objs.size + 1 →
      (∀ c o, c ∉ [z, TO, i1, i2] → s.heap.get? c = some o → h'.get? c = some o) → Q (.ref s.heap.objs.size) { s with heap := h' }) :
    wpAny (model prog w) A (Builtin.«zip.__next__» ⟨[.ref z], []⟩) (fun fin s' => ∃ v, fin = .done (.ret v) ∧ Q v s') E s := by
  have l1z : l1 ≠ z := hl1.ne hz (by simp) (by simp)
  have l2z : l2 ≠ z := hl2.ne hz (by simp) (by simp)
  have l2i1 : l2 ≠ i1 := hl2.ne_it h1
  show wpAny _ _ (field (.ref z) 2 >>= _) _ _ _
  refine wpAny_bind (wpAny_field hz rfl (x := .bool false) rfl ?_)
  show wpAny _ _ (field (.ref z) 3 >>= _) _ _ _
  refine wpAny_bind (wpAny_field hz rfl (x := .ref TI) rfl (wpAny_bind (wpAny_seqItems hTI rfl ?_)))
  show wpAny _ _ (Builtin.SmallTypes.ownedTupleIsFree (.ref z) >>= _) _ _ _
  refine wpAny_bind ?_
  unfold Builtin.SmallTypes.ownedTupleIsFree
  refine wpAny_bind (wpAny_field hz rfl (x := .none) rfl (wpAny_pure ?_))
  simp only [if_true]
  refine wpAny_bind (wpAny_rule (wpAny_bind (wpAny_field hz rfl (x := .ref TO) rfl (wpAny_bind (wpAny_setField_rec hz (by simp) fun g1 z1 s1 => ?_)))))
  replace z1 : IsZip g1 z TI TO .ellipsis := z1
  refine wpAny_bind ?_
  simp only [List.zipIdx_cons, List.zipIdx_nil, List.forIn_cons, List.forIn_nil]
  refine wpAny_bind (wpAny_bind (wpAny_onRaise ?_))
  show wpAny _ _ (Builtin.SmallTypes.nextOf (.ref i1) >>= _) _ _ _
  refine wpAny_bind (next_sq (h1.but s1 D.a3) (hl1.but s1 l1z) hx fun g2 p2 s2 => wpAny_pure ?_)
  have t2 : IsPair g2 TO a b := s2.extBut _ _ D.a8 (s1.extBut _ _ D.a2 hTO)
  refine wpAny_bind (wpAny_seqItems t2 rfl (wpAny_bind (wpAny_updateSeq_pair t2 fun g3 t3 s3 => wpAny_bind (wpAny_letGo (wpAny_pure ?_)))))
  replace t3 : IsPair g3 TO x b := t3
  refine wpAny_bind (wpAny_bind (wpAny_onRaise ?_))
  show wpAny _ _ (Builtin.SmallTypes.nextOf (.ref i2) >>= _) _ _ _
  refine wpAny_bind (next_sq (((h2.but s1 D.a4).but s2 D.a0.symm).but s3 D.a9.symm) (((hl2.but s1 l2z).but s2 l2i1).but s3 n2) hy fun g4 p4 s4 => wpAny_pure ?_)
  have t4 : IsPair g4 TO x b := s4.extBut _ _ D.a9 t3
  refine wpAny_bind (wpAny_seqItems t4 rfl (wpAny_bind (wpAny_updateSeq_pair t4 fun g5 t5 s5 => wpAny_bind (wpAny_letGo (wpAny_pure (wpAny_pure ?_))))))
  replace t5 : IsPair g5 TO x y := t5
  refine wpAny_bind (wpAny_seqItems t5 rfl (wpAny_bind (wpAny_newTuple ?_)))
  have sz : g5.objs.size = s.heap.objs.size := by rw [s5.1, s4.1, s3.1, s2.1, s1.1]
  have z5 : IsZip g5 z TI TO .ellipsis := s5.extBut _ _ D.a2.symm (s4.extBut _ _ D.a4.symm (s3.extBut _ _ D.a2.symm (s2.extBut _ _ D.a3.symm z1)))
  have k5 : ∀ c o, c ∉ [z, TO, i1, i2] → s.heap.get? c = some o → g5.get? c = some o := fun c o hc e => by
    have c1 : c ≠ z := fun q => hc (by simp [q])
    have c2 : c ≠ TO := fun q => hc (by simp [q])
    have c3 : c ≠ i1 := fun q => hc (by simp [q])
    have c4 : c ≠ i2 := fun q => hc (by simp [q])
    exact s5.extBut _ _ c2 (s4.extBut _ _ c4 (s3.extBut _ _ c2 (s2.extBut _ _ c3 (s1.extBut _ _ c1 e))))
  have q1 : SqI b1 g5 i1 l1 (k1 + 1) := ((p2.but s3 D.a8.symm).but s4 D.a0).but s5 D.a8.symm
  have q2 : SqI b2 g5 i2 l2 (k2 + 1) := p4.but s5 D.a9.symm
  show wpAny _ _ (Builtin.SmallTypes.ownedTupleHandOut (.ref z) (.ref g5.objs.size) >>= _) _ _ _
  refine wpAny_bind ?_
  unfold Builtin.SmallTypes.ownedTupleHandOut
  have z6 : IsZip (g5.push { cls := .type "tuple", data := .seq #[x, y] }) z TI TO .ellipsis := Heap.get?_push_of_some _ z5
  refine wpAny_bind (wpAny_setField_rec z6 (by simp) fun g7 z7 s7 => ?_)
  replace z7 : IsZip g7 z TI TO (rawInt g5.objs.size) := z7
  refine wpAny_setField_rec z7 (by simp) fun g8 z8 s8 => ?_
  replace z8 : IsZip g8 z TI TO (rawInt g5.objs.size) := z8
  have up : ∀ c o, c ≠ z → g5.get? c = some o → g8.get? c = some o := fun c o c1 e => s8.extBut _ _ c1 (s7.extBut _ _ c1 (Heap.get?_push_of_some _ e))
  have zl : g5.objs.size ≠ z := Nat.ne_of_gt (Heap.lt_size z5)
  have t8 : IsPair g8 g5.objs.size x y := s8.extBut _ _ zl (s7.extBut _ _ zl (Heap.get?_push_size _ rfl))
  have e8 : g8.objs.size = g5.objs.size + 1 := by rw [s8.1, s7.1, Heap.size_push]
  rw [sz] at z8 t8 e8
  refine wpAny_pure ⟨_, rfl, ?_⟩
  show Q (.ref g5.objs.size) _
  rw [sz]
  exact hQ g8 z8 (up _ _ D.a2 t5) (q1.at fun o e => up _ o D.a3 e) (q2.at fun o e => up _ o D.a4 e) t8 e8 fun c o hc e => up c o (fun q => hc (by simp [q])) (k5 c o hc e)
theorem zip_end {b1 b2 : Bool} {z TI TO i1 i2 l1 l2 : Addr} {k1 k2 : Nat} {xs ys : Array Value} {a b : Value} {Q : Fin → Shared → Prop} (hh : A.handled = none) (D : ZAp z TI TO i1 i2)
    (hz : IsZip s.heap z TI TO .none) (hTI : IsPair s.heap TI (.ref i1) (.ref i2)) (hTO : IsPair s.heap TO a b) (n1 : l1 ≠ TO) (n2 : l2 ≠ TO)
    (h1 : SqI b1 s.heap i1 l1 k1) (h2 : SqI b2 s.heap i2 l2 k2) (hl1 : SqO b1 s.heap l1 xs) (hl2 : SqO b2 s.heap l2 ys) (hend : xs[k1]? = none ∨ ys[k2]? = none)
    (hE : ∀ h' e, (∀ c o, c ∉ [z, TO, i1, i2] → s.heap.get? c = some o → h'.get? c = some o) → (∃ o, h'.get? e = some o ∧ o.cls = .type "StopIteration") → E (.ref e) { s with heap := h' }) :
    wpAny (model prog w) A (Builtin.«zip.__next__» ⟨[.ref z], []⟩) Q E s := by
  have l1z : l1 ≠ z := hl1.ne hz (by simp) (by simp)
  have l2z : l2 ≠ z := hl2.ne hz (by simp) (by simp)
  have l2i1 : l2 ≠ i1 := hl2.ne_it h1
  show wpAny _ _ (field (.ref z) 2 >>= _) _ _ _
  refine wpAny_bind (wpAny_field hz rfl (x := .bool false) rfl ?_)
  show wpAny _ _ (field (.ref z) 3 >>= _) _ _ _
  refine wpAny_bind (wpAny_field hz rfl (x := .ref TI) rfl (wpAny_bind (wpAny_seqItems hTI rfl ?_)))
  show wpAny _ _ (Builtin.SmallTypes.ownedTupleIsFree (.ref z) >>= _) _ _ _
  refine wpAny_bind ?_
  unfold Builtin.SmallTypes.ownedTupleIsFree
  refine wpAny_bind (wpAny_field hz rfl (x := .none) rfl (wpAny_pure ?_))
  simp only [if_true]
  refine wpAny_bind (wpAny_rule (wpAny_bind (wpAny_field hz rfl (x := .ref TO) rfl (wpAny_bind (wpAny_setField_rec hz (by simp) fun g1 z1 s1 => ?_)))))
  replace z1 : IsZip g1 z TI TO .ellipsis := z1
  refine wpAny_bind ?_
  simp only [List.zipIdx_cons, List.zipIdx_nil, List.forIn_cons, List.forIn_nil]
  refine wpAny_bind (wpAny_bind (wpAny_onRaise ?_))
  show wpAny _ _ (Builtin.SmallTypes.nextOf (.ref i1) >>= _) _ _ _
  cases hx : xs[k1]? with
  | none =>
    refine wpAny_bind (end_sq hh (h1.but s1 D.a3) (hl1.but s1 l1z) hx fun g2 e s2 he => ?_)
    obtain ⟨oe, hoe, hce⟩ := he
    have z2 : IsZip g2 z TI TO .ellipsis := s2 _ _ D.a3.symm z1
    have ez : e ≠ z := fun q => by subst q; rw [z2] at hoe; cases hoe; simp at hce
    refine wpAny_setField_rec z2 (by simp) fun g3 _ s3 => hE g3 e (fun c o hc q => ?_) ⟨oe, s3.extBut _ _ ez hoe, hce⟩
    have c1 : c ≠ z := fun q => hc (by simp [q])
    exact s3.extBut _ _ c1 (s2 _ _ (fun q => hc (by simp [q])) (s1.extBut _ _ c1 q))
  | some x =>
    have hy : ys[k2]? = none := by
      rcases hend with h | h
      · rw [hx] at h; cases h
      · exact h
    refine wpAny_bind (next_sq (h1.but s1 D.a3) (hl1.but s1 l1z) hx fun g2 p2 s2 => wpAny_pure ?_)
    have t2 : IsPair g2 TO a b := s2.extBut _ _ D.a8 (s1.extBut _ _ D.a2 hTO)
    refine wpAny_bind (wpAny_seqItems t2 rfl (wpAny_bind (wpAny_updateSeq_pair t2 fun g3 t3 s3 => wpAny_bind (wpAny_letGo (wpAny_pure ?_)))))
    refine wpAny_bind (wpAny_bind (wpAny_onRaise ?_))
    show wpAny _ _ (Builtin.SmallTypes.nextOf (.ref i2) >>= _) _ _ _
    refine wpAny_bind (end_sq hh (((h2.but s1 D.a4).but s2 D.a0.symm).but s3 D.a9.symm) (((hl2.but s1 l2z).but s2 l2i1).but s3 n2) hy fun g4 e s4 he => ?_)
    obtain ⟨oe, hoe, hce⟩ := he
    have z4 : IsZip g4 z TI TO .ellipsis := s4 _ _ D.a4.symm (s3.extBut _ _ D.a2.symm (s2.extBut _ _ D.a3.symm z1))
    have ez : e ≠ z := fun q => by subst q; rw [z4] at hoe; cases hoe; simp at hce
    refine wpAny_setField_rec z4 (by simp) fun g5 _ s5 => hE g5 e (fun c o hc q => ?_) ⟨oe, s5.extBut _ _ ez hoe, hce⟩
    have c1 : c ≠ z := fun q => hc (by simp [q])
    exact s5.extBut _ _ c1 (s4 _ _ (fun q => hc (by simp [q])) (s3.extBut _ _ (fun q => hc (by simp [q])) (s2.extBut _ _ (fun q => hc (by simp [q])) (s1.extBut _ _ c1 q))))
theorem new_zip (b1 b2 : Bool) (l1 l2 : Addr) (xs ys : Array Value) :
    Meets (Builtin.«zip.__new__» ⟨[.type "zip", .ref l1, .ref l2], []⟩) (fun _ R s => SqO b1 s.heap l1 xs ∧ SqO b2 s.heap l2 ys ∧
      R (.ok (.ret (.ref (s.heap.objs.size + 4)))) { s with heap := ((((s.heap.push (itObj b1 l1)).push (itObj b2 l2)).push { cls := .type "tuple", data := .seq #[.ref s.heap.objs.size, .ref (s.heap.objs.size + 1)] }).push { cls := .type "tuple", data := .seq #[.none, .none] }).push { cls := .type "zip", data := .fields #[.none, .bool false, .bool false, .ref (s.heap.objs.size + 2), .ref (s.heap.objs.size + 3)] } }) :=
  .of_wp fun prog w A R s h => by
    obtain ⟨hp, g, d, tk, os⟩ := s; obtain ⟨hl1, hl2, h⟩ := h
    have hsub := sub_zip
    have hL1 : SqO b1 (Shared.heap ⟨hp, g, d, tk, os⟩) l1 xs := hl1
    have hL2 : SqO b2 (Shared.heap ⟨hp.push (itObj b1 l1), g, d, tk, os⟩) l2 ys := SqO.at hl2 fun o e => Heap.get?_push_of_some _ e
    wp_walk using iter_sq hL1, iter_sq hL2
    have e1 : (hp.push (itObj b1 l1)).objs.size = hp.objs.size + 1 := Heap.size_push ..
    have e2 : ((hp.push (itObj b1 l1)).push (itObj b2 l2)).objs.size = hp.objs.size + 2 := by rw [Heap.size_push, e1]
    refine ⟨_, rfl, ?_⟩
    simp only [Heap.size_push]
    exact h
theorem call_zip {b1 b2 : Bool} {l1 l2 : Addr} {xs ys : Array Value} {Q : Value → Shared → Prop} (hl1 : SqO b1 s.heap l1 xs) (hl2 : SqO b2 s.heap l2 ys)
    (h : ∀ h', IsZip h' (s.heap.objs.size + 4) (s.heap.objs.size + 2) (s.heap.objs.size + 3) .none → IsPair h' (s.heap.objs.size + 2) (.ref s.heap.objs.size) (.ref (s.heap.objs.size + 1)) → IsPair h' (s.heap.objs.size + 3) .none .none →
      SqI b1 h' s.heap.objs.size l1 0 → SqI b2 h' (s.heap.objs.size + 1) l2 0 → (∀ c o, s.heap.get? c = some o → h'.get? c = some o) → Q (.ref (s.heap.objs.size + 4)) { s with heap := h' }) :
    wpAny (model prog w) A (call (.type "zip") [.ref l1, .ref l2]) Q E s := by
  refine callType_new F.called_zip (by decide) (F.typeCall_zip_2 _ _) (F.newCall_zip_2 _ _) (fun obj => F.args_object_init_3 obj _ _) F.entry_zip_new (new_zip b1 b2 l1 l2 xs ys) ⟨hl1, hl2, ?_⟩
  have f1 : (itObj b1 l1).isFreed = false := by cases b1 <;> rfl
  have f2 : (itObj b2 l2).isFreed = false := by cases b2 <;> rfl
  have z1 : (s.heap.push (itObj b1 l1)).objs.size = s.heap.objs.size + 1 := Heap.size_push ..
  have z2 : ((s.heap.push (itObj b1 l1)).push (itObj b2 l2)).objs.size = s.heap.objs.size + 2 := by rw [Heap.size_push, z1]
  generalize hg2 : (s.heap.push (itObj b1 l1)).push (itObj b2 l2) = g2 at z2 ⊢
  have e0 : g2.get? s.heap.objs.size = some (itObj b1 l1) := by rw [← hg2]; exact Heap.get?_push_of_some _ (Heap.get?_push_size _ f1)
  have e1 : g2.get? (s.heap.objs.size + 1) = some (itObj b2 l2) := by rw [← hg2, ← z1]; exact Heap.get?_push_size _ f2
  have k2 : ∀ c o, s.heap.get? c = some o → g2.get? c = some o := fun c o q => by rw [← hg2]; exact Heap.get?_push_of_some _ (Heap.get?_push_of_some _ q)
  generalize hg3 : g2.push { cls := .type "tuple", data := .seq #[.ref s.heap.objs.size, .ref (s.heap.objs.size + 1)] } = g3
  have z3 : g3.objs.size = s.heap.objs.size + 3 := by rw [← hg3, Heap.size_push, z2]
  have e2 : IsPair g3 (s.heap.objs.size + 2) (.ref s.heap.objs.size) (.ref (s.heap.objs.size + 1)) := by rw [← hg3, ← z2]; exact Heap.get?_push_size _ rfl
  have k3 : ∀ c o, g2.get? c = some o → g3.get? c = some o := fun c o q => by rw [← hg3]; exact Heap.get?_push_of_some _ q
  generalize hg4 : g3.push { cls := .type "tuple", data := .seq #[.none, .none] } = g4
  have z4 : g4.objs.size = s.heap.objs.size + 4 := by rw [← hg4, Heap.size_push, z3]
  have e3 : IsPair g4 (s.heap.objs.size + 3) .none .none := by rw [← hg4, ← z3]; exact Heap.get?_push_size _ rfl
  have k4 : ∀ c o, g3.get? c = some o → g4.get? c = some o := fun c o q => by rw [← hg4]; exact Heap.get?_push_of_some _ q
  generalize hg5 : g4.push { cls := .type "zip", data := .fields #[.none, .bool false, .bool false, .ref (s.heap.objs.size + 2), .ref (s.heap.objs.size + 3)] } = g5
  have e4 : IsZip g5 (s.heap.objs.size + 4) (s.heap.objs.size + 2) (s.heap.objs.size + 3) .none := by rw [← hg5, ← z4]; exact Heap.get?_push_size _ rfl
  have k5 : ∀ c o, g4.get? c = some o → g5.get? c = some o := fun c o q => by rw [← hg5]; exact Heap.get?_push_of_some _ q
  show _ ∧ _
  exact ⟨⟨_, e4, rfl⟩, h _ e4 (k5 _ _ (k4 _ _ e2)) (k5 _ _ e3) (itObj_is (k5 _ _ (k4 _ _ (k3 _ _ e0)))) (itObj_is (k5 _ _ (k4 _ _ (k3 _ _ e1)))) fun c o q => k5 _ _ (k4 _ _ (k3 _ _ (k2 _ _ q)))⟩
theorem zip_nexts {b1 b2 : Bool} {z TI TO i1 i2 l1 l2 : Addr} {k1 k2 : Nat} {xs ys : Array Value} {x y a b : Value} {Q : Option Value → Shared → Prop} (D : ZAp z TI TO i1 i2)
    (hz : IsZip s.heap z TI TO .none) (hTI : IsPair s.heap TI (.ref i1) (.ref i2)) (hTO : IsPair s.heap TO a b) (n1 : l1 ≠ TO) (n2 : l2 ≠ TO)
    (h1 : SqI b1 s.heap i1 l1 k1) (h2 : SqI b2 s.heap i2 l2 k2) (hl1 : SqO b1 s.heap l1 xs) (hl2 : SqO b2 s.heap l2 ys) (hx : xs[k1]? = some x) (hy : ys[k2]? = some y)
    (hQ : ∀ h', IsZip h' z TI TO (rawInt s.heap.objs.size) → IsPair h' TO x y → SqI b1 h' i1 l1 (k1 + 1) → SqI b2 h' i2 l2 (k2 + 1) → IsPair h' s.heap.objs.size x y → h'.objs.size = s.heap.objs.size + 1 →
      (∀ c o, c ∉ [z, TO, i1, i2] → s.heap.get? c = some o → h'.get? c = some o) → Q (some (.ref s.heap.objs.size)) { s with heap := h' }) : wpAny (model prog w) A (pyNext (.ref z)) Q E s := by
  have hT : s.TypeIs (.ref z) "zip" := ⟨_, hz, rfl⟩
  unfold pyNext
  exact wpAny_bind (wpAny_attempt (wpAny_callSpecial?_slot (name := Str.ofString "__next__") hT F.slot_zip_next (wpAny_call_entry F.slot_zip_next hT F.entry_zip_next
    (zip_item D hz hTI hTO n1 n2 h1 h2 hl1 hl2 hx hy fun h' c1 c2 c3 c4 c5 c6 c7 => wpAny_pure (hQ h' c1 c2 c3 c4 c5 c6 c7)) (F.args_zip_next_1 _))))
theorem zip_ends {b1 b2 : Bool} {z TI TO i1 i2 l1 l2 : Addr} {k1 k2 : Nat} {xs ys : Array Value} {a b : Value} {Q : Option Value → Shared → Prop} (hh : A.handled = none) (D : ZAp z TI TO i1 i2)
    (hz : IsZip s.heap z TI TO .none) (hTI : IsPair s.heap TI (.ref i1) (.ref i2)) (hTO : IsPair s.heap TO a b) (n1 : l1 ≠ TO) (n2 : l2 ≠ TO)
    (h1 : SqI b1 s.heap i1 l1 k1) (h2 : SqI b2 s.heap i2 l2 k2) (hl1 : SqO b1 s.heap l1 xs) (hl2 : SqO b2 s.heap l2 ys) (hend : xs[k1]? = none ∨ ys[k2]? = none)
    (hQ : ∀ h', (∀ c o, c ∉ [z, TO, i1, i2] → s.heap.get? c = some o → h'.get? c = some o) → Q none { s with heap := h' }) : wpAny (model prog w) A (pyNext (.ref z)) Q E s := by
  have hT : s.TypeIs (.ref z) "zip" := ⟨_, hz, rfl⟩
  unfold pyNext
  refine wpAny_bind (wpAny_attempt (wpAny_callSpecial?_slot (name := Str.ofString "__next__") hT F.slot_zip_next (wpAny_call_entry F.slot_zip_next hT F.entry_zip_next (zip_end hh D hz hTI hTO n1 n2 h1 h2 hl1 hl2 hend fun h' e hk he => ?_) (F.args_zip_next_1 _))))
  obtain ⟨o, ho, hc⟩ := he
  exact wpAny_bind (wpAny_isInstance (T := "StopIteration") (b := true) ⟨o, ho, hc⟩ isSubtype_stop (wpAny_pure (hQ _ hk)))
end
theorem Inv.sqb_ne {X : Cx} {pins : List (Addr × Obj)} {σ : St} {H : Hp} {s : Shared} {b : Bool} {a c : Addr} {xs : List V} (I : Inv X pins σ H s) (h : SqB X.K b H a xs) (f : FpOk X pins H c) : a ≠ c := fun z => by
  subst z
  have nk : ∀ o, X.K.lookup a = some o → False := fun o e => by
    have e' := I.mod.kin a o e
    rcases f.2.2.2.1 with q | q
    · exact I.ok.noex a o e' q
    · exact absurd (Nat.lt_of_lt_of_le (Heap.lt_size e') (Nat.le_trans I.ok.bsz q)) (Nat.lt_irrefl _)
  cases b with
  | true =>
    rcases h with (h | ⟨o, h⟩) | ⟨o, _, _, h, _⟩
    · rw [f.1] at h; cases h
    · rw [f.1] at h; cases h
    · exact nk o h
  | false =>
    rcases h with (h | ⟨o, h⟩) | ⟨o, _, _, h, _⟩
    · rw [f.1] at h; cases h
    · rw [f.1] at h; cases h
    · exact nk o h
def Itz (K : PySem.W.Frag) (b1 : Bool) (a1 : Addr) (b2 : Bool) (a2 : Addr) : It :=
  ⟨fun i H => ∃ xs ys x y, SqB K b1 H a1 xs ∧ SqB K b2 H a2 ys ∧ xs[i]? = some x ∧ ys[i]? = some y,
   fun i H v H' => ∃ t x y, H t = none ∧ v = .ref t ∧ H' = upd H t (.tup [x, y]) ∧ (∀ xs, SqB K b1 H a1 xs → xs[i]? = some x) ∧ ∀ ys, SqB K b2 H a2 ys → ys[i]? = some y,
   fun i H => ∃ xs ys, SqB K b1 H a1 xs ∧ SqB K b2 H a2 ys ∧ (xs.length ≤ i ∨ ys.length ≤ i)⟩
theorem turn_zip {P : Program} {w : World} {K : PySem.W.Frag} {es : List Expr} {k : Nat} {pos : Pos} (b1 b2 : Bool) (a1 a2 z TI TO i1 i2 : Addr) (D : ZAp z TI TO i1 i2) :
    Turn P w K (.Tuple es k pos) (Itz K b1 a1 b2 a2) [z, TI, TO, i1, i2] z (fun i h => IsZip h z TI TO .none ∧ IsPair h TI (.ref i1) (.ref i2) ∧ (∃ a b, IsPair h TO a b) ∧ SqI b1 h i1 a1 i ∧ SqI b2 h i2 a2 i) where
  mem := by simp
  obj := fun i h st c hc => by
    obtain ⟨h1, h2, ⟨a, b, h3⟩, h4, h5⟩ := st
    simp only [List.mem_cons, List.not_mem_nil, or_false] at hc
    rcases hc with rfl | rfl | rfl | rfl | rfl
    · exact ⟨_, h1, fun v q => by have q' : Data.fields _ = Data.cell v := q; cases q'⟩
    · exact ⟨_, h2, fun v q => by have q' : Data.seq _ _ = Data.cell v := q; cases q'⟩
    · exact ⟨_, h3, fun v q => by have q' : Data.seq _ _ = Data.cell v := q; cases q'⟩
    · exact h4.obj
    · exact h5.obj
  keep := fun i h h' st k => by
    obtain ⟨h1, h2, ⟨a, b, h3⟩, h4, h5⟩ := st
    exact ⟨k z (by simp) _ h1, k TI (by simp) _ h2, ⟨a, b, k TO (by simp) _ h3⟩, h4.at fun o q => k i1 (by simp) o q, h5.at fun o q => k i2 (by simp) o q⟩
  item := by
    intro X hP hw hK hc i pins s σ H E I hf st hg
    subst hP hw hK
    obtain ⟨xs, ys, x, y, hq1, hq2, hx, hy⟩ := hg
    obtain ⟨h1, h2, ⟨a, b, h3⟩, h4, h5⟩ := st
    obtain ⟨its1, rv1, p1, _⟩ := I.sqb hq1
    obtain ⟨its2, rv2, p2, _⟩ := I.sqb hq2
    obtain ⟨u, hu, ru⟩ := rv1.get hx
    obtain ⟨v, hv, rv⟩ := rv2.get hy
    refine zip_nexts D h1 h2 h3 (I.sqb_ne hq1 (hf TO (by simp))) (I.sqb_ne hq2 (hf TO (by simp))) h4 h5 p1 p2 (x := u) (y := v) (by simpa using hu) (by simpa using hv) fun h' z1 z2 z3 z4 z5 z6 hk => ?_
    refine ⟨.ref s.heap.objs.size, rfl, wpAny_letOwnedTupleGo_zip z1 fun g2 zz hs2 => ?_⟩
    have zn : H s.heap.objs.size = none := I.fresh
    have I1 : Inv X pins σ (upd H s.heap.objs.size (.tup [x, y])) { s with heap := s.heap.push { cls := .type "tuple", data := .seq #[u, v] }, toks := s.toks } :=
      I.laid (fun c o q => Heap.get?_push_of_some _ q) (Nat.le_refl _) ⟨by show 2 ≤ sizeLine; decide, [u, v], .cons ru (.cons rv .nil), _, Heap.get?_push_size _ rfl, rfl, 0, rfl⟩
    have lts : ∀ c ∈ [z, TI, TO, i1, i2], c < s.heap.objs.size := fun c hc => by
      simp only [List.mem_cons, List.not_mem_nil, or_false] at hc
      rcases hc with rfl | rfl | rfl | rfl | rfl
      · exact Heap.lt_size h1
      · exact Heap.lt_size h2
      · exact Heap.lt_size h3
      · exact h4.lt
      · exact h5.lt
    have f1 : ∀ c ∈ [z, TI, TO, i1, i2], FpOk X pins (upd H s.heap.objs.size (.tup [x, y])) c := fun c hc => ⟨by rw [upd_ne (Nat.ne_of_lt (lts c hc))]; exact (hf c hc).1, (hf c hc).2⟩
    have I2 := I1.turnedL (h' := g2) (ch := [z, TI, TO, i1, i2]) (t' := s.toks) (fun c o hc q => ?_) f1
    · refine ⟨.ref s.heap.objs.size, _, I2, rfl, ⟨s.heap.objs.size, x, y, zn, rfl, rfl, fun xs' hy' => by rw [I.sqb_inj hy' hq1]; exact hx, fun ys' hy' => by rw [I.sqb_inj hy' hq2]; exact hy⟩,
        ⟨zz, hs2.extBut _ _ D.a1 (hk TI _ (by simp [D.a1, D.a5, D.a6, D.a7]) h2), ⟨_, _, hs2.extBut _ _ D.a2 z2⟩, z3.but hs2 D.a3, z4.but hs2 D.a4⟩, fun c hc => (f1 c hc).1⟩
    · have hcz : c ≠ z := fun e => hc (by simp [e])
      refine (hs2.2 c hcz).trans ?_
      rcases Heap.get?_push_cases q with ⟨e, e'⟩ | q'
      · subst e; subst e'; exact z5
      · exact hk c o (fun e => hc (by
          simp only [List.mem_cons, List.not_mem_nil, or_false] at e ⊢
          rcases e with e | e | e | e
          · exact .inl e
          · exact .inr (.inr (.inl e))
          · exact .inr (.inr (.inr (.inl e)))
          · exact .inr (.inr (.inr (.inr e))))) q'
  done := by
    intro X hP hw hK hc i pins s σ H E I hf st hg
    subst hP hw hK
    obtain ⟨xs, ys, hq1, hq2, hend⟩ := hg
    obtain ⟨h1, h2, ⟨a, b, h3⟩, h4, h5⟩ := st
    obtain ⟨its1, rv1, p1, _⟩ := I.sqb hq1
    obtain ⟨its2, rv2, p2, _⟩ := I.sqb hq2
    have l1 := rv1.length
    have l2 := rv2.length
    have he : its1.toArray[i]? = none ∨ its2.toArray[i]? = none := by
      rcases hend with q | q
      · exact .inl (by simp; omega)
      · exact .inr (by simp; omega)
    refine zip_ends (I.ok.hd hc) D h1 h2 h3 (I.sqb_ne hq1 (hf TO (by simp))) (I.sqb_ne hq2 (hf TO (by simp))) h4 h5 p1 p2 he fun h' hk => ⟨rfl, ?_⟩
    refine I.turnedL (ch := [z, TI, TO, i1, i2]) (t' := s.toks) (fun c o hc q => hk c o (fun e => hc ?_) q) hf
    simp only [List.mem_cons, List.not_mem_nil, or_false] at e ⊢
    rcases e with e | e | e | e
    · exact .inl e
    · exact .inr (.inr (.inl e))
    · exact .inr (.inr (.inr (.inl e)))
    · exact .inr (.inr (.inr (.inr e)))
  self := fun _ _ _ _ _ st h => wpAny_pyIter_zip st.1 h
theorem zap (n : Nat) : ZAp (n + 4) (n + 2) (n + 3) n (n + 1) :=
  ⟨(by omega : n + 2 ≠ n + 4), (by omega : n + 3 ≠ n + 4), (by omega : n ≠ n + 4), (by omega : n + 1 ≠ n + 4), (by omega : n + 2 ≠ n + 3), (by omega : n + 2 ≠ n), (by omega : n + 2 ≠ n + 1), (by omega : n + 3 ≠ n), (by omega : n + 3 ≠ n + 1), (by omega : n ≠ n + 1)⟩
section
variable {X : Cx}
end
end L2
set_option Elab.async false
set_option linter.all false
set_option maxRecDepth 100000
set_option maxHeartbeats 4000000
namespace L2
open PySem PySem.Spec PyProof.Rows
section
variable {X : Cx}
theorem op_mulB : OpR X (binaryOp .Mult) (rI IntMulOk fun i j => .int (i * j)) := opI fun _ _ _ _ _ _ _ hc q => mul_int q hc
def CDivB (i j : Int) : Prop := 0 < j ∧ j.natAbs.log2 < 9000
theorem op_fdivB : OpR X (binaryOp .FloorDiv) (rI CDivB fun i j => .int (i / j)) := opI fun i j _ _ _ _ _ hc q => by
  have h1 : (0 : Int) < j := hc.1
  exact floordiv_int (by omega) (by rw [Int.fdiv_eq_ediv_of_nonneg i (by omega)]; exact q) (.inl (PyProof.noPylong_of_log2 hc.2))
end
theorem log2_of_lt {n k : Nat} (hk : 0 < k) (h : n < 2 ^ k) : n.log2 < k := by
  rcases Nat.eq_zero_or_pos n with z | z
  · subst z; simpa using hk
  · exact (Nat.log2_lt (Nat.ne_of_gt z)).mpr h
theorem CDivB.of {i j : Int} (h0 : 0 < j) (h : j < 2 ^ 9000) : CDivB i j := ⟨h0, log2_of_lt (by decide) (by
  have e : (j.natAbs : Int) = j := Int.natAbs_of_nonneg (Int.le_of_lt h0)
  have : (j.natAbs : Int) < ((2 ^ 9000 : Nat) : Int) := by rw [e]; exact_mod_cast h
  exact_mod_cast this)⟩
theorem intBits_le {a : Int} {k : Nat} (hk : 0 < k) (h : a.natAbs < 2 ^ k) : Builtin.Int.intBits a ≤ k := by
  unfold Builtin.Int.intBits
  split
  · exact Nat.zero_le _
  · exact log2_of_lt hk h
theorem mulOk_of {a b : Int} {m n : Nat} (hm : 0 < m) (hn : 0 < n) (ha : a.natAbs < 2 ^ m) (hb : b.natAbs < 2 ^ n) (h : m + n ≤ 134217728) : IntMulOk a b := PyProof.Rows.mulOk_of_bits (intBits_le hm ha) (intBits_le hn hb) h
theorem mulOk_l {a b : Int} (h1 : -(2 ^ 64) < a) (h2 : a < 2 ^ 64) : IntMulOk a b := .of_left (intBits_le_64 h1 h2)
theorem mulOk_r {a b : Int} (h1 : -(2 ^ 64) < b) (h2 : b < 2 ^ 64) : IntMulOk a b := .of_right (intBits_le_64 h1 h2)
section
variable {prog : Program} {w : World} {A : Around} {E : Value → Shared → Prop} {s : Shared}
theorem draw_list {it t : Addr} {items : Array Value} (hne : t ≠ it) : ∀ (n i : Nat) (s : Shared) (Q : List Value → Shared → Prop), s.heap.IsListIter it t i → s.heap.IsList t items → i + n ≤ items.size →
    (∀ h', h'.IsListIter it t (i + n) → Heap.SameBut it s.heap h' → Q ((items.toList.drop i).take n) { s with heap := h' }) → wpAny (model prog w) A (draw (.ref it) n) Q E s
  | 0, i, s, Q, hit, _, _, hQ => by
    show wpAny _ _ (pure []) Q E s
    exact wpAny_pure (by simpa using hQ s.heap hit (Heap.SameBut.refl ..))
  | n + 1, i, s, Q, hit, ht, hle, hQ => by
    have hlt : i < items.size := by omega
    show wpAny _ _ (pyNext (.ref it) >>= _) Q E s
    refine wpAny_bind (wpAny_pyNext_list_item hit ht (x := items[i]) (by simp [hlt]) fun g1 hit1 s1 => ?_)
    refine wpAny_bind (wpAny_holding (draw_list hne n (i + 1) _ _ hit1 (ht.extBut s1.extBut hne) (by omega) fun g2 hit2 s2 => wpAny_pure ?_))
    have hd : items.toList.drop i = items[i] :: items.toList.drop (i + 1) := by simp [List.drop_eq_getElem_cons, hlt]
    have := hQ g2 (by rw [show i + (n + 1) = i + 1 + n by omega]; exact hit2) (s1.trans s2)
    rw [hd, List.take_succ_cons] at this
    exact this
theorem unpackItems_list {t : Addr} {items : Array Value} {Q : List Value → Shared → Prop} (hh : A.handled = none) (ht : s.heap.IsList t items)
    (hQ : ∀ h', Heap.ExtBut s.heap.objs.size s.heap h' → Q items.toList { s with heap := h' }) : wpAny (model prog w) A (unpackItems (.ref t) items.size none) Q E s := by
  have hlt : t ≠ s.heap.objs.size := by obtain ⟨o, ho, _⟩ := ht; exact Nat.ne_of_lt (Heap.lt_size ho)
  unfold unpackItems
  refine wpAny_bind ?_
  unfold notIterableAtAll
  refine wpAny_bind (wpAny_specialOf ht.typeIs slot_list_iter.lookup (wpAny_pure ?_))
  simp only [Bool.false_eq_true, if_false]
  refine wpAny_bind (wpAny_holding (wpAny_pyIter_list ht (wpAny_bind (wpAny_holding (draw_list hlt items.size 0 _ _ ⟨_, Heap.get?_push_size _ rfl, rfl, rfl⟩ (ht.push _) (by omega) fun g1 hit1 s1 => ?_)))))
  have hall : List.take items.size (List.drop 0 items.toList) = items.toList := by
    rw [List.drop_zero]; exact List.take_of_length_le (by simp)
  rw [hall, if_neg (by simp)]
  have ht1 : g1.IsList t items := (ht.push _).extBut s1.extBut hlt
  refine wpAny_bind (wpAny_holding (wpAny_pyNext_list_end hh hit1 ht1 (by simp) fun g2 e2 => ?_))
  simp only [Option.isSome_none, Bool.false_eq_true, if_false]
  exact wpAny_pure (hQ g2 fun b o hb e => e2 b o hb (s1.extBut b o hb (Heap.get?_push_of_some _ e)))
end
section
variable {X : Cx} {pos : Pos}
def gLst (K : PySem.W.Frag) (n : Nat) (t : TGs) : TG := fun v σ H Q => ∃ a xs, v = .ref a ∧ SqL K H a xs ∧ xs.length = n ∧ t xs σ H Q
theorem pg_lst {es : List Expr} {k : Nat} {t : TGs} {n : Nat} (hc : X.calm = true) (h : PGs X es t)
    (hn : (assignEach es X.env).length = n := by rfl) (hst : (assignEach es X.env).findIdx? (·.1) = none := by rfl) : PG X (.Tuple es k pos) (gLst X.K n t) := by
  intro pins s σ H v u Q I r hw
  obtain ⟨a, xs, e1, hq, hl, hw⟩ := hw
  subst e1
  cases r
  obtain ⟨its, rv, ht, hz⟩ := I.list hq
  rw [assign_Tuple]
  refine wpAny_bind (wpAny_standAt ?_)
  unfold unpack
  have e0 : (assignEach es X.env).length = its.toArray.size := by simp [hn, ← hl, rv.length]
  rw [e0, hst]
  refine wpAny_bind (wpAny_holding (unpackItems_list (I.ok.hd hc) ht.isList fun h' hx => ?_))
  have I1 : Inv X pins σ H { s with heap := h' } := I.kept (t' := s.toks) fun b o e => hx b o (Nat.ne_of_lt (Heap.lt_size e)) e
  exact h pins _ σ H xs _ Q I1 (by simpa using rv) hw
end
inductive IsiV (K : PySem.W.Frag) (H : Hp) : V → String → Bool → Prop where
  | int_int (i) : IsiV K H (.int i) "int" true
  | int_bool (i) : IsiV K H (.int i) "bool" false
  | int_tuple (i) : IsiV K H (.int i) "tuple" false
  | int_str (i) : IsiV K H (.int i) "str" false
  | bl_int (b) : IsiV K H (.bl b) "int" true
  | bl_bool (b) : IsiV K H (.bl b) "bool" true
  | bl_tuple (b) : IsiV K H (.bl b) "tuple" false
  | str_str (x) : IsiV K H (.str x) "str" true
  | str_tuple (x) : IsiV K H (.str x) "tuple" false
  | tup_tuple {a xs} : SqT K H a xs → IsiV K H (.ref a) "tuple" true
  | tup_int {a xs} : SqT K H a xs → IsiV K H (.ref a) "int" false
  | lst_tuple {a xs} : SqL K H a xs → IsiV K H (.ref a) "tuple" false
  | lst_list {a xs} : SqL K H a xs → IsiV K H (.ref a) "list" true
def rIsi (K : PySem.W.Frag) : List V → Hp → VK → Prop := fun vs H Q => ∃ x T b, vs = [x, .ty T] ∧ IsiV K H x T b ∧ Q (.bl b) H
theorem vls2 {x y : V} {us : List Value} (r : Vals [x, y] us) : ∃ u v, us = [u, v] ∧ RelV x u ∧ RelV y v := by
  cases r with
  | cons r rr =>
    cases rr with
    | cons r' rr => cases rr; exact ⟨_, _, rfl, r, r'⟩
theorem call_isi {X : Cx} : CallR X (.builtin "isinstance") (rIsi X.K) := by
  intro pins s σ H xs us Q I r h
  obtain ⟨x, T, b, rfl, hi, q⟩ := h
  obtain ⟨u, v, rfl, ru, rv⟩ := vls2 r
  have rv : v = .type T := rv
  subst rv
  have fin : ∀ (c : Bool) (t : Nat), Q (.bl c) H → EP X pins σ Q (.bool c) { s with toks := t } := fun c t q => ⟨.bl c, H, I.tok t, rfl, q⟩
  cases hi with
  | int_int i => obtain ⟨t, rfl⟩ := ru; exact IsiPair.int_int (fin _ s.toks q)
  | int_bool i => obtain ⟨t, rfl⟩ := ru; exact IsiPair.int_bool (fin _ _ q)
  | int_tuple i => obtain ⟨t, rfl⟩ := ru; exact IsiPair.int_tuple (fin _ _ q)
  | int_str i => obtain ⟨t, rfl⟩ := ru; exact IsiPair.int_str (fin _ _ q)
  | bl_int b => cases ru; exact IsiPair.bool_int (fin _ s.toks q)
  | bl_bool b => cases ru; exact IsiPair.bool_bool (fin _ s.toks q)
  | bl_tuple b => cases ru; exact IsiPair.bool_tuple (fin _ _ q)
  | str_str x => obtain ⟨t, rfl⟩ := ru; exact IsiPair.str_str (fin _ s.toks q)
  | str_tuple x => obtain ⟨t, rfl⟩ := ru; exact IsiPair.str_tuple (fin _ _ q)
  | tup_tuple h =>
    cases ru
    obtain ⟨its, _, p, _⟩ := I.tuple h
    exact call_isinstance (isinstance_true (Tx := "tuple") F.isi_meta_tuple F.sub_tuple_tuple) ⟨p.typeIs, fin _ s.toks q⟩
  | tup_int h =>
    cases ru
    obtain ⟨its, _, ⟨o, e, c, _⟩, _⟩ := I.tuple h
    exact call_isinstance (isinstance_false_tuple (by decide +kernel) F.isi_meta_int F.sub_tuple_int) ⟨⟨o, e, c⟩, fin _ _ q⟩
  | lst_tuple h =>
    cases ru
    obtain ⟨its, _, p, _⟩ := I.list h
    obtain ⟨o, e, c, _⟩ := p.isList
    exact call_isinstance (isinstance_false_list (by decide +kernel) F.isi_meta_tuple F.sub_list_tuple) ⟨⟨o, e, c⟩, fin _ _ q⟩
  | lst_list h =>
    cases ru
    obtain ⟨its, _, p, _⟩ := I.list h
    exact call_isinstance (isinstance_true (Tx := "list") F.isi_meta_list F.sub_list_list) ⟨p.isList.typeIs, fin _ s.toks q⟩
theorem walks_sq {prog : Program} {w : World} {A : Around} (hh : A.handled = none) (b : Bool) (it a : Addr) (hne : a ≠ it) (its : Array Value) : Walks prog w A it [it, a] [it] its.size (fun i v => its[i]? = some v) (fun i h => SqI b h it a i ∧ SqO b h a its) where
  sub := fun c hc => by rw [List.mem_singleton.mp hc]; simp
  frame := fun _ _ _ st k => ⟨st.1.at fun o e => k it (by simp) o e, st.2.at fun o e => k a (by simp) o e⟩
  item := fun i s Q E hi st hQ => by
    cases b with
    | true => exact wpAny_pyNext_list_item st.1 st.2 (x := its[i]) (by simp [hi]) fun h' q sb => hQ _ h' s.toks (by simp [hi]) ⟨q, SqO.at (b := true) st.2 fun o e => (sb.2 a hne).trans e⟩ fun c o hc e => (sb.2 c fun z => hc (by simp [z])).trans e
    | false => exact wpAny_pyNext_tuple_item st.1 st.2 (x := its[i]) (by simp [hi]) fun h' q sb => hQ _ h' s.toks (by simp [hi]) ⟨q, SqO.at (b := false) st.2 fun o e => (sb.2 a hne).trans e⟩ fun c o hc e => (sb.2 c fun z => hc (by simp [z])).trans e
  done := fun s Q E st hQ => by
    cases b with
    | true => exact wpAny_pyNext_list_end hh st.1 st.2 (by simp) fun h' eb => hQ h' s.toks fun c o hc e => eb c o (fun z => hc (by simp [z])) e
    | false => exact wpAny_pyNext_tuple_end hh st.1 st.2 (by simp) fun h' eb => hQ h' s.toks fun c o hc e => eb c o (fun z => hc (by simp [z])) e
  self := fun i s Q E st hQ => by
    cases b with
    | true => exact wpAny_pyIter_listiter st.1 hQ
    | false => exact wpAny_pyIter_tupleiter st.1 hQ
theorem vls1 {x : V} {us : List Value} (r : Vals [x] us) : ∃ u, us = [u] ∧ RelV x u := by
  cases r with
  | cons r rr => cases rr; exact ⟨_, rfl, r⟩
theorem preSum_list (val : Nat → Int) (ns : List Int) (h : ∀ i n, ns[i]? = some n → val i = n) : ∀ k, k ≤ ns.length → preSum val k = (ns.take k).sum
  | 0, _ => by simp [preSum]
  | k + 1, hk => by
    have hlt : k < ns.length := hk
    have e := h k ns[k] (by simp [hlt])
    rw [preSum, preSum_list val ns h k (Nat.le_of_lt hlt), e, List.take_succ_eq_append_getElem hlt, List.sum_append]
    simp
def rSum (K : PySem.W.Frag) (b : Bool) : List V → Hp → VK → Prop := fun vs H Q => ∃ (a : Addr) (ns : List Int), vs = [.ref a] ∧ SqB K b H a (ns.map V.int) ∧ Q (.int ns.sum) H
theorem call_sum (b : Bool) {X : Cx} (hc : X.calm = true) : CallR X (.builtin "sum") (rSum X.K b) := by
  intro pins s σ H xs us Q I r h
  obtain ⟨a, ns, rfl, hq, q⟩ := h
  obtain ⟨u, rfl, ru⟩ := vls1 r
  cases ru
  obtain ⟨its, rv, p, hz⟩ := I.sqb hq
  refine call_sum_walkAnyS (iter_sq p ?_)
  have hne : a ≠ s.heap.objs.size := Nat.ne_of_lt p.lt
  have W := walks_sq (prog := X.prog) (w := X.w) (A := X.A.in1) (I.ok.hd hc) b s.heap.objs.size a hne its.toArray
  have hv : ∀ (i : Nat) (v : Value), its.toArray[i]? = some v → ∃ t, v = .int (ns.getD i 0) t := fun i v e => by
    have e' : its[i]? = some v := by simpa using e
    have hi : i < ns.length := by
      have := (List.getElem?_eq_some_iff.mp e').1
      have := rv.length
      rw [List.length_map] at this
      omega
    obtain ⟨v', h1, h2⟩ := rv.get (i := i) (x := V.int (ns.getD i 0)) (by simp [hi])
    rw [e'] at h1; cases h1
    exact h2
  have ln : its.toArray.size = ns.length := by have := rv.length; rw [List.length_map] at this; simp [this]
  refine ⟨s.heap.objs.size, [s.heap.objs.size, a], [s.heap.objs.size], _, its.toArray.size, _, _, fun i => ns.getD i 0, rfl, W.toS, ⟨itObj_is (Heap.get?_push_size _ (by cases b <;> rfl)), p.at fun o e => Heap.get?_push_of_some _ e⟩, fun c hcm => ?_, hv, fun s' t' hm => ?_⟩
  · rw [Heap.size_push]
    rcases List.mem_cons.mp hcm with rfl | hcm
    · exact Nat.lt_succ_self _
    · rw [List.mem_singleton.mp hcm]; exact Nat.lt_succ_of_lt p.lt
  · obtain ⟨hh, hg, hd, ho, _⟩ := hm
    obtain ⟨h', g', d', tk', os'⟩ := s'
    have e1 : g' = s.gens := hg
    have e2 : d' = s.drawn := hd
    have e3 : os' = s.os := ho
    subst e1 e2 e3
    refine ⟨.int ns.sum, H, I.kept (h' := h') (t' := tk') fun c o e => hh c o (fun z => ?_) (Heap.get?_push_of_some _ e), ⟨t', ?_⟩, q⟩
    · rw [List.mem_singleton.mp z] at e
      exact absurd (Heap.lt_size e) (Nat.lt_irrefl _)
    · rw [ln, preSum_list (fun i => ns.getD i 0) ns (fun i n e => by
        show ns.getD i 0 = n
        rw [List.getD_eq_getElem?_getD, e]; rfl) ns.length (Nat.le_refl _), List.take_length]
def rAll (K : PySem.W.Frag) (b : Bool) (f : List Bool → Bool) : List V → Hp → VK → Prop := fun vs H Q => ∃ (a : Addr) (bs : List Bool), vs = [.ref a] ∧ SqB K b H a (bs.map V.bl) ∧ Q (.bl (f bs)) H
theorem truth_bools {prog : Program} {w : World} {A : Around} {its : Array Value} {bs : List Bool} (rv : Vals (bs.map V.bl) its.toList) : TruthOf prog w A (fun i v => its[i]? = some v) (fun i => bs.getD i false) := by
  intro i v s Q E e q
  have e' : its.toList[i]? = some v := by simpa using e
  have hi : i < bs.length := by
    have := (List.getElem?_eq_some_iff.mp e').1
    have := rv.length
    rw [List.length_map] at this
    omega
  obtain ⟨v', h1, h2⟩ := rv.get (i := i) (x := V.bl (bs.getD i false)) (by simp [hi])
  rw [e'] at h1; cases h1
  have h2 : v = .bool (bs.getD i false) := h2
  subst h2
  exact wpAny_truthy_bool q
theorem range_all (bs : List Bool) : (List.range bs.length).all (fun i => bs.getD i false) = bs.all id := by
  rw [Bool.eq_iff_iff]
  simp only [List.all_eq_true, List.mem_range, id]
  constructor
  · intro h x hx
    obtain ⟨i, hi, rfl⟩ := List.mem_iff_getElem.mp hx
    have := h i hi
    simpa [hi] using this
  · intro h i hi
    have := h bs[i] (List.getElem_mem hi)
    simpa [hi] using this
theorem call_all (b : Bool) {X : Cx} (hc : X.calm = true) : CallR X (.builtin "all") (rAll X.K b fun bs => bs.all id) := by
  intro pins s σ H xs us Q I r h
  obtain ⟨a, bs, rfl, hq, q⟩ := h
  obtain ⟨u, rfl, ru⟩ := vls1 r
  cases ru
  obtain ⟨its, rv, p, hz⟩ := I.sqb hq
  have hne : a ≠ s.heap.objs.size := Nat.ne_of_lt p.lt
  have ln : its.toArray.size = bs.length := by have := rv.length; rw [List.length_map] at this; simp [this]
  have W := walks_sq (prog := X.prog) (w := X.w) (A := X.A.in1) (I.ok.hd hc) b s.heap.objs.size a hne its.toArray
  refine call_all_walk (iter_sq p ⟨s.heap.objs.size, [s.heap.objs.size, a], [s.heap.objs.size], its.toArray.size, _, _, fun i => bs.getD i false, rfl, W, ⟨itObj_is (Heap.get?_push_size _ (by cases b <;> rfl)), p.at fun o e => Heap.get?_push_of_some _ e⟩, truth_bools (by simpa using rv), fun h' tk hk => ?_⟩)
  rw [ln, range_all]
  refine ⟨.bl (bs.all id), H, I.kept (h' := h') (t' := tk) fun c o e => hk c o (fun z => ?_) (Heap.get?_push_of_some _ e), rfl, q⟩
  rw [List.mem_singleton.mp z] at e
  exact absurd (Heap.lt_size e) (Nat.lt_irrefl _)
end L2
namespace L2
open PySem PySem.Spec PyProof.Rows
def compOk (N : List Str) (sc scope : Scope) (N' : List Str) (cap : List (Option Nat)) : Bool :=
  decide (scope.kind = .function) && scope.names.all (fun y => decide (y.2 ≠ .cell)) && scope.names.all (fun x => decide (x.2 = .local → scope.names.lookup x.1 = some .local)) &&
    scope.names.all (fun x => decide (x.2 = .free → sc.names.lookup x.1 = some .cell ∧ scope.names.lookup x.1 = some .free)) && decide N'.Nodup && decide (cap.length = N'.length) &&
    (cap.zip N').all fun p => match p.1 with | none => true | some i => decide (N[i]? = some p.2 ∧ (p.2, NameKind.free) ∈ scope.names)
theorem CompScope.ok {N : List Str} {sc scope : Scope} {N' : List Str} {cap : List (Option Nat)} (h : compOk N sc scope N' cap = true) : CompScope N sc scope N' cap := by
  unfold compOk at h
  simp only [Bool.and_eq_true, decide_eq_true_eq, List.all_eq_true] at h
  obtain ⟨⟨⟨⟨⟨⟨h1, h2⟩, h3⟩, h4⟩, h5⟩, h6⟩, h7⟩ := h
  refine ⟨h1, h2, h3, fun x hx hf => (h4 x hx hf).1, fun x hx hf => (h4 x hx hf).2, h5, h6, fun p hp i hi => ?_⟩
  have := h7 p hp
  rw [hi] at this
  simpa using this
end L2
set_option Elab.async false
set_option linter.all false
set_option maxRecDepth 100000
set_option maxHeartbeats 4000000
namespace L2
open PySem PySem.Spec PyProof.Rows
section
variable {K : PySem.W.Frag} {B : V → St → Hp → (St → Hp → Prop) → Prop} {End : St → Hp → Prop} {σ : St} {H : Hp}
end
theorem same_new {H : Hp} {p : Addr} (h : H p = none) (o : HO) : Same H (upd H p o) := fun b u q => by rw [upd_ne (ne_of_none q h)]; exact q
theorem same_upd {H H' : Hp} {p : Addr} (s : Same H H') (h : H p = none) (o : HO) : Same H (upd H' p o) := fun b u q => by rw [upd_ne (ne_of_none q h)]; exact s b u q
theorem Same.sqt {K : PySem.W.Frag} {H H' : Hp} {a : Addr} {xs : List V} (e : Same H H') (h : SqT K H a xs) : SqT K H' a xs := SqB.same (b := false) e h
end L2
set_option Elab.async false
set_option linter.all false
set_option maxRecDepth 100000
set_option maxHeartbeats 4000000
namespace L2
open PySem PySem.Spec PyProof.Rows
theorem small {n : Nat} (h : n ≤ 1000) : n ≤ sizeLine := Nat.le_of_lt (small1000 h)
theorem dP {p : Prop} [Decidable p] (h : decide p = true) : p := of_decide_eq_true h
theorem take_snoc {α : Type} {xs : List α} {i : Nat} {x : α} (h : xs[i]? = some x) : xs.take (i + 1) = xs.take i ++ [x] := by
  obtain ⟨hi, e⟩ := List.getElem?_eq_some_iff.mp h
  rw [List.take_succ_eq_append_getElem hi, e]
theorem lt_of_at {α : Type} {xs : List α} {i : Nat} {x : α} (h : xs[i]? = some x) : i < xs.length := (List.getElem?_eq_some_iff.mp h).1
theorem atI_of {α : Type} {xs : List α} {i : Nat} {x : α} {k : Int} (h : xs[i]? = some x) (e : k = (i : Int)) : atI xs k = some x := by
  subst e
  exact atI_nat h
def dot (es ns : List Int) : Int := (List.zipWith (· * ·) es ns).sum
def cutL {α : Type} (xs : List α) (lo hi : Option Int) : List α := (xs.drop (HT.sIx xs.length 0 lo)).take (HT.sIx xs.length xs.length hi - HT.sIx xs.length 0 lo)
theorem cutL_sub {α : Type} {xs : List α} {lo hi : Option Int} {x : α} (h : x ∈ cutL xs lo hi) : x ∈ xs := List.mem_of_mem_drop (List.mem_of_mem_take h)
inductive EqT (K : PySem.W.Frag) (H : Hp) : Nat → V → V → Prop where
  | int {d : Nat} (i : Int) : EqT K H d (.int i) (.int i)
  | bl {d : Nat} (b : Bool) : EqT K H d (.bl b) (.bl b)
  | str {d : Nat} (x : Str) : EqT K H d (.str x) (.str x)
  | non {d : Nat} : EqT K H d .non .non
  | sq {d : Nat} (q : Bool) {a b : Addr} {xs ys : List V} : SqB K q H a xs → SqB K q H b ys → xs.length = ys.length → (∀ (i : Nat) (x y : V), xs[i]? = some x → ys[i]? = some y → EqT K H d x y) → EqT K H (d + 1) (.ref a) (.ref b)
theorem Vals.get' {xs : List V} {us : List Value} (r : Vals xs us) {j : Nat} (h : j < us.length) : ∃ x, xs[j]? = some x ∧ RelV x us[j] := by
  have hl := Vals.length r
  have hj : j < xs.length := by omega
  obtain ⟨u, hu, ru⟩ := Vals.get (i := j) (x := xs[j]) r (by simp [hj])
  refine ⟨xs[j], by simp [hj], ?_⟩
  rw [List.getElem?_eq_getElem h] at hu
  cases hu
  exact ru
section
variable {prog : Program} {w : World} {A : Around} {E : Value → Shared → Prop} {s : Shared}
theorem cat_nil {t b : Addr} {vs ws : List Value} {Q : Value → Shared → Prop} (ht : IsTup s.heap t vs.toArray) (hb : IsTup s.heap b ws.toArray) (hv : vs = []) (h : Q (.ref b) s) : wpAny (model prog w) A (binaryOp .Add (.ref t) (.ref b)) Q E s := by
  obtain ⟨⟨cls, dd, data, sl⟩, ho, hc, n, hd⟩ := id ht
  obtain ⟨⟨cls2, dd2, data2, sl2⟩, ho2, hc2, n2, hd2⟩ := id hb
  simp only at hc hd hc2 hd2
  subst hc hd hc2 hd2
  exact concat_meets ⟨_, ho, rfl⟩ ⟨_, ho2, rfl⟩ noFill_tuple_add seq_tuple_add PySem.F.slot_tuple_add PySem.F.entry_tuple_add (PySem.F.args_tuple_add_2 _ _) (tuple_addW0 t b vs.toArray ws.toArray n n2 dd dd2 sl sl2 (by simp [hv])) ⟨ho, ho2, h⟩
end
def rCatG (K : PySem.W.Frag) : R2 := fun x y H Q => ∃ a b xs ys, x = .ref a ∧ y = .ref b ∧ SqT K H a xs ∧ SqT K H b ys ∧ xs.length + ys.length ≤ sizeLine ∧ ∀ p H', Same H H' → SqT K H' p (xs ++ ys) → Q (.ref p) H'
theorem op_catG {X : Cx} : OpR X (binaryOp .Add) (rCatG X.K) := by
  intro pins s σ H x y v u Q I rx ry h
  obtain ⟨a, b, xs, ys, rfl, rfl, ha, hb, hz, q⟩ := h
  by_cases hx : xs = []
  · subst hx
    cases rx
    cases ry
    obtain ⟨its, r1, p1, _⟩ := I.tuple ha
    obtain ⟨its2, r2, p2, _⟩ := I.tuple hb
    exact cat_nil p1 p2 (r1.nil_iff.mpr rfl) ⟨.ref b, H, I, rfl, q b H (Same.refl H) hb⟩
  · refine op_catT pins s σ H _ _ v u Q I rx ry ⟨a, b, xs, ys, rfl, rfl, ha, hb, hx, hz, fun e => ?_, fun _ p hp => q p _ (same_new hp _) (SqT.of upd_same)⟩
    subst e
    exact q a H (Same.refl H) (by rw [List.append_nil]; exact ha)
theorem dot_le {A B : Nat} : ∀ {es ns : List Int}, (∀ x ∈ es, x.natAbs ≤ A) → (∀ y ∈ ns, y.natAbs ≤ B) → (dot es ns).natAbs ≤ es.length * (A * B)
  | [], _, _, _ => by simp [dot]
  | _ :: _, [], _, _ => by simp [dot]
  | x :: es, y :: ns, hx, hy => by
    have ih := dot_le (es := es) (ns := ns) (fun z hz => hx z (List.mem_cons_of_mem _ hz)) (fun z hz => hy z (List.mem_cons_of_mem _ hz))
    have e : dot (x :: es) (y :: ns) = x * y + dot es ns := by simp [dot]
    have h1 : (x * y).natAbs ≤ A * B := by
      rw [Int.natAbs_mul]
      exact Nat.mul_le_mul (hx x List.mem_cons_self) (hy y List.mem_cons_self)
    have h2 := Int.natAbs_add_le (x * y) (dot es ns)
    rw [e, List.length_cons, Nat.add_mul]
    omega
end L2
set_option Elab.async false
set_option linter.all false
set_option maxRecDepth 100000
set_option maxHeartbeats 4000000
namespace L2
open PySem PySem.Spec PyProof.Rows
section
variable {J : It} {B : V → St → Hp → (St → Hp → Prop) → Prop} {End : St → Hp → Prop} {σ : St} {H : Hp} {D : Addr} {n : Nat} {El : Nat → V → Hp → Prop}
end
section
variable {K : PySem.W.Frag} {B : V → St → Hp → (St → Hp → Prop) → Prop} {End : St → Hp → Prop} {σ : St} {H : Hp} {D a : Addr}
end
end L2
set_option Elab.async false
set_option linter.all false
set_option maxRecDepth 100000
set_option maxHeartbeats 4000000
namespace L2
open PySem PySem.Spec PyProof.Rows
section
variable {α : Type} {R R' : V → α → Prop} {vs ws : List V} {rs ss : List α}
end
end L2
set_option Elab.async false
set_option linter.all false
set_option maxRecDepth 100000
set_option maxHeartbeats 4000000
namespace L2
open PySem PySem.Spec PyProof.Rows
abbrev Row := List Int × Int
def rowAt (rs : List Row) (k : Int) : Row := rs.getD k.toNat ([], 0)
theorem rowAt_of {rs : List Row} {k : Int} (h0 : 0 ≤ k) (h1 : k < rs.length) : rs[k.toNat]? = some (rowAt rs k) := by
  have h : k.toNat < rs.length := by omega
  unfold rowAt
  rw [List.getD_eq_getElem?_getD, List.getElem?_eq_getElem h]
  rfl
theorem rowAt_mem {rs : List Row} {k : Int} (h0 : 0 ≤ k) (h1 : k < rs.length) : rowAt rs k ∈ rs := List.mem_of_getElem? (rowAt_of h0 h1)
def okS (rs : List Row) (s : Int × Int) : Prop := (0 ≤ s.1 ∧ s.1 < rs.length) ∧ 0 ≤ s.2
instance (rs : List Row) (s : Int × Int) : Decidable (okS rs s) := by unfold okS; infer_instance
def addS (rs : List Row) (a : Row) (s : Int × Int) : Row := (List.zipWith (fun t e => t + s.2 * e) a.1 (rowAt rs s.1).1, a.2 + s.2 * (rowAt rs s.1).2)
def stepS (rs : List Row) (st : Option Row) (s : Int × Int) : Option Row := st.bind fun a => if okS rs s then some (addS rs a s) else none
def sumS (rs : List Row) (shs : List (Int × Int)) (n : Nat) : Option Row := shs.foldl (stepS rs) (some (List.replicate n 0, 0))
theorem sumS_none (rs : List Row) : ∀ shs : List (Int × Int), shs.foldl (stepS rs) none = none
  | [] => rfl
  | _ :: t => sumS_none rs t
theorem sumS_snoc {rs : List Row} {shs : List (Int × Int)} {n i : Nat} {s : Int × Int} (h : shs[i]? = some s) : sumS rs (shs.take (i + 1)) n = stepS rs (sumS rs (shs.take i) n) s := by
  unfold sumS
  rw [take_snoc h, List.foldl_append]
  rfl
theorem sumS_bad {rs : List Row} {shs : List (Int × Int)} {n i : Nat} {s : Int × Int} (h : shs[i]? = some s) (hb : ¬ okS rs s) : sumS rs shs n = none := by
  have e : shs = shs.take (i + 1) ++ shs.drop (i + 1) := (List.take_append_drop _ _).symm
  have : sumS rs (shs.take (i + 1)) n = none := by
    rw [sumS_snoc h]
    unfold stepS
    cases sumS rs (shs.take i) n with
    | none => rfl
    | some a => simp [hb]
  unfold sumS at this ⊢
  rw [e, List.foldl_append, this, sumS_none]
theorem sumS_ok {rs : List Row} {shs : List (Int × Int)} {n i : Nat} {s : Int × Int} {a : Row} (h : shs[i]? = some s) (ha : sumS rs (shs.take i) n = some a) (hb : okS rs s) : sumS rs (shs.take (i + 1)) n = some (addS rs a s) := by
  rw [sumS_snoc h, ha]
  unfold stepS
  simp [hb]
theorem sumS_le {rs : List Row} {n W E : Nat} {shs : List (Int × Int)} {r : Row} (h : sumS rs shs n = some r) (hr : ∀ r ∈ rs, (∀ x ∈ r.1, x.natAbs ≤ E) ∧ r.2.natAbs ≤ E) (hw : ∀ s ∈ shs, s.2.natAbs ≤ W) :
    (∀ x ∈ r.1, x.natAbs ≤ shs.length * (W * E)) ∧ r.2.natAbs ≤ shs.length * (W * E) := by
  have key : ∀ (shs : List (Int × Int)) (a : Row) (B : Nat), (∀ x ∈ a.1, x.natAbs ≤ B) → a.2.natAbs ≤ B → (∀ s ∈ shs, s.2.natAbs ≤ W) → ∀ r, shs.foldl (stepS rs) (some a) = some r → (∀ x ∈ r.1, x.natAbs ≤ B + shs.length * (W * E)) ∧ r.2.natAbs ≤ B + shs.length * (W * E) := by
    intro shs
    induction shs with
    | nil => intro a B ha hb _ r h; cases h; exact ⟨fun x hx => by have := ha x hx; simp; omega, by simp; omega⟩
    | cons s t ih =>
      intro a B ha hb hw r h
      rw [List.foldl_cons] at h
      by_cases c : okS rs s
      · have e : stepS rs (some a) s = some (addS rs a s) := by unfold stepS; simp [c]
        rw [e] at h
        have hm := hr _ (rowAt_mem c.1.1 c.1.2)
        have hs := hw s List.mem_cons_self
        have hmul : ∀ x : Int, x.natAbs ≤ E → (s.2 * x).natAbs ≤ W * E := fun x hx => by rw [Int.natAbs_mul]; exact Nat.mul_le_mul hs hx
        have h1 : ∀ x ∈ (addS rs a s).1, x.natAbs ≤ B + W * E := by
          intro x hx
          unfold addS at hx
          obtain ⟨i, hi⟩ := List.getElem?_of_mem hx
          rw [List.getElem?_zipWith] at hi
          cases h1 : a.1[i]? with
          | none => rw [h1] at hi; cases hi
          | some u =>
            cases h2 : (rowAt rs s.1).1[i]? with
            | none => rw [h1, h2] at hi; cases hi
            | some v =>
              rw [h1, h2] at hi
              cases hi
              have := ha u (List.mem_of_getElem? h1)
              have := hmul v (hm.1 v (List.mem_of_getElem? h2))
              have := Int.natAbs_add_le u (s.2 * v)
              omega
        have h2 : (addS rs a s).2.natAbs ≤ B + W * E := by
          have := hmul _ hm.2
          have := Int.natAbs_add_le a.2 (s.2 * (rowAt rs s.1).2)
          unfold addS
          show (a.2 + s.2 * (rowAt rs s.1).2).natAbs ≤ _
          omega
        have := ih _ (B + W * E) h1 h2 (fun x hx => hw x (List.mem_cons_of_mem _ hx)) r h
        have e : B + (s :: t).length * (W * E) = B + W * E + t.length * (W * E) := by rw [List.length_cons, Nat.add_mul]; omega
        rw [e]
        exact this
      · have e : stepS rs (some a) s = none := by unfold stepS; simp [c]
        rw [e, sumS_none] at h
        cases h
  have := key shs (List.replicate n 0, 0) 0 (fun x hx => by rw [(List.mem_replicate.mp hx).2]; decide) (by show (0 : Int).natAbs ≤ 0; decide) hw r h
  simpa using this
theorem cut_head {α : Type} (xs : List α) (n : Nat) : cutL xs none (some (n : Int)) = xs.take n := by
  unfold cutL
  have e1 : HT.sIx xs.length 0 none = 0 := rfl
  have e2 : HT.sIx xs.length xs.length (some (n : Int)) = min n xs.length := HT.sIx_nat _ _ _
  rw [e1, e2, List.drop_zero, Nat.sub_zero]
  rcases Nat.le_total n xs.length with h | h
  · rw [Nat.min_eq_left h]
  · rw [Nat.min_eq_right h, List.take_length, List.take_of_length_le h]
theorem cut_tail {α : Type} (xs : List α) (n : Nat) : cutL xs (some (n : Int)) none = xs.drop n := by
  unfold cutL
  have e1 : HT.sIx xs.length xs.length none = xs.length := rfl
  have e2 : HT.sIx xs.length 0 (some (n : Int)) = min n xs.length := HT.sIx_nat _ _ _
  rw [e1, e2]
  rcases Nat.le_total n xs.length with h | h
  · rw [Nat.min_eq_left h, List.take_of_length_le (by rw [List.length_drop]; omega)]
  · rw [Nat.min_eq_right h, List.drop_length, List.drop_of_length_le h]
    simp
theorem zw_end {α β γ : Type} {f : α → β → γ} {xs : List α} {ys : List β} {x : α} {y : β} (h : xs.length = ys.length) : List.zipWith f (xs ++ [x]) (ys ++ [y]) = List.zipWith f xs ys ++ [f x y] := by
  rw [List.zipWith_append h]
  rfl
theorem cut_mid {α : Type} (xs : List α) (a b : Nat) (hb : b ≤ xs.length) (ha : a ≤ b) : cutL xs (some (a : Int)) (some (b : Int)) = (xs.drop a).take (b - a) := by
  unfold cutL
  rw [HT.sIx_nat, HT.sIx_nat, Nat.min_eq_left hb, Nat.min_eq_left (Nat.le_trans ha hb)]
theorem cutV_is (xs : List V) (lo hi : Option Int) : cutV xs lo hi = cutL xs lo hi := rfl
section
variable {α : Type} {R : V → α → Prop} {vs : List V} {rs : List α}
end
end L2
set_option Elab.async false
set_option linter.all false
set_option maxRecDepth 100000
set_option maxHeartbeats 4000000
namespace L2
open PySem PySem.Spec PyProof.Rows
theorem se_BinOp {a0 a1 a2 a3} {rest : List Expr} {env : Env} : starEach (.BinOp a0 a1 a2 a3 :: rest) env = (false, eval (.BinOp a0 a1 a2 a3) env) :: starEach rest env := rfl
theorem se_UnaryOp {a0 a1 a2} {rest : List Expr} {env : Env} : starEach (.UnaryOp a0 a1 a2 :: rest) env = (false, eval (.UnaryOp a0 a1 a2) env) :: starEach rest env := rfl
theorem se_ListComp {a0 a1 a2 a3} {rest : List Expr} {env : Env} : starEach (.ListComp a0 a1 a2 a3 :: rest) env = (false, eval (.ListComp a0 a1 a2 a3) env) :: starEach rest env := rfl
theorem se_Compare {a0 a1 a2 a3} {rest : List Expr} {env : Env} : starEach (.Compare a0 a1 a2 a3 :: rest) env = (false, eval (.Compare a0 a1 a2 a3) env) :: starEach rest env := rfl
theorem se_Call {a0 a1 a2 a3} {rest : List Expr} {env : Env} : starEach (.Call a0 a1 a2 a3 :: rest) env = (false, eval (.Call a0 a1 a2 a3) env) :: starEach rest env := rfl
theorem se_Constant {a0 a1 a2} {rest : List Expr} {env : Env} : starEach (.Constant a0 a1 a2 :: rest) env = (false, eval (.Constant a0 a1 a2) env) :: starEach rest env := rfl
theorem se_Subscript {a0 a1 a2} {rest : List Expr} {env : Env} : starEach (.Subscript a0 a1 a2 :: rest) env = (false, eval (.Subscript a0 a1 a2) env) :: starEach rest env := rfl
theorem se_Name {a0 a1} {rest : List Expr} {env : Env} : starEach (.Name a0 a1 :: rest) env = (false, eval (.Name a0 a1) env) :: starEach rest env := rfl
theorem se_List {a0 a1} {rest : List Expr} {env : Env} : starEach (.List a0 a1 :: rest) env = (false, eval (.List a0 a1) env) :: starEach rest env := rfl
theorem se_Tuple {a0 a1 a2} {rest : List Expr} {env : Env} : starEach (.Tuple a0 a1 a2 :: rest) env = (false, eval (.Tuple a0 a1 a2) env) :: starEach rest env := rfl
theorem npl_nil {pos : Pos} {env : Env} : (backTo pos (starEach [] env)).any (·.1) = false := rfl
theorem npl_cons {pos : Pos} {e : Expr} {es : List Expr} {env : Env} (h : starEach (e :: es) env = (false, eval e env) :: starEach es env) (hr : (backTo pos (starEach es env)).any (·.1) = false) : (backTo pos (starEach (e :: es) env)).any (·.1) = false := by
  rw [h]
  exact hr
theorem few_of {pos : Pos} {e : Expr} {env : Env} (h : starEach [e] env = (false, eval e env) :: starEach [] env) : ((backTo pos (starEach [e] env)).all (fun x => !x.1) && (backToKw pos (keywordEach [] env)).all (fun x => x.1.isSome)
      && decide ([e].length + ([] : List Keyword).length + (if ([] : List Keyword).isEmpty then 0 else 1) < 30)) = true := by
  rw [h]
  rfl
section
variable {X : Cx} {K : PySem.W.Frag}
theorem call_isiK (h : X.K = K) : CallR X (.builtin "isinstance") (rIsi K) := h ▸ call_isi
end
end L2
set_option Elab.async false
set_option linter.all false
set_option maxRecDepth 100000
set_option maxHeartbeats 4000000
namespace L2
open PySem PySem.Spec PyProof.Rows
end L2
set_option Elab.async false
set_option linter.all false
set_option maxRecDepth 100000
set_option maxHeartbeats 4000000
namespace L2
open PySem PySem.Spec PyProof.Rows
end L2
set_option Elab.async false
set_option linter.all false
set_option maxRecDepth 100000
set_option maxHeartbeats 4000000
namespace L2
open PySem PySem.Spec PyProof.Rows
section
variable {X : Cx} {K : PySem.W.Frag}
theorem op_isB : OpR X (compareOp .Is) (fun x y H Q => ∃ a b : Bool, x = .bl a ∧ y = .bl b ∧ Q (.bl (a == b)) H) := by
  intro pins s σ H x y v u Q I rx ry h
  obtain ⟨a, b, rfl, rfl, q⟩ := h
  cases rx
  cases ry
  exact wpAny_is_plain rfl (fin_bl I q (by cases a <;> cases b <;> rfl))
end
end L2
set_option Elab.async false
set_option linter.all false
set_option maxRecDepth 100000
set_option maxHeartbeats 4000000
namespace PySem
open Sem (wp)
open Builtin
open AutoSeq1 (wpAny_loadPart')
theorem noFill_tuple_mulY : fillsNumberSlot (.type "tuple") "mul" = pure false :=
  fillsNumberSlot_seq (id := "tuple.__mul__") (r := some (.builtin "tuple.__rmul__")) F.slot_tuple_mul.lookup (by decide +kernel) F.slot_tuple_rmul.lookup (by decide +kernel)
theorem repeat_tupleY : seqRepeat? (.type "tuple") = pure (some (.builtin "tuple.__mul__")) := by
  unfold seqRepeat?
  rw [seqSlot_of (T := "tuple") (name := "__mul__") (id := "tuple.__mul__") F.slot_tuple_mul.lookup (by decide +kernel), seqSlot_of (T := "tuple") (name := "__rmul__") (id := "tuple.__rmul__") F.slot_tuple_rmul.lookup (by decide +kernel)]
  rfl
theorem int_rmul_tupleY (a : Int) (t : Tok) (l : Addr) (items : Array Value) (n : Nat) (dd : Option Addr) (sl : Array (Option Value)) :
    Meets (Builtin.«int.__rmul__» ⟨[.int a t, .ref l], []⟩) (fun _ R s => s.heap.get? l = some { cls := .type "tuple", dict := dd, data := .seq items n, slots := sl } ∧ R (.ok (.ret Value.notImplemented)) s) :=
  .of_wp fun prog w A R s h => by obtain ⟨hp, g, d, tk, os⟩ := s; obtain ⟨hl, h⟩ := h; wp_walk; exact ⟨_, rfl, h⟩
theorem tuple_mulY1 (l : Addr) (items : Array Value) (n : Nat) (dd : Option Addr) (sl : Array (Option Value)) (u : Tok) :
    Meets (Builtin.«tuple.__mul__» ⟨[.ref l, .int 1 u], []⟩) (fun _ R s => s.heap.get? l = some { cls := .type "tuple", dict := dd, data := .seq items n, slots := sl } ∧ R (.ok (.ret (Value.ref l))) s) :=
  .of_wp fun prog w A R s h => by obtain ⟨hp, g, d, tk, os⟩ := s; obtain ⟨hl, h⟩ := h; have f1 := AutoSeq1.idx_int; have f2 := AutoSeq1.sub_tuple_tuple; wp_walk using wpAny_loadPart' hl; exact ⟨_, rfl, h⟩
theorem tuple_mulY0 (l : Addr) (items : Array Value) (n : Nat) (dd : Option Addr) (sl : Array (Option Value)) (k : Int) (u : Tok) (hc0 : ¬ (decide (k < -(2 ^ 63)) || decide (k ≥ 2 ^ 63)) = true) (hc1 : ¬ (items.isEmpty || k == 1) = true) (hc2 : (decide (k ≤ 0) || items.isEmpty) = true) :
    Meets (Builtin.«tuple.__mul__» ⟨[.ref l, .int k u], []⟩) (fun _ R s => s.heap.get? l = some { cls := .type "tuple", dict := dd, data := .seq items n, slots := sl } ∧ R (.ok (.ret (Value.ref s.heap.objs.size))) { s with heap := s.heap.push { cls := Value.type "tuple", data := Data.seq #[] }, toks := s.toks }) :=
  .of_wp fun prog w A R s h => by obtain ⟨hp, g, d, tk, os⟩ := s; obtain ⟨hl, h⟩ := h; have f1 := AutoSeq1.idx_int; have f2 := AutoSeq1.sub_tuple_tuple; wp_walk using wpAny_loadPart' hl; refine wpAny_ite_false (decide_eq_false hc0) ?_; wp_walk using wpAny_loadPart' hl; exact ⟨_, rfl, h⟩
theorem tuple_mulYP (l : Addr) (items : Array Value) (n : Nat) (dd : Option Addr) (sl : Array (Option Value)) (k : Int) (u : Tok) (hc0 : ¬ (decide (k < -(2 ^ 63)) || decide (k ≥ 2 ^ 63)) = true) (hc1 : ¬ (items.isEmpty || k == 1) = true) (hc2 : ¬ (decide (k ≤ 0) || items.isEmpty) = true) (hc3 : ¬ (items.size * k > (2 ^ 63 - 1) / 8)) (hc4 : ¬ Builtin.Tuple.tupleTooMany (items.size * k) = true) (hsz : (List.foldl (fun x1 x2 => x1 ++ x2) #[] (List.replicate k.toNat items)).size ≤ sizeLine) :
    Meets (Builtin.«tuple.__mul__» ⟨[.ref l, .int k u], []⟩) (fun _ R s => s.heap.get? l = some { cls := .type "tuple", dict := dd, data := .seq items n, slots := sl } ∧ R (.ok (.ret (Value.ref s.heap.objs.size))) { s with heap := s.heap.push { cls := Value.type "tuple", data := Data.seq (List.foldl (fun x1 x2 => x1 ++ x2) #[] (List.replicate k.toNat items)) }, toks := s.toks }) :=
  .of_wp fun prog w A R s h => by obtain ⟨hp, g, d, tk, os⟩ := s; obtain ⟨hl, h⟩ := h; have f1 := AutoSeq1.idx_int; have f2 := AutoSeq1.sub_tuple_tuple; wp_walk using wpAny_loadPart' hl; refine wpAny_ite_false (decide_eq_false hc0) ?_; wp_walk using wpAny_loadPart' hl; refine wpAny_ite_false (decide_eq_false hc3) ?_; wp_walk using wpAny_loadPart' hl; exact ⟨_, rfl, h⟩
end PySem
namespace L2
open PySem PySem.Spec PyProof.Rows
def rRepT (K : PySem.W.Frag) : R2 := fun x y H Q => ∃ (a : Addr) (k : Int) (xs : List V), x = .ref a ∧ y = .int k ∧ SqT K H a xs ∧ xs ≠ [] ∧ 0 ≤ k ∧ k ≤ 1000 ∧ k.toNat * xs.length ≤ 1000 ∧ ∀ p H', Same H H' → SqT K H' p (List.replicate k.toNat xs).flatten → Q (.ref p) H'
theorem op_repT {X : Cx} : OpR X (binaryOp .Mult) (rRepT X.K) := by
  intro pins s σ H x y v u Q I rx ry h
  obtain ⟨a, k, xs, rfl, rfl, ha, hx, h0, h1, hz, q⟩ := h
  cases rx
  obtain ⟨t, rfl⟩ := ry
  obtain ⟨its, r, p1, _⟩ := I.tuple ha
  have hne : its ≠ [] := fun z => hx (r.nil_iff.mp z)
  have hl := r.length
  have hits : its.toArray.isEmpty = false := by cases its with | nil => exact absurd rfl hne | cons _ _ => rfl
  obtain ⟨⟨cls, dd, data, sl⟩, ho, hc, n, hd⟩ := id p1
  simp only at hc hd
  subst hc hd
  refine wpAny_binaryOp_repeat_ref (T := "tuple") (U := "int") (by decide) ⟨_, ho, rfl⟩ (fun s' => typeIs_int s' k t) noFill_tuple_mulY F.fills_int_mul F.slot_int_rmul repeat_tupleY F.slot_int_index.lookup
    (call_meets F.slot_int_rmul (typeIs_int s k t) F.entry_int_rmul (F.args_int_rmul_2 _ _) (int_rmul_tupleY k t a its.toArray n dd sl)
      ⟨ho, rfl, ⟨_, ho, rfl⟩, ?_⟩)
  have hnew : List.foldl (fun x1 x2 => x1 ++ x2) #[] (List.replicate k.toNat its.toArray) = (List.replicate k.toNat its).flatten.toArray := by
    have := foldl_rep its k.toNat []
    rw [List.nil_append] at this
    exact this
  have hc0 : ¬ (decide (k < -(2 ^ 63)) || decide (k ≥ 2 ^ 63)) = true := by
    rw [decide_eq_false (by omega), decide_eq_false (by omega)]
    exact Bool.false_ne_true
  by_cases c1 : k = 1
  · subst c1
    refine call_meets F.slot_tuple_mul ⟨_, ho, rfl⟩ F.entry_tuple_mul (F.args_tuple_mul_2 _ _) (tuple_mulY1 a its.toArray n dd sl t) ⟨ho, ?_⟩
    refine ⟨.ref a, H, I, rfl, q a H (Same.refl H) ?_⟩
    show SqT X.K H a (List.replicate 1 xs).flatten
    rw [List.replicate_one, List.flatten_cons, List.flatten_nil, List.append_nil]
    exact ha
  · have hc1 : ¬ (its.toArray.isEmpty || k == 1) = true := by
      rw [hits, beq_eq_false_iff_ne.mpr c1]
      exact Bool.false_ne_true
    have lay : ∀ ys : List V, ∀ us : List Value, ys.length ≤ sizeLine → Vals ys us → EP X pins σ Q (.ref s.heap.objs.size) { s with heap := s.heap.push { cls := Value.type "tuple", data := Data.seq us.toArray }, toks := s.toks } ∨ ¬ (∀ p H', Same H H' → SqT X.K H' p ys → Q (.ref p) H') := fun ys us hzz rr => by
      by_cases qq : ∀ p H', Same H H' → SqT X.K H' p ys → Q (.ref p) H'
      · refine .inl ⟨.ref s.heap.objs.size, _, I.laid (t' := s.toks) (o := .tup ys) (fun b ob z => Heap.get?_push_of_some _ z) (Nat.le_refl _) ?_, rfl, qq _ _ (same_new (I.hok.fresh (Nat.le_refl _)) _) (SqT.of upd_same)⟩
        exact ⟨hzz, _, rr, IsTup.new _ _⟩
      · exact .inr qq
    by_cases c0 : k = 0
    · subst c0
      refine call_meets F.slot_tuple_mul ⟨_, ho, rfl⟩ F.entry_tuple_mul (F.args_tuple_mul_2 _ _) (tuple_mulY0 a its.toArray n dd sl 0 t hc0 hc1 rfl) ⟨ho, ?_⟩
      rcases lay [] [] (Nat.zero_le _) .nil with z | z
      · exact z
      · exact absurd q z
    · have hc2 : ¬ (decide (k ≤ 0) || its.toArray.isEmpty) = true := by
        rw [hits, decide_eq_false (by omega)]
        exact Bool.false_ne_true
      have hlen : its.length * k.toNat ≤ 1000 := by rw [← hl, Nat.mul_comm]; exact hz
      have hlenI : (its.toArray.size : Int) * k ≤ 1000 := by
        rw [List.size_toArray]
        have e : k = ((k.toNat : Nat) : Int) := by omega
        rw [e]
        exact_mod_cast hlen
      have hs : (1000 : Int) ≤ ((sizeLine : Nat) : Int) := by exact_mod_cast small (Nat.le_refl 1000)
      have hflat : (List.replicate k.toNat its).flatten.length ≤ 1000 := by rw [len_rep, Nat.mul_comm]; exact hlen
      refine call_meets F.slot_tuple_mul ⟨_, ho, rfl⟩ F.entry_tuple_mul (F.args_tuple_mul_2 _ _) (tuple_mulYP a its.toArray n dd sl k t hc0 hc1 hc2 (by omega) (by unfold Builtin.Tuple.tupleTooMany; rw [decide_eq_false (by omega)]; exact Bool.false_ne_true) (by rw [hnew, List.size_toArray]; exact small hflat)) ⟨ho, ?_⟩
      rw [hnew]
      rcases lay (List.replicate k.toNat xs).flatten (List.replicate k.toNat its).flatten (by rw [len_rep]; exact small hz) (r.rep k.toNat) with z | z
      · exact z
      · exact absurd q z
end L2
set_option Elab.async false
set_option linter.all false
set_option maxRecDepth 100000
set_option maxHeartbeats 4000000
namespace L2
open PySem PySem.Spec PyProof.Rows
inductive D where
  | int (i : Int) | bl (b : Bool) | str (x : Str) | non | tup (xs : List D) | lst (xs : List D) | fzl (xs : List D)
inductive Rp (K : PySem.W.Frag) (H : Hp) : D → V → Prop where
  | int (i : Int) : Rp K H (.int i) (.int i)
  | bl (b : Bool) : Rp K H (.bl b) (.bl b)
  | str (x : Str) : Rp K H (.str x) (.str x)
  | non : Rp K H .non .non
  | tup {a : Addr} {vs : List V} {ds : List D} : SqT K H a vs → vs.length = ds.length → (∀ (i : Nat) (v : V) (d : D), vs[i]? = some v → ds[i]? = some d → Rp K H d v) → Rp K H (.tup ds) (.ref a)
  | lst {a : Addr} {vs : List V} {ds : List D} : H a = some (.lst vs) → vs.length = ds.length → (∀ (i : Nat) (v : V) (d : D), vs[i]? = some v → ds[i]? = some d → Rp K H d v) → Rp K H (.lst ds) (.ref a)
  | fzl {a : Addr} {vs : List V} {ds : List D} : SqL K H a vs → vs.length = ds.length → (∀ (i : Nat) (v : V) (d : D), vs[i]? = some v → ds[i]? = some d → Rp K H d v) → Rp K H (.fzl ds) (.ref a)
def RpL (K : PySem.W.Frag) (H : Hp) (ds : List D) (vs : List V) : Prop := vs.length = ds.length ∧ ∀ (i : Nat) (v : V) (d : D), vs[i]? = some v → ds[i]? = some d → Rp K H d v
section
variable {K : PySem.W.Frag} {H H' Φ Φ' Φ1 H1 Φ2 H2 : Hp} {d : D} {v : V} {ds es : List D} {vs ws : List V}
theorem Rp.same (s : Same H H') (h : Rp K H d v) : Rp K H' d v := by
  induction h with
  | int i => exact .int i
  | bl b => exact .bl b
  | str x => exact .str x
  | non => exact .non
  | tup h1 h2 _ ih => exact .tup (s.sqt h1) h2 ih
  | lst h1 h2 _ ih => exact .lst (s _ _ h1) h2 ih
  | fzl h1 h2 _ ih => exact .fzl (s.seq h1) h2 ih
theorem RpL.same (s : Same H H') (h : RpL K H ds vs) : RpL K H' ds vs := ⟨h.1, fun i v d hv hd => (h.2 i v d hv hd).same s⟩
theorem RpL.nil : RpL K H [] [] := ⟨rfl, fun i v d hv _ => by simp at hv⟩
theorem RpL.cons (r : Rp K H d v) (h : RpL K H ds vs) : RpL K H (d :: ds) (v :: vs) := ⟨by simp [h.1], fun i u e hu he => by
  cases i with
  | zero => cases hu; cases he; exact r
  | succ i => exact h.2 i u e hu he⟩
theorem RpL.append (h : RpL K H ds vs) (h' : RpL K H es ws) : RpL K H (ds ++ es) (vs ++ ws) := by
  refine ⟨by rw [List.length_append, List.length_append, h.1, h'.1], fun i u e hu he => ?_⟩
  rcases Nat.lt_or_ge i vs.length with c | c
  · rw [List.getElem?_append_left c] at hu
    rw [List.getElem?_append_left (by rw [← h.1]; exact c)] at he
    exact h.2 i u e hu he
  · rw [List.getElem?_append_right c] at hu
    rw [List.getElem?_append_right (by rw [← h.1]; exact c), ← h.1] at he
    exact h'.2 _ u e hu he
theorem RpL.one (r : Rp K H d v) : RpL K H [d] [v] := .cons r .nil
theorem RpL.take (h : RpL K H ds vs) (k : Nat) : RpL K H (ds.take k) (vs.take k) := ⟨by rw [List.length_take, List.length_take, h.1], fun i u e hu he => by
  rcases Nat.lt_or_ge i k with c | c
  · rw [List.getElem?_take_of_lt c] at hu he
    exact h.2 i u e hu he
  · rw [List.getElem?_take_eq_none c] at hu
    cases hu⟩
theorem RpL.drop (h : RpL K H ds vs) (k : Nat) : RpL K H (ds.drop k) (vs.drop k) := ⟨by rw [List.length_drop, List.length_drop, h.1], fun i u e hu he => by
  rw [List.getElem?_drop] at hu he
  exact h.2 _ u e hu he⟩
theorem RpL.reverse (h : RpL K H ds vs) : RpL K H ds.reverse vs.reverse := ⟨by rw [List.length_reverse, List.length_reverse, h.1], fun i u e hu he => by
  have hi : i < vs.length := by have := lt_of_at hu; rwa [List.length_reverse] at this
  rw [List.getElem?_reverse hi] at hu
  rw [List.getElem?_reverse (by rw [← h.1]; exact hi), ← h.1] at he
  exact h.2 _ u e hu he⟩
theorem RpL.rep (h : RpL K H ds vs) : ∀ k : Nat, RpL K H (List.replicate k ds).flatten (List.replicate k vs).flatten
  | 0 => .nil
  | k + 1 => by
    rw [List.replicate_succ, List.replicate_succ, List.flatten_cons, List.flatten_cons]
    exact h.append (RpL.rep h k)
theorem RpL.at (h : RpL K H ds vs) {i : Nat} (e : ds[i]? = some d) : ∃ v, vs[i]? = some v ∧ Rp K H d v := by
  have hi : i < vs.length := by rw [h.1]; exact lt_of_at e
  exact ⟨vs[i], by simp [hi], h.2 i _ d (by simp [hi]) e⟩
theorem RpL.at' (h : RpL K H ds vs) {i : Nat} (e : vs[i]? = some v) : ∃ d, ds[i]? = some d ∧ Rp K H d v := by
  have hi : i < ds.length := by rw [← h.1]; exact lt_of_at e
  exact ⟨ds[i], by simp [hi], h.2 i v _ e (by simp [hi])⟩
theorem RpL.cut (h : RpL K H ds vs) (lo hi : Option Int) : RpL K H (cutL ds lo hi) (cutV vs lo hi) := by
  rw [cutV_is]
  unfold cutL
  rw [h.1]
  exact (h.drop _).take _
theorem RpL.tup {a : Addr} (h : RpL K H ds vs) (s : SqT K H a vs) : Rp K H (.tup ds) (.ref a) := .tup s h.1 h.2
theorem RpL.lst {a : Addr} (h : RpL K H ds vs) (s : H a = some (.lst vs)) : Rp K H (.lst ds) (.ref a) := .lst s h.1 h.2
theorem RpL.fzl {a : Addr} (h : RpL K H ds vs) (s : SqL K H a vs) : Rp K H (.fzl ds) (.ref a) := .fzl s h.1 h.2
theorem RpL.ints (ns : List Int) : RpL K H (ns.map D.int) (ns.map V.int) := ⟨by simp, fun i v d hv hd => by
  rw [List.getElem?_map] at hv hd
  cases e : ns[i]? with
  | none => rw [e] at hv; cases hv
  | some k => rw [e] at hv hd; cases hv; cases hd; exact .int k⟩
structure Gr (Φ H Φ' H' : Hp) : Prop where
  f : Same Φ Φ'
  h : Same H H'
  s : Same Φ' H'
  o : ∀ p u, H p = some (.lst u) → Φ p = none → Φ' p = none
theorem Gr.refl (s : Same Φ H) : Gr Φ H Φ H := ⟨Same.refl _, Same.refl _, s, fun _ _ _ h => h⟩
theorem Gr.trans (a : Gr Φ H Φ1 H1) (b : Gr Φ1 H1 Φ2 H2) : Gr Φ H Φ2 H2 := ⟨a.f.trans b.f, a.h.trans b.h, b.s, fun p u hp hn => b.o p u (a.h p _ hp) (a.o p u hp hn)⟩
theorem Gr.join (a : Gr Φ H Φ1 H1) (b : Gr Φ1 H Φ2 H2) : Gr Φ H Φ2 H2 := ⟨a.f.trans b.f, b.h, b.s, fun p u hp hn => b.o p u hp (a.o p u hp hn)⟩
theorem same_both (s : Same Φ H) {p : Addr} (o : HO) : Same (upd Φ p o) (upd H p o) := fun b u e => by
  by_cases c : b = p
  · subst c; rw [upd_same] at e ⊢; exact e
  · rw [upd_ne c] at e ⊢; exact s b u e
theorem Gr.new (s : Same Φ H) {p : Addr} (hp : H p = none) (o : HO) : Gr Φ H (upd Φ p o) (upd H p o) :=
  ⟨same_new (s.free hp) o, same_new hp o, same_both s o, fun q u hq hn => by rw [upd_ne (ne_of_none hq hp)]; exact hn⟩
theorem Gr.fresh (s : Same Φ H) {p : Addr} (hp : H p = none) (o : HO) : Gr Φ H Φ (upd H p o) :=
  ⟨Same.refl _, same_new hp o, fun b u e => same_new hp o b u (s b u e), fun _ _ _ h => h⟩
theorem Gr.freeze (g : Gr Φ H Φ' H') {p : Addr} {o : HO} (h0 : H p = none) (hn : Φ' p = none) (hp : H' p = some o) : Gr Φ H (upd Φ' p o) H' :=
  ⟨g.f.trans (same_new hn o), g.h, fun b u e => by
    by_cases c : b = p
    · subst c; rw [upd_same] at e; cases e; exact hp
    · rw [upd_ne c] at e; exact g.s b u e, fun q u hq hqn => by rw [upd_ne (ne_of_none hq h0)]; exact g.o q u hq hqn⟩
theorem Gr.adopt {p : Addr} {xs : List V} (s : Same Φ H) (h : Same H H') (q : SqT K H' p xs) : ∃ Φ', Gr Φ H Φ' H' ∧ SqT K Φ' p xs := by
  rcases q with q | q
  · obtain ⟨o, ho, hr, hnl⟩ : ∃ o, H' p = some o ∧ (o = .tup xs ∨ ∃ b, o = .frz b (.tup xs)) ∧ ∀ u, o ≠ .lst u := by
      rcases q with q | ⟨o, q⟩
      · exact ⟨_, q, .inl rfl, fun u e => by cases e⟩
      · exact ⟨_, q, .inr ⟨o, rfl⟩, fun u e => by cases e⟩
    have e1 : ∀ u, Φ p = some u → u = o := fun u e => by have := h _ _ (s _ _ e); rw [ho] at this; cases this; rfl
    refine ⟨upd Φ p o, ⟨fun b u e => ?_, h, fun b u e => ?_, fun b u e n => ?_⟩, ?_⟩
    · by_cases c : b = p
      · subst c; rw [upd_same, e1 u e]
      · rw [upd_ne c]; exact e
    · by_cases c : b = p
      · subst c; rw [upd_same] at e; cases e; exact ho
      · rw [upd_ne c] at e; exact h _ _ (s _ _ e)
    · by_cases c : b = p
      · subst c
        have := h _ _ e
        rw [ho] at this
        cases this
        exact absurd rfl (hnl u)
      · rw [upd_ne c]; exact n
    · rcases hr with rfl | ⟨b, rfl⟩
      · exact .inl (.inl upd_same)
      · exact .inl (.inr ⟨b, upd_same⟩)
  · exact ⟨Φ, ⟨Same.refl _, h, fun b u e => h _ _ (s _ _ e), fun _ _ _ n => n⟩, .inr q⟩
def RpQ (K : PySem.W.Frag) (Φ H : Hp) (d : D) (v : V) : Prop := Rp K Φ d v ∨ ∃ a vs ds, d = .lst ds ∧ v = .ref a ∧ H a = some (.lst vs) ∧ RpL K Φ ds vs
theorem RpQ.gr (g : Gr Φ H Φ' H') (h : RpQ K Φ H d v) : RpQ K Φ' H' d v := by
  rcases h with h | ⟨a, vs, ds, e, e2, h1, h2⟩
  · exact .inl (h.same g.f)
  · exact .inr ⟨a, vs, ds, e, e2, g.h _ _ h1, h2.same g.f⟩
theorem RpQ.lst (s : Same Φ H) (h : RpQ K Φ H (.lst ds) v) : ∃ a vs, v = .ref a ∧ H a = some (.lst vs) ∧ RpL K Φ ds vs := by
  rcases h with h | ⟨a, vs, ds, e, e2, h1, h2⟩
  · cases h with | lst h1 h2 h3 => exact ⟨_, _, rfl, s _ _ h1, h2, h3⟩
  · cases e; exact ⟨a, vs, e2, h1, h2⟩
theorem RpQ.fzl (s : Same Φ H) (h : RpQ K Φ H (.fzl ds) v) : ∃ a vs, v = .ref a ∧ SqL K H a vs ∧ RpL K Φ ds vs := by
  rcases h with h | ⟨a, vs, ds, e, e2, h1, h2⟩
  · cases h with | fzl h1 h2 h3 => exact ⟨_, _, rfl, s.seq h1, h2, h3⟩
  · cases e
theorem RpQ.tup (s : Same Φ H) (h : RpQ K Φ H (.tup ds) v) : ∃ a vs, v = .ref a ∧ SqT K H a vs ∧ SqT K Φ a vs ∧ RpL K Φ ds vs := by
  rcases h with h | ⟨a, vs, ds, e, e2, h1, h2⟩
  · cases h with | tup h1 h2 h3 => exact ⟨_, _, rfl, s.sqt h1, h1, h2, h3⟩
  · cases e
theorem RpQ.int {i : Int} (h : RpQ K Φ H (.int i) v) : v = .int i := by
  rcases h with h | ⟨a, vs, ds, e, _⟩
  · cases h; rfl
  · cases e
theorem RpQ.bl {i : Bool} (h : RpQ K Φ H (.bl i) v) : v = .bl i := by
  rcases h with h | ⟨a, vs, ds, e, _⟩
  · cases h; rfl
  · cases e
theorem RpQ.str {i : Str} (h : RpQ K Φ H (.str i) v) : v = .str i := by
  rcases h with h | ⟨a, vs, ds, e, _⟩
  · cases h; rfl
  · cases e
theorem RpQ.non (h : RpQ K Φ H .non v) : v = .non := by
  rcases h with h | ⟨a, vs, ds, e, _⟩
  · cases h; rfl
  · cases e
def seqD : D → Option (List D)
  | .lst ds => some ds
  | .tup ds => some ds
  | .fzl ds => some ds
  | _ => none
theorem RpQ.seq (s : Same Φ H) (h : RpQ K Φ H d v) (e : seqD d = some ds) : ∃ a vs, v = .ref a ∧ (SqL K H a vs ∨ SqT K H a vs) ∧ RpL K Φ ds vs := by
  cases d with
  | lst ds => cases e; obtain ⟨a, vs, e, h1, h2⟩ := h.lst s; exact ⟨a, vs, e, .inl (.of h1), h2⟩
  | tup ds => cases e; obtain ⟨a, vs, e, h1, _, h2⟩ := h.tup s; exact ⟨a, vs, e, .inr h1, h2⟩
  | fzl ds => cases e; obtain ⟨a, vs, e, h1, h2⟩ := h.fzl s; exact ⟨a, vs, e, .inl h1, h2⟩
  | _ => cases e
theorem Rp.seq (h : Rp K Φ d v) (e : seqD d = some ds) : ∃ (b : Bool) (a : Addr) (vs : List V), v = .ref a ∧ SqB K b Φ a vs ∧ RpL K Φ ds vs := by
  cases d with
  | lst ds => cases e; cases h with | lst h1 h2 h3 => exact ⟨true, _, _, rfl, SqL.of h1, h2, h3⟩
  | tup ds => cases e; cases h with | tup h1 h2 h3 => exact ⟨false, _, _, rfl, h1, h2, h3⟩
  | fzl ds => cases e; cases h with | fzl h1 h2 h3 => exact ⟨true, _, _, rfl, h1, h2, h3⟩
  | _ => cases e
end
inductive Sl where | v (d : D) | own (xs : List D)
abbrev Rho := List (Option Sl)
structure EnvD (K : PySem.W.Frag) (H0 Φ H : Hp) (σ : St) (ρ : Rho) : Prop where
  fz : Same Φ H
  len : σ.length = ρ.length
  sl : ∀ (i : Nat) (d : D), ρ[i]? = some (some (.v d)) → ∃ v, σ[i]? = some (some v) ∧ Rp K Φ d v
  ow : ∀ (i : Nat) (ds : List D), ρ[i]? = some (some (.own ds)) → ∃ p vs, σ[i]? = some (some (.ref p)) ∧ H0 p = none ∧ Φ p = none ∧ H p = some (.lst vs) ∧ RpL K Φ ds vs
  ne : ∀ (i j : Nat) (ds es : List D) (p : Addr), ρ[i]? = some (some (.own ds)) → ρ[j]? = some (some (.own es)) → σ[i]? = some (some (.ref p)) → σ[j]? = some (some (.ref p)) → i = j
section
variable {K : PySem.W.Frag} {H0 H H' Φ Φ' Φ1 H1 Φ2 H2 : Hp} {σ : St} {ρ : Rho} {d : D} {v : V} {ds es : List D} {vs ws : List V}
theorem EnvD.gr (E : EnvD K H0 Φ H σ ρ) (g : Gr Φ H Φ' H') : EnvD K H0 Φ' H' σ ρ :=
  ⟨g.s, E.len, fun i d h => let ⟨v, e, r⟩ := E.sl i d h; ⟨v, e, r.same g.f⟩,
    fun i ds h => let ⟨p, vs, e, h0, hn, hp, r⟩ := E.ow i ds h; ⟨p, vs, e, h0, g.o p _ hp hn, g.h _ _ hp, r.same g.f⟩, E.ne⟩
theorem set_at {α : Type} {l : List α} {i j : Nat} {x y : α} (h : (l.set i x)[j]? = some y) : (j = i ∧ i < l.length ∧ y = x) ∨ (j ≠ i ∧ l[j]? = some y) := by
  by_cases c : i = j
  · subst c
    have hi : i < l.length := by have := lt_of_at h; rwa [List.length_set] at this
    rw [List.getElem?_set_self hi] at h
    cases h
    exact .inl ⟨rfl, hi, rfl⟩
  · rw [List.getElem?_set_ne c] at h
    exact .inr ⟨fun e => c e.symm, h⟩
theorem EnvD.set (E : EnvD K H0 Φ H σ ρ) (r : Rp K Φ d v) (i : Nat) : EnvD K H0 Φ H (σ.set i (some v)) (ρ.set i (some (.v d))) := by
  have nn : ∀ {j : Nat} {x : Option V}, j ≠ i → σ[j]? = some x → (σ.set i (some v))[j]? = some x := fun c h => by rw [List.getElem?_set_ne (Ne.symm c)]; exact h
  refine ⟨E.fz, by rw [List.length_set, List.length_set, E.len], fun j e h => ?_, fun j ds h => ?_, fun j k ds es p hj hk sj sk => ?_⟩
  · rcases set_at h with ⟨rfl, hi, e1⟩ | ⟨c, h⟩
    · cases e1
      exact ⟨v, by rw [List.getElem?_set_self (by rw [E.len]; exact hi)], r⟩
    · obtain ⟨u, hu, ru⟩ := E.sl j e h
      exact ⟨u, nn c hu, ru⟩
  · rcases set_at h with ⟨rfl, hi, e1⟩ | ⟨c, h⟩
    · cases e1
    · obtain ⟨p, vs, e, q⟩ := E.ow j ds h
      exact ⟨p, vs, nn c e, q⟩
  · rcases set_at hj with ⟨rfl, _, e1⟩ | ⟨cj, hj⟩
    · cases e1
    rcases set_at hk with ⟨rfl, _, e1⟩ | ⟨ck, hk⟩
    · cases e1
    rw [List.getElem?_set_ne (Ne.symm cj)] at sj
    rw [List.getElem?_set_ne (Ne.symm ck)] at sk
    exact E.ne j k ds es p hj hk sj sk
theorem EnvD.setOwn (E : EnvD K H0 Φ H σ ρ) {p : Addr} (r : RpL K Φ ds vs) (h0 : H0 p = none) (hn : Φ p = none) (hp : H p = some (.lst vs)) (hnew : ∀ (j : Nat) (es : List D), ρ[j]? = some (some (.own es)) → σ[j]? ≠ some (some (.ref p))) (i : Nat) : EnvD K H0 Φ H (σ.set i (some (.ref p))) (ρ.set i (some (.own ds))) := by
  have nn : ∀ {j : Nat} {x : Option V}, j ≠ i → σ[j]? = some x → (σ.set i (some (.ref p)))[j]? = some x := fun c h => by rw [List.getElem?_set_ne (Ne.symm c)]; exact h
  refine ⟨E.fz, by rw [List.length_set, List.length_set, E.len], fun j e h => ?_, fun j ds h => ?_, fun j k ds es q hj hk sj sk => ?_⟩
  · rcases set_at h with ⟨rfl, hi, e1⟩ | ⟨c, h⟩
    · cases e1
    · obtain ⟨u, hu, ru⟩ := E.sl j e h
      exact ⟨u, nn c hu, ru⟩
  · rcases set_at h with ⟨rfl, hi, e1⟩ | ⟨c, h⟩
    · cases e1
      exact ⟨p, vs, by rw [List.getElem?_set_self (by rw [E.len]; exact hi)], h0, hn, hp, r⟩
    · obtain ⟨p, vs, e, q⟩ := E.ow j ds h
      exact ⟨p, vs, nn c e, q⟩
  · rcases set_at hj with ⟨e1, hl, _⟩ | ⟨cj, hj'⟩
    · rcases set_at hk with ⟨e2, _, _⟩ | ⟨ck, hk'⟩
      · rw [e1, e2]
      · rw [e1, List.getElem?_set_self (by rw [E.len]; exact hl)] at sj
        cases sj
        rw [List.getElem?_set_ne (Ne.symm ck)] at sk
        exact absurd sk (hnew k _ hk')
    · rw [List.getElem?_set_ne (Ne.symm cj)] at sj
      rcases set_at hk with ⟨e2, hl, _⟩ | ⟨ck, hk'⟩
      · rw [e2, List.getElem?_set_self (by rw [E.len]; exact hl)] at sk
        cases sk
        exact absurd sj (hnew j _ hj')
      · rw [List.getElem?_set_ne (Ne.symm ck)] at sk
        exact E.ne j k _ _ q hj' hk' sj sk
theorem EnvD.put (E : EnvD K H0 Φ H σ ρ) {i : Nat} {p : Addr} (ho : ρ[i]? = some (some (.own ds))) (hs : σ[i]? = some (some (.ref p))) (r : RpL K Φ es ws) : EnvD K H0 Φ (upd H p (.lst ws)) σ (ρ.set i (some (.own es))) := by
  obtain ⟨p', vs, e, h0, hn, hp, _⟩ := E.ow i ds ho
  rw [hs] at e
  cases e
  have hi := lt_of_at ho
  refine ⟨fun b u e => ?_, by rw [List.length_set, E.len], fun j e h => ?_, fun j fs h => ?_, fun j k fs gs q hj hk sj sk => ?_⟩
  · rw [upd_ne (ne_of_none e hn)]
    exact E.fz b u e
  · rcases set_at h with ⟨rfl, _, e1⟩ | ⟨c, h⟩
    · cases e1
    · exact E.sl j e h
  · rcases set_at h with ⟨rfl, _, e1⟩ | ⟨c, h⟩
    · cases e1
      exact ⟨p, ws, hs, h0, hn, upd_same, r⟩
    · obtain ⟨q, us, e, q0, qn, qp, qr⟩ := E.ow j fs h
      refine ⟨q, us, e, q0, qn, ?_, qr⟩
      rw [upd_ne fun z => c (E.ne j i fs ds p h ho (by rw [e, z]) hs)]
      exact qp
  · have old : ∀ {j : Nat} {fs : List D}, (ρ.set i (some (.own es)))[j]? = some (some (.own fs)) → ∃ gs, ρ[j]? = some (some (.own gs)) := fun {j fs} h => by
      rcases set_at h with ⟨rfl, _, _⟩ | ⟨_, h⟩
      · exact ⟨ds, ho⟩
      · exact ⟨fs, h⟩
    obtain ⟨fs', hj⟩ := old hj
    obtain ⟨gs', hk⟩ := old hk
    exact E.ne j k fs' gs' q hj hk sj sk
def frz (i : Nat) (ρ : Rho) : Rho := match ρ[i]? with | some (some (.own ds)) => ρ.set i (some (.v (.lst ds))) | _ => ρ
theorem EnvD.frz (E : EnvD K H0 Φ H σ ρ) (g : Gr Φ0 H0 Φ H) (i : Nat) : ∃ Φ', Gr Φ0 H0 Φ' H ∧ EnvD K H0 Φ' H σ (frz i ρ) := by
  unfold L2.frz
  split
  · next ds ho =>
    obtain ⟨p, vs, e, h0, hn, hp, r⟩ := E.ow i ds ho
    have s1 := same_new hn (.lst vs)
    refine ⟨upd Φ p (.lst vs), g.freeze h0 hn hp, fun b u e => ?_, by rw [List.length_set, E.len], fun j e2 h => ?_, fun j fs h => ?_, fun j k fs gs q hj hk sj sk => ?_⟩
    · by_cases c : b = p
      · subst c; rw [upd_same] at e; cases e; exact hp
      · rw [upd_ne c] at e; exact E.fz b u e
    · rcases set_at h with ⟨rfl, _, e1⟩ | ⟨c, h⟩
      · cases e1
        exact ⟨_, e, (r.same s1).lst upd_same⟩
      · obtain ⟨u, hu, ru⟩ := E.sl j e2 h
        exact ⟨u, hu, ru.same s1⟩
    · rcases set_at h with ⟨rfl, _, e1⟩ | ⟨c, h⟩
      · cases e1
      · obtain ⟨q, us, e3, q0, qn, qp, qr⟩ := E.ow j fs h
        refine ⟨q, us, e3, q0, ?_, qp, qr.same s1⟩
        rw [upd_ne fun z => c (E.ne j i fs ds p h ho (by rw [e3, z]) e)]
        exact qn
    · rcases set_at hj with ⟨_, _, e1⟩ | ⟨_, hj⟩
      · cases e1
      rcases set_at hk with ⟨_, _, e1⟩ | ⟨_, hk⟩
      · cases e1
      exact E.ne j k fs gs q hj hk sj sk
  · exact ⟨Φ, g, E⟩
theorem EnvD.weak {ρ' : Rho} (E : EnvD K H0 Φ H σ ρ) (hl : ρ'.length = ρ.length) (hw : ∀ (i : Nat) x, ρ'[i]? = some (some x) → ρ[i]? = some (some x)) : EnvD K H0 Φ H σ ρ' :=
  ⟨E.fz, by rw [E.len, hl], fun i d h => E.sl i d (hw i _ h), fun i ds h => E.ow i ds (hw i _ h), fun i j ds es p hi hj => E.ne i j ds es p (hw i _ hi) (hw j _ hj)⟩
end
end L2
set_option Elab.async false
set_option linter.all false
set_option maxRecDepth 100000
set_option maxHeartbeats 4000000
namespace L2
open PySem PySem.Spec PyProof.Rows
def NF {α : Type} (x : α) (R : α → Prop) : Prop := ∃ y, x = y ∧ R y
theorem NF.get {α : Type} {x : α} {R : α → Prop} (h : NF x R) : R x := by
  obtain ⟨_, rfl, h⟩ := h
  exact h
abbrev TD := Rho → (D → Prop) → Prop
abbrev TDL := Rho → (List D → Prop) → Prop
abbrev TDB := Rho → (Bool → Prop) → Prop
def lE (K : PySem.W.Frag) (t : TD) : TE := fun σ H Q => ∃ H0 Φ ρ R, EnvD K H0 Φ H σ ρ ∧ t ρ R ∧ ∀ d Φ' H' v, R d → Gr Φ H Φ' H' → Rp K Φ' d v → Q v H'
def lQ (K : PySem.W.Frag) (t : TD) : TE := fun σ H Q => ∃ H0 Φ ρ R, EnvD K H0 Φ H σ ρ ∧ t ρ R ∧ ∀ d Φ' H' v, R d → Gr Φ H Φ' H' → RpQ K Φ' H' d v → Q v H'
def lF (K : PySem.W.Frag) (t : TDL) : TE := fun σ H Q => ∃ H0 Φ ρ R, EnvD K H0 Φ H σ ρ ∧ t ρ R ∧ ∀ ds Φ' H' p vs, R ds → Gr Φ H Φ' H' → H p = none → Φ' p = none → H' p = some (.lst vs) → RpL K Φ' ds vs → Q (.ref p) H'
def lA (K : PySem.W.Frag) (n : Nat) (t : TDL) : TA := fun σ H Q => ∃ H0 Φ ρ R, EnvD K H0 Φ H σ ρ ∧ t ρ R ∧ ∀ ds Φ' H' vs, R ds → Gr Φ H Φ' H' → RpL K Φ' ds vs → ds.length = n → Q vs H'
def lT (K : PySem.W.Frag) (t : TDB) : TT := fun σ H Q => ∃ H0 Φ ρ R, EnvD K H0 Φ H σ ρ ∧ t ρ R ∧ ∀ b Φ' H', R b → Gr Φ H Φ' H' → Q b H'
structure PD (K : PySem.W.Frag) (X : Cx) (e : Expr) (t : TD) : Prop where pe : X.K = K → PE X e (lE K t)
structure PQ (K : PySem.W.Frag) (X : Cx) (e : Expr) (t : TD) : Prop where pe : X.K = K → PE X e (lQ K t)
structure PF (K : PySem.W.Frag) (X : Cx) (e : Expr) (t : TDL) : Prop where pe : X.K = K → PE X e (lF K t)
structure PAD (K : PySem.W.Frag) (X : Cx) (es : List Expr) (t : TDL) : Prop where pa : X.K = K → PA X es (lA K es.length t)
structure PTD (K : PySem.W.Frag) (X : Cx) (e : Expr) (t : TDB) : Prop where pt : X.K = K → PT X e (lT K t)
structure PWD (K : PySem.W.Frag) (X : Cx) (e : Expr) (t : TDB) : Prop where pw : X.K = K → PW X e (lT K t)
theorem PE.imp {X : Cx} {e : Expr} {t t' : TE} (h : PE X e t) (k : ∀ σ H Q, t' σ H Q → t σ H Q) : PE X e t' := fun pins s σ H Q I hw => h pins s σ H Q I (k σ H Q hw)
theorem PT.imp {X : Cx} {e : Expr} {t t' : TT} (h : PT X e t) (k : ∀ σ H Q, t' σ H Q → t σ H Q) : PT X e t' := fun pins s σ H Q I hw => h pins s σ H Q I (k σ H Q hw)
theorem PW.imp {X : Cx} {e : Expr} {t t' : TT} (h : PW X e t) (k : ∀ σ H Q, t' σ H Q → t σ H Q) : PW X e t' := fun wh pins s σ H Q I hw => h wh pins s σ H Q I (k σ H Q hw)
theorem PA.imp {X : Cx} {e : List Expr} {t t' : TA} (h : PA X e t) (k : ∀ σ H Q, t' σ H Q → t σ H Q) : PA X e t' := fun pos pins s σ H Q I hw => h pos pins s σ H Q I (k σ H Q hw)
theorem PS.imp {X : Cx} {e : Stmt} {t t' : TS} (h : PS X e t) (k : ∀ D σ H, t' D σ H → t D σ H) : PS X e t' := fun pins s σ H D I hw => h pins s σ H D I (k D σ H hw)
theorem PSs.imp {X : Cx} {e : List Stmt} {t t' : TS} (h : PSs X e t) (k : ∀ D σ H, t' D σ H → t D σ H) : PSs X e t' := fun pins s σ H D I hw => h pins s σ H D I (k D σ H hw)
section
variable {K : PySem.W.Frag} {X : Cx} {e a b c : Expr} {es : List Expr} {pos : Pos} {t ta tb : TD} {tf : TDL} {tl : TDL} {tt tu : TDB}
theorem PD.q (h : PD K X e t) : PQ K X e t := ⟨fun hK => (h.pe hK).imp fun σ H Q ⟨H0, Φ, ρ, R, E, t, k⟩ => ⟨H0, Φ, ρ, R, E, t, fun d Φ' H' v r g rr => k d Φ' H' v r g (.inl rr)⟩⟩
def dOfF (t : TDL) : TD := fun ρ R => t ρ fun ds => R (.lst ds)
theorem PF.d (h : PF K X e tf) : PD K X e (dOfF tf) := ⟨fun hK => (h.pe hK).imp fun σ H Q ⟨H0, Φ, ρ, R, E, t, k⟩ => ⟨H0, Φ, ρ, _, E, t, fun ds Φ' H' p vs r g h0 hn hp rr =>
  k (.lst ds) _ H' _ r (g.freeze h0 hn hp) ((rr.same (same_new hn _)).lst upd_same)⟩⟩
def dVar (i : Nat) : TD := fun ρ R => match ρ[i]? with | some (some (.v d)) => R d | _ => False
def dVarQ (i : Nat) : TD := fun ρ R => match ρ[i]? with | some (some (.v d)) => R d | some (some (.own ds)) => R (.lst ds) | _ => False
theorem dv (i : Nat) {x : Str} (hN : X.N[i]? = some x := by rfl) (hv : Vis X.env.scope x := by first | exact Or.inl rfl | exact Or.inr (Or.inl rfl) | exact Or.inr (Or.inr rfl)) (hd : (x == ("__debug__" : Str)) = false := by decide)
    (hcd : (x == ("__classdict__" : Str)) = false := by decide) : PD K X (.Name x pos) (dVar i) := ⟨fun _ => (pv i hN hv hd hcd).imp fun σ H Q ⟨H0, Φ, ρ, R, E, t, k⟩ => by
  unfold dVar at t
  split at t
  · next d h =>
    obtain ⟨v, e, r⟩ := E.sl i d h
    exact ⟨v, e, k d Φ H v t (.refl E.fz) r⟩
  · exact t.elim⟩
theorem dvq (i : Nat) {x : Str} (hN : X.N[i]? = some x := by rfl) (hv : Vis X.env.scope x := by first | exact Or.inl rfl | exact Or.inr (Or.inl rfl) | exact Or.inr (Or.inr rfl)) (hd : (x == ("__debug__" : Str)) = false := by decide)
    (hcd : (x == ("__classdict__" : Str)) = false := by decide) : PQ K X (.Name x pos) (dVarQ i) := ⟨fun _ => (pv i hN hv hd hcd).imp fun σ H Q ⟨H0, Φ, ρ, R, E, t, k⟩ => by
  unfold dVarQ at t
  split at t
  · next d h =>
    obtain ⟨v, e, r⟩ := E.sl i d h
    exact ⟨v, e, k d Φ H v t (.refl E.fz) (.inl r)⟩
  · next ds h =>
    obtain ⟨p, vs, e, _, _, hp, r⟩ := E.ow i ds h
    exact ⟨_, e, k _ Φ H _ t (.refl E.fz) (.inr ⟨p, vs, ds, rfl, rfl, hp, r⟩)⟩
  · exact t.elim⟩
def dC (d : D) : TD := fun _ R => R d
theorem dc_of {v : V} {d : D} (h : PE X e (tC v)) (r : ∀ Φ, Rp K Φ d v) : PD K X e (dC d) := ⟨fun _ => h.imp fun σ H Q ⟨H0, Φ, ρ, R, E, t, k⟩ => k d Φ H v t (.refl E.fz) (r Φ)⟩
theorem dc_int {i j} : PD K X (.Constant (.int i) j pos) (dC (.int i)) := dc_of pe_int fun _ => .int i
theorem dc_bl {i j} : PD K X (.Constant (.bool i) j pos) (dC (.bl i)) := dc_of pe_bl fun _ => .bl i
theorem dc_str {i j} : PD K X (.Constant (.str i) j pos) (dC (.str i)) := dc_of pe_str fun _ => .str i
theorem dc_non {j} : PD K X (.Constant .none j pos) (dC .non) := dc_of pe_non fun _ => .non
abbrev RD2 := D → D → (D → Prop) → Prop
def lR2 (K : PySem.W.Frag) (r : RD2) : R2 := fun x y H Q => ∃ Φ dx dy R, Same Φ H ∧ RpQ K Φ H dx x ∧ RpQ K Φ H dy y ∧ r dx dy R ∧ ∀ d Φ' H' v, R d → Gr Φ H Φ' H' → Rp K Φ' d v → Q v H'
structure OpD (K : PySem.W.Frag) (X : Cx) (f : Value → Value → Sem Value) (r : RD2) : Prop where o : X.K = K → OpR X f (lR2 K r)
def dOp (r : RD2) (ta tb : TD) : TD := fun ρ R => ta ρ fun x => tb ρ fun y => r x y R
theorem op_lift {r : RD2} {σ : St} {H : Hp} {Q : VK} (h : lE K (dOp r ta tb) σ H Q) : tOp (lR2 K r) (lQ K ta) (lQ K tb) σ H Q := by
  obtain ⟨H0, Φ, ρ, R, E, t, k⟩ := h
  exact ⟨H0, Φ, ρ, _, E, t, fun dx Φ1 H1 x t1 g1 rx => ⟨H0, Φ1, ρ, _, E.gr g1, t1, fun dy Φ2 H2 y t2 g2 ry => ⟨Φ2, dx, dy, R, g2.s, rx.gr g2, ry, t2, fun d Φ' H' v r g rr => k d Φ' H' v r ((g1.trans g2).trans g) rr⟩⟩⟩
theorem d_op {op : Operator} {r : RD2} (ho : OpD K X (binaryOp op) r) (ha : PQ K X a ta) (hb : PQ K X b tb) : PD K X (.BinOp a op b pos) (dOp r ta tb) :=
  ⟨fun hK => (pe_op (ho.o hK) (ha.pe hK) (hb.pe hK)).imp fun _ _ _ => op_lift⟩
theorem d_cmp {op : CmpOp} {r : RD2} (ho : OpD K X (compareOp op) r) (ha : PQ K X a ta) (hb : PQ K X b tb) (hm : behindInMarks op b = false) : PD K X (.Compare a [op] [b] pos) (dOp r ta tb) :=
  ⟨fun hK => (pe_cmpR (ho.o hK) (ha.pe hK) (hb.pe hK) hm).imp fun _ _ _ => op_lift⟩
def zTest (t : TD) : TDB := fun ρ R => t ρ fun d => match d with | .bl b => R b | _ => False
theorem test_lift {r : RD2} {σ : St} {H : Hp} {Q : Bool → Hp → Prop} (h : lT K (zTest (dOp r ta tb)) σ H Q) : tTest (tOp (lR2 K r) (lQ K ta) (lQ K tb)) σ H Q := by
  obtain ⟨H0, Φ, ρ, R, E, t, k⟩ := h
  refine op_lift ⟨H0, Φ, ρ, _, E, t, fun d Φ' H' v r g rr => ?_⟩
  cases d with
  | bl b => cases rr; exact ⟨b, rfl, k b Φ' H' r g⟩
  | _ => exact r.elim
theorem t_cmp {op : CmpOp} {r : RD2} (ho : OpD K X (compareOp op) r) (ha : PQ K X a ta) (hb : PQ K X b tb) (hm : behindInMarks op b = false) : PTD K X (.Compare a [op] [b] pos) (zTest (dOp r ta tb)) :=
  ⟨fun hK => (pt_cmpR (ho.o hK) (ha.pe hK) (hb.pe hK) hm).imp fun _ _ _ => test_lift⟩
abbrev RD1 := D → (D → Prop) → Prop
def dUn (r : RD1) (ta : TD) : TD := fun ρ R => ta ρ fun x => r x R
def zNeg : RD1 := fun x R => match x with | .int i => R (.int (-i)) | _ => False
theorem d_neg (ha : PQ K X a ta) : PD K X (.UnaryOp .USub a pos) (dUn zNeg ta) := ⟨fun hK => (pe_un un_neg (ha.pe hK)).imp fun σ H Q ⟨H0, Φ, ρ, R, E, t, k⟩ => ⟨H0, Φ, ρ, _, E, t, fun dx Φ1 H1 x t1 g1 rx => by
  cases dx with
  | int i => exact ⟨i, rx.int, k _ Φ1 H1 _ t1 g1 (.int _)⟩
  | _ => exact t1.elim⟩⟩
def zTru : D → (Bool → Prop) → Prop := fun d R => match d with
  | .int i => R (i != 0) | .bl b => R b | .non => R false | .str x => x.length ≤ sizeLine ∧ R ((x.length : Int) != 0) | .lst ds => R (!ds.isEmpty) | .tup ds => R (!ds.isEmpty) | .fzl ds => R (!ds.isEmpty)
theorem isEmpty_rp {Φ : Hp} {ds : List D} {vs : List V} (h : RpL K Φ ds vs) : (!ds.isEmpty) = !vs.isEmpty := by
  have := h.1
  cases ds <;> cases vs <;> simp_all
theorem tru_of {Φ H : Hp} {d : D} {v : V} {R : Bool → Prop} (s : Same Φ H) (h : RpQ K Φ H d v) (t : zTru d R) : ∃ k, TruV K v H k ∧ R k := by
  cases d with
  | int i => rw [h.int]; exact ⟨_, rfl, t⟩
  | bl i => rw [h.bl]; exact ⟨_, rfl, t⟩
  | non => rw [h.non]; exact ⟨_, rfl, t⟩
  | str i => rw [h.str]; exact ⟨_, ⟨t.1, rfl⟩, t.2⟩
  | lst ds => obtain ⟨a, vs, rfl, h1, h2⟩ := h.lst s; exact ⟨_, .inl ⟨vs, .of h1, rfl⟩, by rw [← isEmpty_rp h2]; exact t⟩
  | tup ds => obtain ⟨a, vs, rfl, h1, _, h2⟩ := h.tup s; exact ⟨_, .inr (.inl ⟨vs, h1, rfl⟩), by rw [← isEmpty_rp h2]; exact t⟩
  | fzl ds => obtain ⟨a, vs, rfl, h1, h2⟩ := h.fzl s; exact ⟨_, .inl ⟨vs, h1, rfl⟩, by rw [← isEmpty_rp h2]; exact t⟩
def dTru (t : TD) : TDB := fun ρ R => t ρ fun d => zTru d R
theorem t_tru (ha : PQ K X a ta) (he : ∀ whole, isTrue a X.env whole = (do let v ← whole; standAt a.pos; holding [v] (truthy v))) : PTD K X a (dTru ta) :=
  ⟨fun hK => (pt_truth (ha.pe hK) he).imp fun σ H Q ⟨H0, Φ, ρ, R, E, t, k⟩ => ⟨H0, Φ, ρ, _, E, t, fun d Φ1 H1 v t1 g1 rv => by
    obtain ⟨b, h1, h2⟩ := tru_of g1.s rv t1
    rw [hK]
    exact ⟨b, h1, k b Φ1 H1 h2 g1⟩⟩⟩
def zAnd (t u : TDB) : TDB := fun ρ R => t ρ fun c => (c = true → u ρ R) ∧ (c = false → R false)
def zOr (t u : TDB) : TDB := fun ρ R => t ρ fun c => (c = true → R true) ∧ (c = false → u ρ R)
def zNotT (t : TDB) : TDB := fun ρ R => t ρ fun c => R (!c)
theorem PWD.td (h : PWD K X e tt) : PTD K X e tt := ⟨fun hK => (h.pw hK).pt⟩
theorem w_and1 (ha : PTD K X a tt) : PWD K X (.BoolOp .And [a] pos) tt := ⟨fun hK => pw_and1 (ha.pt hK)⟩
theorem w_or1 (ha : PTD K X a tt) : PWD K X (.BoolOp .Or [a] pos) tt := ⟨fun hK => pw_or1 (ha.pt hK)⟩
theorem w_and (ha : PTD K X a tt) (hb : PWD K X (.BoolOp .And (b :: es) pos) tu) : PWD K X (.BoolOp .And (a :: b :: es) pos) (zAnd tt tu) :=
  ⟨fun hK => (pw_and (ha.pt hK) (hb.pw hK)).imp fun σ H Q ⟨H0, Φ, ρ, R, E, t, k⟩ => ⟨H0, Φ, ρ, _, E, t, fun c Φ1 H1 r g => by
    cases c with
    | true => rw [if_pos rfl]; exact ⟨H0, Φ1, ρ, R, E.gr g, r.1 rfl, fun b Φ' H' rb g' => k b Φ' H' rb (g.trans g')⟩
    | false => rw [if_neg (by decide)]; exact k _ Φ1 H1 (r.2 rfl) g⟩⟩
theorem w_or (ha : PTD K X a tt) (hb : PWD K X (.BoolOp .Or (b :: es) pos) tu) : PWD K X (.BoolOp .Or (a :: b :: es) pos) (zOr tt tu) :=
  ⟨fun hK => (pw_or (ha.pt hK) (hb.pw hK)).imp fun σ H Q ⟨H0, Φ, ρ, R, E, t, k⟩ => ⟨H0, Φ, ρ, _, E, t, fun c Φ1 H1 r g => by
    cases c with
    | true => rw [if_pos rfl]; exact k _ Φ1 H1 (r.1 rfl) g
    | false => rw [if_neg (by decide)]; exact ⟨H0, Φ1, ρ, R, E.gr g, r.2 rfl, fun b Φ' H' rb g' => k b Φ' H' rb (g.trans g')⟩⟩⟩
theorem t_not (ha : PTD K X a tt) : PTD K X (.UnaryOp .Not a pos) (zNotT tt) :=
  ⟨fun hK => (pt_not (ha.pt hK)).imp fun σ H Q ⟨H0, Φ, ρ, R, E, t, k⟩ => ⟨H0, Φ, ρ, _, E, t, fun c Φ1 H1 r g => k _ Φ1 H1 r g⟩⟩
def dAnd (t u : TD) : TD := fun ρ R => t ρ fun c => match c with | .bl c => (c = true → u ρ R) ∧ (c = false → R (.bl false)) | _ => False
def dOr (t u : TD) : TD := fun ρ R => t ρ fun c => match c with | .bl c => (c = true → R (.bl true)) ∧ (c = false → u ρ R) | _ => False
theorem d_one {op} (h : PD K X a ta) : PD K X (.BoolOp op [a] pos) ta := ⟨fun hK => pe_one (h.pe hK)⟩
theorem d_and (ha : PD K X a ta) (hb : PD K X (.BoolOp .And (b :: es) pos) tb) : PD K X (.BoolOp .And (a :: b :: es) pos) (dAnd ta tb) :=
  ⟨fun hK => (pe_and (ha.pe hK) (hb.pe hK)).imp fun σ H Q ⟨H0, Φ, ρ, R, E, t, k⟩ => ⟨H0, Φ, ρ, _, E, t, fun c Φ1 H1 v r g rv => by
    cases c with
    | bl c =>
      cases rv
      refine ⟨c, rfl, ?_⟩
      cases c with
      | true => rw [if_pos rfl]; exact ⟨H0, Φ1, ρ, R, E.gr g, r.1 rfl, fun b Φ' H' v rb g' rr => k b Φ' H' v rb (g.trans g') rr⟩
      | false => rw [if_neg (by decide)]; exact k _ Φ1 H1 _ (r.2 rfl) g (.bl _)
    | _ => exact r.elim⟩⟩
theorem d_or (ha : PD K X a ta) (hb : PD K X (.BoolOp .Or (b :: es) pos) tb) : PD K X (.BoolOp .Or (a :: b :: es) pos) (dOr ta tb) :=
  ⟨fun hK => (pe_or (ha.pe hK) (hb.pe hK)).imp fun σ H Q ⟨H0, Φ, ρ, R, E, t, k⟩ => ⟨H0, Φ, ρ, _, E, t, fun c Φ1 H1 v r g rv => by
    cases c with
    | bl c =>
      cases rv
      refine ⟨c, rfl, ?_⟩
      cases c with
      | true => rw [if_pos rfl]; exact k _ Φ1 H1 _ (r.1 rfl) g (.bl _)
      | false => rw [if_neg (by decide)]; exact ⟨H0, Φ1, ρ, R, E.gr g, r.2 rfl, fun b Φ' H' v rb g' rr => k b Φ' H' v rb (g.trans g') rr⟩
    | _ => exact r.elim⟩⟩
def zNil : TDL := fun _ R => R []
def zCons (t : TD) (u : TDL) : TDL := fun ρ R => t ρ fun d => u ρ fun ds => R (d :: ds)
theorem a_nil : PAD K X [] zNil := ⟨fun _ => pa_nil.imp fun σ H Q ⟨H0, Φ, ρ, R, E, t, k⟩ => k [] Φ H [] t (.refl E.fz) .nil rfl⟩
theorem a_cons (ha : PD K X e t) (hr : PAD K X es tl) (hs : starEach (e :: es) X.env = (false, eval e X.env) :: starEach es X.env) : PAD K X (e :: es) (zCons t tl) :=
  ⟨fun hK => (pa_cons (ha.pe hK) (hr.pa hK) hs).imp fun σ H Q ⟨H0, Φ, ρ, R, E, t, k⟩ => ⟨H0, Φ, ρ, _, E, t, fun d Φ1 H1 v r g rv => ⟨H0, Φ1, ρ, _, E.gr g, r, fun ds Φ2 H2 vs r2 g2 rl hl =>
    k _ Φ2 H2 _ r2 (g.trans g2) (.cons (rv.same g2.f) rl) (by rw [List.length_cons, List.length_cons, hl])⟩⟩⟩
def dTup (t : TDL) : TD := fun ρ R => t ρ fun ds => R (.tup ds)
def fLst (t : TDL) : TDL := t
theorem few_le {n : Nat} (h : Nat.ble n 1000 = true) : n ≤ sizeLine := Nat.le_trans (Nat.le_of_ble_eq_true h) (by decide)
theorem d_tup {x1} (h : PAD K X es tl) (hes : Nat.ble es.length 1000 = true := by rfl) : PD K X (.Tuple es x1 pos) (dTup tl) :=
  ⟨fun hK => (pe_tup (h.pa hK)).imp fun σ H Q ⟨H0, Φ, ρ, R, E, t, k⟩ => ⟨H0, Φ, ρ, _, E, t, fun ds Φ1 H1 vs r g rl hl => ⟨by rw [rl.1, hl]; exact few_le hes, fun p hp =>
    k _ _ _ _ r (g.trans (.new g.s hp _)) ((rl.same (same_new (g.s.free hp) _)).tup (.of upd_same))⟩⟩⟩
theorem f_lst (h : PAD K X es tl) (hes : Nat.ble es.length 1000 = true := by rfl) : PF K X (.List es pos) (fLst tl) :=
  ⟨fun hK => (pe_lst (h.pa hK)).imp fun σ H Q ⟨H0, Φ, ρ, R, E, t, k⟩ => ⟨H0, Φ, ρ, _, E, t, fun ds Φ1 H1 vs r g rl hl => ⟨by rw [rl.1, hl]; exact few_le hes, fun p hp =>
    k _ _ _ p vs r (g.trans (.fresh g.s hp _)) (g.h.free hp) (g.s.free hp) upd_same rl⟩⟩⟩
end
end L2
set_option Elab.async false
set_option linter.all false
set_option maxRecDepth 100000
set_option maxHeartbeats 4000000
namespace L2
open PySem PySem.Spec PyProof.Rows
section
variable {K : PySem.W.Frag} {X : Cx} {e a b c : Expr} {es : List Expr} {pos : Pos} {t ta tb : TD} {tf : TDL} {tl : TDL} {tt tu : TDB}
def zAdd : RD2 := fun x y R => match x, y with
  | .int i, .int j => R (.int (i + j))
  | .str i, .str j => i.length + j.length ≤ sizeLine ∧ R (.str (i ++ j))
  | .lst xs, .lst ys => xs.length + ys.length ≤ sizeLine ∧ NF (xs ++ ys) fun zs => R (.lst zs)
  | .tup xs, .tup ys => xs.length + ys.length ≤ sizeLine ∧ NF (xs ++ ys) fun zs => R (.tup zs)
  | _, _ => False
theorem z_add : OpD K X (binaryOp .Add) zAdd := ⟨fun hK pins s σ H x y v u Q I rx ry ⟨Φ, dx, dy, R, sm, hx, hy, h, k⟩ => by
  cases dx with
  | int i =>
    cases dy with
    | int j => cases hx.int; cases hy.int; exact op_add pins s σ H _ _ v u Q I rx ry ⟨i, j, rfl, rfl, k _ Φ H _ h (.refl sm) (.int _)⟩
    | _ => exact h.elim
  | str i =>
    cases dy with
    | str j => cases hx.str; cases hy.str; exact op_add_str pins s σ H _ _ v u Q I rx ry ⟨i, j, rfl, rfl, h.1, k _ Φ H _ h.2 (.refl sm) (.str _)⟩
    | _ => exact h.elim
  | lst xs =>
    cases dy with
    | lst ys =>
      obtain ⟨a, vs, rfl, h1, h2⟩ := hx.lst sm
      obtain ⟨b, ws, rfl, h3, h4⟩ := hy.lst sm
      exact op_cat pins s σ H _ _ v u Q I rx ry ⟨a, b, vs, ws, rfl, rfl, h1, h3, by rw [h2.1, h4.1]; exact h.1, fun p hp => k _ _ _ _ h.2.get (.new sm hp _) (((h2.append h4).same (same_new (sm.free hp) _)).lst upd_same)⟩
    | _ => exact h.elim
  | tup xs =>
    cases dy with
    | tup ys =>
      obtain ⟨a, vs, rfl, h1, h1', h2⟩ := hx.tup sm
      obtain ⟨b, ws, rfl, h3, h3', h4⟩ := hy.tup sm
      exact (hK ▸ op_catG : OpR X (binaryOp .Add) (rCatG K)) pins s σ H _ _ v u Q I rx ry ⟨a, b, vs, ws, rfl, rfl, h1, h3, by rw [h2.1, h4.1]; exact h.1, fun p H' s' q => by
        obtain ⟨Φ', g, q'⟩ := Gr.adopt sm s' q
        exact k _ Φ' H' _ h.2.get g (((h2.append h4).same g.f).tup q')⟩
    | _ => exact h.elim
  | _ => exact h.elim⟩
def zI (C : Int → Int → Prop) (g : Int → Int → D) : RD2 := fun x y R => match x, y with | .int i, .int j => C i j ∧ R (g i j) | _, _ => False
def zI0 (g : Int → Int → D) : RD2 := fun x y R => match x, y with | .int i, .int j => R (g i j) | _, _ => False
theorem zi_of {f : Value → Value → Sem Value} {C : Int → Int → Prop} {g : Int → Int → Int} (h : OpR X f (rI C fun i j => .int (g i j))) : OpD K X f (zI C fun i j => .int (g i j)) :=
  ⟨fun hK pins s σ H x y v u Q I rx ry ⟨Φ, dx, dy, R, sm, hx, hy, q, k⟩ => by
    cases dx with
    | int i =>
      cases dy with
      | int j => cases hx.int; cases hy.int; exact h pins s σ H _ _ v u Q I rx ry ⟨i, j, rfl, rfl, q.1, k _ Φ H _ q.2 (.refl sm) (.int _)⟩
      | _ => exact q.elim
    | _ => exact q.elim⟩
theorem zi0_of {f : Value → Value → Sem Value} {g : Int → Int → Int} (h : OpR X f (rI0 fun i j => .int (g i j))) : OpD K X f (zI0 fun i j => .int (g i j)) :=
  ⟨fun hK pins s σ H x y v u Q I rx ry ⟨Φ, dx, dy, R, sm, hx, hy, q, k⟩ => by
    cases dx with
    | int i =>
      cases dy with
      | int j => cases hx.int; cases hy.int; exact h pins s σ H _ _ v u Q I rx ry ⟨i, j, rfl, rfl, k _ Φ H _ q (.refl sm) (.int _)⟩
      | _ => exact q.elim
    | _ => exact q.elim⟩
theorem zb0_of {f : Value → Value → Sem Value} {g : Int → Int → Bool} (h : OpR X f (rI0 fun i j => .bl (g i j))) : OpD K X f (zI0 fun i j => .bl (g i j)) :=
  ⟨fun hK pins s σ H x y v u Q I rx ry ⟨Φ, dx, dy, R, sm, hx, hy, q, k⟩ => by
    cases dx with
    | int i =>
      cases dy with
      | int j => cases hx.int; cases hy.int; exact h pins s σ H _ _ v u Q I rx ry ⟨i, j, rfl, rfl, k _ Φ H _ q (.refl sm) (.bl _)⟩
      | _ => exact q.elim
    | _ => exact q.elim⟩
theorem z_sub : OpD K X (binaryOp .Sub) (zI0 fun i j => .int (i - j)) := zi0_of op_sub
theorem z_fdiv : OpD K X (binaryOp .FloorDiv) (zI CDivB fun i j => .int (i / j)) := zi_of op_fdivB
theorem z_mod : OpD K X (binaryOp .Mod) (zI (fun _ j => 0 < j) fun i j => .int (i % j)) := zi_of op_mod
theorem z_pow : OpD K X (binaryOp .Pow) (zI CPow fun i j => .int (i ^ j.toNat)) := zi_of op_pow
theorem z_lt : OpD K X (compareOp .Lt) (zI0 fun i j => .bl (decide (i < j))) := zb0_of op_lt
theorem z_le : OpD K X (compareOp .LtE) (zI0 fun i j => .bl (decide (i ≤ j))) := zb0_of op_le
theorem z_gt : OpD K X (compareOp .Gt) (zI0 fun i j => .bl (decide (j < i))) := zb0_of op_gt
theorem z_ge : OpD K X (compareOp .GtE) (zI0 fun i j => .bl (decide (j ≤ i))) := zb0_of op_ge
def zMul : RD2 := fun x y R => match x, y with
  | .int i, .int j => IntMulOk i j ∧ R (.int (i * j))
  | .lst xs, .int k => (-(2 ^ 63) ≤ k ∧ k < 2 ^ 63 ∧ xs.length * k.toNat ≤ sizeLine) ∧ NF (List.replicate k.toNat xs).flatten fun zs => R (.lst zs)
  | .tup xs, .int k => (xs ≠ [] ∧ 0 ≤ k ∧ k ≤ 1000 ∧ k.toNat * xs.length ≤ 1000) ∧ NF (List.replicate k.toNat xs).flatten fun zs => R (.tup zs)
  | _, _ => False
theorem z_mul : OpD K X (binaryOp .Mult) zMul := ⟨fun hK pins s σ H x y v u Q I rx ry ⟨Φ, dx, dy, R, sm, hx, hy, h, k⟩ => by
  cases dx with
  | int i =>
    cases dy with
    | int j => cases hx.int; cases hy.int; exact op_mulB pins s σ H _ _ v u Q I rx ry ⟨i, j, rfl, rfl, h.1, k _ Φ H _ h.2 (.refl sm) (.int _)⟩
    | _ => exact h.elim
  | lst xs =>
    cases dy with
    | int j =>
      obtain ⟨a, vs, rfl, h1, h2⟩ := hx.lst sm
      cases hy.int
      exact op_rep pins s σ H _ _ v u Q I rx ry ⟨a, j, vs, rfl, rfl, h1, h.1.1, h.1.2.1, by rw [h2.1]; exact h.1.2.2, fun p hp => k _ _ _ _ h.2.get (.new sm hp _) (((h2.rep _).same (same_new (sm.free hp) _)).lst upd_same)⟩
    | _ => exact h.elim
  | tup xs =>
    cases dy with
    | int j =>
      obtain ⟨a, vs, rfl, h1, h1', h2⟩ := hx.tup sm
      cases hy.int
      have hne : vs ≠ [] := fun e => h.1.1 (List.length_eq_zero_iff.mp (by rw [← h2.1, e]; rfl))
      exact (hK ▸ op_repT : OpR X (binaryOp .Mult) (rRepT K)) pins s σ H _ _ v u Q I rx ry ⟨a, j, vs, rfl, rfl, h1, hne, h.1.2.1, h.1.2.2.1, by rw [h2.1]; exact h.1.2.2.2, fun p H' s' q => by
        obtain ⟨Φ', g, q'⟩ := Gr.adopt sm s' q
        exact k _ Φ' H' _ h.2.get g (((h2.rep _).same g.f).tup q')⟩
    | _ => exact h.elim
  | _ => exact h.elim⟩
end
end L2
set_option Elab.async false
set_option linter.all false
set_option maxRecDepth 100000
set_option maxHeartbeats 4000000
namespace L2
open PySem PySem.Spec PyProof.Rows
def cmL (f : D → D → Option Bool) : List D → List D → Option Bool
  | [], [] => some true
  | x :: xs, y :: ys => (f x y).bind fun b => (cmL f xs ys).map (b && ·)
  | _, _ => some false
def cmB : Nat → D → D → Option Bool
  | _, .int i, .int j => some (i == j)
  | _, .bl i, .bl j => some (i == j)
  | _, .str i, .str j => some (i == j)
  | _, .non, .non => some true
  | n + 1, .tup xs, .tup ys => cmL (cmB n) xs ys
  | n + 1, .lst xs, .lst ys => if xs.length = ys.length then cmL (cmB n) xs ys else some false
  | _, _, _ => none
theorem cmL_all {f : D → D → Option Bool} : ∀ {xs ys : List D} {b : Bool}, cmL f xs ys = some b → ∃ g : Nat → Bool, (∀ (j : Nat) (x y : D), xs[j]? = some x → ys[j]? = some y → f x y = some (g j)) ∧ b = ((List.range (min xs.length ys.length)).all g && xs.length == ys.length)
  | [], [], b, h => by cases h; exact ⟨fun _ => true, fun j x y hx => by simp at hx, by simp⟩
  | [], _ :: _, b, h => by cases h; exact ⟨fun _ => true, fun j x y hx => by simp at hx, by simp⟩
  | _ :: _, [], b, h => by cases h; exact ⟨fun _ => true, fun j x y _ hy => by simp at hy, by simp⟩
  | x :: xs, y :: ys, b, h => by
    unfold cmL at h
    cases e : f x y with
    | none => rw [e] at h; cases h
    | some c =>
      cases e2 : cmL f xs ys with
      | none => rw [e, e2] at h; cases h
      | some c2 =>
        rw [e, e2] at h
        cases h
        obtain ⟨g, h1, h2⟩ := cmL_all e2
        refine ⟨fun j => match j with | 0 => c | j + 1 => g j, fun j u v hu hv => ?_, ?_⟩
        · cases j with
          | zero => cases hu; cases hv; exact e
          | succ j => exact h1 j u v hu hv
        · have em : min (x :: xs).length (y :: ys).length = min xs.length ys.length + 1 := by simp only [List.length_cons]; omega
          have el : ((x :: xs).length == (y :: ys).length) = (xs.length == ys.length) := by simp
          rw [em, el, List.range_succ_eq_map, List.all_cons, List.all_map, h2, Bool.and_assoc]
          rfl
section
variable {K : PySem.W.Frag} {X : Cx} {pins : List (Addr × Obj)} {σ : St} {Φ H : Hp} {s : Shared}
theorem all_g {n : Nat} {g : Nat → Bool} (h : ∀ j, j < n → g j = true) : (List.range n).all g = true := by
  rw [List.all_eq_true]
  intro j hj
  exact h j (List.mem_range.mp hj)
theorem get_of {α : Type} {xs : List α} {j : Nat} (h : j < xs.length) : xs[j]? = some xs[j] := by simp [h]
theorem cm_same (hK : X.K = K) (I : Inv X pins σ H s) (sm : Same Φ H) : ∀ (n : Nat) {d e : D} {b : Bool} {v : V}, cmB n d e = some b → Rp K Φ d v → Rp K Φ e v → b = true := by
  intro n
  induction n with
  | zero =>
    intro d e b v h r1 r2
    cases r1 with
    | int i => cases r2; have h' : some (i == i) = some b := h; cases h'; simp
    | bl i => cases r2; have h' : some (i == i) = some b := h; cases h'; simp
    | str i => cases r2; have h' : some (i == i) = some b := h; cases h'; simp
    | non => cases r2; cases h; rfl
    | tup _ _ _ => cases r2 <;> cases h
    | lst _ _ _ => cases r2 <;> cases h
    | fzl _ _ _ => cases r2 <;> cases h
  | succ n ih =>
    intro d e b v h r1 r2
    cases r1 with
    | int i => cases r2; have h' : some (i == i) = some b := h; cases h'; simp
    | bl i => cases r2; have h' : some (i == i) = some b := h; cases h'; simp
    | str i => cases r2; have h' : some (i == i) = some b := h; cases h'; simp
    | non => cases r2; cases h; rfl
    | @tup a vs xs h1 h2 h3 => cases r2 with
      | @tup _ ws ys k1 k2 k3 =>
        have hvw : vs = ws := I.tuple_inj (hK ▸ sm.sqt h1) (hK ▸ sm.sqt k1)
        subst hvw
        obtain ⟨g, hg, hb⟩ := cmL_all (show cmL (cmB n) xs ys = some b from h)
        rw [hb, all_g fun j hj => ?_]
        · simp; omega
        · have j0 : j < vs.length := by omega
          have j1 : j < xs.length := by omega
          have j2 : j < ys.length := by omega
          exact ih (hg j _ _ (get_of j1) (get_of j2)) (h3 j _ _ (get_of j0) (get_of j1)) (k3 j _ _ (get_of j0) (get_of j2))
      | _ => cases h
    | @lst a vs xs h1 h2 h3 => cases r2 with
      | @lst _ ws ys k1 k2 k3 =>
        have hvw : vs = ws := by rw [h1] at k1; cases k1; rfl
        subst hvw
        have h' : (if xs.length = ys.length then cmL (cmB n) xs ys else some false) = some b := h
        rw [if_pos (by omega)] at h'
        obtain ⟨g, hg, hb⟩ := cmL_all h'
        rw [hb, all_g fun j hj => ?_]
        · simp; omega
        · have j0 : j < vs.length := by omega
          have j1 : j < xs.length := by omega
          have j2 : j < ys.length := by omega
          exact ih (hg j _ _ (get_of j1) (get_of j2)) (h3 j _ _ (get_of j0) (get_of j1)) (k3 j _ _ (get_of j0) (get_of j2))
      | _ => cases h
    | fzl _ _ _ => cases r2 <;> cases h
open PySem.SeqAt in
theorem cm_flat {n : Nat} {d e : D} {b : Bool} {x y : V} (h : cmB n d e = some b) (rx : Rp K Φ d x) (ry : Rp K Φ e y) (hf : (∀ a, x ≠ .ref a)) {A : Around} {u v : Value} (ru : RelV x u) (rv : RelV y v) : EqAt A s u v b ∧ RcAt A s u v b ∧ RcNeAt A s u v (!b) := by
  cases rx with
  | int i => cases ry with
    | int j =>
      obtain ⟨t, rfl⟩ := ru; obtain ⟨t', rfl⟩ := rv
      have h' : some (i == j) = some b := by cases n <;> exact h
      cases h'
      exact ⟨EqAt.int_int i t j t', RcAt.int_int i t j t', RcNeAt.int_int i t j t'⟩
    | _ => cases n <;> cases h
  | bl i => cases ry with
    | bl j =>
      cases ru; cases rv
      have h' : some (i == j) = some b := by cases n <;> exact h
      cases h'
      exact ⟨EqAt.bool_bool i j, RcAt.bool_bool i j, RcNeAt.bool_bool i j⟩
    | _ => cases n <;> cases h
  | str i => cases ry with
    | str j =>
      obtain ⟨t, rfl⟩ := ru; obtain ⟨t', rfl⟩ := rv
      have h' : some (i == j) = some b := by cases n <;> exact h
      cases h'
      exact ⟨EqAt.str_str i t j t', RcAt.str_str i t j t', RcNeAt.str_str i t j t'⟩
    | _ => cases n <;> cases h
  | non => cases ry with
    | non =>
      cases ru; cases rv
      have h' : some true = some b := by cases n <;> exact h
      cases h'
      exact ⟨EqAt.same _, RcAt.none_none, RcNeAt.none_none⟩
    | _ => cases n <;> cases h
  | tup _ _ _ => exact absurd rfl (hf _)
  | lst _ _ _ => exact absurd rfl (hf _)
  | fzl _ _ _ => exact absurd rfl (hf _)
open PySem.SeqAt in
theorem cmB_at (hK : X.K = K) (I : Inv X pins σ H s) (sm : Same Φ H) : ∀ (n : Nat) {d e : D} {b : Bool} {x y : V}, cmB n d e = some b → Rp K Φ d x → Rp K Φ e y →
    ∀ (A : Around) (u v : Value), A.units + n < cLine → RelV x u → RelV y v → EqAt A s u v b ∧ RcAt A s u v b ∧ RcNeAt A s u v (!b) := by
  intro n
  induction n with
  | zero =>
    intro d e b x y h rx ry A u v hu ru rv
    refine cm_flat h rx ry (fun a ea => ?_) ru rv
    subst ea
    cases rx <;> cases ry <;> cases h
  | succ n ih =>
    intro d e b x y h rx ry A u v hu ru rv
    by_cases hf : ∀ a, x ≠ .ref a
    · exact cm_flat h rx ry hf ru rv
    have hu' : A.units < cLine := by omega
    cases rx with
    | int i => exact absurd (fun a e => nomatch e) hf
    | bl i => exact absurd (fun a e => nomatch e) hf
    | str i => exact absurd (fun a e => nomatch e) hf
    | non => exact absurd (fun a e => nomatch e) hf
    | @tup a vs xs h1 h2 h3 => cases ry with
      | @tup c ws ys k1 k2 k3 =>
        cases ru; cases rv
        obtain ⟨g, hg, hb⟩ := cmL_all (show cmL (cmB n) xs ys = some b from h)
        obtain ⟨its, r1, p1, _⟩ := I.sqb (b := false) (hK ▸ sm.sqt h1)
        obtain ⟨its', r2, p2, _⟩ := I.sqb (b := false) (hK ▸ sm.sqt k1)
        have l1 := Vals.length r1
        have l2 := Vals.length r2
        have he : ∀ j (j1 : j < its.toArray.size) (j2 : j < its'.toArray.size), EqAt A.in1 s its.toArray[j] its'.toArray[j] (g j) := by
          intro j j1 j2
          simp only [List.size_toArray] at j1 j2
          obtain ⟨x, hx, rx⟩ := Vals.get' r1 j1
          obtain ⟨y, hy, ry⟩ := Vals.get' r2 j2
          have i1 : j < xs.length := by omega
          have i2 : j < ys.length := by omega
          exact (ih (hg j _ _ (get_of i1) (get_of i2)) (h3 j x _ hx (get_of i1)) (k3 j y _ hy (get_of i2)) A.in1 _ _ (by show A.units + 1 + n < cLine; omega) rx ry).1
        have R := RcAt.tuples (e := g) p1 p2 hu' he
        have R' := RcNeAt.tuples (e := g) p1 p2 hu' he
        have et : ((List.range (min its.toArray.size its'.toArray.size)).all g && its.toArray.size == its'.toArray.size) = b := by
          rw [hb]
          simp only [List.size_toArray]
          rw [← l1, ← l2, h2, k2]
        rw [et] at R R'
        refine ⟨?_, R, R'⟩
        by_cases hab : a = c
        · subst hab
          rw [cm_same hK I sm (n + 1) h (.tup h1 h2 h3) (.tup k1 k2 k3)]; exact EqAt.same _
        · exact EqAt.of_refs hab R
      | _ => cases h
    | @lst a vs xs h1 h2 h3 => cases ry with
      | @lst c ws ys k1 k2 k3 =>
        cases ru; cases rv
        have h' : (if xs.length = ys.length then cmL (cmB n) xs ys else some false) = some b := h
        obtain ⟨its, r1, p1, _⟩ := I.sqb (b := true) (show SqL X.K H a vs from SqL.of (sm _ _ h1))
        obtain ⟨its', r2, p2, _⟩ := I.sqb (b := true) (show SqL X.K H c ws from SqL.of (sm _ _ k1))
        have l1 := Vals.length r1
        have l2 := Vals.length r2
        have fin : RcAt A s (.ref a) (.ref c) b ∧ RcNeAt A s (.ref a) (.ref c) (!b) := by
          by_cases hl : xs.length = ys.length
          · rw [if_pos hl] at h'
            obtain ⟨g, hg, hb⟩ := cmL_all h'
            have he : ∀ j (j1 : j < its.toArray.size) (j2 : j < its'.toArray.size), EqAt A.in1 s its.toArray[j] its'.toArray[j] (g j) := by
              intro j j1 j2
              simp only [List.size_toArray] at j1 j2
              obtain ⟨x, hx, rx⟩ := Vals.get' r1 j1
              obtain ⟨y, hy, ry⟩ := Vals.get' r2 j2
              have i1 : j < xs.length := by omega
              have i2 : j < ys.length := by omega
              exact (ih (hg j _ _ (get_of i1) (get_of i2)) (h3 j x _ hx (get_of i1)) (k3 j y _ hy (get_of i2)) A.in1 _ _ (by show A.units + 1 + n < cLine; omega) rx ry).1
            have hsz : its.toArray.size = its'.toArray.size := by simp; omega
            have R := RcAt.lists (e := g) p1 p2 hsz hu' he
            have R' := RcNeAt.lists (e := g) p1 p2 hsz hu' he
            have et : (List.range its.toArray.size).all g = b := by
              have e1 : min xs.length ys.length = its.length := by omega
              have e2 : (xs.length == ys.length) = true := by simp [hl]
              rw [hb, e1, e2, Bool.and_true, List.size_toArray]
            rw [et] at R R'
            exact ⟨R, R'⟩
          · rw [if_neg hl] at h'
            cases h'
            have hsz : (its.toArray.size != its'.toArray.size) = true := by simp; omega
            exact ⟨RcAt.lists_lengths p1 p2 hsz hu', RcNeAt.lists_lengths p1 p2 hsz hu'⟩
        refine ⟨?_, fin.1, fin.2⟩
        by_cases hab : a = c
        · subst hab
          rw [cm_same hK I sm (n + 1) h (.lst h1 h2 h3) (.lst k1 k2 k3)]; exact EqAt.same _
        · exact EqAt.of_refs hab fin.1
      | _ => cases h
    | fzl _ _ _ => cases ry <;> cases h
end
def zEq : RD2 := fun x y R => match cmB 40 x y with | some b => R (.bl b) | none => False
def zNe : RD2 := fun x y R => match cmB 40 x y with | some b => R (.bl (!b)) | none => False
section
variable {K : PySem.W.Frag} {X : Cx}
theorem RpQ.any {Φ H : Hp} {d : D} {v : V} (h : RpQ K Φ H d v) (s : Same Φ H) : Rp K H d v := by
  rcases h with h | ⟨a, vs, ds, e, e2, h1, h2⟩
  · exact h.same s
  · subst e e2; exact (h2.same s).lst h1
theorem z_eq (hu : X.A.units + 64 < cLine) : OpD K X (compareOp .Eq) zEq := ⟨fun hK pins s σ H x y u v Q I rx ry ⟨Φ, dx, dy, R, sm, hx, hy, h, k⟩ => by
  unfold zEq at h
  split at h
  · next b hb => exact (cmB_at hK I (Same.refl H) 40 hb (hx.any sm) (hy.any sm) X.A u v (by omega) rx ry).2.1 X.prog X.w _ _ ⟨.bl b, H, I, rfl, k _ Φ H _ h (.refl sm) (.bl b)⟩
  · exact h.elim⟩
theorem z_ne (hu : X.A.units + 64 < cLine) : OpD K X (compareOp .NotEq) zNe := ⟨fun hK pins s σ H x y u v Q I rx ry ⟨Φ, dx, dy, R, sm, hx, hy, h, k⟩ => by
  unfold zNe at h
  split at h
  · next b hb => exact (cmB_at hK I (Same.refl H) 40 hb (hx.any sm) (hy.any sm) X.A u v (by omega) rx ry).2.2 X.prog X.w _ _ ⟨.bl (!b), H, I, rfl, k _ Φ H _ h (.refl sm) (.bl _)⟩
  · exact h.elim⟩
def isNon : D → Bool
  | .non => true
  | _ => false
def zIs (neg : Bool) : RD2 := fun x y R => match y with | .non => R (.bl (isNon x != neg)) | .bl b => (match x with | .bl a => R (.bl ((a == b) != neg)) | _ => False) | _ => False
theorem non_iff {Φ H : Hp} {d : D} {v : V} (h : RpQ K Φ H d v) : decide (v = V.non) = isNon d := by
  cases d with
  | int i => rw [h.int]; rfl
  | bl i => rw [h.bl]; rfl
  | str i => rw [h.str]; rfl
  | non => rw [h.non]; rfl
  | tup ds => rcases h with h | ⟨a, vs, ds, e, _⟩
              · cases h; rfl
              · cases e
  | lst ds => rcases h with h | ⟨a, vs, ds, e, e2, _⟩
              · cases h; rfl
              · rw [e2]; rfl
  | fzl ds => rcases h with h | ⟨a, vs, ds, e, _⟩
              · cases h; rfl
              · cases e
theorem z_is : OpD K X (compareOp .Is) (zIs false) := ⟨fun hK pins s σ H x y u v Q I rx ry ⟨Φ, dx, dy, R, sm, hx, hy, h, k⟩ => by
  cases dy with
  | non =>
    cases hy.non
    refine op_isN pins s σ H _ _ u v Q I rx ry ⟨rfl, ?_⟩
    rw [non_iff hx]
    have h' : R (.bl (isNon dx != false)) := h
    rw [Bool.bne_false] at h'
    exact k _ Φ H _ h' (.refl sm) (.bl _)
  | bl b =>
    cases hy.bl
    cases dx with
    | bl a =>
      cases hx.bl
      have h' : R (.bl ((a == b) != false)) := h
      rw [Bool.bne_false] at h'
      exact op_isB pins s σ H _ _ u v Q I rx ry ⟨a, b, rfl, rfl, k _ Φ H _ h' (.refl sm) (.bl _)⟩
    | _ => exact h.elim
  | _ => exact h.elim⟩
end
end L2
set_option Elab.async false
set_option linter.all false
set_option maxRecDepth 100000
set_option maxHeartbeats 4000000
namespace HT
open PySem PySem.Spec PyProof.Rows
theorem getItem_tuple_all {prog : Program} {w : World} {A : Around} {E : Value → Shared → Prop} {s : Shared} {t sl : Addr} {items : Array Value} {vl vu : Value} {lo hi : Option Int} {Q : Value → Shared → Prop} (ht : IsTup s.heap t items) (hs : s.heap.IsSliceOf sl vl vu .none) (pl : IsPart vl lo) (pu : IsPart vu hi)
    (hw : sIx items.size 0 lo = 0 ∧ sIx items.size items.size hi = items.size) (h : Q (.ref t) s) : wpAny (model prog w) A (getItem (.ref t) (.ref sl)) Q E s := by
  obtain ⟨os, hos, hcs, hds⟩ := id hs
  have hTs : s.TypeIs (.ref sl) "slice" := ⟨os, hos, hcs⟩
  unfold getItem
  try with_reducible refine wpAny_holding ?_
  first | refine wpAny_bind (wpAny_pure ?_) | skip
  refine wpAny_bind (wpAny_sequenceKey ht.typeIs (by decide) ?_)
  refine wpAny_bind (wpAny_callSpecial?_slot (name := Str.ofString "__getitem__") ht.typeIs PyProof.Rows.slot_tuple_getitem
    (wpAny_call_entry PyProof.Rows.slot_tuple_getitem ht.typeIs entry_tuple_getitem ?_ (args_tuple_getitem _ _)))
  show wpAny _ _ (Builtin.Tuple.tupleItemsOf (.ref t) >>= _) _ _ s
  refine wpAny_bind (tupleItemsOf_ ht ?_)
  refine wpAny_bind (wpAny_typeOf hTs ?_)
  rw [if_pos (by decide)]
  refine wpAny_bind (sliceApplied_gen hs pl pu ?_)
  have hyes : (((sIx items.size 0 lo : Nat) : Int) == 0 && (1 : Int) == 1 && (sIx items.size items.size hi - sIx items.size 0 lo) == items.size) = true := by
    rw [hw.1, hw.2]
    simp
  show wpAny _ _ (if (((sIx items.size 0 lo : Nat) : Int) == 0 && (1 : Int) == 1 && (sIx items.size items.size hi - sIx items.size 0 lo) == items.size) = true then _ else _) _ _ s
  rw [if_pos hyes]
  refine wpAny_bind (show wpAny _ _ (typeOf (.ref t) >>= fun c => pure (c == .type "tuple")) _ _ s from wpAny_bind (wpAny_typeOf ht.typeIs (wpAny_pure ?_)))
  rw [if_pos (by decide)]
  exact wpAny_bind (wpAny_rule (wpAny_pure ⟨_, rfl, wpAny_pure h⟩))
end HT
namespace L2
open PySem PySem.Spec PyProof.Rows
section
variable {K : PySem.W.Frag} {X : Cx} {e a b c : Expr} {es : List Expr} {pos p2 : Pos} {t ta tb : TD} {tf : TDL} {tl : TDL} {tt tu : TDB}
def zIx : RD2 := fun x y R => match y with
  | .int i => (match x with
    | .lst ds => ∃ d, atI ds i = some d ∧ R d
    | .tup ds => ∃ d, atI ds i = some d ∧ R d
    | .fzl ds => ∃ d, atI ds i = some d ∧ R d
    | .str z => z.length ≤ sizeLine ∧ ∃ c, atI z.cps.toList i = some c ∧ R (.str ⟨#[c]⟩)
    | _ => False)
  | _ => False
theorem at_rp {Φ : Hp} {ds : List D} {vs : List V} {d : D} {i : Int} (h : RpL K Φ ds vs) (e : atI ds i = some d) : ∃ v, atI vs i = some v ∧ Rp K Φ d v := by
  unfold atI at e ⊢
  rw [h.1]
  cases hj : ixN ds.length i with
  | none => rw [hj] at e; cases e
  | some j =>
    rw [hj, Option.bind_some] at e
    rw [Option.bind_some]
    exact h.at e
theorem ix_z (hK : X.K = K) : IxR X (lR2 K zIx) := by
  intro value slice pins s σ H x y v u Q I rx ry ⟨Φ, dx, dy, R, sm, hx, hy, h, k⟩ hs
  cases dy with
  | int i =>
    cases hy.int
    cases dx with
    | lst ds =>
      obtain ⟨d, h1, h2⟩ := h
      obtain ⟨a, vs, rfl, q1, q2⟩ := hx.lst sm
      obtain ⟨w, hw, rw'⟩ := at_rp q2 h1
      exact ix_list value slice pins s σ H _ _ v u Q I rx ry ⟨a, vs, i, w, rfl, rfl, .of q1, hw, k _ Φ H _ h2 (.refl sm) rw'⟩ hs
    | tup ds =>
      obtain ⟨d, h1, h2⟩ := h
      obtain ⟨a, vs, rfl, q1, _, q2⟩ := hx.tup sm
      obtain ⟨w, hw, rw'⟩ := at_rp q2 h1
      exact ix_tup value slice pins s σ H _ _ v u Q I rx ry ⟨a, vs, i, w, rfl, rfl, hK ▸ q1, hw, k _ Φ H _ h2 (.refl sm) rw'⟩ hs
    | fzl ds =>
      obtain ⟨d, h1, h2⟩ := h
      obtain ⟨a, vs, rfl, q1, q2⟩ := hx.fzl sm
      obtain ⟨w, hw, rw'⟩ := at_rp q2 h1
      exact ix_list value slice pins s σ H _ _ v u Q I rx ry ⟨a, vs, i, w, rfl, rfl, hK ▸ q1, hw, k _ Φ H _ h2 (.refl sm) rw'⟩ hs
    | str z =>
      obtain ⟨h0, c, h1, h2⟩ := h
      cases hx.str
      exact ix_str value slice pins s σ H _ _ v u Q I rx ry ⟨z, i, c, rfl, rfl, h0, h1, k _ Φ H _ h2 (.refl sm) (.str _)⟩ hs
    | _ => exact h.elim
  | _ => exact h.elim
theorem d_ix (ha : PQ K X a ta) (hb : PQ K X b tb) (hs : PlainIx b) : PD K X (.Subscript a b pos) (dOp zIx ta tb) :=
  ⟨fun hK => (pe_ix (ix_z hK) (ha.pe hK) (hb.pe hK) hs).imp fun _ _ _ => op_lift⟩
abbrev TOD := Rho → (Option Int → Prop) → Prop
def lO (K : PySem.W.Frag) (t : TOD) : TO := fun σ H Q => ∃ H0 Φ ρ R, EnvD K H0 Φ H σ ρ ∧ t ρ R ∧ ∀ o Φ' H', R o → Gr Φ H Φ' H' → Q o H'
structure POD (K : PySem.W.Frag) (X : Cx) (e : Option Expr) (t : TOD) : Prop where po : X.K = K → PO X e (lO K t)
def oNone : TOD := fun _ R => R none
def oSome (t : TD) : TOD := fun ρ R => t ρ fun d => match d with | .int i => R (some i) | _ => False
theorem PO.imp {o : Option Expr} {t t' : TO} (h : PO X o t) (k : ∀ σ H Q, t' σ H Q → t σ H Q) : PO X o t' := fun pins s σ H Q I hw => h pins s σ H Q I (k σ H Q hw)
theorem o_none : POD K X none oNone := ⟨fun _ => po_none.imp fun σ H Q ⟨H0, Φ, ρ, R, E, t, k⟩ => k none Φ H t (.refl E.fz)⟩
theorem o_some (h : PQ K X e t) : POD K X (some e) (oSome t) := ⟨fun hK => (po_some (h.pe hK)).imp fun σ H Q ⟨H0, Φ, ρ, R, E, t, k⟩ => ⟨H0, Φ, ρ, _, E, t, fun d Φ1 H1 v r g rv => by
  cases d with
  | int i => exact ⟨i, rv.int, k _ Φ1 H1 r g⟩
  | _ => exact r.elim⟩⟩
variable {lo hi : Option Expr} {to tp : TOD}
def rSlA (K : PySem.W.Frag) : V → Option Int → Option Int → Hp → VK → Prop := fun x lo hi H Q => ∃ a xs, x = .ref a ∧ SqT K H a xs ∧ (HT.sIx xs.length 0 lo = 0 ∧ HT.sIx xs.length xs.length hi = xs.length) ∧ Q (.ref a) H
theorem sl_all : SlR X (rSlA X.K) := by
  intro pins s σ H x v vl vu lo hi sl Q I rx hs pl pu h
  obtain ⟨a, xs, rfl, hx, hw, q⟩ := h
  cases rx
  obtain ⟨its, r, ht, hz⟩ := I.tuple hx
  have hlen : its.toArray.size = xs.length := by rw [List.size_toArray]; exact r.length.symm
  refine ⟨"tuple", _, PyProof.Rows.slot_tuple_getitem.lookup, ht.typeIs, ?_⟩
  exact HT.getItem_tuple_all ht hs pl pu (by rw [hlen]; exact hw) ⟨.ref a, H, I, rfl, q⟩
theorem cut_all {α : Type} {xs : List α} {l h : Option Int} (hw : HT.sIx xs.length 0 l = 0 ∧ HT.sIx xs.length xs.length h = xs.length) : cutL xs l h = xs := by
  unfold cutL
  rw [hw.1, hw.2, List.drop_zero, Nat.sub_zero, List.take_length]
def zSl (x : D) (l h : Option Int) (R : D → Prop) : Prop := match x with
  | .lst ds => NF (cutL ds l h) fun zs => R (.lst zs)
  | .fzl ds => NF (cutL ds l h) fun zs => R (.lst zs)
  | .tup ds => NF (cutL ds l h) fun zs => R (.tup zs)
  | _ => False
def dSl (t : TD) (to tp : TOD) : TD := fun ρ R => t ρ fun x => to ρ fun l => tp ρ fun h => zSl x l h R
theorem d_sl (ha : PQ K X a ta) (hl : POD K X lo to) (hh : POD K X hi tp) : PD K X (.Subscript a (.Slice lo hi none p2) pos) (dSl ta to tp) :=
  ⟨fun hK => (pe_slice (hK ▸ sl_list.or (sl_tup.or sl_all) : SlR X (fun x lo hi H Q => rSlL K x lo hi H Q ∨ rSlT K x lo hi H Q ∨ rSlA K x lo hi H Q)) (ha.pe hK) (hl.po hK) (hh.po hK)).imp fun σ H Q ⟨H0, Φ, ρ, R, E, t, k⟩ =>
    ⟨H0, Φ, ρ, _, E, t, fun dx Φ1 H1 x t1 g1 rx => ⟨H0, Φ1, ρ, _, E.gr g1, t1, fun l Φ2 H2 t2 g2 => ⟨H0, Φ2, ρ, _, (E.gr g1).gr g2, t2, fun h Φ3 H3 t3 g3 => by
      have g := (g1.trans g2).trans g3
      have rx3 := rx.gr (g2.trans g3)
      cases dx with
      | lst ds =>
        obtain ⟨a, vs, rfl, q1, q2⟩ := rx3.lst g.s
        exact .inl ⟨a, vs, rfl, .of q1, fun p hp => k _ _ _ _ t3.get (g.trans (.new g.s hp _)) (((q2.cut l h).same (same_new (g.s.free hp) _)).lst upd_same)⟩
      | fzl ds =>
        obtain ⟨a, vs, rfl, q1, q2⟩ := rx3.fzl g.s
        exact .inl ⟨a, vs, rfl, q1, fun p hp => k _ _ _ _ t3.get (g.trans (.new g.s hp _)) (((q2.cut l h).same (same_new (g.s.free hp) _)).lst upd_same)⟩
      | tup ds =>
        obtain ⟨a, vs, rfl, q1, q0, q2⟩ := rx3.tup g.s
        by_cases hw : HT.sIx vs.length 0 l = 0 ∧ HT.sIx vs.length vs.length h = vs.length
        · refine .inr (.inr ⟨a, vs, rfl, q1, hw, ?_⟩)
          have e : cutL ds l h = ds := cut_all (by rw [← q2.1]; exact hw)
          have t4 := t3.get
          rw [e] at t4
          exact k _ _ _ _ t4 g (q2.tup q0)
        · exact .inr (.inl ⟨a, vs, rfl, q1, hw, fun p hp => k _ _ _ _ t3.get (g.trans (.new g.s hp _)) (((q2.cut l h).same (same_new (g.s.free hp) _)).tup (.of upd_same))⟩)
      | _ => exact t3.elim⟩⟩⟩⟩
def fCat (ta tb : TD) : TDL := fun ρ R => ta ρ fun x => tb ρ fun y => match x, y with | .lst xs, .lst ys => xs.length + ys.length ≤ sizeLine ∧ NF (xs ++ ys) R | _, _ => False
theorem f_cat (ha : PQ K X a ta) (hb : PQ K X b tb) : PF K X (.BinOp a .Add b pos) (fCat ta tb) :=
  ⟨fun hK => (pe_op op_cat (ha.pe hK) (hb.pe hK)).imp fun σ H Q ⟨H0, Φ, ρ, R, E, t, k⟩ => ⟨H0, Φ, ρ, _, E, t, fun dx Φ1 H1 x t1 g1 rx => ⟨H0, Φ1, ρ, _, E.gr g1, t1, fun dy Φ2 H2 y t2 g2 ry => by
    have g := g1.trans g2
    have rx2 := rx.gr g2
    cases dx with
    | lst xs => cases dy with
      | lst ys =>
        obtain ⟨a, vs, rfl, h1, h2⟩ := rx2.lst g.s
        obtain ⟨b, ws, rfl, h3, h4⟩ := ry.lst g.s
        exact ⟨a, b, vs, ws, rfl, rfl, h1, h3, by rw [h2.1, h4.1]; exact t2.1, fun p hp => k _ _ _ p _ t2.2.get (g.trans (.fresh g.s hp _)) (g.h.free hp) (g.s.free hp) upd_same (h2.append h4)⟩
      | _ => exact t2.elim
    | _ => exact t2.elim⟩⟩⟩
abbrev SpD := List D → (D → Prop) → Prop
def lSp (K : PySem.W.Frag) (sp : SpD) : Sp := fun vs H Q _ => ∃ Φ ds R, Same Φ H ∧ RpL K Φ ds vs ∧ sp ds R ∧ ∀ d Φ' H' v, R d → Gr Φ H Φ' H' → Rp K Φ' d v → Q v H'
def dCall (sp : SpD) (t : TDL) : TD := fun ρ R => t ρ fun ds => sp ds R
variable {CX : CXT} {k : Nat} {f : Addr} {fd : FuncData} {ps : List Str} {sp : SpD} {x : Str} {p : Pos} {E : XK}
theorem d_call (F : FnOk X.prog X.w X.K X.mg X.base CX k f fd ps (lSp K sp)) (hr : Room k X.A) (hg : Gl X x) (hm : X.mg x = some (.ref f)) (hk : PySem.W.keepIn X.K (.ref f) = true) (hb : Binds X.K fd ps []) (hx : Passes CX X E)
    (ha : PAD K X (e :: es) tl) (he : starEach (e :: es) X.env = (false, eval e X.env) :: starEach es X.env) (hpl : (backTo pos (starEach es X.env)).any (·.1) = false) (hdb : (x == ("__debug__" : Str)) = false := by decide) :
    PD K X (.Call (.Name x p) (e :: es) [] pos) (dCall sp tl) :=
  ⟨fun hK => (pe_call F hr hg hm hk hb .nil hx (ha.pa hK) hdb he hpl).imp fun σ H Q ⟨H0, Φ, ρ, R, E, t, k⟩ => ⟨H0, Φ, ρ, _, E, t, fun ds Φ1 H1 vs r g rl _ => ⟨Φ1, ds, R, g.s, by rw [List.append_nil]; exact rl, r, fun d Φ' H' v rd g' rv => k d Φ' H' v rd (g.trans g') rv⟩⟩⟩
def RpLQ (K : PySem.W.Frag) (Φ H : Hp) (ds : List D) (vs : List V) : Prop := vs.length = ds.length ∧ ∀ (i : Nat) (v : V) (d : D), vs[i]? = some v → ds[i]? = some d → RpQ K Φ H d v
def lAQ (K : PySem.W.Frag) (t : TDL) : TA := fun σ H Q => ∃ H0 Φ ρ R, EnvD K H0 Φ H σ ρ ∧ t ρ R ∧ ∀ ds Φ' H' vs, R ds → Gr Φ H Φ' H' → RpLQ K Φ' H' ds vs → Q vs H'
structure PAQ (K : PySem.W.Frag) (X : Cx) (es : List Expr) (t : TDL) : Prop where pa : X.K = K → PA X es (lAQ K t)
theorem aq_nil : PAQ K X [] zNil := ⟨fun _ => pa_nil.imp fun σ H Q ⟨H0, Φ, ρ, R, E, t, k⟩ => k [] Φ H [] t (.refl E.fz) ⟨rfl, fun i v d hv _ => by simp at hv⟩⟩
theorem aq_cons (ha : PQ K X e t) (hr : PAQ K X es tl) (hs : starEach (e :: es) X.env = (false, eval e X.env) :: starEach es X.env) : PAQ K X (e :: es) (zCons t tl) :=
  ⟨fun hK => (pa_cons (ha.pe hK) (hr.pa hK) hs).imp fun σ H Q ⟨H0, Φ, ρ, R, E, t, k⟩ => ⟨H0, Φ, ρ, _, E, t, fun d Φ1 H1 v r g rv => ⟨H0, Φ1, ρ, _, E.gr g, r, fun ds Φ2 H2 vs r2 g2 rl =>
    k _ Φ2 H2 _ r2 (g.trans g2) ⟨by simp [rl.1], fun i u d hu hd => by
      cases i with
      | zero => cases hu; cases hd; exact rv.gr g2
      | succ i => exact rl.2 i u d hu hd⟩⟩⟩⟩
def lC (K : PySem.W.Frag) (r : SpD) : List V → Hp → VK → Prop := fun vs H Q => ∃ Φ ds R, Same Φ H ∧ RpLQ K Φ H ds vs ∧ r ds R ∧ ∀ d Φ' H' v, R d → Gr Φ H Φ' H' → Rp K Φ' d v → Q v H'
structure CallD (K : PySem.W.Frag) (X : Cx) (f : Value) (r : SpD) : Prop where c : X.K = K → CallR X f (lC K r)
theorem d_callB {id : String} {r : SpD} (hc : CallD K X (.builtin id) r) (hg : Gl X x) (hm : X.mg x = none) (hv : bootBuiltins x = some (.builtin id)) (ha : PAQ K X (e :: es) tl)
    (he : starEach (e :: es) X.env = (false, eval e X.env) :: starEach es X.env) (hpl : (backTo pos (starEach es X.env)).any (·.1) = false) (hn : x ≠ "__name__" := by decide) (hdb : (x == ("__debug__" : Str)) = false := by decide) : PD K X (.Call (.Name x p) (e :: es) [] pos) (dCall r tl) :=
  ⟨fun hK => (pe_callB (hc.c hK) hg hm hv (ha.pa hK) hn hdb he hpl).imp fun σ H Q ⟨H0, Φ, ρ, R, E, t, k⟩ => ⟨H0, Φ, ρ, _, E, t, fun ds Φ1 H1 vs r g rl => ⟨Φ1, ds, R, g.s, rl, r, fun d Φ' H' v rd g' rv => k d Φ' H' v rd (g.trans g') rv⟩⟩⟩
theorem d_callTy {T : String} {r : SpD} (hc : CallD K X (.type T) r) (hg : Gl X x) (hm : X.mg x = none) (hv : bootBuiltins x = some (.type T)) (ha : PAQ K X (e :: es) tl)
    (he : starEach (e :: es) X.env = (false, eval e X.env) :: starEach es X.env) (hpl : (backTo pos (starEach es X.env)).any (·.1) = false) (hn : x ≠ "__name__" := by decide) (hdb : (x == ("__debug__" : Str)) = false := by decide) : PD K X (.Call (.Name x p) (e :: es) [] pos) (dCall r tl) :=
  ⟨fun hK => (pe_callTy (hc.c hK) hg hm hv (ha.pa hK) hn hdb he hpl).imp fun σ H Q ⟨H0, Φ, ρ, R, E, t, k⟩ => ⟨H0, Φ, ρ, _, E, t, fun ds Φ1 H1 vs r g rl => ⟨Φ1, ds, R, g.s, rl, r, fun d Φ' H' v rd g' rv => k d Φ' H' v rd (g.trans g') rv⟩⟩⟩
theorem one_of {Φ H : Hp} {d : D} {vs : List V} (h : RpLQ K Φ H [d] vs) : ∃ v, vs = [v] ∧ RpQ K Φ H d v := by
  obtain ⟨h1, h2⟩ := h
  match vs, h1, h2 with
  | [v], _, h2 => exact ⟨v, rfl, h2 0 v d rfl rfl⟩
theorem two_of {Φ H : Hp} {d e : D} {vs : List V} (h : RpLQ K Φ H [d, e] vs) : ∃ v w, vs = [v, w] ∧ RpQ K Φ H d v ∧ RpQ K Φ H e w := by
  obtain ⟨h1, h2⟩ := h
  match vs, h1, h2 with
  | [v, w], _, h2 => exact ⟨v, w, rfl, h2 0 v d rfl rfl, h2 1 w e rfl rfl⟩
def zLen : SpD := fun ds R => match ds with | [.lst xs] => R (.int xs.length) | [.tup xs] => R (.int xs.length) | [.fzl xs] => R (.int xs.length) | [.str z] => z.length ≤ sizeLine ∧ R (.int z.length) | _ => False
theorem c_len : CallD K X (.builtin "len") zLen := ⟨fun hK pins s σ H xs us Q I rr ⟨Φ, ds, R, sm, hl, h, k⟩ => by
  match ds, h with
  | [.lst xs], h =>
    obtain ⟨v, rfl, r⟩ := one_of hl
    obtain ⟨a, vs, rfl, q1, q2⟩ := r.lst sm
    exact call_len_seq pins s σ H _ us Q I rr ⟨a, vs, rfl, .inl (.of q1), by rw [q2.1]; exact k _ Φ H _ h (.refl sm) (.int _)⟩
  | [.tup xs], h =>
    obtain ⟨v, rfl, r⟩ := one_of hl
    obtain ⟨a, vs, rfl, q1, _, q2⟩ := r.tup sm
    exact call_len_seq pins s σ H _ us Q I rr ⟨a, vs, rfl, .inr (hK ▸ q1), by rw [q2.1]; exact k _ Φ H _ h (.refl sm) (.int _)⟩
  | [.fzl xs], h =>
    obtain ⟨v, rfl, r⟩ := one_of hl
    obtain ⟨a, vs, rfl, q1, q2⟩ := r.fzl sm
    exact call_len_seq pins s σ H _ us Q I rr ⟨a, vs, rfl, .inl (hK ▸ q1), by rw [q2.1]; exact k _ Φ H _ h (.refl sm) (.int _)⟩
  | [.str z], h =>
    obtain ⟨v, rfl, r⟩ := one_of hl
    cases r.str
    exact call_len_str pins s σ H _ us Q I rr ⟨z, rfl, h.1, k _ Φ H _ h.2 (.refl sm) (.int _)⟩⟩
def zAbs : SpD := fun ds R => match ds with | [.int i] => R (.int (if i < 0 then -i else i)) | _ => False
theorem c_abs : CallD K X (.builtin "abs") zAbs := ⟨fun hK pins s σ H xs us Q I rr ⟨Φ, ds, R, sm, hl, h, k⟩ => by
  match ds, h with
  | [.int i], h =>
    obtain ⟨v, rfl, r⟩ := one_of hl
    cases r.int
    exact call_abs pins s σ H _ us Q I rr ⟨i, rfl, k _ Φ H _ h (.refl sm) (.int _)⟩⟩
def zMax2 : SpD := fun ds R => match ds with | [.int i, .int j] => R (.int (if j > i then j else i)) | _ => False
theorem c_max2 (hc : X.calm = true) : CallD K X (.builtin "max") zMax2 := ⟨fun hK pins s σ H xs us Q I rr ⟨Φ, ds, R, sm, hl, h, k⟩ => by
  match ds, h with
  | [.int i, .int j], h =>
    obtain ⟨v, w, rfl, r1, r2⟩ := two_of hl
    cases r1.int
    cases r2.int
    exact call_max2 hc pins s σ H _ us Q I rr ⟨i, j, rfl, k _ Φ H _ h (.refl sm) (.int _)⟩⟩
theorem vs_ints {Φ : Hp} {ns : List Int} {vs : List V} (h : RpL K Φ (ns.map D.int) vs) : vs = ns.map V.int := by
  refine List.ext_getElem? fun i => ?_
  rw [List.getElem?_map]
  cases e : ns[i]? with
  | none =>
    have := List.getElem?_eq_none_iff.mp e
    rw [List.getElem?_eq_none (by rw [h.1, List.length_map]; exact this)]
    rfl
  | some n =>
    obtain ⟨v, hv, r⟩ := h.at (i := i) (d := .int n) (by rw [List.getElem?_map, e]; rfl)
    cases r
    rw [hv]
    rfl
theorem vs_bools {Φ : Hp} {bs : List Bool} {vs : List V} (h : RpL K Φ (bs.map D.bl) vs) : vs = bs.map V.bl := by
  refine List.ext_getElem? fun i => ?_
  rw [List.getElem?_map]
  cases e : bs[i]? with
  | none =>
    have := List.getElem?_eq_none_iff.mp e
    rw [List.getElem?_eq_none (by rw [h.1, List.length_map]; exact this)]
    rfl
  | some n =>
    obtain ⟨v, hv, r⟩ := h.at (i := i) (d := .bl n) (by rw [List.getElem?_map, e]; rfl)
    cases r
    rw [hv]
    rfl
theorem RpQ.sqb {Φ H : Hp} {d : D} {v : V} {ds : List D} (s : Same Φ H) (h : RpQ K Φ H d v) (e : seqD d = some ds) : ∃ (q : Bool) (a : Addr) (vs : List V), v = .ref a ∧ SqB K q H a vs ∧ RpL K Φ ds vs := by
  obtain ⟨a, vs, e1, h1, h2⟩ := h.seq s e
  rcases h1 with h1 | h1
  · exact ⟨true, a, vs, e1, h1, h2⟩
  · exact ⟨false, a, vs, e1, h1, h2⟩
def zSum : SpD := fun ds R => match ds with | [d] => ∃ ns : List Int, seqD d = some (ns.map D.int) ∧ R (.int ns.sum) | _ => False
theorem c_sum (hc : X.calm = true) : CallD K X (.builtin "sum") zSum := ⟨fun hK pins s σ H xs us Q I rr ⟨Φ, ds, R, sm, hl, h, k⟩ => by
  match ds, h with
  | [d], ⟨ns, e, h⟩ =>
    obtain ⟨v, rfl, r⟩ := one_of hl
    obtain ⟨q, a, vs, rfl, q1, q2⟩ := r.sqb sm e
    rw [vs_ints q2] at q1
    exact call_sum q hc pins s σ H _ us Q I rr ⟨a, ns, rfl, hK ▸ q1, k _ Φ H _ h (.refl sm) (.int _)⟩⟩
def zAll (f : List Bool → Bool) : SpD := fun ds R => match ds with | [d] => ∃ bs : List Bool, seqD d = some (bs.map D.bl) ∧ R (.bl (f bs)) | _ => False
theorem c_all (hc : X.calm = true) : CallD K X (.builtin "all") (zAll fun bs => bs.all id) := ⟨fun hK pins s σ H xs us Q I rr ⟨Φ, ds, R, sm, hl, h, k⟩ => by
  match ds, h with
  | [d], ⟨ns, e, h⟩ =>
    obtain ⟨v, rfl, r⟩ := one_of hl
    obtain ⟨q, a, vs, rfl, q1, q2⟩ := r.sqb sm e
    rw [vs_bools q2] at q1
    exact call_all q hc pins s σ H _ us Q I rr ⟨a, ns, rfl, hK ▸ q1, k _ Φ H _ h (.refl sm) (.bl _)⟩⟩
def zTuple : SpD := fun ds R => match ds with | [.lst xs] => R (.tup xs) | [.tup xs] => R (.tup xs) | [.fzl xs] => R (.tup xs) | _ => False
theorem c_tuple : CallD K X (.type "tuple") zTuple := ⟨fun hK pins s σ H xs us Q I rr ⟨Φ, ds, R, sm, hl, h, k⟩ => by
  match ds, h with
  | [.lst xs], h =>
    obtain ⟨v, rfl, r⟩ := one_of hl
    obtain ⟨a, vs, rfl, q1, q2⟩ := r.lst sm
    exact call_tuple_of pins s σ H _ us Q I rr ⟨a, vs, rfl, .inl ⟨.of q1, fun p hp => k _ _ _ _ h (.new sm hp _) ((q2.same (same_new (sm.free hp) _)).tup (.of upd_same))⟩⟩
  | [.fzl xs], h =>
    obtain ⟨v, rfl, r⟩ := one_of hl
    obtain ⟨a, vs, rfl, q1, q2⟩ := r.fzl sm
    exact call_tuple_of pins s σ H _ us Q I rr ⟨a, vs, rfl, .inl ⟨hK ▸ q1, fun p hp => k _ _ _ _ h (.new sm hp _) ((q2.same (same_new (sm.free hp) _)).tup (.of upd_same))⟩⟩
  | [.tup xs], h =>
    obtain ⟨v, rfl, r⟩ := one_of hl
    obtain ⟨a, vs, rfl, q1, q3, q2⟩ := r.tup sm
    exact call_tuple_of pins s σ H _ us Q I rr ⟨a, vs, rfl, .inr ⟨hK ▸ q1, k _ Φ H _ h (.refl sm) (q2.tup q3)⟩⟩⟩
def fList (t : TD) : TDL := fun ρ R => t ρ fun d => ∃ ds, seqD d = some ds ∧ R ds
theorem f_list (hg : Gl X "list") (hm : X.mg "list" = none) (ha : PQ K X e t) (he : starEach [e] X.env = (false, eval e X.env) :: starEach [] X.env) : PF K X (.Call (.Name "list" p) [e] [] pos) (fList t) :=
  ⟨fun hK => (pe_callTy call_list_of hg hm boot_list (pa_cons (ha.pe hK) pa_nil he) (by decide) (by decide) he npl_nil).imp fun σ H Q ⟨H0, Φ, ρ, R, E, t, k⟩ => ⟨H0, Φ, ρ, _, E, t, fun d Φ1 H1 v r g rv => by
    obtain ⟨ds, e1, r⟩ := r
    obtain ⟨a, vs, rfl, q1, q2⟩ := rv.seq g.s e1
    exact ⟨a, vs, rfl, hK ▸ q1, fun l hl => k _ _ _ l _ r (g.trans (.fresh g.s hl _)) (g.h.free hl) (g.s.free hl) upd_same q2⟩⟩⟩
def zInt : SpD := fun ds R => match ds with | [.int i] => R (.int i) | [.bl b] => R (.int (if b then 1 else 0)) | _ => False
theorem c_int : CallD K X (.type "int") zInt := ⟨fun hK pins s σ H xs us Q I rr ⟨Φ, ds, R, sm, hl, h, k⟩ => by
  match ds, h with
  | [.int i], h =>
    obtain ⟨v, rfl, r⟩ := one_of hl
    cases r.int
    exact call_int1 pins s σ H _ us Q I rr (.inl ⟨i, rfl, k _ Φ H _ h (.refl sm) (.int _)⟩)
  | [.bl b], h =>
    obtain ⟨v, rfl, r⟩ := one_of hl
    cases r.bl
    exact call_int1 pins s σ H _ us Q I rr (.inr ⟨b, rfl, k _ Φ H _ h (.refl sm) (.int _)⟩)⟩
def isiD (d : D) (T : String) : Option Bool := match d with
  | .int _ => if T = "int" then some true else if T = "bool" then some false else if T = "tuple" then some false else if T = "str" then some false else none
  | .bl _ => if T = "int" then some true else if T = "bool" then some true else if T = "tuple" then some false else none
  | .str _ => if T = "str" then some true else if T = "tuple" then some false else none
  | .tup _ => if T = "tuple" then some true else if T = "int" then some false else none
  | .lst _ => if T = "tuple" then some false else if T = "list" then some true else none
  | _ => none
end
end L2
set_option Elab.async false
set_option linter.all false
set_option maxRecDepth 100000
set_option maxHeartbeats 4000000
namespace L2
open PySem PySem.Spec PyProof.Rows
structure SteadyD (K : PySem.W.Frag) (J : It) (Φ : Hp) (ds : List D) : Prop where
  go : ∀ i H, Same Φ H → i < ds.length → J.go i H
  yl : ∀ i Φ2 H x H2 d, Same Φ Φ2 → Same Φ2 H → ds[i]? = some d → J.yld i H x H2 → ∃ Φ3, Gr Φ2 H Φ3 H2 ∧ Rp K Φ3 d x
  stop : ∀ H, Same Φ H → J.stop ds.length H
section
variable {K : PySem.W.Frag} {Φ : Hp} {ds es : List D} {vs ws : List V} {a : Addr}
theorem steadyD_list (h : SqL K Φ a vs) (r : RpL K Φ ds vs) : SteadyD K (Itl K a) Φ ds :=
  ⟨fun i H s hi => ⟨vs, vs[i]'(by rw [r.1]; exact hi), s.seq h, get_of _⟩, fun i Φ2 H x H2 d s2 s hd y => by
    obtain ⟨e, y⟩ := y
    subst e
    exact ⟨Φ2, .refl s, (r.2 i x d (y vs ((s2.trans s).seq h)) hd).same s2⟩, fun H s => ⟨vs, s.seq h, by rw [r.1]; exact Nat.le_refl _⟩⟩
theorem steadyD_tup (h : SqT K Φ a vs) (r : RpL K Φ ds vs) : SteadyD K (Itt K a) Φ ds :=
  ⟨fun i H s hi => ⟨vs, vs[i]'(by rw [r.1]; exact hi), s.sqt h, get_of _⟩, fun i Φ2 H x H2 d s2 s hd y => by
    obtain ⟨e, y⟩ := y
    subst e
    exact ⟨Φ2, .refl s, (r.2 i x d (y vs ((s2.trans s).sqt h)) hd).same s2⟩, fun H s => ⟨vs, s.sqt h, by rw [r.1]; exact Nat.le_refl _⟩⟩
def rangeD (lo : Int) (n : Nat) : List D := (List.range n).map fun i => D.int (lo + (i : Nat))
theorem rangeD_len (lo : Int) (n : Nat) : (rangeD lo n).length = n := by unfold rangeD; simp
theorem rangeD_at {lo : Int} {n i : Nat} {d : D} (h : (rangeD lo n)[i]? = some d) : i < n ∧ d = .int (lo + (i : Nat)) := by
  have hi : i < n := by have := lt_of_at h; rwa [rangeD_len] at this
  unfold rangeD at h
  rw [List.getElem?_map, List.getElem?_range hi] at h
  cases h
  exact ⟨hi, rfl⟩
theorem steadyD_range {lo : Int} {n : Nat} : SteadyD K (Itr lo n) Φ (rangeD lo n) :=
  ⟨fun i H s hi => by rw [rangeD_len] at hi; exact hi, fun i Φ2 H x H2 d s2 s hd y => by
    obtain ⟨e, y⟩ := y
    subst e y
    rw [(rangeD_at hd).2]
    exact ⟨Φ2, .refl s, .int _⟩, fun H s => by rw [rangeD_len]; exact Nat.le_refl n⟩
def enumD (ds : List D) : List D := ds.zipIdx.map fun p => .tup [.int (p.2 : Nat), p.1]
theorem enumD_len (ds : List D) : (enumD ds).length = ds.length := by unfold enumD; simp
theorem enumD_at {i : Nat} {d : D} (h : (enumD ds)[i]? = some d) : ∃ e, ds[i]? = some e ∧ d = .tup [.int (i : Nat), e] := by
  unfold enumD at h
  rw [List.getElem?_map, List.getElem?_zipIdx] at h
  cases e : ds[i]? with
  | none => rw [e] at h; cases h
  | some x => rw [e] at h; cases h; exact ⟨x, rfl, by simp⟩
theorem Rp.pair {H : Hp} {t : Addr} {d e : D} {x y : V} (h : H t = some (.tup [x, y])) (r1 : Rp K H d x) (r2 : Rp K H e y) : Rp K H (.tup [d, e]) (.ref t) := (RpL.cons r1 (.one r2)).tup (.of h)
theorem steadyD_enum {b : Bool} (h : SqB K b Φ a vs) (r : RpL K Φ ds vs) : SteadyD K (Ite K b a) Φ (enumD ds) :=
  ⟨fun i H s hi => by rw [enumD_len] at hi; exact ⟨vs, vs[i]'(by rw [r.1]; exact hi), SqB.same s h, get_of _⟩, fun i Φ2 H x H2 d s2 s hd y => by
    obtain ⟨t, v, hn, e, e', y⟩ := y
    subst e e'
    obtain ⟨e, he, rfl⟩ := enumD_at hd
    have rv := (r.2 i v e (y vs (SqB.same (s2.trans s) h)) he).same (s2.trans (same_new (s.free hn) (.tup [.int i, v])))
    exact ⟨_, .new s hn _, .pair upd_same (.int _) rv⟩, fun H s => by rw [enumD_len]; exact ⟨vs, SqB.same s h, by rw [r.1]; exact Nat.le_refl _⟩⟩
def zipD (ds es : List D) : List D := List.zipWith (fun x y => .tup [x, y]) ds es
theorem zipD_len (ds es : List D) : (zipD ds es).length = min ds.length es.length := by unfold zipD; simp
theorem zipD_at {i : Nat} {d : D} (h : (zipD ds es)[i]? = some d) : ∃ x y, ds[i]? = some x ∧ es[i]? = some y ∧ d = .tup [x, y] := by
  unfold zipD at h
  rw [List.getElem?_zipWith] at h
  cases e : ds[i]? with
  | none => rw [e] at h; cases h
  | some x =>
    cases e2 : es[i]? with
    | none => rw [e, e2] at h; cases h
    | some y => rw [e, e2] at h; cases h; exact ⟨x, y, rfl, rfl, rfl⟩
theorem steadyD_zip {b1 b2 : Bool} {a1 a2 : Addr} (h1 : SqB K b1 Φ a1 vs) (h2 : SqB K b2 Φ a2 ws) (r1 : RpL K Φ ds vs) (r2 : RpL K Φ es ws) : SteadyD K (Itz K b1 a1 b2 a2) Φ (zipD ds es) :=
  ⟨fun i H s hi => by
    rw [zipD_len] at hi
    have i1 : i < vs.length := by rw [r1.1]; omega
    have i2 : i < ws.length := by rw [r2.1]; omega
    exact ⟨vs, ws, vs[i], ws[i], SqB.same s h1, SqB.same s h2, get_of i1, get_of i2⟩, fun i Φ2 H x H2 d s2 s hd y => by
    obtain ⟨t, u, v, hn, e, e', y1, y2⟩ := y
    subst e e'
    obtain ⟨p, q, hp, hq, rfl⟩ := zipD_at hd
    have sn := s2.trans (same_new (s.free hn) (.tup [u, v]))
    exact ⟨_, .new s hn _, .pair upd_same ((r1.2 i u p (y1 vs (SqB.same (s2.trans s) h1)) hp).same sn) ((r2.2 i v q (y2 ws (SqB.same (s2.trans s) h2)) hq).same sn)⟩, fun H s => by
    rw [zipD_len]
    exact ⟨vs, ws, SqB.same s h1, SqB.same s h2, by rw [r1.1, r2.1]; omega⟩⟩
end
def lI (K : PySem.W.Frag) (t : TDL) : TI := fun σ H R' => ∃ H0 Φ ρ R, EnvD K H0 Φ H σ ρ ∧ t ρ R ∧ ∀ ds Φ' H' J, R ds → Gr Φ H Φ' H' → SteadyD K J Φ' ds → R' J H'
structure PID (K : PySem.W.Frag) (X : Cx) (tg e : Expr) (t : TDL) : Prop where pi : X.K = K → PI X tg e (lI K t)
theorem PI.imp {X : Cx} {tg e : Expr} {t t' : TI} (h : PI X tg e t) (k : ∀ σ H R, t' σ H R → t σ H R) : PI X tg e t' := fun pins s σ H R I hw => h pins s σ H R I (k σ H R hw)
section
variable {K : PySem.W.Frag} {X : Cx} {tg e a b : Expr} {es : List Expr} {pos p tp : Pos} {t ta tb : TD} {tl : TDL}
theorem pg_tupK' {es : List Expr} {k : Nat} {t : TGs} {n : Nat} (hK : X.K = K) (hc : X.calm = true) (h : PGs X es t) (hn : (assignEach es X.env).length = n) (hst : (assignEach es X.env).findIdx? (·.1) = none) : PG X (.Tuple es k pos) (gTup K n t) := hK ▸ pg_tup hc h hn hst
theorem pg_lstK' {es : List Expr} {k : Nat} {t : TGs} {n : Nat} (hK : X.K = K) (hc : X.calm = true) (h : PGs X es t) (hn : (assignEach es X.env).length = n) (hst : (assignEach es X.env).findIdx? (·.1) = none) : PG X (.Tuple es k pos) (gLst K n t) := hK ▸ pg_lst hc h hn hst
def iRange1 (t : TDL) : TDL := fun ρ R => t ρ fun ds => match ds with | [.int j] => (-(2 ^ 62) ≤ j ∧ j < 2 ^ 62) ∧ R (rangeD 0 j.toNat) | _ => False
def iRange2 (t : TDL) : TDL := fun ρ R => t ρ fun ds => match ds with | [.int i, .int j] => (-(2 ^ 62) ≤ i ∧ i < 2 ^ 62 ∧ -(2 ^ 62) ≤ j ∧ j < 2 ^ 62) ∧ R (rangeD i (j - i).toNat) | _ => False
theorem RpL.one_inv {Φ : Hp} {d : D} {vs : List V} (h : RpL K Φ [d] vs) : ∃ v, vs = [v] ∧ Rp K Φ d v := by
  obtain ⟨h1, h2⟩ := h
  match vs, h1, h2 with
  | [v], _, h2 => exact ⟨v, rfl, h2 0 v d rfl rfl⟩
theorem RpL.two_inv {Φ : Hp} {d e : D} {vs : List V} (h : RpL K Φ [d, e] vs) : ∃ v w, vs = [v, w] ∧ Rp K Φ d v ∧ Rp K Φ e w := by
  obtain ⟨h1, h2⟩ := h
  match vs, h1, h2 with
  | [v, w], _, h2 => exact ⟨v, w, rfl, h2 0 v d rfl rfl, h2 1 w e rfl rfl⟩
theorem i_range1 (hg : Gl X "range") (hm : X.mg "range" = none) (ha : PAD K X [a] tl) (hs : starEach [a] X.env = [(false, eval a X.env)] := by rfl) : PID K X tg (.Call (.Name "range" p) [a] [] pos) (iRange1 tl) :=
  ⟨fun hK => (pi_range1 hg hm (ha.pa hK) hs).imp fun σ H R' ⟨H0, Φ, ρ, R, E, t, k⟩ => ⟨H0, Φ, ρ, _, E, t, fun ds Φ1 H1 vs r g rv _ => by
    match ds, r with
    | [.int j], r =>
      obtain ⟨v, rfl, r1⟩ := rv.one_inv
      cases r1
      exact ⟨j, rfl, r.1.1, r.1.2, k _ Φ1 H1 _ r.2 g steadyD_range⟩⟩⟩
theorem i_range2 (hg : Gl X "range") (hm : X.mg "range" = none) (ha : PAD K X [a, b] tl) (hs : starEach [a, b] X.env = [(false, eval a X.env), (false, eval b X.env)] := by rfl) (hs2 : starEach [b] X.env = [(false, eval b X.env)] := by rfl) : PID K X tg (.Call (.Name "range" p) [a, b] [] pos) (iRange2 tl) :=
  ⟨fun hK => (pi_range2 hg hm (ha.pa hK) hs hs2).imp fun σ H R' ⟨H0, Φ, ρ, R, E, t, k⟩ => ⟨H0, Φ, ρ, _, E, t, fun ds Φ1 H1 vs r g rv _ => by
    match ds, r with
    | [.int i, .int j], r =>
      obtain ⟨v, w, rfl, r1, r2⟩ := rv.two_inv
      cases r1
      cases r2
      exact ⟨i, j, rfl, r.1, k _ Φ1 H1 _ r.2 g steadyD_range⟩⟩⟩
end
abbrev TGD := D → Rho → (Rho → Prop) → Prop
abbrev TGDs := List D → Rho → (Rho → Prop) → Prop
def lG (K : PySem.W.Frag) (g : TGD) : TG := fun v σ H Q => ∃ H0 Φ ρ d R, EnvD K H0 Φ H σ ρ ∧ Rp K Φ d v ∧ g d ρ R ∧ ∀ ρ' σ', R ρ' → EnvD K H0 Φ H σ' ρ' → Q σ' H
def lGs (K : PySem.W.Frag) (g : TGDs) : TGs := fun vs σ H Q => ∃ H0 Φ ρ ds R, EnvD K H0 Φ H σ ρ ∧ RpL K Φ ds vs ∧ g ds ρ R ∧ ∀ ρ' σ', R ρ' → EnvD K H0 Φ H σ' ρ' → Q σ' H
structure PGD (K : PySem.W.Frag) (X : Cx) (e : Expr) (g : TGD) : Prop where pg : X.K = K → PG X e (lG K g)
structure PGDs (K : PySem.W.Frag) (X : Cx) (es : List Expr) (g : TGDs) : Prop where pg : X.K = K → PGs X es (lGs K g)
theorem PG.imp {X : Cx} {e : Expr} {t t' : TG} (h : PG X e t) (k : ∀ v σ H Q, t' v σ H Q → t v σ H Q) : PG X e t' := fun pins s σ H v u Q I r hw => h pins s σ H v u Q I r (k v σ H Q hw)
theorem PGs.imp {X : Cx} {e : List Expr} {t t' : TGs} (h : PGs X e t) (k : ∀ v σ H Q, t' v σ H Q → t v σ H Q) : PGs X e t' := fun pins s σ H v u Q I r hw => h pins s σ H v u Q I r (k v σ H Q hw)
section
variable {K : PySem.W.Frag} {X : Cx} {e : Expr} {es : List Expr} {pos : Pos} {g : TGD} {gs : TGDs}
def gSet (i : Nat) : TGD := fun d ρ R => R (ρ.set i (some (.v d)))
theorem g_name {i : Nat} {x : Str} (hN : X.N.Nodup) (hi : X.N[i]? = some x) (hx : Loc X.env.scope x) (hf : X.fn x = true ∨ X.env.scope.names.lookup x = some .local := by first | exact .inl rfl | exact .inr rfl | assumption) : PGD K X (.Name x pos) (gSet i) :=
  ⟨fun _ => (pg_name hN hi hx hf).imp fun v σ H Q ⟨H0, Φ, ρ, d, R, E, r, g, k⟩ => k _ _ g (E.set r i)⟩
def gsNil : TGDs := fun ds ρ R => match ds with | [] => R ρ | _ => False
def gsCons (t : TGD) (u : TGDs) : TGDs := fun ds ρ R => match ds with | d :: r => t d ρ fun ρ' => u r ρ' R | [] => False
theorem gs_nil : PGDs K X [] gsNil := ⟨fun _ => pgs_nil.imp fun v σ H Q ⟨H0, Φ, ρ, ds, R, E, r, g, k⟩ => by
  cases ds with
  | nil => exact ⟨List.length_eq_zero_iff.mp r.1, k _ _ g E⟩
  | cons => exact g.elim⟩
theorem gs_cons (h1 : PGD K X e g) (h2 : PGDs K X es gs) (hs : (assignEach (e :: es) X.env).map (·.2) = assign e X.env :: (assignEach es X.env).map (·.2) := by rfl) : PGDs K X (e :: es) (gsCons g gs) :=
  ⟨fun hK => (pgs_cons (h1.pg hK) (h2.pg hK) hs).imp fun vs σ H Q ⟨H0, Φ, ρ, ds, R, E, r, g, k⟩ => by
    cases ds with
    | nil => exact g.elim
    | cons d ds =>
      cases vs with
      | nil => exact absurd r.1 (by simp)
      | cons v vs =>
        refine ⟨v, vs, rfl, H0, Φ, ρ, d, _, E, r.2 0 v d rfl rfl, g, fun ρ' σ' g' E' => ⟨H0, Φ, ρ', ds, R, E', ⟨by have := r.1; simpa using this, fun i u f hu hf => r.2 (i + 1) u f hu hf⟩, g', k⟩⟩⟩
end
def capR (cap : List (Option Nat)) (ρ : Rho) : Rho := cap.map fun o => o.bind fun i => (ρ[i]?).join
theorem join_some {α : Type} {o : Option (Option α)} {x : α} (h : o.join = some x) : o = some (some x) := by
  cases o with
  | none => cases h
  | some o => cases o with
    | none => cases h
    | some y => cases h; rfl
theorem cap_at {α : Type} {cap : List (Option Nat)} {l : List (Option α)} {i : Nat} {x : α} (h : (cap.map fun o => o.bind fun i => (l[i]?).join)[i]? = some (some x)) : ∃ j, cap[i]? = some (some j) ∧ l[j]? = some (some x) := by
  rw [List.getElem?_map] at h
  cases e : cap[i]? with
  | none => rw [e] at h; cases h
  | some o =>
    rw [e] at h
    cases o with
    | none => cases h
    | some j => exact ⟨j, rfl, join_some (by simpa using h)⟩
theorem EnvD.cap {K : PySem.W.Frag} {H0 Φ H : Hp} {σ : St} {ρ : Rho} {cap : List (Option Nat)} (E : EnvD K H0 Φ H σ ρ) (inj : ∀ i j k : Nat, cap[i]? = some (some k) → cap[j]? = some (some k) → i = j) : EnvD K H0 Φ H (capSt cap σ) (capR cap ρ) := by
  have st : ∀ {i j : Nat} {v : V}, cap[i]? = some (some j) → σ[j]? = some (some v) → (capSt cap σ)[i]? = some (some v) := fun hc hs => by
    unfold capSt
    rw [List.getElem?_map, hc]
    simp [hs]
  have ts : ∀ {i j : Nat} {v : V}, cap[i]? = some (some j) → (capSt cap σ)[i]? = some (some v) → σ[j]? = some (some v) := fun hc hs => by
    obtain ⟨j', h1, h2⟩ := cap_at hs
    rw [hc] at h1
    cases h1
    exact h2
  refine ⟨E.fz, by unfold capSt capR; simp, fun i d h => ?_, fun i ds h => ?_, fun i j ds es p hi hj si sj => ?_⟩
  · obtain ⟨j, h1, h2⟩ := cap_at h
    obtain ⟨v, e, r⟩ := E.sl j d h2
    exact ⟨v, st h1 e, r⟩
  · obtain ⟨j, h1, h2⟩ := cap_at h
    obtain ⟨p, vs, e, q⟩ := E.ow j ds h2
    exact ⟨p, vs, st h1 e, q⟩
  · obtain ⟨i', h1, h2⟩ := cap_at hi
    obtain ⟨j', h3, h4⟩ := cap_at hj
    have := E.ne i' j' ds es p h2 h4 (ts h1 si) (ts h3 sj)
    subst this
    exact inj i j i' h1 h3
end L2
set_option Elab.async false
set_option linter.all false
set_option maxRecDepth 100000
set_option maxHeartbeats 4000000
namespace L2
open PySem PySem.Spec PyProof.Rows
structure GK (k : Nat) (g : TGD) : Prop where p : ∀ d ρ R, g d ρ R → g d ρ fun ρ1 => ρ1.length = ρ.length ∧ ρ1.drop k = ρ.drop k ∧ R ρ1
structure GKs (k : Nat) (g : TGDs) : Prop where p : ∀ ds ρ R, g ds ρ R → g ds ρ fun ρ1 => ρ1.length = ρ.length ∧ ρ1.drop k = ρ.drop k ∧ R ρ1
theorem gk_set {k i : Nat} (h : i < k) : GK k (gSet i) := ⟨fun d ρ R r => ⟨by simp, by rw [List.drop_set_of_lt h], r⟩⟩
theorem gk_nil {k : Nat} : GKs k gsNil := ⟨fun ds ρ R r => by
  cases ds with
  | nil => exact ⟨rfl, rfl, r⟩
  | cons => exact r⟩
theorem gsCons_mono {t : TGD} {u : TGDs} (ht : ∀ d ρ R R', (∀ x, R x → R' x) → t d ρ R → t d ρ R') (hu : ∀ d ρ R R', (∀ x, R x → R' x) → u d ρ R → u d ρ R') : ∀ d ρ R R', (∀ x, R x → R' x) → gsCons t u d ρ R → gsCons t u d ρ R' := by
  intro ds ρ R R' h r
  cases ds with
  | nil => exact r
  | cons d ds => exact ht d ρ _ _ (fun x hx => hu ds x _ _ h hx) r
structure GM (k : Nat) (g : TGD) : Prop where
  k : GK k g
  m : ∀ d ρ R R', (∀ x, R x → R' x) → g d ρ R → g d ρ R'
structure GMs (k : Nat) (g : TGDs) : Prop where
  k : GKs k g
  m : ∀ d ρ R R', (∀ x, R x → R' x) → g d ρ R → g d ρ R'
theorem gm_set {k i : Nat} (h : i < k) : GM k (gSet i) := ⟨gk_set h, fun d ρ R R' h r => h _ r⟩
theorem gm_nil {k : Nat} : GMs k gsNil := ⟨gk_nil, fun ds ρ R R' h r => by
  cases ds with
  | nil => exact h _ r
  | cons => exact r⟩
theorem gm_cons {k : Nat} {t : TGD} {u : TGDs} (h1 : GM k t) (h2 : GMs k u) : GMs k (gsCons t u) := ⟨⟨fun ds ρ R r => by
  cases ds with
  | nil => exact r
  | cons d ds =>
    have r1 : t d ρ fun ρ' => u ds ρ' R := r
    refine h1.m _ _ _ _ (fun ρ1 q => ?_) (h1.k.p d ρ _ r1)
    exact h2.m _ _ _ _ (fun ρ2 q2 => ⟨q2.1.trans q.1, q2.2.1.trans q.2.1, q2.2.2⟩) (h2.k.p ds ρ1 R q.2.2)⟩, gsCons_mono h1.m h2.m⟩
def zTrue : TDB := fun _ R => R true
structure PIfD (K : PySem.W.Frag) (X : Cx) (ifs : List Expr) (t : TDB) : Prop where p : X.K = K → PIfs X ifs (lT K t)
theorem if_nil {K : PySem.W.Frag} {X : Cx} : PIfD K X [] zTrue := ⟨fun _ pins s σ H Q I ⟨H0, Φ, ρ, R, E, t, k⟩ => pifs_nil pins s σ H Q I (k true Φ H t (.refl E.fz))⟩
theorem EnvD.side {K : PySem.W.Frag} {H0 Φ H : Hp} {σ : St} {ρ : Rho} {p : Addr} {o u : HO} (E : EnvD K H0 Φ H σ ρ) (h0 : H0 p = some u) (hn : Φ p = none) : EnvD K H0 Φ (upd H p o) σ ρ :=
  ⟨fun b w e => by rw [upd_ne (ne_of_none e hn)]; exact E.fz b w e, E.len, E.sl, fun i ds h => by
    obtain ⟨q, vs, e, q0, qn, qp, qr⟩ := E.ow i ds h
    exact ⟨q, vs, e, q0, qn, by rw [upd_ne fun z => by rw [z, h0] at q0; cases q0]; exact qp, qr⟩, E.ne⟩
theorem EnvD.base {K : PySem.W.Frag} {H0 Φ H : Hp} {σ : St} {ρ : Rho} {p : Addr} {u : HO} (E : EnvD K H0 Φ H σ ρ) (hp : H p = none) : EnvD K (upd H0 p u) Φ H σ ρ :=
  ⟨E.fz, E.len, E.sl, fun i ds h => by
    obtain ⟨q, vs, e, q0, qn, qp, qr⟩ := E.ow i ds h
    exact ⟨q, vs, e, by rw [upd_ne (ne_of_none qp hp)]; exact q0, qn, qp, qr⟩, E.ne⟩
theorem fm_snoc (ys : List (Option D)) (y : D) : (ys ++ [some y]).filterMap id = ys.filterMap id ++ [y] := by simp
theorem fm_snocN (ys : List (Option D)) : (ys ++ [none]).filterMap id = ys.filterMap id := by simp
theorem fm_len (ys : List (Option D)) : (ys.filterMap id).length ≤ ys.length := List.length_filterMap_le _ _
theorem snoc_all {α : Type} {ys : List α} {y : α} {P : Nat → α → Prop} {n : Nat} (hl : ys.length = n) (h : ∀ i z, ys[i]? = some z → P i z) (hy : P n y) : ∀ i z, (ys ++ [y])[i]? = some z → P i z := by
  intro i z hz
  rcases Nat.lt_or_ge i ys.length with c | c
  · rw [List.getElem?_append_left c] at hz
    exact h i z hz
  · rw [List.getElem?_append_right c] at hz
    have h0 : i - ys.length = 0 := by
      rcases Nat.eq_zero_or_pos (i - ys.length) with e | e
      · exact e
      · rw [List.getElem?_eq_none (by simp only [List.length_cons, List.length_nil]; omega)] at hz; cases hz
    rw [h0] at hz
    cases hz
    have : i = n := by omega
    subst this
    exact hy
def capOk (k : Nat) (cap : List (Option Nat)) : Bool := (cap.take k).all (·.isNone) && decide ((cap.filterMap id).Nodup)
theorem capOk_own {k : Nat} {cap : List (Option Nat)} (h : capOk k cap = true) {i : Nat} (hi : i < k) {o : Option Nat} (e : cap[i]? = some o) : o = none := by
  unfold capOk at h
  rw [Bool.and_eq_true] at h
  have := List.all_eq_true.mp h.1 o (List.mem_of_getElem? (i := i) (by rw [List.getElem?_take_of_lt hi]; exact e))
  cases o with
  | none => rfl
  | some _ => cases this
theorem capOk_inj {k : Nat} {cap : List (Option Nat)} (h : capOk k cap = true) : ∀ i j n : Nat, cap[i]? = some (some n) → cap[j]? = some (some n) → i = j := by
  unfold capOk at h
  rw [Bool.and_eq_true] at h
  have nd := of_decide_eq_true h.2
  clear h
  induction cap with
  | nil => intro i j n hi; simp at hi
  | cons o cap ih =>
    intro i j n hi hj
    have nd' : (cap.filterMap id).Nodup := by
      cases o with
      | none => simpa using nd
      | some m => have e : (some m :: cap).filterMap id = m :: cap.filterMap id := rfl
                  rw [e] at nd; exact (List.nodup_cons.mp nd).2
    have one : ∀ {i : Nat}, o = some n → cap[i]? = some (some n) → False := fun {i} ho hi' => by
      subst ho
      have e : (some n :: cap).filterMap id = n :: cap.filterMap id := rfl
      rw [e] at nd
      exact (List.nodup_cons.mp nd).1 (List.mem_filterMap.mpr ⟨some n, List.mem_of_getElem? hi', rfl⟩)
    cases i with
    | zero => cases j with
      | zero => rfl
      | succ j => exact (one (by simpa using hi) (by simpa using hj)).elim
    | succ i => cases j with
      | zero => exact (one (by simpa using hj) (by simpa using hi)).elim
      | succ j => exact congrArg Nat.succ (ih nd' i j n (by simpa using hi) (by simpa using hj))
section
variable {K : PySem.W.Frag} {X : Cx} {tg iter elt : Expr} {ifs : List Expr} {scope : Scope} {pos : Pos} {N' : List Str} {cap : List (Option Nat)} {ti : TDL} {g : TGD} {tc : TDB} {te : TD}
theorem comp_core {k : Nat} (hcap : capOk k cap = true) (hk : GM k g) {σ : St} {H : Hp} {Q : VK} {H0 Φ : Hp} {ρ : Rho} {R W : List D → Prop} (E : EnvD K H0 Φ H σ ρ) (t : ti ρ W)
    (conv : ∀ ds, W ds → ds.length < sizeLine ∧ ∃ P : Nat → Option D → Prop, (∀ i d, ds[i]? = some d → g d (capR cap ρ) fun ρ1 => tc ρ1 fun b => (b = true → te ρ1 fun y => P i (some y)) ∧ (b = false → P i none)) ∧ ∀ ys : List (Option D), ys.length = ds.length → (∀ i y, ys[i]? = some y → P i y) → R (ys.filterMap id))
    (kk : ∀ ds Φ' H' p vs, R ds → Gr Φ H Φ' H' → H p = none → Φ' p = none → H' p = some (.lst vs) → RpL K Φ' ds vs → Q (.ref p) H') : tComp (lI K ti) cap (lG K g) (lT K tc) (lE K te) σ H Q := by
  refine ⟨H0, Φ, ρ, W, E, t, fun ds Φ1 H1 J hW g1 S Dd hD => ?_⟩
  obtain ⟨hlen, P, hp, hr⟩ := conv ds hW
  have E1 := E.gr g1
  have hDΦ : Φ1 Dd = none := g1.s.free hD
  have C0 : EnvD K (upd H0 Dd (.lst [])) Φ1 (upd H1 Dd (.lst [])) (capSt cap σ) (capR cap ρ) := ((E1.base (u := .lst []) hD).side (o := .lst []) upd_same hDΦ).cap (capOk_inj hcap)
  refine ⟨fun i m σ' H' => m = ds.length - i ∧ i ≤ ds.length ∧ ∃ (Φ' : Hp) (vs : List V) (ys : List (Option D)), EnvD K (upd H0 Dd (.lst [])) Φ' H' σ' (capR cap ρ) ∧ Gr Φ1 H1 Φ' H' ∧ Φ' Dd = none ∧ H' Dd = some (.lst vs) ∧ RpL K Φ' (ys.filterMap id) vs ∧ ys.length = i ∧ ∀ j y, ys[j]? = some y → P j y, ⟨ds.length, by simp, Nat.zero_le _, Φ1, [], [], C0, .fresh g1.s hD _, hDΦ, upd_same, .nil, rfl, fun j y hj => by simp at hj⟩, ?_⟩
  rintro i m σ' H' ⟨rfl, hi, Φ', vs, ys, Ei, gi, hDi, hDl, hrl, hyl, hy⟩
  by_cases hlt : i < ds.length
  · refine .inr ⟨S.go i H' (gi.f.trans gi.s) hlt, fun σ2 H2 => ∃ (Φ' : Hp) (vs : List V) (ys : List (Option D)), EnvD K (upd H0 Dd (.lst [])) Φ' H2 σ2 (capR cap ρ) ∧ Gr Φ1 H1 Φ' H2 ∧ Φ' Dd = none ∧ H2 Dd = some (.lst vs) ∧ RpL K Φ' (ys.filterMap id) vs ∧ ys.length = i + 1 ∧ ∀ j y, ys[j]? = some y → P j y, fun σ2 H2 h2 => ⟨ds.length - (i + 1), by omega, rfl, hlt, h2⟩, fun x H2 y => ?_⟩
    obtain ⟨Φ3, g3, rx⟩ := S.yl i Φ' H' x H2 _ gi.f gi.s (get_of hlt) y
    have E3 := Ei.gr g3
    refine ⟨_, Φ3, capR cap ρ, _, _, E3, rx, hk.k.p _ _ _ (hp i _ (get_of hlt)), fun ρ1 σ3 ⟨hl1, hd1, t1⟩ E4 => ?_⟩
    have wk : ∀ (j : Nat) x, (capR cap ρ)[j]? = some (some x) → ρ1[j]? = some (some x) := fun j x hj => by
      rcases Nat.lt_or_ge j k with c | c
      · obtain ⟨n, h1, _⟩ := cap_at hj
        cases capOk_own hcap c h1
      · have e1 : (capR cap ρ)[j]? = ((capR cap ρ).drop k)[j - k]? := by rw [List.getElem?_drop]; congr 1; omega
        have e2 : ρ1[j]? = (ρ1.drop k)[j - k]? := by rw [List.getElem?_drop]; congr 1; omega
        rw [e2, hd1, ← e1]
        exact hj
    have hD3 : Φ3 Dd = none := g3.o _ _ hDl hDi
    refine ⟨_, Φ3, ρ1, _, E4, t1, fun b Φ4 H4 rb g4 => ?_⟩
    have E5 := (E4.gr g4)
    have hDl4 := g4.h _ _ (g3.h _ _ hDl)
    have hD4 : Φ4 Dd = none := g4.o _ _ (g3.h _ _ hDl) hD3
    cases b with
    | false =>
      refine iteF ?_
      refine ⟨Φ4, vs, ys ++ [none], E5.weak hl1.symm wk, (gi.trans g3).trans g4, hD4, hDl4, ?_, by rw [List.length_append, hyl]; rfl, snoc_all hyl hy (rb.2 rfl)⟩
      rw [fm_snocN]
      exact (hrl.same g3.f).same g4.f
    | true =>
      refine iteT ?_
      refine ⟨_, Φ4, ρ1, _, E5, rb.1 rfl, fun d Φ5 H5 v rd g5 rv => ?_⟩
      have E6 := E5.gr g5
      have hDl5 := g5.h _ _ hDl4
      have hD5 : Φ5 Dd = none := g5.o _ _ hDl4 hD4
      have gg := ((gi.trans g3).trans g4).trans g5
      refine ⟨vs, hDl5, ?_, Φ5, vs ++ [v], ys ++ [some d], (E6.weak hl1.symm wk).side upd_same hD5, ?_, hD5, upd_same, ?_, by rw [List.length_append, hyl]; rfl, snoc_all hyl hy rd⟩
      · have := fm_len ys
        rw [hrl.1]
        omega
      · exact ⟨gg.f, same_upd gg.h hD _, fun b u e => by rw [upd_ne (ne_of_none e hD5)]; exact gg.s b u e, gg.o⟩
      · rw [fm_snoc]
        exact (((hrl.same g3.f).same g4.f).same g5.f).append (.one rv)
  · have e : i = ds.length := by omega
    subst e
    exact .inl ⟨S.stop H' (gi.f.trans gi.s), kk _ Φ' H' Dd vs (hr ys hyl hy) (g1.trans gi) (g1.h.free hD) hDi hDl hrl⟩
def fCompN (ti : TDL) (cap : List (Option Nat)) (g : TGD) (te : TD) : TDL := fun ρ R => ti ρ fun ds => ds.length < sizeLine ∧ ∃ P : Nat → D → Prop,
  (∀ i d, ds[i]? = some d → g d (capR cap ρ) fun ρ1 => te ρ1 (P i)) ∧ ∀ ys : List D, ys.length = ds.length → (∀ i y, ys[i]? = some y → P i y) → R ys
def optP (P : Nat → D → Prop) : Nat → Option D → Prop := fun i o => match o with | some y => P i y | none => False
theorem all_some {P : Nat → D → Prop} : ∀ (ys : List (Option D)), (∀ (i : Nat) y, ys[i]? = some y → ∃ z, y = some z) → ∃ zs : List D, ys = zs.map some
  | [], _ => ⟨[], rfl⟩
  | y :: ys, h => by
    obtain ⟨z, rfl⟩ := h 0 y rfl
    obtain ⟨zs, rfl⟩ := all_some (P := P) ys fun i y hy => h (i + 1) y hy
    exact ⟨z :: zs, rfl⟩
theorem compN_conv {ds : List D} {ρ : Rho} {R : List D → Prop} (h : ds.length < sizeLine ∧ ∃ P : Nat → D → Prop, (∀ i d, ds[i]? = some d → g d (capR cap ρ) fun ρ1 => te ρ1 (P i)) ∧ ∀ ys : List D, ys.length = ds.length → (∀ i y, ys[i]? = some y → P i y) → R ys) {k : Nat} (hk : GM k g) :
    ds.length < sizeLine ∧ ∃ P : Nat → Option D → Prop, (∀ i d, ds[i]? = some d → g d (capR cap ρ) fun ρ1 => zTrue ρ1 fun b => (b = true → te ρ1 fun y => P i (some y)) ∧ (b = false → P i none)) ∧ ∀ ys : List (Option D), ys.length = ds.length → (∀ i y, ys[i]? = some y → P i y) → R (ys.filterMap id) := by
  obtain ⟨h0, P, h1, h2⟩ := h
  refine ⟨h0, optP P, fun i d hd => hk.m _ _ _ _ (fun ρ1 q => ⟨fun _ => q, fun e => by cases e⟩) (h1 i d hd), fun ys hl hy => ?_⟩
  obtain ⟨zs, rfl⟩ := all_some (P := P) ys fun i y e => by
    have := hy i y e
    cases y with
    | none => exact this.elim
    | some z => exact ⟨z, rfl⟩
  rw [List.filterMap_map]
  have e : zs.filterMap (id ∘ some) = zs := by simp
  rw [e]
  refine h2 zs (by simpa using hl) fun i y e => ?_
  exact hy i (some y) (by rw [List.getElem?_map, e]; rfl)
theorem comp_liftN {k : Nat} (hcap : capOk k cap = true) (hk : GM k g) {σ : St} {H : Hp} {Q : VK} (h : lF K (fCompN ti cap g te) σ H Q) : tComp (lI K ti) cap (lG K g) (lT K zTrue) (lE K te) σ H Q := by
  obtain ⟨H0, Φ, ρ, R, E, t, kk⟩ := h
  exact comp_core hcap hk E t (fun ds h => compN_conv h hk) kk
theorem f_compN {k : Nat} (hcalm : X.calm = true) (S : CompScope X.N X.env.scope scope N' cap) (hcap : capOk k cap = true) (hk : GM k g) (hi : PID K X tg iter ti)
    (hg : ∀ (cl : List (Str × Addr)) (fp : List Addr) (C : Addr) (s0 : Shared) (H0 : Hp), PGD K (cxComp X scope N' cl C s0 H0 fp) tg g)
    (he : ∀ (cl : List (Str × Addr)) (fp : List Addr) (C : Addr) (s0 : Shared) (H0 : Hp), PD K (cxComp X scope N' cl C s0 H0 fp) elt te) (hs : ∀ x, foldedSetIterable iter X.env x = pure x := by intro _; rfl) : PF K X (.ListComp elt [⟨tg, iter, [], 0⟩] scope pos) (fCompN ti cap g te) :=
  ⟨fun hK => (pe_comp hcalm S (hi.pi hK) (fun cl fp C s0 H0 => (hg cl fp C s0 H0).pg hK) (fun cl fp C s0 H0 => (if_nil (K := K)).p hK) (fun cl fp C s0 H0 => (he cl fp C s0 H0).pe hK) hs).imp fun _ _ _ => comp_liftN hcap hk⟩
end
end L2
set_option Elab.async false
set_option linter.all false
set_option maxRecDepth 100000
set_option maxHeartbeats 4000000
namespace L2
open PySem PySem.Spec PyProof.Rows
structure EndsD where
  nx : Rho → Prop
  rt : D → Prop
  bk : Rho → Prop := fun _ => False
  ct : Rho → Prop := fun _ => False
abbrev TSD := EndsD → Rho → Prop
def EnK (K : PySem.W.Frag) (Φ0 H0 : Hp) (P : Rho → Prop) (Q : St → Hp → Prop) : Prop := ∀ ρ' Φ' H' σ', P ρ' → Gr Φ0 H0 Φ' H' → EnvD K H0 Φ' H' σ' ρ' → Q σ' H'
structure EndOk (K : PySem.W.Frag) (Φ0 H0 : Hp) (De : EndsD) (E : Ends) : Prop where
  nx : EnK K Φ0 H0 De.nx E.nx
  rt : ∀ d Φ' H' v, De.rt d → Gr Φ0 H0 Φ' H' → Rp K Φ' d v → E.rt v H'
  bk : EnK K Φ0 H0 De.bk E.bk
  ct : EnK K Φ0 H0 De.ct E.ct
def lS (K : PySem.W.Frag) (t : TSD) : TS := fun E σ H => ∃ Φ0 H0 Φ ρ De, Gr Φ0 H0 Φ H ∧ EnvD K H0 Φ H σ ρ ∧ t De ρ ∧ EndOk K Φ0 H0 De E
structure PSD (K : PySem.W.Frag) (X : Cx) (st : Stmt) (t : TSD) : Prop where ps : X.K = K → PS X st (lS K t)
structure PSsD (K : PySem.W.Frag) (X : Cx) (st : List Stmt) (t : TSD) : Prop where ps : X.K = K → PSs X st (lS K t)
section
variable {K : PySem.W.Frag} {X : Cx} {st : Stmt} {rest : List Stmt} {t u : TSD} {e a : Expr} {te : TD} {tf : TDL} {pos : Pos} {tt : TDB}
def sNext : TSD := fun De ρ => De.nx ρ
def sSeq (t u : TSD) : TSD := fun De ρ => t { De with nx := u De } ρ
def sCut (t u : TSD) : TSD := fun De ρ => ∃ I : Rho → Prop, t { De with nx := I } ρ ∧ ∀ ρ', I ρ' → u De ρ'
theorem s_nil : PSsD K X [] sNext := ⟨fun _ => pss_nil.imp fun E σ H ⟨Φ0, H0, Φ, ρ, De, g, V, t, k⟩ => k.nx ρ Φ H σ t g V⟩
theorem s_cons (h1 : PSD K X st t) (h2 : PSsD K X rest u) : PSsD K X (st :: rest) (sSeq t u) := ⟨fun hK => (pss_cons (h1.ps hK) (h2.ps hK)).imp fun E σ H ⟨Φ0, H0, Φ, ρ, De, g, V, t, k⟩ =>
  ⟨Φ0, H0, Φ, ρ, _, g, V, t, ⟨fun ρ' Φ' H' σ' t' g' V' => ⟨Φ0, H0, Φ', ρ', De, g', V', t', k⟩, k.rt, k.bk, k.ct⟩⟩⟩
theorem s_cut (h1 : PSD K X st t) (h2 : PSsD K X rest u) : PSsD K X (st :: rest) (sCut t u) := ⟨fun hK => (pss_cons (h1.ps hK) (h2.ps hK)).imp fun E σ H ⟨Φ0, H0, Φ, ρ, De, g, V, ⟨I, t, c⟩, k⟩ =>
  ⟨Φ0, H0, Φ, ρ, _, g, V, t, ⟨fun ρ' Φ' H' σ' t' g' V' => ⟨Φ0, H0, Φ', ρ', De, g', V', c ρ' t', k⟩, k.rt, k.bk, k.ct⟩⟩⟩
theorem s_one (h1 : PSD K X st t) : PSsD K X [st] t := ⟨fun hK => pss_one (h1.ps hK)⟩
def sFrz (i : Nat) (t : TSD) : TSD := fun De ρ => t De (frz i ρ)
theorem s_frz (i : Nat) (h : PSsD K X rest t) : PSsD K X rest (sFrz i t) := ⟨fun hK => (h.ps hK).imp fun E σ H ⟨Φ0, H0, Φ, ρ, De, g, V, t, k⟩ => by
  obtain ⟨Φ', g', V'⟩ := V.frz g i
  exact ⟨Φ0, H0, Φ', L2.frz i ρ, De, g', V', t, k⟩⟩
def sSet (i : Nat) (te : TD) : TSD := fun De ρ => te ρ fun d => De.nx (ρ.set i (some (.v d)))
theorem set_lift {i : Nat} {E : Ends} {σ : St} {H : Hp} (h : lS K (sSet i te) E σ H) : tAsg (lE K te) (gName i) E σ H := by
  obtain ⟨Φ0, H0, Φ, ρ, De, g, V, t, k⟩ := h
  exact ⟨H0, Φ, ρ, _, V, t, fun d Φ1 H1 v r g1 rv => k.nx _ Φ1 H1 _ r (g.trans g1) ((V.gr g1).set rv i)⟩
theorem s_set {i : Nat} {x : Str} {pos' : Pos} (hN : X.N.Nodup) (hi : X.N[i]? = some x) (hx : Loc X.env.scope x) (he : PD K X e te) (hs : swapsWith e (some (.Name x pos')) pos.line X.env = pure false := by rfl) (hf : X.fn x = true ∨ X.env.scope.names.lookup x = some .local := by first | exact .inl rfl | exact .inr rfl | assumption) :
    PSD K X (.Assign [.Name x pos'] e pos) (sSet i te) := ⟨fun hK => (ps_set hN hi hx (he.pe hK) hs hf).imp fun _ _ _ => set_lift⟩
def sOwn (i : Nat) (tf : TDL) : TSD := fun De ρ => tf ρ fun ds => De.nx (ρ.set i (some (.own ds)))
theorem own_lift' {i : Nat} {E : Ends} {σ : St} {H : Hp} (h : lS K (sOwn i tf) E σ H) : lF K tf σ H fun v H' => gName i v σ H' E.nx := by
  obtain ⟨Φ0, H0, Φ, ρ, De, g, V, t, k⟩ := h
  refine ⟨H0, Φ, ρ, _, V, t, fun ds Φ1 H1 p vs r g1 hp hn hl rl => k.nx _ Φ1 H1 _ r (g.trans g1) ((V.gr g1).setOwn rl (g.h.free hp) hn hl (fun j es hj z => ?_) i)⟩
  obtain ⟨q, ws, e, _, _, hq, _⟩ := V.ow j es hj
  rw [e] at z
  cases z
  rw [hp] at hq
  cases hq
theorem s_own {i : Nat} {x : Str} {pos' : Pos} (hN : X.N.Nodup) (hi : X.N[i]? = some x) (hx : Loc X.env.scope x) (he : PF K X e tf) (hs : swapsWith e (some (.Name x pos')) pos.line X.env = pure false := by rfl) (hf : X.fn x = true ∨ X.env.scope.names.lookup x = some .local := by first | exact .inl rfl | exact .inr rfl | assumption) :
    PSD K X (.Assign [.Name x pos'] e pos) (sOwn i tf) := ⟨fun hK => (ps_set hN hi hx (he.pe hK) hs hf).imp fun _ _ _ h => own_lift' h⟩
def sRet (te : TD) : TSD := fun De ρ => te ρ De.rt
theorem s_ret (he : PD K X e te) : PSD K X (.Return (some e) pos) (sRet te) :=
  ⟨fun hK => (ps_ret (he.pe hK)).imp fun E σ H ⟨Φ0, H0, Φ, ρ, De, g, V, t, k⟩ => ⟨H0, Φ, ρ, _, V, t, fun d Φ1 H1 v r g1 rv => k.rt d Φ1 H1 v r (g.trans g1) rv⟩⟩
def sIf (c : TDB) (t u : TSD) : TSD := fun De ρ => c ρ fun b => (b = true → t De ρ) ∧ (b = false → u De ρ)
theorem s_if {c : Expr} {a b : List Stmt} (hc : PTD K X c tt) (ha : PSsD K X a t) (hb : PSsD K X b u) : PSD K X (.If c a b pos) (sIf tt t u) :=
  ⟨fun hK => (ps_if (hc.pt hK) (ha.ps hK) (hb.ps hK)).imp fun E σ H ⟨Φ0, H0, Φ, ρ, De, g, V, t, k⟩ => ⟨H0, Φ, ρ, _, V, t, fun c Φ1 H1 r g1 => by
    cases c with
    | true => refine iteT ?_; exact ⟨Φ0, H0, Φ1, ρ, De, g.trans g1, V.gr g1, r.1 rfl, k⟩
    | false => refine iteF ?_; exact ⟨Φ0, H0, Φ1, ρ, De, g.trans g1, V.gr g1, r.2 rfl, k⟩⟩⟩
def sAsg (te : TD) (g : TGD) : TSD := fun De ρ => te ρ fun d => g d ρ De.nx
theorem s_asg {tg : Expr} {gd : TGD} (he : PD K X e te) (hg : PGD K X tg gd) (hs : swapsWithSole [tg] e pos.line X.env = pure false := by rfl) (hw : swappedStores [tg] e X.env = pure none := by rfl)
    (h1 : (assignEach [tg] X.env).map (·.2) = [assign tg X.env] := by rfl) : PSD K X (.Assign [tg] e pos) (sAsg te gd) :=
  ⟨fun hK => (ps_asg (he.pe hK) (hg.pg hK) hs hw h1).imp fun E σ H ⟨Φ0, H0, Φ, ρ, De, g, V, t, k⟩ => ⟨H0, Φ, ρ, _, V, t, fun d Φ1 H1 v r g1 rv => ⟨H0, Φ1, ρ, d, _, V.gr g1, rv, r, fun ρ' σ' r' V' => k.nx ρ' Φ1 H1 σ' r' (g.trans g1) V'⟩⟩⟩
def sFor (ti : TDL) (gd : TGD) (tb : TSD) : TSD := fun De ρ => ti ρ fun ds => ∃ I : Nat → Rho → Prop, I 0 ρ ∧ (∀ i d ρ', ds[i]? = some d → I i ρ' → gd d ρ' fun ρ2 => tb { De with nx := I (i + 1), ct := I (i + 1), bk := De.nx } ρ2) ∧ ∀ ρ', I ds.length ρ' → De.nx ρ'
theorem s_for {tg iter : Expr} {body : List Stmt} {ti : TDL} {gd : TGD} {tb : TSD} (hp : PassesOwn (model X.prog X.w) X.A X.env X.xe) (hc : X.calm = true) (hi : PID K X tg iter ti) (hg : PGD K X tg gd) (hb : PSsD K X body tb)
    (hs : ∀ x, foldedSetIterable iter X.env x = pure x := by intro _; rfl) : PSD K X (.For tg iter body [] pos) (sFor ti gd tb) :=
  ⟨fun hK => (ps_for hp hc (hi.pi hK) (hg.pg hK) (hb.ps hK) hs).imp fun E σ H ⟨Φ0, H0, Φ, ρ, De, g, V, t, k⟩ => by
    refine ⟨H0, Φ, ρ, _, V, t, fun ds Φ1 H1 J ⟨I, h0, hst, hend⟩ g1 S => ?_⟩
    refine ⟨fun i m σ H' => m = ds.length - i ∧ i ≤ ds.length ∧ ∃ Φ' ρ', Gr Φ0 H0 Φ' H' ∧ Same Φ1 Φ' ∧ EnvD K H0 Φ' H' σ ρ' ∧ I i ρ', ⟨ds.length, by simp, Nat.zero_le _, Φ1, ρ, g.trans g1, Same.refl _, V.gr g1, h0⟩, ?_⟩
    rintro i m σ' H' ⟨rfl, hi, Φ', ρ', g', s', V', hI⟩
    by_cases hlt : i < ds.length
    · refine .inr ⟨S.go i H' (s'.trans V'.fz) hlt, fun σ2 H2 => ∃ Φ' ρ', Gr Φ0 H0 Φ' H2 ∧ Same Φ1 Φ' ∧ EnvD K H0 Φ' H2 σ2 ρ' ∧ I (i + 1) ρ', fun σ2 H2 h2 => ⟨ds.length - (i + 1), by omega, rfl, hlt, h2⟩, fun x H2 y => ?_⟩
      obtain ⟨Φ3, g3, rx⟩ := S.yl i Φ' H' x H2 _ s' V'.fz (get_of hlt) y
      refine ⟨H0, Φ3, ρ', _, _, V'.gr g3, rx, hst i _ ρ' (get_of hlt) hI, fun ρ2 σ3 t2 V3 => ?_⟩
      -- the frozen heap of the turn is kept through the body
      refine ⟨Φ3, H0, Φ3, ρ2, _, ?_, V3, t2, ⟨?_, ?_, ?_, ?_⟩⟩
      · exact ⟨Same.refl _, (g'.trans g3).h, g3.s, fun p u hp hn => hn⟩
      · intro ρ4 Φ4 H4 σ4 t4 g4 V4
        exact ⟨Φ4, ρ4, (g'.trans g3).join g4, (s'.trans g3.f).trans g4.f, V4, t4⟩
      · intro d Φ4 H4 v r g4 rv
        exact k.rt d Φ4 H4 v r ((g'.trans g3).join g4) rv
      · intro ρ4 Φ4 H4 σ4 t4 g4 V4
        exact k.nx ρ4 Φ4 H4 σ4 t4 ((g'.trans g3).join g4) V4
      · intro ρ4 Φ4 H4 σ4 t4 g4 V4
        exact ⟨Φ4, ρ4, (g'.trans g3).join g4, (s'.trans g3.f).trans g4.f, V4, t4⟩
    · have e : i = ds.length := by omega
      subst e
      exact .inl ⟨S.stop H' (s'.trans V'.fz), k.nx ρ' Φ' H' σ' (hend ρ' hI) g' V'⟩⟩
end
end L2
set_option Elab.async false
set_option linter.all false
set_option maxRecDepth 100000
set_option maxHeartbeats 4000000
namespace L2
open PySem PySem.Spec PyProof.Rows
section
variable {K : PySem.W.Frag} {X : Cx} {tg iter elt e a : Expr} {ifs : List Expr} {scope : Scope} {pos py spos : Pos} {N' : List Str} {cap : List (Option Nat)} {ti : TDL} {g : TGD} {tc : TDB} {te ta tb : TD} {i : Nat} {y : Str}
theorem compset_lift {tf : TDL} {E : Ends} {σ : St} {H : Hp} (lift : ∀ {σ : St} {H : Hp} {Q : VK}, lF K tf σ H Q → tComp (lI K ti) cap (lG K g) (lT K tc) (lE K te) σ H Q) (h : lS K (sSet i (dOfF tf)) E σ H) : tAsg (tComp (lI K ti) cap (lG K g) (lT K tc) (lE K te)) (gName i) E σ H := by
  obtain ⟨Φ0, H0, Φ, ρ, De, gg, V, t, kk⟩ := h
  exact lift ⟨H0, Φ, ρ, _, V, t, fun ds Φ' H' p vs r g1 h0 hn hp rr => kk.nx _ _ H' _ r (gg.trans (g1.freeze h0 hn hp)) ((V.gr (g1.freeze h0 hn hp)).set ((rr.same (same_new hn _)).lst upd_same) i)⟩
theorem s_compN {k : Nat} (hcalm : X.calm = true) (hN : X.N.Nodup) (hy : X.N[i]? = some y) (hx : Loc X.env.scope y) (S : CompScope X.N X.env.scope scope N' cap) (hcap : capOk k cap = true) (hk : GM k g) (hi : PID K X tg iter ti)
    (hg : ∀ (cl : List (Str × Addr)) (fp : List Addr) (C : Addr) (s0 : Shared) (H0 : Hp), PGD K (cxComp X scope N' cl C s0 H0 fp) tg g)
    (he : ∀ (cl : List (Str × Addr)) (fp : List Addr) (C : Addr) (s0 : Shared) (H0 : Hp), PD K (cxComp X scope N' cl C s0 H0 fp) elt te) (hsw : swapsWith (.ListComp elt [⟨tg, iter, [], 0⟩] scope pos) (some (.Name y py)) spos.line X.env = pure true := by rfl)
    (hs : ∀ x, foldedSetIterable iter X.env x = pure x := by intro _; rfl) (hf : X.fn y = true ∨ X.env.scope.names.lookup y = some .local := by first | exact .inl rfl | exact .inr rfl | assumption) :
    PSD K X (.Assign [.Name y py] (.ListComp elt [⟨tg, iter, [], 0⟩] scope pos) spos) (sSet i (dOfF (fCompN ti cap g te))) :=
  ⟨fun hK => (ps_comp hcalm hN hy hx S (hi.pi hK) (fun cl fp C s0 H0 => (hg cl fp C s0 H0).pg hK) (fun cl fp C s0 H0 => (if_nil (K := K)).p hK) (fun cl fp C s0 H0 => (he cl fp C s0 H0).pe hK) hsw hs hf).imp fun _ _ _ h => compset_lift (fun q => comp_liftN hcap hk q) h⟩
theorem compown_lift {tf : TDL} {E : Ends} {σ : St} {H : Hp} (lift : ∀ {σ : St} {H : Hp} {Q : VK}, lF K tf σ H Q → tComp (lI K ti) cap (lG K g) (lT K tc) (lE K te) σ H Q) (h : lS K (sOwn i tf) E σ H) : tAsg (tComp (lI K ti) cap (lG K g) (lT K tc) (lE K te)) (gName i) E σ H := lift (own_lift' h)
theorem s_compNO {k : Nat} (hcalm : X.calm = true) (hN : X.N.Nodup) (hy : X.N[i]? = some y) (hx : Loc X.env.scope y) (S : CompScope X.N X.env.scope scope N' cap) (hcap : capOk k cap = true) (hk : GM k g) (hi : PID K X tg iter ti)
    (hg : ∀ (cl : List (Str × Addr)) (fp : List Addr) (C : Addr) (s0 : Shared) (H0 : Hp), PGD K (cxComp X scope N' cl C s0 H0 fp) tg g)
    (he : ∀ (cl : List (Str × Addr)) (fp : List Addr) (C : Addr) (s0 : Shared) (H0 : Hp), PD K (cxComp X scope N' cl C s0 H0 fp) elt te) (hsw : swapsWith (.ListComp elt [⟨tg, iter, [], 0⟩] scope pos) (some (.Name y py)) spos.line X.env = pure true := by rfl)
    (hs : ∀ x, foldedSetIterable iter X.env x = pure x := by intro _; rfl) (hf : X.fn y = true ∨ X.env.scope.names.lookup y = some .local := by first | exact .inl rfl | exact .inr rfl | assumption) :
    PSD K X (.Assign [.Name y py] (.ListComp elt [⟨tg, iter, [], 0⟩] scope pos) spos) (sOwn i (fCompN ti cap g te)) :=
  ⟨fun hK => (ps_comp hcalm hN hy hx S (hi.pi hK) (fun cl fp C s0 H0 => (hg cl fp C s0 H0).pg hK) (fun cl fp C s0 H0 => (if_nil (K := K)).p hK) (fun cl fp C s0 H0 => (he cl fp C s0 H0).pe hK) hsw hs hf).imp fun _ _ _ h => compown_lift (fun q => comp_liftN hcap hk q) h⟩
theorem gr_put {Φ0 H0 Φ H : Hp} {p : Addr} {o : HO} (g : Gr Φ0 H0 Φ H) (h0 : H0 p = none) (hn : Φ p = none) : Gr Φ0 H0 Φ (upd H p o) :=
  ⟨g.f, same_upd g.h h0 _, fun b u e => by rw [upd_ne (ne_of_none e hn)]; exact g.s b u e, g.o⟩
def sAppend (i : Nat) (te : TD) : TSD := fun De ρ => match ρ[i]? with | some (some (.own ds)) => te ρ fun d => ds.length < sizeLine ∧ NF (ds ++ [d]) fun es => De.nx (ρ.set i (some (.own es))) | _ => False
theorem s_append {apos cpos npos : Pos} {x : Str} (i : Nat) (he : PD K X e te) (hfew : ((backTo cpos (starEach [e] X.env)).all (fun x => !x.1) && (backToKw cpos (keywordEach [] X.env)).all (fun x => x.1.isSome) && decide (([e] : List Expr).length + ([] : List Keyword).length + (if ([] : List Keyword).isEmpty then 0 else 1) < 30)) = true)
    (hse : starEach [e] X.env = (false, eval e X.env) :: starEach [] X.env) (hN : X.N[i]? = some x := by rfl) (hv : Vis X.env.scope x := by first | exact Or.inl rfl | exact Or.inr (Or.inl rfl) | exact Or.inr (Or.inr rfl)) (hd : (x == ("__debug__" : Str)) = false := by decide) (hcd : (x == ("__classdict__" : Str)) = false := by decide)
    (hbase : attributeBase (.Name x npos) "append" X.env (eval (.Name x npos) X.env) = eval (.Name x npos) X.env := by rfl) (hline : (apos.endLine == cpos.line) = true := by rfl) (hs : swapsWith (.Call (.Attribute (.Name x npos) "append" apos) [e] [] cpos) none pos.line X.env = pure false := by rfl) :
    PSD K X (.Expr (.Call (.Attribute (.Name x npos) "append" apos) [e] [] cpos) pos) (sAppend i te) :=
  ⟨fun hK => (ps_expr (pe_bm PySem.F.plainAttrs_list PySem.F.slot_list_append PySem.F.type_list_append mt_append (pv i hN hv hd hcd) (pa_cons (he.pe hK) pa_nil hse) hbase hfew hline hse npl_nil) hs).imp fun E σ H ⟨Φ0, H0, Φ, ρ, De, g, V, t, k⟩ => by
    unfold sAppend at t
    split at t
    · next ds ho =>
      obtain ⟨p, vs, e1, h0, hn, hp, rl⟩ := V.ow i ds ho
      refine ⟨_, e1, .inl ⟨rfl, vs, SqL.of hp⟩, H0, Φ, ρ, _, V, t, fun d Φ1 H1 v r g1 rv => ?_⟩
      have hp1 := g1.h _ _ hp
      have hn1 := g1.o _ _ hp hn
      refine ⟨p, vs, v, rfl, rfl, hp1, by rw [rl.1]; exact r.1, k.nx _ Φ1 _ σ r.2.get (gr_put (g.trans g1) h0 hn1) ((V.gr g1).put ho e1 ((rl.same g1.f).append (.one rv)))⟩
    · exact t.elim⟩
end
def startD (N : List Str) (ds : List D) : Rho := ds.map (fun d => some (.v d)) ++ List.replicate (N.length - ds.length) none
theorem env_start {K : PySem.W.Frag} {Φ H : Hp} {N : List Str} {ds : List D} {vs : List V} (sm : Same Φ H) (r : RpL K Φ ds vs) : EnvD K H Φ H (start N vs) (startD N ds) := by
  have own : ∀ {i : Nat} {x : Sl}, (startD N ds)[i]? = some (some x) → ∃ d, ds[i]? = some d ∧ x = .v d := fun {i x} h => by
    unfold startD at h
    rcases Nat.lt_or_ge i (ds.map fun d => some (Sl.v d)).length with c | c
    · rw [List.getElem?_append_left c, List.getElem?_map] at h
      cases e : ds[i]? with
      | none => rw [e] at h; cases h
      | some d => rw [e] at h; cases h; exact ⟨d, rfl, rfl⟩
    · rw [List.getElem?_append_right c, List.getElem?_replicate] at h
      split at h
      · cases h
      · cases h
  refine ⟨sm, by unfold start startD; simp [r.1], fun i d h => ?_, fun i es h => ?_, fun i j es fs p h => ?_⟩
  · obtain ⟨d', h1, h2⟩ := own h
    cases h2
    obtain ⟨v, hv, rv⟩ := r.at h1
    refine ⟨v, ?_, rv⟩
    unfold start
    rw [List.getElem?_append_left (by rw [List.length_map]; exact lt_of_at hv), List.getElem?_map, hv]
    rfl
  · obtain ⟨d', h1, h2⟩ := own h
    cases h2
  · obtain ⟨d', h1, h2⟩ := own h
    cases h2
section
variable {P : Program} {w : World} {K : PySem.W.Frag} {mg : Str → Option Value} {base : Heap}
theorem Fun.okD {x qual : Str} {st : Stmt} {f : Addr} {fd : FuncData} {N ps : List Str} {k : Nat} {sp : SpD} (F : Fun K x qual st f fd) (S : FnScope N ps (defScope st)) (len : ∀ ds R, sp ds R → ds.length = ps.length)
    (hbody : ∀ (cdv : Value) (A : Around) (outer : List Env) (s : Shared) (H : Hp) (E : XK) (ds : List D) (R : D → Prop), Room k (A.deeper (envOfC qual (defScope st) s.heap.objs.size f cdv)) → sp ds R →
      ∃ t, PSsD K (cxOf CX0 P w K mg base N qual (defScope st) f cdv A outer s H E).nox (defBody st) t ∧ t { nx := fun _ => R .non, rt := R } (startD N ds)) : FnOk P w K mg base CX0 (k + 1) f fd ps (lSp K sp) := by
  refine F.ok S (fun vs H Q E ⟨Φ, ds, R, sm, rl, h, _⟩ => by rw [rl.1]; exact len ds R h) (fun cdv A outer s H vs Q E hr ⟨Φ, ds, R, sm, rl, h, kk⟩ => ?_)
  obtain ⟨t, ht, hq⟩ := hbody cdv A outer s H E ds R hr h
  exact ⟨lS K t, ht.ps rfl, Φ, H, Φ, startD N ds, _, .refl sm, env_start sm rl, hq, ⟨fun ρ' Φ' H' σ' r g V => kk .non Φ' H' .non r g .non, kk, fun _ _ _ _ h => h.elim, fun _ _ _ _ h => h.elim⟩⟩
end
end L2
set_option Elab.async false
set_option linter.all false
set_option maxRecDepth 100000
set_option maxHeartbeats 4000000
namespace L2
open PySem PySem.Spec PyProof.Rows
def Itb (K : PySem.W.Frag) (b : Bool) (a : Addr) : It := match b with | true => Itl K a | false => Itt K a
section
variable {K : PySem.W.Frag} {X : Cx} {tg e a b : Expr} {es : List Expr} {pos p tp : Pos} {t ta tb : TD} {tl : TDL}
theorem pi_any {l : Expr} {tl : TE} (hK : X.K = K) (hl : PE X l tl) : PI X tg l (fun σ H R => tl σ H fun x H1 => ∃ q a, x = .ref a ∧ (∃ xs, SqB K q H1 a xs) ∧ R (Itb K q a) H1) := by
  subst hK
  intro pins s σ H R I h
  refine thn (hl pins s σ H _ I h) fun v s1 ⟨x, H1, I1, r1, q1⟩ => ?_
  obtain ⟨bb, a, e, ⟨xs, hq⟩, q⟩ := q1
  subst e
  cases r1
  have fp : ∀ b ∈ [s1.heap.objs.size], FpOk X pins H1 b := fun b hb => by
    have e : b = s1.heap.objs.size := by simpa using hb
    subst e
    exact I1.fpOk (Nat.le_refl _) (I1.hok.fresh (Nat.le_refl _))
  cases bb with
  | true =>
    obtain ⟨its, rv, p, hz⟩ := I1.list hq
    refine wpAny_pyIter_list p.isList ?_
    exact ⟨s1.heap.objs.size, [s1.heap.objs.size], _, _, H1, rfl, I1.kept (t' := s1.toks) fun b o e => Heap.get?_push_of_some _ e, turn_list a _, ⟨_, Heap.get?_push_size _ rfl, rfl, rfl⟩, fp, q⟩
  | false =>
    obtain ⟨its, rv, p, hz⟩ := I1.tuple hq
    refine wpAny_pyIter_tuple (show s1.heap.IsTuple a its.toArray from p) ?_
    exact ⟨s1.heap.objs.size, [s1.heap.objs.size], _, _, H1, rfl, I1.kept (t' := s1.toks) fun b o e => Heap.get?_push_of_some _ e, turn_tuple a _, ⟨_, Heap.get?_push_size _ rfl, rfl, rfl⟩, fp, q⟩
theorem steadyD_any {Φ : Hp} {ds : List D} {vs : List V} {a : Addr} {q : Bool} (h : SqB K q Φ a vs) (r : RpL K Φ ds vs) : SteadyD K (Itb K q a) Φ ds := by
  cases q with
  | true => exact steadyD_list h r
  | false => exact steadyD_tup h r
def iSeq (t : TD) : TDL := fun ρ R => t ρ fun d => match d with | .lst ds => R ds | .tup ds => R ds | .fzl ds => R ds | _ => False
theorem iseq_of {d : D} {R : List D → Prop} (h : match d with | .lst ds => R ds | .tup ds => R ds | .fzl ds => R ds | _ => False) : ∃ ds, seqD d = some ds ∧ R ds := by
  cases d with
  | lst ds => exact ⟨ds, rfl, h⟩
  | tup ds => exact ⟨ds, rfl, h⟩
  | fzl ds => exact ⟨ds, rfl, h⟩
  | _ => exact h.elim
theorem i_seq (h : PD K X e t) : PID K X tg e (iSeq t) := ⟨fun hK => (pi_any hK (h.pe hK)).imp fun σ H R' ⟨H0, Φ, ρ, R, E, t, k⟩ => ⟨H0, Φ, ρ, _, E, t, fun d Φ1 H1 v r g rv => by
  obtain ⟨ds, e1, r⟩ := iseq_of r
  obtain ⟨q, a, vs, rfl, h1, h2⟩ := rv.seq e1
  exact ⟨q, a, rfl, ⟨vs, SqB.same g.s h1⟩, k _ Φ1 H1 _ r g (steadyD_any h1 h2)⟩⟩⟩
theorem pi_enumU {a : Expr} {ta : TA} {es : List Expr} {k : Nat} (hK : X.K = K) (hg : Gl X "enumerate") (hm : X.mg "enumerate" = none) (ha : PA X [a] ta) (hs : starEach [a] X.env = [(false, eval a X.env)]) :
    PI X (.Tuple es k tp) (.Call (.Name "enumerate" p) [a] [] pos) (fun σ H R => ta σ H fun vs H1 => ∃ b a xs, vs = [.ref a] ∧ SqB K b H1 a xs ∧ R (Ite K b a) H1) := by
  subst hK
  intro pins s σ H R I h
  refine Call_ (ld_blt I hg hm boot_enumerate (PyProof.Rows.callWith_type1 (thn (ha pos pins s σ H _ I h) fun us s1 ⟨vs, H1, I1, r1, q1⟩ => ?_) hs rfl))
  obtain ⟨b, l, xs, e, hq, q⟩ := q1
  subst e
  cases r1 with
  | cons r rr =>
    cases rr
    cases r
    obtain ⟨its, rv, p, hz⟩ := I1.sqb hq
    refine call_enum p fun h' he hi hsz hk => wpAny_pyIter_enum he ?_
    have I2 : Inv X pins σ H1 { s1 with heap := h' } := I1.kept (t' := s1.toks) hk
    have fr : ∀ c, s1.heap.objs.size ≤ c → FpOk X pins H1 c := fun c hc => I1.fpOk hc (I1.hok.fresh hc)
    exact ⟨s1.heap.objs.size + 1, [s1.heap.objs.size + 1, s1.heap.objs.size], _, _, H1, rfl, I2, turn_enum b l _ _ (Nat.succ_ne_self _), ⟨⟨_, he⟩, hi⟩, fun c hc => by
      rcases List.mem_cons.mp hc with rfl | hc
      · exact fr _ (Nat.le_succ _)
      · rw [List.mem_singleton.mp hc]; exact fr _ (Nat.le_refl _), q⟩
theorem pi_zipU {a b : Expr} {ta : TA} {es : List Expr} {k : Nat} (hK : X.K = K) (hg : Gl X "zip") (hm : X.mg "zip" = none) (ha : PA X [a, b] ta) (hs : starEach [a, b] X.env = [(false, eval a X.env), (false, eval b X.env)]) (hs2 : starEach [b] X.env = [(false, eval b X.env)]) :
    PI X (.Tuple es k tp) (.Call (.Name "zip" p) [a, b] [] pos) (fun σ H R => ta σ H fun vs H1 => ∃ b1 b2 a1 a2 xs ys, vs = [.ref a1, .ref a2] ∧ SqB K b1 H1 a1 xs ∧ SqB K b2 H1 a2 ys ∧ R (Itz K b1 a1 b2 a2) H1) := by
  subst hK
  intro pins s σ H R I h
  refine Call_ (ld_blt I hg hm boot_zip (PyProof.Rows.callWith_type1 (thn (ha pos pins s σ H _ I h) fun us s1 ⟨vs, H1, I1, r1, q1⟩ => ?_) (by rw [hs, hs2]) (by rw [hs2]; rfl)))
  obtain ⟨b1, b2, l1, l2, xs, ys, e, hq1, hq2, q⟩ := q1
  subst e
  cases r1 with
  | cons r rr =>
    cases rr with
    | cons r' rr =>
      cases rr
      cases r
      cases r'
      obtain ⟨its1, rv1, p1, _⟩ := I1.sqb hq1
      obtain ⟨its2, rv2, p2, _⟩ := I1.sqb hq2
      refine call_zip p1 p2 fun h' z1 z2 z3 z4 z5 hk => wpAny_pyIter_zip z1 ?_
      have I2 : Inv X pins σ H1 { s1 with heap := h' } := I1.kept (t' := s1.toks) hk
      have fr : ∀ c, s1.heap.objs.size ≤ c → FpOk X pins H1 c := fun c hc => I1.fpOk hc (I1.hok.fresh hc)
      generalize s1.heap.objs.size = n at *
      refine ⟨n + 4, [n + 4, n + 2, n + 3, n, n + 1], _, _, H1, rfl, I2, turn_zip b1 b2 l1 l2 (n + 4) (n + 2) (n + 3) n (n + 1) (zap n), ⟨z1, z2, ⟨_, _, z3⟩, z4, z5⟩, fun c hc => fr c ?_, q⟩
      simp only [List.mem_cons, List.not_mem_nil, or_false] at hc
      rcases hc with rfl | rfl | rfl | rfl | rfl
      · exact Nat.le_add_right _ _
      · exact Nat.le_add_right _ _
      · exact Nat.le_add_right _ _
      · exact Nat.le_refl _
      · exact Nat.le_add_right _ _
def iEnumU (t : TDL) : TDL := fun ρ R => t ρ fun ds => match ds with | [.lst xs] => R (enumD xs) | [.tup xs] => R (enumD xs) | [.fzl xs] => R (enumD xs) | _ => False
theorem i_enumU {ets : List Expr} {ek : Nat} (hg : Gl X "enumerate") (hm : X.mg "enumerate" = none) (ha : PAD K X [a] tl) (hs : starEach [a] X.env = [(false, eval a X.env)] := by rfl) : PID K X (.Tuple ets ek tp) (.Call (.Name "enumerate" p) [a] [] pos) (iEnumU tl) :=
  ⟨fun hK => (pi_enumU hK hg hm (ha.pa hK) hs).imp fun σ H R' ⟨H0, Φ, ρ, R, E, t, k⟩ => ⟨H0, Φ, ρ, _, E, t, fun ds Φ1 H1 vs r g rv _ => by
    have fin : ∀ {d : D} {xs : List D}, RpL K Φ1 [d] vs → seqD d = some xs → R (enumD xs) → ∃ b a xs, vs = [.ref a] ∧ SqB K b H1 a xs ∧ R' (Ite K b a) H1 := fun {d xs} rv hx r => by
      obtain ⟨v, rfl, r1⟩ := rv.one_inv
      obtain ⟨q, a, ws, rfl, h1, h2⟩ := r1.seq hx
      exact ⟨q, a, ws, rfl, SqB.same g.s h1, k _ Φ1 H1 _ r g (steadyD_enum h1 h2)⟩
    match ds, r with
    | [.lst xs], r => exact fin rv rfl r
    | [.tup xs], r => exact fin rv rfl r
    | [.fzl xs], r => exact fin rv rfl r⟩⟩
def iZipU (t : TDL) : TDL := fun ρ R => t ρ fun ds => match ds with | [d, e] => ∃ xs ys, seqD d = some xs ∧ seqD e = some ys ∧ R (zipD xs ys) | _ => False
theorem i_zipU {ets : List Expr} {ek : Nat} (hg : Gl X "zip") (hm : X.mg "zip" = none) (ha : PAD K X [a, b] tl) (hs : starEach [a, b] X.env = [(false, eval a X.env), (false, eval b X.env)] := by rfl) (hs2 : starEach [b] X.env = [(false, eval b X.env)] := by rfl) : PID K X (.Tuple ets ek tp) (.Call (.Name "zip" p) [a, b] [] pos) (iZipU tl) :=
  ⟨fun hK => (pi_zipU hK hg hm (ha.pa hK) hs hs2).imp fun σ H R' ⟨H0, Φ, ρ, R, E, t, k⟩ => ⟨H0, Φ, ρ, _, E, t, fun ds Φ1 H1 vs r g rv _ => by
    match ds, r with
    | [d, e], ⟨xs, ys, hx, hy, r⟩ =>
      obtain ⟨v, w, rfl, r1, r2⟩ := rv.two_inv
      obtain ⟨q1, a1, ws, rfl, h1, h2⟩ := r1.seq hx
      obtain ⟨q2, a2, us, rfl, h3, h4⟩ := r2.seq hy
      exact ⟨q1, q2, a1, a2, ws, us, rfl, SqB.same g.s h1, SqB.same g.s h3, k _ Φ1 H1 _ r g (steadyD_zip h1 h3 h2 h4)⟩⟩⟩
variable {gs : TGDs}
def gSeqD (n : Nat) (t : TGDs) : TGD := fun d ρ R => match d with | .tup ds => ds.length = n ∧ t ds ρ R | .lst ds => ds.length = n ∧ t ds ρ R | _ => False
theorem PG.or {tg : Expr} {t t' : TG} (h : PG X tg t) (h' : PG X tg t') : PG X tg (fun v σ H Q => t v σ H Q ∨ t' v σ H Q) := by
  intro pins s σ H v u Q I r hw
  rcases hw with hw | hw
  · exact h pins s σ H v u Q I r hw
  · exact h' pins s σ H v u Q I r hw
theorem g_seq {k n : Nat} (hc : X.calm = true) (h : PGDs K X es gs) (hn : (assignEach es X.env).length = n := by rfl) (hst : (assignEach es X.env).findIdx? (·.1) = none := by rfl) : PGD K X (.Tuple es k pos) (gSeqD n gs) :=
  ⟨fun hK => ((pg_tupK' hK hc (h.pg hK) hn hst).or (pg_lstK' hK hc (h.pg hK) hn hst)).imp fun v σ H Q ⟨H0, Φ, ρ, d, R, E, r, g, k⟩ => by
    cases d with
    | tup ds => cases r with | tup h1 h2 h3 => exact .inl ⟨_, _, rfl, E.fz.sqt h1, by rw [h2]; exact g.1, H0, Φ, ρ, ds, R, E, ⟨h2, h3⟩, g.2, k⟩
    | lst ds => cases r with | lst h1 h2 h3 => exact .inr ⟨_, _, rfl, .of (E.fz _ _ h1), by rw [h2]; exact g.1, H0, Φ, ρ, ds, R, E, ⟨h2, h3⟩, g.2, k⟩
    | _ => exact g.elim⟩
theorem gm_seq {k n : Nat} {t : TGDs} (h : GMs k t) : GM k (gSeqD n t) := ⟨⟨fun d ρ R r => by
  cases d with
  | tup ds => exact ⟨r.1, h.k.p ds ρ R r.2⟩
  | lst ds => exact ⟨r.1, h.k.p ds ρ R r.2⟩
  | _ => exact r⟩, fun d ρ R R' hr r => by
  cases d with
  | tup ds => exact ⟨r.1, h.m ds ρ R R' hr r.2⟩
  | lst ds => exact ⟨r.1, h.m ds ρ R R' hr r.2⟩
  | _ => exact r⟩
theorem isi_of {Φ H : Hp} {d : D} {v : V} {T : String} {r : Bool} (s : Same Φ H) (h : RpQ K Φ H d v) (e : isiD d T = some r) : IsiV K H v T r := by
  have sp : ∀ {c : Prop} [Decidable c] {x : Bool} {y : Option Bool}, (if c then some x else y) = some r → (c ∧ x = r) ∨ y = some r := fun {c _ x y} h => by
    by_cases hc : c
    · rw [if_pos hc] at h; cases h; exact .inl ⟨hc, rfl⟩
    · rw [if_neg hc] at h; exact .inr h
  cases d with
  | int i =>
    cases h.int
    rcases sp e with ⟨rfl, rfl⟩ | e
    · exact .int_int _
    rcases sp e with ⟨rfl, rfl⟩ | e
    · exact .int_bool _
    rcases sp e with ⟨rfl, rfl⟩ | e
    · exact .int_tuple _
    rcases sp e with ⟨rfl, rfl⟩ | e
    · exact .int_str _
    cases e
  | bl i =>
    cases h.bl
    rcases sp e with ⟨rfl, rfl⟩ | e
    · exact .bl_int _
    rcases sp e with ⟨rfl, rfl⟩ | e
    · exact .bl_bool _
    rcases sp e with ⟨rfl, rfl⟩ | e
    · exact .bl_tuple _
    cases e
  | str i =>
    cases h.str
    rcases sp e with ⟨rfl, rfl⟩ | e
    · exact .str_str _
    rcases sp e with ⟨rfl, rfl⟩ | e
    · exact .str_tuple _
    cases e
  | non => cases e
  | tup ds =>
    obtain ⟨a, vs, rfl, h1, _, h2⟩ := h.tup s
    rcases sp e with ⟨rfl, rfl⟩ | e
    · exact .tup_tuple h1
    rcases sp e with ⟨rfl, rfl⟩ | e
    · exact .tup_int h1
    cases e
  | lst ds =>
    obtain ⟨a, vs, rfl, h1, h2⟩ := h.lst s
    rcases sp e with ⟨rfl, rfl⟩ | e
    · exact .lst_tuple (.of h1)
    rcases sp e with ⟨rfl, rfl⟩ | e
    · exact .lst_list (.of h1)
    cases e
  | fzl ds => cases e
def dIsi (T : String) (t : TD) : TD := fun ρ R => t ρ fun d => ∃ r, isiD d T = some r ∧ R (.bl r)
theorem d_isi {T : String} {tx : Str} {p2 : Pos} (hg : Gl X "isinstance") (hm : X.mg "isinstance" = none) (ha : PQ K X a t) (hT : PE X (.Name tx p2) (tC (.ty T)))
    (he : starEach [a, .Name tx p2] X.env = (false, eval a X.env) :: starEach [.Name tx p2] X.env) (he2 : starEach [.Name tx p2] X.env = (false, eval (.Name tx p2) X.env) :: starEach [] X.env) : PD K X (.Call (.Name "isinstance" p) [a, .Name tx p2] [] pos) (dIsi T t) :=
  ⟨fun hK => (pe_callB (call_isiK hK) hg hm boot_isinstance (pa_cons (ha.pe hK) (pa_cons hT pa_nil he2) he) (by decide) (by decide) he (npl_cons he2 npl_nil)).imp fun σ H Q ⟨H0, Φ, ρ, R, E, t, k⟩ => ⟨H0, Φ, ρ, _, E, t, fun d Φ1 H1 v r g rv => by
    obtain ⟨rr, hr, r⟩ := r
    exact ⟨v, T, rr, rfl, isi_of g.s rv hr, k _ Φ1 H1 _ r g (.bl _)⟩⟩⟩
theorem isi_bb (b : Bool) : isiD (.bl b) "bool" = some true := rfl
end
end L2
set_option Elab.async false
set_option linter.all false
set_option maxRecDepth 100000
set_option maxHeartbeats 4000000
namespace L2
open PySem PySem.Spec PyProof.Rows
theorem map_atD {α : Type} {f : α → D} {ns : List α} {i : Nat} {x : D} (h : (ns.map f)[i]? = some x) : ∃ k, x = f k ∧ ns[i]? = some k := by
  rw [List.getElem?_map] at h
  cases e : ns[i]? with
  | none => rw [e] at h; cases h
  | some k => rw [e] at h; cases h; exact ⟨k, rfl, rfl⟩
theorem map_intD {ns : List Int} {i : Nat} {x : D} (h : (ns.map D.int)[i]? = some x) : ∃ k, x = .int k ∧ ns[i]? = some k := map_atD h
theorem at_map {α : Type} {f : α → D} {ns : List α} {i : Nat} {n : α} {k : Int} (h : ns[i]? = some n) (e : k = (i : Int)) : atI (ns.map f) k = some (f n) := atI_of (by rw [List.getElem?_map, h]; rfl) e
theorem at_intD {ns : List Int} {k : Int} (h0 : 0 ≤ k) (h : k < (ns.length : Int)) : ∃ v : Int, atI (ns.map D.int) k = some (.int v) := by
  have hk : k.toNat < ns.length := by omega
  exact ⟨_, at_map (get_of hk) (by omega)⟩
def z_lawS : SpD := fun ds R => ∃ ns : List Int, ds = [.fzl (ns.map D.int)] ∧ ns.length ≤ 63 ∧ R (.bl true)
def spLaw (K : PySem.W.Frag) : Sp := fun vs H Q _ => ∃ (a : Addr) (ns : List Int), vs = [.ref a] ∧ SqL K H a (ns.map V.int) ∧ ns.length ≤ 63 ∧ ∀ H', Q (.bl true) H'
theorem conv_law {K : PySem.W.Frag} : ∀ vs H Q E, spLaw K vs H Q E → lSp K z_lawS vs H Q E := by
  rintro vs H Q E ⟨a, ns, rfl, hS, hl, q⟩
  refine ⟨H, [.fzl (ns.map D.int)], fun d => d = .bl true, Same.refl _, .one ((RpL.ints ns).fzl hS), ⟨ns, rfl, hl, rfl⟩, fun d Φ' H' v r g rv => ?_⟩
  subst r
  cases rv
  exact q _
end L2
set_option Elab.async false
set_option linter.all false
set_option maxRecDepth 100000
set_option maxHeartbeats 4000000
namespace L2
open PySem PySem.Spec PyProof.Rows
def rowD (r : Row) : D := .tup [.tup (r.1.map D.int), .int r.2]
def prD (s : Int × Int) : D := .tup [.int s.1, .int s.2]
section
variable {K : PySem.W.Frag} {H H' Φ : Hp} {v : V} {vs : List V}
end
theorem cutL_map {α β : Type} (f : α → β) (xs : List α) (lo hi : Option Int) : cutL (xs.map f) lo hi = (cutL xs lo hi).map f := by
  unfold cutL
  rw [List.length_map, List.map_take, List.map_drop]
theorem rep_map (k : Nat) (zs : List Int) : (List.replicate k (zs.map D.int)).flatten = ((List.replicate k zs).flatten).map D.int := by
  induction k with
  | zero => rfl
  | succ k ih => rw [List.replicate_succ, List.flatten_cons, ih, List.replicate_succ, List.flatten_cons, List.map_append]
theorem rep_one (k : Nat) (z : Int) : (List.replicate k [D.int z]).flatten = (List.replicate k z).map D.int := by
  induction k with
  | zero => rfl
  | succ k ih => rw [List.replicate_succ, List.flatten_cons, ih]; rfl
section
variable {g : TGD} {te : TD} {ρ : Rho} {R : List D → Prop}
theorem compN_of {ds : List D} (ws : List D) (hw : ws.length = ds.length) (hlen : ds.length < sizeLine) (Q : Nat → D → Prop) (hQ : ∀ i y, Q i y → ws[i]? = some y) (hb : ∀ i d, ds[i]? = some d → g d ρ fun ρ1 => te ρ1 (Q i)) (k : R ws) :
    ds.length < sizeLine ∧ ∃ P : Nat → D → Prop, (∀ i d, ds[i]? = some d → g d ρ fun ρ1 => te ρ1 (P i)) ∧ ∀ ys : List D, ys.length = ds.length → (∀ i y, ys[i]? = some y → P i y) → R ys := by
  refine ⟨hlen, Q, hb, fun ys hl hy => ?_⟩
  have : ys = ws := by
    refine List.ext_getElem? fun i => ?_
    rcases Nat.lt_or_ge i ys.length with c | c
    · rw [get_of c, hQ i _ (hy i _ (get_of c))]
    · rw [List.getElem?_eq_none c, List.getElem?_eq_none (by omega)]
  rw [this]
  exact k
theorem compN_map {α : Type} {f : α → D} {xs : List α} (h : α → D) (hlen : xs.length < sizeLine) (hb : ∀ x ∈ xs, g (f x) ρ fun ρ1 => te ρ1 fun y => y = h x) (k : R (xs.map h)) :
    (xs.map f).length < sizeLine ∧ ∃ P : Nat → D → Prop, (∀ i d, (xs.map f)[i]? = some d → g d ρ fun ρ1 => te ρ1 (P i)) ∧ ∀ ys : List D, ys.length = (xs.map f).length → (∀ i y, ys[i]? = some y → P i y) → R ys := by
  refine compN_of (xs.map h) (by simp) (by rw [List.length_map]; exact hlen) (fun i => match xs[i]? with | some x => fun y => y = h x | none => fun _ => False) (fun i y q => ?_) (fun i d hd => ?_) k
  · rw [List.getElem?_map]
    cases e : xs[i]? with
    | none => rw [e] at q; exact q.elim
    | some x => rw [e] at q; rw [q]; rfl
  · obtain ⟨x, rfl, hx⟩ := map_atD hd
    have e : (match xs[i]? with | some x => fun y => y = h x | none => fun _ => False : D → Prop) = fun y => y = h x := by rw [hx]
    rw [e]
    exact hb x (List.mem_of_getElem? hx)
theorem zip_map {α β : Type} (f : α → D) (h : β → D) (xs : List α) (ys : List β) : zipD (xs.map f) (ys.map h) = (List.zip xs ys).map fun p => .tup [f p.1, h p.2] := by
  unfold zipD
  rw [List.zipWith_map, List.map_zip_eq_zipWith]
  rfl
theorem compN_zip {α β : Type} {f : α → D} {h : β → D} {xs : List α} {ys : List β} (w : α → β → D) (hlen : xs.length < sizeLine) (hb : ∀ x ∈ xs, ∀ y ∈ ys, g (.tup [f x, h y]) ρ fun ρ1 => te ρ1 fun z => z = w x y) (k : R (List.zipWith w xs ys)) :
    (zipD (xs.map f) (ys.map h)).length < sizeLine ∧ ∃ P : Nat → D → Prop, (∀ i d, (zipD (xs.map f) (ys.map h))[i]? = some d → g d ρ fun ρ1 => te ρ1 (P i)) ∧ ∀ zs : List D, zs.length = (zipD (xs.map f) (ys.map h)).length → (∀ i y, zs[i]? = some y → P i y) → R zs := by
  rw [zip_map]
  refine compN_map (fun p : α × β => w p.1 p.2) ?_ (fun p hp => hb p.1 (List.of_mem_zip hp).1 p.2 (List.of_mem_zip hp).2) ?_
  · rw [List.length_zip]; omega
  · rw [List.map_zip_eq_zipWith]; exact k
end
end L2
namespace L2
theorem ff {p : Prop} (h : false = true) : p := by cases h
theorem tf {p : Prop} (h : true = false) : p := by cases h
end L2
namespace L2
theorem all_of {α : Type} {xs : List α} {p : α → Bool} {b : Bool} (h : (fun bs : List Bool => bs.all id) (xs.map p) = b) : xs.all p = b := by
  have h' : (xs.map p).all id = b := h
  rw [List.all_map] at h'
  exact h'
end L2
namespace L2
theorem snocM {α : Type} (f : α → D) (es : List α) (d : α) : es.map f ++ [f d] = (es ++ [d]).map f := by simp
theorem catM {α : Type} (f : α → D) (es fs : List α) : es.map f ++ fs.map f = (es ++ fs).map f := by simp
end L2
namespace L2
open PySem PySem.Spec PyProof.Rows
section
variable {g : TGD} {te : TD} {ρ : Rho} {R : List D → Prop}
theorem compN_int {α : Type} {f : α → D} {xs : List α} (h : α → Int) (hlen : xs.length < sizeLine) (hb : ∀ x ∈ xs, g (f x) ρ fun ρ1 => te ρ1 fun y => y = .int (h x)) (k : R ((xs.map h).map D.int)) :
    (xs.map f).length < sizeLine ∧ ∃ P : Nat → D → Prop, (∀ i d, (xs.map f)[i]? = some d → g d ρ fun ρ1 => te ρ1 (P i)) ∧ ∀ ys : List D, ys.length = (xs.map f).length → (∀ i y, ys[i]? = some y → P i y) → R ys :=
  compN_map (fun x => D.int (h x)) hlen hb (by rw [List.map_map] at k; exact k)
end
theorem ex_map {α : Type} {f : α → D} {P : α → Prop} : ∀ {ys : List D}, (∀ (i : Nat) y, ys[i]? = some y → ∃ x, P x ∧ y = f x) → ∃ xs : List α, ys = xs.map f ∧ ∀ x ∈ xs, P x
  | [], _ => ⟨[], rfl, fun x hx => absurd hx List.not_mem_nil⟩
  | y :: ys, h => by
    obtain ⟨x, hx, rfl⟩ := h 0 y rfl
    obtain ⟨xs, rfl, hxs⟩ := ex_map (ys := ys) fun i y hy => h (i + 1) y hy
    exact ⟨x :: xs, rfl, fun z hz => by
      rcases List.mem_cons.mp hz with rfl | hz
      · exact hx
      · exact hxs z hz⟩
end L2
set_option Elab.async false
set_option linter.all false
set_option maxRecDepth 100000
set_option maxHeartbeats 4000000
namespace L2
open PySem PySem.Spec PyProof.Rows
section
variable {K : PySem.W.Frag} {X : Cx} {pins : List (Addr × Obj)} {σ : St} {Φ H : Hp} {s : Shared}
end
section
variable {K : PySem.W.Frag} {X : Cx} {a b : Expr} {ta tb : TD} {apos cpos : Pos}
end
end L2
namespace L2
open PySem PySem.Spec PyProof.Rows
section
variable {K : PySem.W.Frag} {X : Cx} {e b : Expr} {te tk : TD} {pos spos npos : Pos} {x : Str}
end
end L2
set_option Elab.async false
set_option linter.all false
set_option maxRecDepth 100000
set_option maxHeartbeats 4000000
namespace L2
open PySem PySem.Spec PyProof.Rows
theorem range_pick {α : Type} : ∀ xs : List α, (List.range xs.length).filterMap (fun k => xs[k]?) = xs
  | [] => rfl
  | x :: xs => by
    rw [List.length_cons, List.range_succ_eq_map, List.filterMap_cons, List.filterMap_map]
    exact congrArg (x :: ·) (range_pick xs)
theorem pick_back (its : List Value) : slicePick its.toArray none none (some (-1)) = its.reverse.toArray := by
  unfold slicePick
  have hb : sliceBounds none none (some (-1)) its.toArray.size = ((its.length : Int) - 1, -1, -1) := by
    simp [sliceBounds]
  rw [hb]
  congr 1
  have hc : sliceRange ((its.length : Int) - 1) (-1) (-1) = (List.range its.length).map fun k => its.length - 1 - k := by
    unfold sliceRange
    have : (if (-1 : Int) > 0 then (if (its.length : Int) - 1 < -1 then (-1 - ((its.length : Int) - 1) + -1 - 1) / -1 else 0) else (if (its.length : Int) - 1 > -1 then ((its.length : Int) - 1 - -1 - -1 - 1) / (- -1) else 0)).toNat = its.length := by
      rw [if_neg (by decide), show (- -1 : Int) = 1 from rfl, Int.ediv_one]
      split <;> omega
    simp only [this]
    refine List.map_congr_left fun k hk => ?_
    have := List.mem_range.mp hk
    omega
  rw [hc, List.filterMap_map]
  have hcg : ∀ (l : List Nat), (∀ k ∈ l, k < its.length) → l.filterMap ((fun i => its.toArray[i]?) ∘ fun k => its.length - 1 - k) = l.filterMap fun k => its.reverse[k]? := by
    intro l
    induction l with
    | nil => intro _; rfl
    | cons k l ih =>
      intro h
      have hk := h k List.mem_cons_self
      have e : ((fun i => its.toArray[i]?) ∘ fun k => its.length - 1 - k) k = its.reverse[k]? := by
        show its.toArray[its.length - 1 - k]? = its.reverse[k]?
        rw [List.getElem?_reverse hk, List.getElem?_toArray]
      rw [List.filterMap_cons, List.filterMap_cons, e, ih fun j hj => h j (List.mem_cons_of_mem _ hj)]
  rw [hcg _ fun k hk => List.mem_range.mp hk]
  have := range_pick its.reverse
  rw [List.length_reverse] at this
  exact this
section
variable {K : PySem.W.Frag} {X : Cx} {e a st : Expr} {pos p2 : Pos} {te : TE}
def rBack (K : PySem.W.Frag) : V → Hp → VK → Prop := fun x H Q => ∃ a xs, x = .ref a ∧ SqL K H a xs ∧ ∀ p, H p = none → Q (.ref p) (upd H p (.lst xs.reverse))
def tBack (K : PySem.W.Frag) (te : TE) (ts : TO) : TE := fun σ H Q => te σ H fun x H1 => ts σ H1 fun o H2 => o = some (-1) ∧ rBack K x H2 Q
theorem pe_back {sp : Expr} {ts : TO} (he : PE X e te) (hst : PO X (some sp) ts) : PE X (.Subscript e (.Slice none none (some sp) p2) pos) (tBack X.K te ts) := by
  intro pins s σ H Q I h
  refine Subscript_ (thn (he pins s σ H _ I h) fun v s1 ⟨x, H1, I1, r1, q1⟩ => ?_)
  refine wpAny_Slice ?_
  rw [evalPart_none]
  refine wpAny_pure (wpAny_pure (thn (hst pins s1 σ H1 _ I1 q1) fun vs s2 ⟨o, H2, I2, ps, q2⟩ => ?_))
  obtain ⟨rfl, a, xs, rfl, hx, q⟩ := q2
  cases r1
  have I4 : Inv X pins σ H2 { s2 with heap := s2.heap.push { cls := .type "slice", data := .fields #[.none, .none, vs] } } := I2.kept (t' := s2.toks) fun b ob q => Heap.get?_push_of_some _ q
  obtain ⟨its, r, ht, hz⟩ := I4.list hx
  have hlen := r.length
  refine tail_any (ops := [.ref a, .ref s2.heap.objs.size]) ht.isList.typeIs slot_list_getitem.lookup ?_ (by with_unfolding_all rfl)
  refine wpAny_getItem_list_slice ht.isList (Heap.IsSliceOf.new ..) .none .none ps (by simp) ?_ (by rw [List.size_toArray] <;> omega)
  rw [pick_back]
  refine ⟨.ref _, _, I4.laid (t' := s2.toks) (o := .lst xs.reverse) (fun b ob q => Heap.get?_push_of_some _ q) (Nat.le_refl _) ?_, rfl, q _ (I4.hok.fresh (Nat.le_refl _))⟩
  exact ⟨by rw [List.length_reverse]; exact hz, _, 0, r.reverse, Heap.get?_push_size _ rfl⟩
end
section
variable {K : PySem.W.Frag} {X : Cx} {a st : Expr} {pos p2 : Pos} {ta : TD} {to : TOD}
theorem pe_backK {te : TE} {ts : TO} (hK : X.K = K) (he : PE X a te) (hst : PO X (some st) ts) : PE X (.Subscript a (.Slice none none (some st) p2) pos) (tBack K te ts) := hK ▸ pe_back he hst
def zBack (x : D) (R : D → Prop) : Prop := match x with
  | .lst ds => NF ds.reverse fun zs => R (.lst zs)
  | .fzl ds => NF ds.reverse fun zs => R (.lst zs)
  | _ => False
def fBack (t : TD) (to : TOD) : TDL := fun ρ R => t ρ fun x => to ρ fun o => o = some (-1) ∧ match x with
  | .lst ds => NF ds.reverse R
  | .fzl ds => NF ds.reverse R
  | _ => False
theorem f_back (ha : PQ K X a ta) (hs : POD K X (some st) to) : PF K X (.Subscript a (.Slice none none (some st) p2) pos) (fBack ta to) :=
  ⟨fun hK => (pe_backK hK (ha.pe hK) (hs.po hK)).imp fun σ H Q ⟨H0, Φ, ρ, R, E, t, k⟩ =>
    ⟨H0, Φ, ρ, _, E, t, fun dx Φ1 H1 x t1 g1 rx => ⟨H0, Φ1, ρ, _, E.gr g1, t1, fun o Φ2 H2 t2 g2 => by
      have g := g1.trans g2
      have rx3 := rx.gr g2
      refine ⟨t2.1, ?_⟩
      have t3 := t2.2
      cases dx with
      | lst ds =>
        obtain ⟨a, vs, rfl, q1, q2⟩ := rx3.lst g.s
        exact ⟨a, vs, rfl, .of q1, fun p hp => k _ _ _ p _ t3.get (g.trans (.fresh g.s hp _)) (g.h.free hp) (g.s.free hp) upd_same q2.reverse⟩
      | fzl ds =>
        obtain ⟨a, vs, rfl, q1, q2⟩ := rx3.fzl g.s
        exact ⟨a, vs, rfl, q1, fun p hp => k _ _ _ p _ t3.get (g.trans (.fresh g.s hp _)) (g.h.free hp) (g.s.free hp) upd_same q2.reverse⟩
      | _ => exact t3.elim⟩⟩⟩
end
end L2
set_option Elab.async false
set_option linter.all false
set_option maxRecDepth 100000
set_option maxHeartbeats 4000000
namespace L2
open PySem PySem.Spec PyProof.Rows
def apart (ds : List D) : D → Prop
  | .int _ => True
  | .bl _ => True
  | .str _ => True
  | .non => True
  | .lst xs => xs ≠ [] ∧ (∀ x ∈ xs, ∃ i, x = .int i) ∧ (∀ d ∈ ds, ∀ i, d ≠ .int i)
  | .tup xs => ∀ x ∈ xs, ∃ i, x = .int i
  | .fzl _ => False
def cutAt (Φ : Hp) (p : Addr) : Hp := fun q => if q = p then none else Φ q
section
variable {K : PySem.W.Frag} {Φ Φ0 Φ1 H H0 H1 : Hp} {p : Addr} {d : D} {v : V} {ds : List D} {vs : List V}
theorem cutAt_ne {q : Addr} (h : q ≠ p) : cutAt Φ p q = Φ q := if_neg h
theorem cutAt_self : cutAt Φ p p = none := if_pos rfl
theorem rp_intv {i : Int} (h : Rp K Φ d (.int i)) : d = .int i := by cases h; rfl
theorem sqt_cut {a : Addr} {ws us : List V} (hp : Φ p = some (.lst us)) (h : SqT K Φ a ws) : SqT K (cutAt Φ p) a ws := by
  rcases h with h | h
  · rcases h with h | ⟨o, h⟩
    · exact .inl (.inl (by rw [cutAt_ne (fun e => by rw [e, hp] at h; cases h)]; exact h))
    · exact .inl (.inr ⟨o, by rw [cutAt_ne (fun e => by rw [e, hp] at h; cases h)]; exact h⟩)
  · exact .inr h
theorem rp_ints_any {xs : List D} {ws : List V} (hx : ∀ x ∈ xs, ∃ i, x = D.int i) (h3 : ∀ (i : Nat) (v : V) (d : D), ws[i]? = some v → xs[i]? = some d → Rp K Φ d v) (i : Nat) (v : V) (d : D) (h : ws[i]? = some v) (e : xs[i]? = some d) : Rp K Φ1 d v := by
  obtain ⟨j, rfl⟩ := hx d (List.mem_of_getElem? e)
  have := h3 i v _ h e
  cases this
  exact .int j
theorem Rp.thaw (hp : Φ1 p = some (.lst vs)) (r : RpL K Φ ds vs) (ha : apart ds d) (h : Rp K Φ1 d v) : Rp K (cutAt Φ1 p) d v := by
  cases h with
  | int i => exact .int i
  | bl i => exact .bl i
  | str i => exact .str i
  | non => exact .non
  | tup h1 h2 h3 => exact .tup (sqt_cut hp h1) h2 (rp_ints_any ha h3)
  | @lst a ws xs h1 h2 h3 =>
    refine .lst (a := a) (vs := ws) ?_ h2 (rp_ints_any ha.2.1 h3)
    rw [cutAt_ne]
    · exact h1
    intro e
    subst e
    rw [hp] at h1
    cases h1
    cases xs with
    | nil => exact ha.1 rfl
    | cons x xs =>
      obtain ⟨j, rfl⟩ := ha.2.1 _ List.mem_cons_self
      cases vs with
      | nil => simp at h2
      | cons u vs =>
        have h4 := h3 0 u _ rfl rfl
        cases h4
        obtain ⟨d0, e0, r0⟩ := r.at' (i := 0) rfl
        exact ha.2.2 d0 (List.mem_of_getElem? e0) j (rp_intv r0)
  | fzl _ _ _ => exact ha.elim
end
section
variable {K : PySem.W.Frag} {X : Cx} {e : Expr} {te : TD} {pos pos' : Pos}
def sThaw (i j : Nat) (te : TD) : TSD := fun De ρ => match ρ[i]? with | some (some (.own ds)) => te (frz i ρ) fun d => apart ds d ∧ De.nx (ρ.set j (some (.v d))) | _ => False
theorem thaw_lift {i j : Nat} {E : Ends} {σ : St} {H : Hp} (h : lS K (sThaw i j te) E σ H) : tAsg (lE K te) (gName j) E σ H := by
  obtain ⟨Φ0, H0, Φ, ρ, De, g, V, t, k⟩ := h
  unfold sThaw at t
  split at t
  · next ds ho =>
    obtain ⟨p, vs, e1, h0, hn, hp, rl⟩ := V.ow i ds ho
    have s1 := same_new hn (.lst vs)
    have V' : EnvD K H0 (upd Φ p (.lst vs)) H σ (frz i ρ) := by
      unfold L2.frz
      rw [ho]
      refine ⟨fun b u e => ?_, by rw [List.length_set, V.len], fun j e2 h => ?_, fun j fs h => ?_, fun j k fs gs q hj hk sj sk => ?_⟩
      · by_cases c : b = p
        · subst c; rw [upd_same] at e; cases e; exact hp
        · rw [upd_ne c] at e; exact V.fz b u e
      · rcases set_at h with ⟨rfl, _, e3⟩ | ⟨c, h⟩
        · cases e3
          exact ⟨_, e1, (rl.same s1).lst upd_same⟩
        · obtain ⟨u, hu, ru⟩ := V.sl j e2 h
          exact ⟨u, hu, ru.same s1⟩
      · rcases set_at h with ⟨rfl, _, e3⟩ | ⟨c, h⟩
        · cases e3
        · obtain ⟨q, us, e3, q0, qn, qp, qr⟩ := V.ow j fs h
          refine ⟨q, us, e3, q0, ?_, qp, qr.same s1⟩
          rw [upd_ne fun z => c (V.ne j i fs ds p h ho (by rw [e3, z]) e1)]
          exact qn
      · rcases set_at hj with ⟨_, _, e3⟩ | ⟨_, hj⟩
        · cases e3
        rcases set_at hk with ⟨_, _, e3⟩ | ⟨_, hk⟩
        · cases e3
        exact V.ne j k fs gs q hj hk sj sk
    refine ⟨H0, _, _, _, V', t, fun d Φ' H' v r g' rv => ?_⟩
    have hp' : Φ' p = some (.lst vs) := g'.f _ _ upd_same
    have sf : Same Φ (cutAt Φ' p) := fun b u e => by
      have c : b ≠ p := fun z => by rw [z, hn] at e; cases e
      rw [cutAt_ne c]
      exact g'.f b u (by rw [upd_ne c]; exact e)
    have so : ∀ q u, H q = some (.lst u) → Φ q = none → cutAt Φ' p q = none := fun q u hq hqn => by
      by_cases c : q = p
      · subst c; exact cutAt_self
      · rw [cutAt_ne c]; exact g'.o q u hq (by rw [upd_ne c]; exact hqn)
    have gc : Gr Φ H (cutAt Φ' p) H' := ⟨sf, g'.h, fun b u e => by
      by_cases c : b = p
      · subst c; rw [cutAt_self] at e; cases e
      · rw [cutAt_ne c] at e; exact g'.s b u e, so⟩
    exact k.nx _ _ H' _ r.2 (g.trans gc) ((V.gr gc).set (rv.thaw hp' rl r.1) j)
  · exact t.elim
theorem s_thaw {i j : Nat} {x : Str} (hN : X.N.Nodup) (hi : X.N[j]? = some x) (hx : Loc X.env.scope x) (he : PD K X e te) (hs : swapsWith e (some (.Name x pos')) pos.line X.env = pure false := by rfl) (hf : X.fn x = true ∨ X.env.scope.names.lookup x = some .local := by first | exact .inl rfl | exact .inr rfl | assumption) :
    PSD K X (.Assign [.Name x pos'] e pos) (sThaw i j te) := ⟨fun hK => (ps_set hN hi hx (he.pe hK) hs hf).imp fun _ _ _ => thaw_lift⟩
end
end L2
set_option Elab.async false
set_option linter.all false
set_option maxRecDepth 100000
set_option maxHeartbeats 4000000
namespace Kx
open PySem L2
section
variable {P : Program} {w : World} {K : PySem.W.Frag} {mg : Str → Option Value} {base : Heap}
def top (i : Nat) : Stmt := PySem.Challenge.pw_cutyard_k20_endings_read.main.body.getD i (.Pass ⟨0, 0, 0, 0⟩)
abbrev s_left : Stmt := top 1
theorem sc_left : FnScope ["entries", "spot"] ["entries", "spot"] (defScope s_left) := ⟨rfl, rfl, rfl, by decide +kernel, rfl, by decide +kernel, by decide +kernel⟩
abbrev s_passes : Stmt := top 2
theorem sc_passes : FnScope ["row", "point"] ["row", "point"] (defScope s_passes) := ⟨rfl, rfl, rfl, by decide +kernel, rfl, by decide +kernel, by decide +kernel⟩
abbrev s_is_row_number : Stmt := top 4
theorem sc_is_row_number : FnScope ["rows", "number"] ["rows", "number"] (defScope s_is_row_number) := ⟨rfl, rfl, rfl, by decide +kernel, rfl, by decide +kernel, by decide +kernel⟩
abbrev s_shares_sum : Stmt := top 5
theorem sc_shares_sum : FnScope ["rows", "shares", "n", "entries", "bound", "number", "weight", "row"] ["rows", "shares", "n"] (defScope s_shares_sum) := ⟨rfl, rfl, rfl, by decide +kernel, rfl, by decide +kernel, by decide +kernel⟩
abbrev s_none_holds : Stmt := top 6
theorem sc_none_holds : FnScope ["rows", "goal", "shares", "summed"] ["rows", "goal", "shares"] (defScope s_none_holds) := ⟨rfl, rfl, rfl, by decide +kernel, rfl, by decide +kernel, by decide +kernel⟩
abbrev s_is_ray : Stmt := top 7
theorem sc_is_ray : FnScope ["rows", "goal", "ray"] ["rows", "goal", "ray"] (defScope s_is_ray) := ⟨rfl, rfl, rfl, by decide +kernel, rfl, by decide +kernel, by decide +kernel⟩
abbrev s_is_point : Stmt := top 8
theorem sc_is_point : FnScope ["rows", "goal", "point"] ["rows", "goal", "point"] (defScope s_is_point) := ⟨rfl, rfl, rfl, by decide +kernel, rfl, by decide +kernel, by decide +kernel⟩
abbrev s_best_holds : Stmt := top 9
theorem sc_best_holds : FnScope ["rows", "goal", "point", "shares", "divisor", "summed"] ["rows", "goal", "point", "shares", "divisor"] (defScope s_best_holds) := ⟨rfl, rfl, rfl, by decide +kernel, rfl, by decide +kernel, by decide +kernel⟩
abbrev s_shares_hold : Stmt := top 10
theorem sc_shares_hold : FnScope ["rows", "goal", "told"] ["rows", "goal", "told"] (defScope s_shares_hold) := ⟨rfl, rfl, rfl, by decide +kernel, rfl, by decide +kernel, by decide +kernel⟩
abbrev s__law_cell : Stmt := top 12
theorem sc__law_cell : FnScope ["_law_script", "_law_k"] ["_law_script", "_law_k"] (defScope s__law_cell) := ⟨rfl, rfl, rfl, by decide +kernel, rfl, by decide +kernel, by decide +kernel⟩
abbrev s__law_draws : Stmt := top 13
theorem sc__law_draws : FnScope ["_law_cell_here", "_law_salt", "_law_sizes", "_law_row", "_law_rest", "_law_k", "_law_size", "_law_mixed"] ["_law_cell_here", "_law_salt", "_law_sizes"] (defScope s__law_draws) := ⟨rfl, rfl, rfl, by decide +kernel, rfl, by decide +kernel, by decide +kernel⟩
abbrev s__law_total : Stmt := top 14
theorem sc__law_total : FnScope ["_law_rows_here", "_law_shares", "_law_n", "_law_total_here", "_law_number", "_law_weight", "_law_row"] ["_law_rows_here", "_law_shares", "_law_n"] (defScope s__law_total) := ⟨rfl, rfl, rfl, by decide +kernel, rfl, by decide +kernel, by decide +kernel⟩
abbrev s__law_rows : Stmt := top 15
theorem sc__law_rows : FnScope ["_law_cell_here", "_law_salt", "_law_n", "_law_many", "_law_big", "_law_numbers", "_law_rows_here", "_law_k", "_law_part"] ["_law_cell_here", "_law_salt", "_law_n", "_law_many", "_law_big"] (defScope s__law_rows) := ⟨rfl, rfl, rfl, by decide +kernel, rfl, by decide +kernel, by decide +kernel⟩
abbrev s__law_left : Stmt := top 16
theorem sc__law_left : FnScope ["_law_entries", "_law_spot"] ["_law_entries", "_law_spot"] (defScope s__law_left) := ⟨rfl, rfl, rfl, by decide +kernel, rfl, by decide +kernel, by decide +kernel⟩
abbrev s__law_unit : Stmt := top 17
theorem sc__law_unit : FnScope ["_law_n", "_law_at"] ["_law_n", "_law_at"] (defScope s__law_unit) := ⟨rfl, rfl, rfl, by decide +kernel, rfl, by decide +kernel, by decide +kernel⟩
abbrev s__law_meets : Stmt := top 18
theorem sc__law_meets : FnScope ["_law_rows_here", "_law_point", "_law_n"] ["_law_rows_here", "_law_point", "_law_n"] (defScope s__law_meets) := ⟨rfl, rfl, rfl, by decide +kernel, rfl, by decide +kernel, by decide +kernel⟩
abbrev s__law_ray_due : Stmt := top 19
theorem sc__law_ray_due : FnScope ["_law_rows_here", "_law_goal", "_law_ray", "_law_n"] ["_law_rows_here", "_law_goal", "_law_ray", "_law_n"] (defScope s__law_ray_due) := ⟨rfl, rfl, rfl, by decide +kernel, rfl, by decide +kernel, by decide +kernel⟩
abbrev s__law_due : Stmt := top 20
theorem sc__law_due : FnScope ["_law_kind", "_law_rows_here", "_law_goal", "_law_parts", "_law_n", "_law_point", "_law_ray", "_law_shares", "_law_divisor", "_law_total_here"] ["_law_kind", "_law_rows_here", "_law_goal", "_law_parts", "_law_n"] (defScope s__law_due) := ⟨rfl, rfl, rfl, by decide +kernel, rfl, by decide +kernel, by decide +kernel⟩
abbrev s__law_told : Stmt := top 21
theorem sc__law_told : FnScope ["_law_kind", "_law_parts", "_law_point", "_law_ray", "_law_shares", "_law_divisor"] ["_law_kind", "_law_parts"] (defScope s__law_told) := ⟨rfl, rfl, rfl, by decide +kernel, rfl, by decide +kernel, by decide +kernel⟩
abbrev s__law_none_built : Stmt := top 22
theorem sc__law_none_built : FnScope ["_law_cells", "_law_n", "_law_many", "_law_big", "_law_leasts", "_law_rows_here", "_law_numbers", "_law_shares", "_law_total_here", "_law_at"] ["_law_cells", "_law_n", "_law_many", "_law_big"] (defScope s__law_none_built) := ⟨rfl, rfl, rfl, by decide +kernel, rfl, by decide +kernel, by decide +kernel⟩
abbrev s__law_along : Stmt := top 23
theorem sc__law_along : FnScope ["_law_entries", "_law_ray"] ["_law_entries", "_law_ray"] (defScope s__law_along) := ⟨rfl, rfl, rfl, by decide +kernel, rfl, by decide +kernel, by decide +kernel⟩
abbrev s__law_under : Stmt := top 24
theorem sc__law_under : FnScope ["_law_top", "_law_bottom", "_law_slack"] ["_law_top", "_law_bottom", "_law_slack"] (defScope s__law_under) := ⟨rfl, rfl, rfl, by decide +kernel, rfl, by decide +kernel, by decide +kernel⟩
abbrev s__law_endless_built : Stmt := top 25
theorem sc__law_endless_built : FnScope ["_law_cells", "_law_n", "_law_many", "_law_big", "_law_numbers", "_law_ray", "_law_tops", "_law_bottom", "_law_slacks", "_law_rows_here", "_law_drawn", "_law_k", "_law_entries", "_law_goal"] ["_law_cells", "_law_n", "_law_many", "_law_big"] (defScope s__law_endless_built) := ⟨rfl, rfl, rfl, by decide +kernel, rfl, by decide +kernel, by decide +kernel⟩
abbrev s__law_best_rows : Stmt := top 26
theorem sc__law_best_rows : FnScope ["_law_cells", "_law_n", "_law_many", "_law_big", "_law_point", "_law_ray", "_law_tops", "_law_bottom", "_law_slacks", "_law_rows_here", "_law_k", "_law_entries", "_law_bound", "_law_total_here"] ["_law_cells", "_law_n", "_law_many", "_law_big", "_law_point", "_law_ray"] (defScope s__law_best_rows) := ⟨rfl, rfl, rfl, by decide +kernel, rfl, by decide +kernel, by decide +kernel⟩
abbrev s__law_fits : Stmt := top 27
theorem sc__law_fits : FnScope ["_law_entries", "_law_bound", "_law_least", "_law_point"] ["_law_entries", "_law_bound", "_law_least", "_law_point"] (defScope s__law_fits) := ⟨rfl, rfl, rfl, by decide +kernel, rfl, by decide +kernel, by decide +kernel⟩
abbrev s__law_best_built : Stmt := top 28
theorem sc__law_best_built : FnScope ["_law_cells", "_law_n", "_law_many", "_law_big", "_law_numbers", "_law_ray", "_law_tops", "_law_bottom", "_law_rows_here", "_law_divisor", "_law_shares", "_law_k", "_law_entries", "_law_bound", "_law_weight", "_law_total_here", "_law_goal", "_law_times", "_law_scale", "_law_point"] ["_law_cells", "_law_n", "_law_many", "_law_big"] (defScope s__law_best_built) := ⟨rfl, rfl, rfl, by decide +kernel, rfl, by decide +kernel, by decide +kernel⟩
abbrev s__law_wild : Stmt := top 29
theorem sc__law_wild : FnScope ["_law_cells", "_law_n", "_law_many", "_law_big", "_law_leasts", "_law_rows_here", "_law_drawn", "_law_numbers", "_law_shares", "_law_point", "_law_ray"] ["_law_cells", "_law_n", "_law_many", "_law_big"] (defScope s__law_wild) := ⟨rfl, rfl, rfl, by decide +kernel, rfl, by decide +kernel, by decide +kernel⟩
abbrev s__law_bent_shares : Stmt := top 30
theorem sc__law_bent_shares : FnScope ["_law_shares", "_law_way", "_law_at", "_law_step", "_law_number", "_law_weight", "_law_rest"] ["_law_shares", "_law_way", "_law_at", "_law_step"] (defScope s__law_bent_shares) := ⟨rfl, rfl, rfl, by decide +kernel, rfl, by decide +kernel, by decide +kernel⟩
abbrev s__law_bent_point : Stmt := top 31
theorem sc__law_bent_point : FnScope ["_law_point", "_law_way", "_law_at", "_law_step", "_law_tops", "_law_bottom"] ["_law_point", "_law_way", "_law_at", "_law_step"] (defScope s__law_bent_point) := ⟨rfl, rfl, rfl, by decide +kernel, rfl, by decide +kernel, by decide +kernel⟩
abbrev s__law_bent : Stmt := top 32
theorem sc__law_bent : FnScope ["_law_parts", "_law_spoil", "_law_way", "_law_at", "_law_step", "_law_point", "_law_ray", "_law_shares", "_law_divisor"] ["_law_parts", "_law_spoil", "_law_way", "_law_at", "_law_step"] (defScope s__law_bent) := ⟨rfl, rfl, rfl, by decide +kernel, rfl, by decide +kernel, by decide +kernel⟩
abbrev s__law_bent_rows : Stmt := top 33
theorem sc__law_bent_rows : FnScope ["_law_rows_here", "_law_goal", "_law_spoil", "_law_at", "_law_step"] ["_law_rows_here", "_law_goal", "_law_spoil", "_law_at", "_law_step"] (defScope s__law_bent_rows) := ⟨rfl, rfl, rfl, by decide +kernel, rfl, by decide +kernel, by decide +kernel⟩
abbrev s__law_made : Stmt := top 34
theorem sc__law_made : FnScope ["_law_kind", "_law_wild_here", "_law_cells", "_law_n", "_law_many", "_law_big"] ["_law_kind", "_law_wild_here", "_law_cells", "_law_n", "_law_many", "_law_big"] (defScope s__law_made) := ⟨rfl, rfl, rfl, by decide +kernel, rfl, by decide +kernel, by decide +kernel⟩
abbrev s_law : Stmt := top 35
theorem sc_law : FnScope ["_law_script", "_law_shape", "_law_kind", "_law_n", "_law_cells", "_law_rows_here", "_law_goal", "_law_parts", "_law_step", "_law_told_here"] ["_law_script"] (defScope s_law) := ⟨rfl, rfl, rfl, by decide +kernel, rfl, by decide +kernel, by decide +kernel⟩
abbrev BigI (x : Int) : Prop := x.natAbs < 2 ^ 60000
abbrev BigRow (r : Row) : Prop := (∀ x ∈ r.1, BigI x) ∧ BigI r.2
theorem mulBig {a b : Int} (ha : BigI a) (hb : BigI b) : IntMulOk a b := mulOk_of (m := 60000) (n := 60000) (by decide) (by decide) ha hb (by decide)
theorem toB {R : D → Prop} {a b : Bool} (q : R (.bl a)) (e : b = a) : R (.bl b) := e ▸ q
theorem at_row {rs : List Row} {k : Int} (h0 : 0 ≤ k) (h1 : k < rs.length) : atI (rs.map rowD) k = some (rowD (rowAt rs k)) := at_map (rowAt_of h0 h1) (by omega)
def z_left : SpD := fun ds R => ∃ (xs ys : List Int), ds = [.tup (xs.map D.int), .tup (ys.map D.int)] ∧ xs.length ≤ 1000 ∧ (∀ x ∈ xs, BigI x) ∧ (∀ y ∈ ys, BigI y) ∧ R (.int (dot xs ys))
theorem ok_left {n : Nat} {f : Addr} {fd : FuncData} (F : Fun K "left" "left" s_left f fd) (z_sum : mg "sum" = none) (z_zip : mg "zip" = none) : FnOk P w K mg base CX0 (n + 1) f fd ["entries", "spot"] (lSp K z_left) := by
  refine F.okD sc_left (fun ds R h => ?_) (fun cdv A outer s H E ds R hr h => ?_)
  · obtain ⟨xs, ys, rfl, _⟩ := h; rfl
  obtain ⟨xs, ys, rfl, hl, hx, hy, q⟩ := h
  refine ⟨_, (s_one (s_ret (d_callB (c_sum rfl) rfl z_sum PyProof.Rows.boot_sum (aq_cons (PD.q (PF.d (f_compN (k := 2) (N' := ["entry", "number"]) (cap := [none, none]) rfl (.ok (show compOk ["entries", "spot"] (defScope s_left) _ ["entry", "number"] [none, none] = true by decide +kernel)) (by decide +kernel) (gm_seq (n := 2) (gm_cons (gm_set (by decide)) (gm_cons (gm_set (by decide)) gm_nil))) (i_zipU rfl z_zip (a_cons (dv 0) (a_cons (dv 1) a_nil se_Name) se_Name)) (fun _ _ _ _ _ => (g_seq (n := 2) rfl (gs_cons (g_name (i := 0) (show List.Nodup (["entry", "number"] : List Str) by decide +kernel) rfl (Or.inl rfl)) (gs_cons (g_name (i := 1) (show List.Nodup (["entry", "number"] : List Str) by decide +kernel) rfl (Or.inl rfl)) gs_nil)))) (fun _ _ _ _ _ => (d_op z_mul (dvq 0) (dvq 1)))))) aq_nil se_ListComp) se_ListComp npl_nil))), ?_⟩
  refine ⟨_, _, rfl, rfl, ?_⟩
  refine compN_zip (fun x y => D.int (x * y)) (small1000 hl) (fun x hx' y hy' => ⟨rfl, mulBig (hx x hx') (hy y hy'), rfl⟩) ?_
  exact ⟨List.zipWith (fun x y => x * y) xs ys, by rw [List.map_zipWith]; rfl, q⟩
def z_passes : SpD := fun ds R => ∃ (r p : Row), ds = [rowD r, rowD p] ∧ r.1.length ≤ 1000 ∧ BigRow r ∧ BigRow p ∧ R (.bl (decide (dot r.1 p.1 ≥ r.2 * p.2)))
theorem ok_passes {n : Nat} {f : Addr} {fd : FuncData} (F : Fun K "passes" "passes" s_passes f fd) {f_left : Addr} {d_left : FuncData} (G_left : FnOk P w K mg base CX0 n f_left d_left ["entries", "spot"] (lSp K z_left)) (b_left : Binds K d_left ["entries", "spot"] []) (k_left : PySem.W.keepIn K (.ref f_left) = true) (m_left : mg "left" = some (.ref f_left)) : FnOk P w K mg base CX0 (n + 1) f fd ["row", "point"] (lSp K z_passes) := by
  refine F.okD sc_passes (fun ds R h => ?_) (fun cdv A outer s H E ds R hr h => ?_)
  · obtain ⟨r, p, rfl, _⟩ := h; rfl
  obtain ⟨r, p, rfl, hl, hw, hp, q⟩ := h
  refine ⟨_, (s_one (s_ret (d_cmp z_ge (PD.q (d_call G_left hr rfl m_left k_left b_left pass0 (a_cons (d_ix (dvq 0) (PD.q dc_int) (fun _ _ => rfl)) (a_cons (d_ix (dvq 1) (PD.q dc_int) (fun _ _ => rfl)) a_nil se_Subscript) se_Subscript) se_Subscript (npl_cons se_Subscript npl_nil))) (PD.q (d_op z_mul (PD.q (d_ix (dvq 0) (PD.q dc_int) (fun _ _ => rfl))) (PD.q (d_ix (dvq 1) (PD.q dc_int) (fun _ _ => rfl))))) (nomark _)))), ?_⟩
  exact ⟨_, rfl, _, rfl, r.1, p.1, rfl, hl, hw.1, hp.1, _, rfl, _, rfl, mulBig hw.2 hp.2, q⟩
def z_is_row_number : SpD := fun ds R => ∃ (rs : List Row) (k : Int), ds = [.tup (rs.map rowD), .int k] ∧ R (.bl (decide (0 ≤ k ∧ k < rs.length)))
theorem ok_is_row_number {n : Nat} {f : Addr} {fd : FuncData} (F : Fun K "is_row_number" "is_row_number" s_is_row_number f fd) (z_len : mg "len" = none) : FnOk P w K mg base CX0 (n + 1) f fd ["rows", "number"] (lSp K z_is_row_number) := by
  refine F.okD sc_is_row_number (fun ds R h => ?_) (fun cdv A outer s H E ds R hr h => ?_)
  · obtain ⟨rs, k, rfl, _⟩ := h; rfl
  obtain ⟨rs, k, rfl, q⟩ := h
  refine ⟨_, (s_one (s_ret (d_and (d_cmp z_ge (dvq 1) (PD.q dc_int) (nomark _)) (d_one (d_cmp z_lt (dvq 1) (PD.q (d_callB c_len rfl z_len PySem.boot_len (aq_cons (dvq 0) aq_nil se_Name) se_Name npl_nil)) (nomark _)))))), ?_⟩
  refine ⟨fun h => ?_, fun h => ?_⟩
  · have h' := dP h
    refine toB q ?_
    rw [List.length_map]
    by_cases c : k < (rs.length : Int)
    · rw [decide_eq_true c, decide_eq_true ⟨h', c⟩]
    · rw [decide_eq_false c, decide_eq_false fun z => c z.2]
  · have h' := of_decide_eq_false h
    exact toB q (decide_eq_false fun z => h' z.1).symm
def z_shares_sum : SpD := fun ds R => ∃ (rs : List Row) (shs : List (Int × Int)) (n : Nat), ds = [.tup (rs.map rowD), .tup (shs.map prD), .int (n : Int)] ∧ n ≤ 500 ∧ (∀ r ∈ rs, BigRow r) ∧ (∀ s ∈ shs, BigI s.2) ∧ (∀ r ∈ rs, r.1.length = n) ∧
  (sumS rs shs n = none → R .non) ∧ ∀ a, sumS rs shs n = some a → a.1.length = n → R (rowD a)
theorem ok_shares_sum {n : Nat} {f : Addr} {fd : FuncData} (F : Fun K "shares_sum" "shares_sum" s_shares_sum f fd) {f_is_row_number : Addr} {d_is_row_number : FuncData} (G_is_row_number : FnOk P w K mg base CX0 n f_is_row_number d_is_row_number ["rows", "number"] (lSp K z_is_row_number)) (b_is_row_number : Binds K d_is_row_number ["rows", "number"] []) (k_is_row_number : PySem.W.keepIn K (.ref f_is_row_number) = true) (m_is_row_number : mg "is_row_number" = some (.ref f_is_row_number)) (z_tuple : mg "tuple" = none) (z_zip : mg "zip" = none) : FnOk P w K mg base CX0 (n + 1) f fd ["rows", "shares", "n"] (lSp K z_shares_sum) := by
  refine F.okD sc_shares_sum (fun ds R h => ?_) (fun cdv A outer s H E ds R hr h => ?_)
  · obtain ⟨rs, shs, n, rfl, _⟩ := h; rfl
  obtain ⟨rs, shs, n, rfl, hn, hfr, hfs, hlen, q0, q1⟩ := h
  refine ⟨_, (s_cons (s_set (i := 3) sc_shares_sum.nd rfl (Or.inl rfl) (d_op z_mul (PD.q (PF.d (f_lst (a_cons dc_int a_nil se_Constant)))) (dvq 2)))
      (s_cons (s_set (i := 4) sc_shares_sum.nd rfl (Or.inl rfl) dc_int)
      (s_cons (s_for PassesOwn.never rfl (i_seq (dv 1)) (g_seq (n := 2) rfl (gs_cons (g_name (i := 5) sc_shares_sum.nd rfl (Or.inl rfl)) (gs_cons (g_name (i := 6) sc_shares_sum.nd rfl (Or.inr rfl)) gs_nil))) (s_cut (s_if (PWD.td (w_or (t_not (t_tru (PD.q (d_call G_is_row_number hr rfl m_is_row_number k_is_row_number b_is_row_number pass0 (a_cons (dv 0) (a_cons (dv 5) a_nil se_Name) se_Name) se_Name (npl_cons se_Name npl_nil))) (fun _ => rfl))) (w_or1 (t_cmp z_lt (dvq 6) (PD.q dc_int) (nomark _))))) (s_one (s_ret dc_non)) s_nil)
      (s_cons (s_set (i := 7) sc_shares_sum.nd rfl (Or.inl rfl) (d_ix (dvq 0) (dvq 5) (fun _ _ => rfl)))
      (s_cons (s_compN (i := 3) (k := 2) (N' := ["total", "entry", "weight"]) (cap := [none, none, some 6]) rfl sc_shares_sum.nd rfl (Or.inl rfl) (.ok (show compOk ["rows", "shares", "n", "entries", "bound", "number", "weight", "row"] (defScope s_shares_sum) _ ["total", "entry", "weight"] [none, none, some 6] = true by decide +kernel)) (by decide +kernel) (gm_seq (n := 2) (gm_cons (gm_set (by decide)) (gm_cons (gm_set (by decide)) gm_nil))) (i_zipU rfl z_zip (a_cons (dv 3) (a_cons (d_ix (dvq 7) (PD.q dc_int) (fun _ _ => rfl)) a_nil se_Subscript) se_Name)) (fun _ _ _ _ _ => (g_seq (n := 2) rfl (gs_cons (g_name (i := 0) (show List.Nodup (["total", "entry", "weight"] : List Str) by decide +kernel) rfl (Or.inl rfl)) (gs_cons (g_name (i := 1) (show List.Nodup (["total", "entry", "weight"] : List Str) by decide +kernel) rfl (Or.inl rfl)) gs_nil)))) (fun _ _ _ _ _ => (d_op z_add (dvq 0) (PD.q (d_op z_mul (dvq 2) (dvq 1))))))
      (s_one (s_set (i := 4) sc_shares_sum.nd rfl (Or.inl rfl) (d_op z_add (dvq 4) (PD.q (d_op z_mul (dvq 6) (PD.q (d_ix (dvq 7) (PD.q dc_int) (fun _ _ => rfl))))))))))))
      (s_one (s_ret (d_tup (a_cons (d_callTy c_tuple rfl z_tuple PyProof.Rows.boot_tuple (aq_cons (dvq 3) aq_nil se_Name) se_Name npl_nil) (a_cons (dv 4) a_nil se_Name) se_Call))))))), ?_⟩
  refine ⟨⟨by omega, by omega, ?_⟩, (List.replicate n (0 : Int)).map D.int, ?_, fun i ρ => ∃ (a : Row) (u5 u6 u7 : Option Sl), ρ = [some (.v (.tup (rs.map rowD))), some (.v (.tup (shs.map prD))), some (.v (.int n)), some (.v (.lst (a.1.map D.int))), some (.v (.int a.2)), u5, u6, u7] ∧ a.1.length = n ∧ sumS rs (shs.take i) n = some a, ⟨(List.replicate n 0, 0), _, _, _, rfl, List.length_replicate, rfl⟩, ?_, ?_⟩
  · rw [show [D.int 0].length = 1 from rfl]; exact small (by omega)
  · rw [rep_one, Int.toNat_natCast]
  · rintro i d ρ hd ⟨a, u5, u6, u7, rfl, hal, hsum⟩
    obtain ⟨⟨k, w⟩, rfl, hs⟩ := map_atD hd
    have hw := hfs _ (List.mem_of_getElem? hs)
    refine ⟨rfl, fun ρ => okS rs (k, w) ∧ ρ = [some (.v (.tup (rs.map rowD))), some (.v (.tup (shs.map prD))), some (.v (.int n)), some (.v (.lst (a.1.map D.int))), some (.v (.int a.2)), some (.v (.int k)), some (.v (.int w)), u7], ?_, ?_⟩
    · refine ⟨rs, k, rfl, ?_⟩
      by_cases c : 0 ≤ k ∧ k < (rs.length : Int)
      · rw [decide_eq_true c]
        refine ⟨fun h => ff h, fun _ => ⟨fun h => q0 (sumS_bad hs fun ok => ?_), fun h => ⟨⟨c, ?_⟩, rfl⟩⟩⟩
        · have h1 := ok.2
          have h2 := dP h
          simp only at h1
          omega
        · have h2 := of_decide_eq_false h
          show 0 ≤ w
          omega
      · rw [decide_eq_false c]
        exact ⟨fun _ => ⟨fun _ => q0 (sumS_bad hs fun ok => c ok.1), fun h => tf h⟩, fun h => tf h⟩
    rintro ρ ⟨ok, rfl⟩
    have k0 : 0 ≤ k := ok.1.1
    have k1 : k < rs.length := ok.1.2
    have hmem := rowAt_mem k0 k1
    have hrow := hfr _ hmem
    have hrl := hlen _ hmem
    refine ⟨_, at_row k0 k1, _, rfl, _, _, rfl, rfl, ?_⟩
    refine compN_zip (fun t e => D.int (t + w * e)) (small1000 (by omega)) (fun t ht e he => ⟨rfl, mulBig hw (hrow.1 e he), rfl⟩) ?_
    have e4 : List.zipWith (fun t e => D.int (t + w * e)) a.1 (rowAt rs k).1 = (addS rs a (k, w)).1.map D.int := by
      unfold addS
      rw [List.map_zipWith]
    rw [e4]
    refine ⟨_, rfl, mulBig hw hrow.2, addS rs a (k, w), _, _, _, rfl, ?_, sumS_ok hs hsum ok⟩
    unfold addS
    rw [List.length_zipWith, hal, hrl]
    exact Nat.min_self n
  · rintro ρ ⟨a, u5, u6, u7, rfl, hal, hsum⟩
    rw [List.length_map, List.take_length] at hsum
    exact q1 a hsum hal
def zeroB (xs : List Int) : Bool := xs.all fun x => decide (x = 0)
theorem eq0 (x : Int) : (x == 0) = decide (x = 0) := by
  by_cases c : x = 0
  · rw [c]; rfl
  · rw [decide_eq_false c, beq_eq_false_iff_ne.mpr c]
def noneB (rs : List Row) (n : Nat) (shs : List (Int × Int)) : Bool := match sumS rs shs n with | none => false | some a => zeroB a.1 && decide (a.2 > 0)
def rayB (rs : List Row) (goal ray : List Int) : Bool := if ray.length = goal.length then (rs.all fun r => decide (dot r.1 ray ≥ 0)) && decide (dot goal ray > 0) else false
def pointB (rs : List Row) (goal : List Int) (p : Row) : Bool := if p.2 < 1 ∨ p.1.length ≠ goal.length then false else rs.all fun r => decide (dot r.1 p.1 ≥ r.2 * p.2)
def bestB (rs : List Row) (goal : List Int) (p : Row) (shs : List (Int × Int)) (d : Int) : Bool := if d < 1 then false else if pointB rs goal p = true then (match sumS rs shs goal.length with | none => false | some a => if a.1 = goal.map (fun x => -d * x) then decide (a.2 * p.2 = -d * dot goal p.1) else false) else false
structure EndOk (rs : List Row) (goal : List Int) : Prop where
  big : ∀ r ∈ rs, BigRow r
  len : ∀ r ∈ rs, r.1.length = goal.length
  size : goal.length ≤ 500
  rows : rs.length ≤ 900
  gbig : ∀ x ∈ goal, BigI x
theorem ne_len {xs ys : List Int} (h : (!((((xs.map D.int).length : Nat) : Int) == (((ys.map D.int).length : Nat) : Int))) = true) : ¬ xs.length = ys.length := fun e => by
  rw [List.length_map, List.length_map, e] at h
  simp at h
theorem eq_len {xs ys : List Int} (h : (!((((xs.map D.int).length : Nat) : Int) == (((ys.map D.int).length : Nat) : Int))) = false) : xs.length = ys.length := by
  rw [List.length_map, List.length_map] at h
  simp at h
  omega
def z_none_holds : SpD := fun ds R => ∃ (rs : List Row) (goal : List Int) (shs : List (Int × Int)), ds = [.tup (rs.map rowD), .tup (goal.map D.int), .tup (shs.map prD)] ∧ EndOk rs goal ∧ (∀ s ∈ shs, BigI s.2) ∧ R (.bl (noneB rs goal.length shs))
theorem ok_none_holds {n : Nat} {f : Addr} {fd : FuncData} (F : Fun K "none_holds" "none_holds" s_none_holds f fd) {f_shares_sum : Addr} {d_shares_sum : FuncData} (G_shares_sum : FnOk P w K mg base CX0 n f_shares_sum d_shares_sum ["rows", "shares", "n"] (lSp K z_shares_sum)) (b_shares_sum : Binds K d_shares_sum ["rows", "shares", "n"] []) (k_shares_sum : PySem.W.keepIn K (.ref f_shares_sum) = true) (m_shares_sum : mg "shares_sum" = some (.ref f_shares_sum)) (z_len : mg "len" = none) (z_all : mg "all" = none) : FnOk P w K mg base CX0 (n + 1) f fd ["rows", "goal", "shares"] (lSp K z_none_holds) := by
  refine F.okD sc_none_holds (fun ds R h => ?_) (fun cdv A outer s H E ds R hr h => ?_)
  · obtain ⟨rs, goal, shs, rfl, _⟩ := h; rfl
  obtain ⟨rs, goal, shs, rfl, ok, hs, q⟩ := h
  refine ⟨_, (s_cons (s_set (i := 3) sc_none_holds.nd rfl (Or.inl rfl) (d_call G_shares_sum hr rfl m_shares_sum k_shares_sum b_shares_sum pass0 (a_cons (dv 0) (a_cons (dv 2) (a_cons (d_callB c_len rfl z_len PySem.boot_len (aq_cons (dvq 1) aq_nil se_Name) se_Name npl_nil) a_nil se_Call) se_Name) se_Name) se_Name (npl_cons se_Name (npl_cons se_Call npl_nil))))
      (s_cut (s_if (t_cmp z_is (dvq 3) (PD.q dc_non) (nomark _)) (s_one (s_ret dc_bl)) s_nil)
      (s_one (s_ret (d_and (d_callB (c_all rfl) rfl z_all PyProof.Rows.boot_all (aq_cons (PD.q (PF.d (f_compN (k := 1) (N' := ["entry"]) (cap := [none]) rfl (.ok (show compOk ["rows", "goal", "shares", "summed"] (defScope s_none_holds) _ ["entry"] [none] = true by decide +kernel)) (by decide +kernel) (gm_set (by decide)) (i_seq (d_ix (dvq 3) (PD.q dc_int) (fun _ _ => rfl))) (fun _ _ _ _ _ => (g_name (i := 0) (show List.Nodup (["entry"] : List Str) by decide +kernel) rfl (Or.inl rfl))) (fun _ _ _ _ _ => (d_cmp (z_eq hr.units) (dvq 0) (PD.q dc_int) (nomark _)))))) aq_nil se_ListComp) se_ListComp npl_nil) (d_one (d_cmp z_gt (PD.q (d_ix (dvq 3) (PD.q dc_int) (fun _ _ => rfl))) (PD.q dc_int) (nomark _)))))))), ?_⟩
  refine ⟨rs, shs, goal.length, by rw [List.length_map], ok.size, ok.big, hs, ok.len, fun e => ?_, fun a e hal => ?_⟩
  · refine ⟨fun _ => False, ⟨fun _ => ?_, fun h => tf h⟩, fun _ h => h.elim⟩
    exact toB q (by unfold noneB; rw [e])
  · refine ⟨fun ρ => ρ = [some (.v (.tup (rs.map rowD))), some (.v (.tup (goal.map D.int))), some (.v (.tup (shs.map prD))), some (.v (rowD a))], ⟨fun h => ff h, fun _ => rfl⟩, ?_⟩
    rintro ρ rfl
    refine ⟨_, rfl, ?_⟩
    refine compN_map (fun x => D.bl (decide (x = 0))) (small1000 (by have := ok.size; omega)) (fun x hx => congrArg D.bl (eq0 x)) ?_
    refine ⟨a.1.map fun x => decide (x = 0), by rw [List.map_map]; rfl, ?_⟩
    have e1 : noneB rs goal.length shs = (zeroB a.1 && decide (a.2 > 0)) := by unfold noneB; rw [e]
    refine ⟨fun h => ⟨_, rfl, toB q ?_⟩, fun h => toB q ?_⟩
    · have h' : zeroB a.1 = true := all_of h
      rw [e1, h', Bool.true_and]
    · have h' : zeroB a.1 = false := all_of h
      rw [e1, h', Bool.false_and]
def z_is_ray : SpD := fun ds R => ∃ (rs : List Row) (goal ray : List Int), ds = [.tup (rs.map rowD), .tup (goal.map D.int), .tup (ray.map D.int)] ∧ EndOk rs goal ∧ (∀ x ∈ ray, BigI x) ∧ R (.bl (rayB rs goal ray))
theorem ok_is_ray {n : Nat} {f : Addr} {fd : FuncData} (F : Fun K "is_ray" "is_ray" s_is_ray f fd) {f_left : Addr} {d_left : FuncData} (G_left : FnOk P w K mg base CX0 n f_left d_left ["entries", "spot"] (lSp K z_left)) (b_left : Binds K d_left ["entries", "spot"] []) (k_left : PySem.W.keepIn K (.ref f_left) = true) (m_left : mg "left" = some (.ref f_left)) (z_len : mg "len" = none) (z_all : mg "all" = none) : FnOk P w K mg base CX0 (n + 1) f fd ["rows", "goal", "ray"] (lSp K z_is_ray) := by
  refine F.okD sc_is_ray (fun ds R h => ?_) (fun cdv A outer s H E ds R hr h => ?_)
  · obtain ⟨rs, goal, ray, rfl, _⟩ := h; rfl
  obtain ⟨rs, goal, ray, rfl, ok, hy, q⟩ := h
  refine ⟨_, (s_cut (s_if (t_cmp (z_ne hr.units) (PD.q (d_callB c_len rfl z_len PySem.boot_len (aq_cons (dvq 2) aq_nil se_Name) se_Name npl_nil)) (PD.q (d_callB c_len rfl z_len PySem.boot_len (aq_cons (dvq 1) aq_nil se_Name) se_Name npl_nil)) (nomark _)) (s_one (s_ret dc_bl)) s_nil)
      (s_one (s_ret (d_and (d_callB (c_all rfl) rfl z_all PyProof.Rows.boot_all (aq_cons (PD.q (PF.d (f_compN (k := 1) (N' := ["row", "ray"]) (cap := [none, some 2]) rfl (.ok (show compOk ["rows", "goal", "ray"] (defScope s_is_ray) _ ["row", "ray"] [none, some 2] = true by decide +kernel)) (by decide +kernel) (gm_set (by decide)) (i_seq (dv 0)) (fun _ _ _ _ _ => (g_name (i := 0) (show List.Nodup (["row", "ray"] : List Str) by decide +kernel) rfl (Or.inl rfl))) (fun _ _ _ _ _ => (d_cmp z_ge (PD.q (d_call G_left hr rfl m_left k_left b_left pass0 (a_cons (d_ix (dvq 0) (PD.q dc_int) (fun _ _ => rfl)) (a_cons (dv 1) a_nil se_Name) se_Subscript) se_Subscript (npl_cons se_Name npl_nil))) (PD.q dc_int) (nomark _)))))) aq_nil se_ListComp) se_ListComp npl_nil) (d_one (d_cmp z_gt (PD.q (d_call G_left hr rfl m_left k_left b_left pass0 (a_cons (dv 1) (a_cons (dv 2) a_nil se_Name) se_Name) se_Name (npl_cons se_Name npl_nil))) (PD.q dc_int) (nomark _))))))), ?_⟩
  refine ⟨fun ρ => ray.length = goal.length ∧ ρ = [some (.v (.tup (rs.map rowD))), some (.v (.tup (goal.map D.int))), some (.v (.tup (ray.map D.int)))], ⟨fun h => toB q ?_, fun h => ⟨?_, rfl⟩⟩, ?_⟩
  · have h' := ne_len h
    unfold rayB
    rw [if_neg h']
  · exact eq_len h
  rintro ρ ⟨hl, rfl⟩
  have e1 : rayB rs goal ray = ((rs.all fun r => decide (dot r.1 ray ≥ 0)) && decide (dot goal ray > 0)) := by unfold rayB; rw [if_pos hl]
  refine compN_map (fun r => D.bl (decide (dot r.1 ray ≥ 0))) (small1000 (by have := ok.rows; omega)) (fun r hr' => ⟨_, rfl, r.1, ray, rfl, by have := ok.len r hr'; have := ok.size; omega, (ok.big r hr').1, hy, rfl⟩) ?_
  refine ⟨rs.map fun r => decide (dot r.1 ray ≥ 0), by rw [List.map_map]; rfl, fun h => ⟨goal, ray, rfl, by have := ok.size; omega, ok.gbig, hy, toB q ?_⟩, fun h => toB q ?_⟩
  · rw [e1, all_of h, Bool.true_and]
  · rw [e1, all_of h, Bool.false_and]
def z_is_point : SpD := fun ds R => ∃ (rs : List Row) (goal : List Int) (p : Row), ds = [.tup (rs.map rowD), .tup (goal.map D.int), rowD p] ∧ EndOk rs goal ∧ BigRow p ∧ R (.bl (pointB rs goal p))
theorem ok_is_point {n : Nat} {f : Addr} {fd : FuncData} (F : Fun K "is_point" "is_point" s_is_point f fd) {f_passes : Addr} {d_passes : FuncData} (G_passes : FnOk P w K mg base CX0 n f_passes d_passes ["row", "point"] (lSp K z_passes)) (b_passes : Binds K d_passes ["row", "point"] []) (k_passes : PySem.W.keepIn K (.ref f_passes) = true) (m_passes : mg "passes" = some (.ref f_passes)) (z_all : mg "all" = none) (z_len : mg "len" = none) : FnOk P w K mg base CX0 (n + 1) f fd ["rows", "goal", "point"] (lSp K z_is_point) := by
  refine F.okD sc_is_point (fun ds R h => ?_) (fun cdv A outer s H E ds R hr h => ?_)
  · obtain ⟨rs, goal, p, rfl, _⟩ := h; rfl
  obtain ⟨rs, goal, p, rfl, ok, hp, q⟩ := h
  refine ⟨_, (s_cut (s_if (PWD.td (w_or (t_cmp z_lt (PD.q (d_ix (dvq 2) (PD.q dc_int) (fun _ _ => rfl))) (PD.q dc_int) (nomark _)) (w_or1 (t_cmp (z_ne hr.units) (PD.q (d_callB c_len rfl z_len PySem.boot_len (aq_cons (PD.q (d_ix (dvq 2) (PD.q dc_int) (fun _ _ => rfl))) aq_nil se_Subscript) se_Subscript npl_nil)) (PD.q (d_callB c_len rfl z_len PySem.boot_len (aq_cons (dvq 1) aq_nil se_Name) se_Name npl_nil)) (nomark _))))) (s_one (s_ret dc_bl)) s_nil)
      (s_one (s_ret (d_callB (c_all rfl) rfl z_all PyProof.Rows.boot_all (aq_cons (PD.q (PF.d (f_compN (k := 1) (N' := ["row", "point"]) (cap := [none, some 2]) rfl (.ok (show compOk ["rows", "goal", "point"] (defScope s_is_point) _ ["row", "point"] [none, some 2] = true by decide +kernel)) (by decide +kernel) (gm_set (by decide)) (i_seq (dv 0)) (fun _ _ _ _ _ => (g_name (i := 0) (show List.Nodup (["row", "point"] : List Str) by decide +kernel) rfl (Or.inl rfl))) (fun _ _ _ _ _ => (d_call G_passes hr rfl m_passes k_passes b_passes pass0 (a_cons (dv 0) (a_cons (dv 1) a_nil se_Name) se_Name) se_Name (npl_cons se_Name npl_nil)))))) aq_nil se_ListComp) se_ListComp npl_nil)))), ?_⟩
  refine ⟨fun ρ => (¬ (p.2 < 1 ∨ p.1.length ≠ goal.length)) ∧ ρ = [some (.v (.tup (rs.map rowD))), some (.v (.tup (goal.map D.int))), some (.v (rowD p))], ⟨_, rfl, fun h => ⟨fun _ => toB q ?_, fun h => tf h⟩, fun h => ⟨_, rfl, fun h2 => toB q ?_, fun h2 => ⟨?_, rfl⟩⟩⟩, ?_⟩
  · unfold pointB
    rw [if_pos (.inl (dP h))]
  · unfold pointB
    rw [if_pos (.inr (ne_len h2))]
  · intro c
    rcases c with c | c
    · exact of_decide_eq_false h c
    · exact c (eq_len h2)
  rintro ρ ⟨hc, rfl⟩
  have e1 : pointB rs goal p = rs.all fun r => decide (dot r.1 p.1 ≥ r.2 * p.2) := by unfold pointB; rw [if_neg hc]
  refine compN_map (fun r => D.bl (decide (dot r.1 p.1 ≥ r.2 * p.2))) (small1000 (by have := ok.rows; omega)) (fun r hr' => ⟨r, p, rfl, by have := ok.len r hr'; have := ok.size; omega, ok.big r hr', hp, rfl⟩) ?_
  refine ⟨rs.map fun r => decide (dot r.1 p.1 ≥ r.2 * p.2), by rw [List.map_map]; rfl, toB q ?_⟩
  rw [e1]
  exact (all_of rfl).symm
theorem cm_ints (k : Nat) : ∀ (xs ys : List Int), cmL (cmB (k + 1)) (xs.map D.int) (ys.map D.int) = some (decide (xs = ys))
  | [], [] => rfl
  | [], _ :: _ => rfl
  | _ :: _, [] => rfl
  | x :: xs, y :: ys => by
    show ((cmB (k + 1) (.int x) (.int y)).bind fun b => (cmL (cmB (k + 1)) (xs.map D.int) (ys.map D.int)).map (b && ·)) = _
    rw [cm_ints k xs ys]
    show some ((x == y) && decide (xs = ys)) = _
    congr 1
    by_cases c : x = y
    · subst c; simp
    · simp [c]
theorem cm_tup (xs ys : List Int) : cmB 40 (.tup (xs.map D.int)) (.tup (ys.map D.int)) = some (decide (xs = ys)) := cm_ints 38 xs ys
theorem ne_if {xs ys : List Int} {X Y : Prop} (k1 : xs ≠ ys → X) (k2 : xs = ys → Y) : zNe (.tup (xs.map D.int)) (.tup (ys.map D.int)) fun d => match d with | .bl b => (b = true → X) ∧ (b = false → Y) | _ => False := by
  unfold zNe
  rw [cm_tup]
  by_cases c : xs = ys
  · rw [decide_eq_true c]
    exact ⟨fun h => ff h, fun _ => k2 c⟩
  · rw [decide_eq_false c]
    exact ⟨fun _ => k1 c, fun h => tf h⟩
def z_best_holds : SpD := fun ds R => ∃ (rs : List Row) (goal : List Int) (p : Row) (shs : List (Int × Int)) (d : Int), ds = [.tup (rs.map rowD), .tup (goal.map D.int), rowD p, .tup (shs.map prD), .int d] ∧ EndOk rs goal ∧ BigRow p ∧ (∀ s ∈ shs, BigI s.2) ∧ (∀ a, sumS rs shs goal.length = some a → BigI a.2) ∧ d.natAbs < 2 ^ 60 ∧ R (.bl (bestB rs goal p shs d))
theorem ok_best_holds {n : Nat} {f : Addr} {fd : FuncData} (F : Fun K "best_holds" "best_holds" s_best_holds f fd) {f_shares_sum : Addr} {d_shares_sum : FuncData} (G_shares_sum : FnOk P w K mg base CX0 n f_shares_sum d_shares_sum ["rows", "shares", "n"] (lSp K z_shares_sum)) (b_shares_sum : Binds K d_shares_sum ["rows", "shares", "n"] []) (k_shares_sum : PySem.W.keepIn K (.ref f_shares_sum) = true) (m_shares_sum : mg "shares_sum" = some (.ref f_shares_sum)) {f_is_point : Addr} {d_is_point : FuncData} (G_is_point : FnOk P w K mg base CX0 n f_is_point d_is_point ["rows", "goal", "point"] (lSp K z_is_point)) (b_is_point : Binds K d_is_point ["rows", "goal", "point"] []) (k_is_point : PySem.W.keepIn K (.ref f_is_point) = true) (m_is_point : mg "is_point" = some (.ref f_is_point)) {f_left : Addr} {d_left : FuncData} (G_left : FnOk P w K mg base CX0 n f_left d_left ["entries", "spot"] (lSp K z_left)) (b_left : Binds K d_left ["entries", "spot"] []) (k_left : PySem.W.keepIn K (.ref f_left) = true) (m_left : mg "left" = some (.ref f_left)) (z_len : mg "len" = none) (z_tuple : mg "tuple" = none) : FnOk P w K mg base CX0 (n + 1) f fd ["rows", "goal", "point", "shares", "divisor"] (lSp K z_best_holds) := by
  refine F.okD sc_best_holds (fun ds R h => ?_) (fun cdv A outer s H E ds R hr h => ?_)
  · obtain ⟨rs, goal, p, shs, d, rfl, _⟩ := h; rfl
  obtain ⟨rs, goal, p, shs, d, rfl, ok, hp, hs, hsb, hd, q⟩ := h
  refine ⟨_, (s_cut (s_if (PWD.td (w_or (t_cmp z_lt (dvq 4) (PD.q dc_int) (nomark _)) (w_or1 (t_not (t_tru (PD.q (d_call G_is_point hr rfl m_is_point k_is_point b_is_point pass0 (a_cons (dv 0) (a_cons (dv 1) (a_cons (dv 2) a_nil se_Name) se_Name) se_Name) se_Name (npl_cons se_Name (npl_cons se_Name npl_nil)))) (fun _ => rfl)))))) (s_one (s_ret dc_bl)) s_nil)
      (s_cons (s_set (i := 5) sc_best_holds.nd rfl (Or.inl rfl) (d_call G_shares_sum hr rfl m_shares_sum k_shares_sum b_shares_sum pass0 (a_cons (dv 0) (a_cons (dv 3) (a_cons (d_callB c_len rfl z_len PySem.boot_len (aq_cons (dvq 1) aq_nil se_Name) se_Name npl_nil) a_nil se_Call) se_Name) se_Name) se_Name (npl_cons se_Name (npl_cons se_Call npl_nil))))
      (s_cut (s_if (t_cmp z_is (dvq 5) (PD.q dc_non) (nomark _)) (s_one (s_ret dc_bl)) s_nil)
      (s_cut (s_if (t_cmp (z_ne hr.units) (PD.q (d_ix (dvq 5) (PD.q dc_int) (fun _ _ => rfl))) (PD.q (d_callTy c_tuple rfl z_tuple PyProof.Rows.boot_tuple (aq_cons (PD.q (PF.d (f_compN (k := 1) (N' := ["number", "divisor"]) (cap := [none, some 4]) rfl (.ok (show compOk ["rows", "goal", "point", "shares", "divisor", "summed"] (defScope s_best_holds) _ ["number", "divisor"] [none, some 4] = true by decide +kernel)) (by decide +kernel) (gm_set (by decide)) (i_seq (dv 1)) (fun _ _ _ _ _ => (g_name (i := 0) (show List.Nodup (["number", "divisor"] : List Str) by decide +kernel) rfl (Or.inl rfl))) (fun _ _ _ _ _ => (d_op z_mul (PD.q (d_neg (dvq 1))) (dvq 0)))))) aq_nil se_ListComp) se_ListComp npl_nil)) (nomark _)) (s_one (s_ret dc_bl)) s_nil)
      (s_one (s_ret (d_cmp (z_eq hr.units) (PD.q (d_op z_mul (PD.q (d_ix (dvq 5) (PD.q dc_int) (fun _ _ => rfl))) (PD.q (d_ix (dvq 2) (PD.q dc_int) (fun _ _ => rfl))))) (PD.q (d_op z_mul (PD.q (d_neg (dvq 4))) (PD.q (d_call G_left hr rfl m_left k_left b_left pass0 (a_cons (dv 1) (a_cons (d_ix (dvq 2) (PD.q dc_int) (fun _ _ => rfl)) a_nil se_Subscript) se_Name) se_Name (npl_cons se_Subscript npl_nil))))) (nomark _)))))))), ?_⟩
  have e60 : 2 ^ 60 = 1152921504606846976 := by decide
  refine ⟨fun ρ => (¬ d < 1 ∧ pointB rs goal p = true) ∧ ρ = [some (.v (.tup (rs.map rowD))), some (.v (.tup (goal.map D.int))), some (.v (rowD p)), some (.v (.tup (shs.map prD))), some (.v (.int d)), none], ⟨fun h => ⟨fun _ => toB q ?_, fun h => tf h⟩, fun h => ⟨rs, goal, p, rfl, ok, hp, ?_⟩⟩, ?_⟩
  · unfold bestB
    rw [if_pos (dP h)]
  · have h' := of_decide_eq_false h
    cases c : pointB rs goal p with
    | true => exact ⟨fun h => ff h, fun _ => ⟨⟨h', rfl⟩, rfl⟩⟩
    | false =>
      refine ⟨fun _ => toB q ?_, fun h => tf h⟩
      unfold bestB
      rw [if_neg h', c, if_neg (by decide)]
  rintro ρ ⟨⟨hd1, hpt⟩, rfl⟩
  have e0 : bestB rs goal p shs d = (match sumS rs shs goal.length with | none => false | some a => if a.1 = goal.map (fun x => -d * x) then decide (a.2 * p.2 = -d * dot goal p.1) else false) := by
    unfold bestB
    rw [if_neg hd1, if_pos hpt]
  refine ⟨rs, shs, goal.length, by rw [List.length_map], ok.size, ok.big, hs, ok.len, fun e => ?_, fun a e hal => ?_⟩
  · refine ⟨fun _ => False, ⟨fun _ => ?_, fun h => tf h⟩, fun _ h => h.elim⟩
    exact toB q (by rw [e0, e])
  rw [e] at e0
  have e1 : bestB rs goal p shs d = (if a.1 = goal.map (fun x => -d * x) then decide (a.2 * p.2 = -d * dot goal p.1) else false) := e0
  refine ⟨fun ρ => ρ = [some (.v (.tup (rs.map rowD))), some (.v (.tup (goal.map D.int))), some (.v (rowD p)), some (.v (.tup (shs.map prD))), some (.v (.int d)), some (.v (rowD a))], ⟨fun h => ff h, fun _ => rfl⟩, ?_⟩
  rintro ρ rfl
  refine ⟨fun ρ => a.1 = goal.map (fun x => -d * x) ∧ ρ = [some (.v (.tup (rs.map rowD))), some (.v (.tup (goal.map D.int))), some (.v (rowD p)), some (.v (.tup (shs.map prD))), some (.v (.int d)), some (.v (rowD a))], ⟨_, rfl, ?_⟩, ?_⟩
  · refine compN_int (fun x => -d * x) (small1000 (by have := ok.size; omega)) (fun x hx => ⟨mulOk_l (by omega) (by omega), rfl⟩) ?_
    exact ne_if (xs := a.1) (ys := goal.map fun x => -d * x) (fun c => toB q (by rw [e1, if_neg c])) fun c => ⟨c, rfl⟩
  rintro ρ ⟨hc, rfl⟩
  refine ⟨_, rfl, _, rfl, mulBig (hsb a e) hp.2, _, rfl, goal, p.1, rfl, by have := ok.size; omega, ok.gbig, hp.1, mulOk_l (by omega) (by omega), toB q ?_⟩
  rw [e1, if_pos hc]
  by_cases c : a.2 * p.2 = -d * dot goal p.1
  · rw [c]; simp
  · rw [decide_eq_false c, beq_eq_false_iff_ne.mpr c]
theorem y01 : ((("none" : Str)) == (("none" : Str))) = true := by decide +kernel
theorem y02 : ((("endless" : Str)) == (("none" : Str))) = false := by decide +kernel
theorem y03 : ((("best" : Str)) == (("none" : Str))) = false := by decide +kernel
theorem y04 : ((("endless" : Str)) == (("endless" : Str))) = true := by decide +kernel
theorem y05 : ((("best" : Str)) == (("endless" : Str))) = false := by decide +kernel
inductive En where
  | no (shs : List (Int × Int))
  | endless (p : Row) (ray : List Int)
  | best (p : Row) (shs : List (Int × Int)) (d : Int)
def enD : En → D
  | .no shs => .tup [.str "none", .tup (shs.map prD)]
  | .endless p ray => .tup [.str "endless", rowD p, .tup (ray.map D.int)]
  | .best p shs d => .tup [.str "best", rowD p, .tup (shs.map prD), .int d]
def EnOk (rs : List Row) (goal : List Int) : En → Prop
  | .no shs => ∀ s ∈ shs, BigI s.2
  | .endless p ray => BigRow p ∧ ∀ x ∈ ray, BigI x
  | .best p shs d => BigRow p ∧ (∀ s ∈ shs, BigI s.2) ∧ (∀ a, sumS rs shs goal.length = some a → BigI a.2) ∧ d.natAbs < 2 ^ 60
def endB (rs : List Row) (goal : List Int) : En → Bool
  | .no shs => noneB rs goal.length shs
  | .endless p ray => pointB rs goal p && rayB rs goal ray
  | .best p shs d => bestB rs goal p shs d
def z_shares_hold : SpD := fun ds R => ∃ (rs : List Row) (goal : List Int) (e : En), ds = [.tup (rs.map rowD), .tup (goal.map D.int), enD e] ∧ EndOk rs goal ∧ EnOk rs goal e ∧ R (.bl (endB rs goal e))
theorem ok_shares_hold {n : Nat} {f : Addr} {fd : FuncData} (F : Fun K "shares_hold" "shares_hold" s_shares_hold f fd) {f_best_holds : Addr} {d_best_holds : FuncData} (G_best_holds : FnOk P w K mg base CX0 n f_best_holds d_best_holds ["rows", "goal", "point", "shares", "divisor"] (lSp K z_best_holds)) (b_best_holds : Binds K d_best_holds ["rows", "goal", "point", "shares", "divisor"] []) (k_best_holds : PySem.W.keepIn K (.ref f_best_holds) = true) (m_best_holds : mg "best_holds" = some (.ref f_best_holds)) {f_none_holds : Addr} {d_none_holds : FuncData} (G_none_holds : FnOk P w K mg base CX0 n f_none_holds d_none_holds ["rows", "goal", "shares"] (lSp K z_none_holds)) (b_none_holds : Binds K d_none_holds ["rows", "goal", "shares"] []) (k_none_holds : PySem.W.keepIn K (.ref f_none_holds) = true) (m_none_holds : mg "none_holds" = some (.ref f_none_holds)) {f_is_point : Addr} {d_is_point : FuncData} (G_is_point : FnOk P w K mg base CX0 n f_is_point d_is_point ["rows", "goal", "point"] (lSp K z_is_point)) (b_is_point : Binds K d_is_point ["rows", "goal", "point"] []) (k_is_point : PySem.W.keepIn K (.ref f_is_point) = true) (m_is_point : mg "is_point" = some (.ref f_is_point)) {f_is_ray : Addr} {d_is_ray : FuncData} (G_is_ray : FnOk P w K mg base CX0 n f_is_ray d_is_ray ["rows", "goal", "ray"] (lSp K z_is_ray)) (b_is_ray : Binds K d_is_ray ["rows", "goal", "ray"] []) (k_is_ray : PySem.W.keepIn K (.ref f_is_ray) = true) (m_is_ray : mg "is_ray" = some (.ref f_is_ray)) : FnOk P w K mg base CX0 (n + 1) f fd ["rows", "goal", "told"] (lSp K z_shares_hold) := by
  refine F.okD sc_shares_hold (fun ds R h => ?_) (fun cdv A outer s H E ds R hr h => ?_)
  · obtain ⟨rs, goal, e, rfl, _⟩ := h; rfl
  obtain ⟨rs, goal, e, rfl, ok, he, q⟩ := h
  refine ⟨_, (s_cut (s_if (t_cmp (z_eq hr.units) (PD.q (d_ix (dvq 2) (PD.q dc_int) (fun _ _ => rfl))) (PD.q dc_str) (nomark _)) (s_one (s_ret (d_call G_none_holds hr rfl m_none_holds k_none_holds b_none_holds pass0 (a_cons (dv 0) (a_cons (dv 1) (a_cons (d_ix (dvq 2) (PD.q dc_int) (fun _ _ => rfl)) a_nil se_Subscript) se_Name) se_Name) se_Name (npl_cons se_Name (npl_cons se_Subscript npl_nil))))) s_nil)
      (s_cut (s_if (t_cmp (z_eq hr.units) (PD.q (d_ix (dvq 2) (PD.q dc_int) (fun _ _ => rfl))) (PD.q dc_str) (nomark _)) (s_one (s_ret (d_and (d_call G_is_point hr rfl m_is_point k_is_point b_is_point pass0 (a_cons (dv 0) (a_cons (dv 1) (a_cons (d_ix (dvq 2) (PD.q dc_int) (fun _ _ => rfl)) a_nil se_Subscript) se_Name) se_Name) se_Name (npl_cons se_Name (npl_cons se_Subscript npl_nil))) (d_one (d_call G_is_ray hr rfl m_is_ray k_is_ray b_is_ray pass0 (a_cons (dv 0) (a_cons (dv 1) (a_cons (d_ix (dvq 2) (PD.q dc_int) (fun _ _ => rfl)) a_nil se_Subscript) se_Name) se_Name) se_Name (npl_cons se_Name (npl_cons se_Subscript npl_nil))))))) s_nil)
      (s_one (s_ret (d_call G_best_holds hr rfl m_best_holds k_best_holds b_best_holds pass0 (a_cons (dv 0) (a_cons (dv 1) (a_cons (d_ix (dvq 2) (PD.q dc_int) (fun _ _ => rfl)) (a_cons (d_ix (dvq 2) (PD.q dc_int) (fun _ _ => rfl)) (a_cons (d_ix (dvq 2) (PD.q dc_int) (fun _ _ => rfl)) a_nil se_Subscript) se_Subscript) se_Subscript) se_Name) se_Name) se_Name (npl_cons se_Name (npl_cons se_Subscript (npl_cons se_Subscript (npl_cons se_Subscript npl_nil))))))))), ?_⟩
  cases e with
  | no shs => 
    refine ⟨fun _ => False, ⟨_, rfl, fun _ => ⟨_, rfl, rs, goal, shs, rfl, ok, he, q⟩, fun h => tf (y01.symm.trans h)⟩, fun _ h => h.elim⟩
  | endless p ray =>
    refine ⟨fun ρ => ρ = [some (.v (.tup (rs.map rowD))), some (.v (.tup (goal.map D.int))), some (.v (enD (.endless p ray)))], ⟨_, rfl, fun h => tf (h.symm.trans y02), fun _ => rfl⟩, ?_⟩
    rintro ρ rfl
    refine ⟨fun _ => False, ⟨_, rfl, fun _ => ⟨_, rfl, rs, goal, p, rfl, ok, he.1, ?_⟩, fun h => tf (y04.symm.trans h)⟩, fun _ h => h.elim⟩
    refine ⟨fun h => ⟨_, rfl, rs, goal, ray, rfl, ok, he.2, toB q ?_⟩, fun h => toB q ?_⟩
    · show _ = (pointB rs goal p && rayB rs goal ray)
      rw [h, Bool.true_and]
    · show _ = (pointB rs goal p && rayB rs goal ray)
      rw [h, Bool.false_and]
  | best p shs d =>
    refine ⟨fun ρ => ρ = [some (.v (.tup (rs.map rowD))), some (.v (.tup (goal.map D.int))), some (.v (enD (.best p shs d)))], ⟨_, rfl, fun h => tf (h.symm.trans y03), fun _ => rfl⟩, ?_⟩
    rintro ρ rfl
    refine ⟨fun ρ => ρ = [some (.v (.tup (rs.map rowD))), some (.v (.tup (goal.map D.int))), some (.v (enD (.best p shs d)))], ⟨_, rfl, fun h => tf (h.symm.trans y05), fun _ => rfl⟩, ?_⟩
    rintro ρ rfl
    exact ⟨_, rfl, _, rfl, _, rfl, rs, goal, p, shs, d, rfl, ok, he.1, he.2.1, he.2.2.1, he.2.2.2, q⟩
abbrev Fit (rs : List Row) (shs : List (Int × Int)) : Prop := (∀ r ∈ rs, (∀ x ∈ r.1, x.natAbs < 2 ^ 60000) ∧ r.2.natAbs < 2 ^ 60000) ∧ ∀ s ∈ shs, s.2.natAbs < 2 ^ 60000
def z__law_total : SpD := fun ds R => ∃ (rs : List Row) (shs : List (Int × Int)) (n : Nat), ds = [.lst (rs.map rowD), .lst (shs.map prD), .int (n : Int)] ∧ n ≤ 500 ∧ Fit rs shs ∧ (∀ r ∈ rs, r.1.length = n) ∧
  (sumS rs shs n = none → R .non) ∧ ∀ r, sumS rs shs n = some r → r.1.length = n → R (.lst ((r.1 ++ [r.2]).map D.int))
theorem rep_end (n : Nat) : List.replicate (n + 1) (0 : Int) = List.replicate n 0 ++ [0] := by rw [List.replicate_succ']
theorem ok__law_total {n : Nat} {f : Addr} {fd : FuncData} (F : Fun K "_law_total" "_law_total" s__law_total f fd) (z_list : mg "list" = none) (z_len : mg "len" = none) (z_zip : mg "zip" = none) : FnOk P w K mg base CX0 (n + 1) f fd ["_law_rows_here", "_law_shares", "_law_n"] (lSp K z__law_total) := by
  refine F.okD sc__law_total (fun ds R h => ?_) (fun cdv A outer s H E ds R hr h => ?_)
  · obtain ⟨rs, shs, n, rfl, _⟩ := h; rfl
  obtain ⟨rs, shs, n, rfl, hn, ⟨hfr, hfs⟩, hlen, q0, q1⟩ := h
  refine ⟨_, (s_cons (s_set (i := 3) sc__law_total.nd rfl (Or.inl rfl) (d_op z_mul (PD.q (PF.d (f_lst (a_cons dc_int a_nil se_Constant)))) (PD.q (d_op z_add (dvq 2) (PD.q dc_int)))))
      (s_cons (s_for PassesOwn.never rfl (i_seq (dv 1)) (g_seq (n := 2) rfl (gs_cons (g_name (i := 4) sc__law_total.nd rfl (Or.inl rfl)) (gs_cons (g_name (i := 5) sc__law_total.nd rfl (Or.inr rfl)) gs_nil))) (s_cut (s_if (PWD.td (w_or (t_cmp z_lt (dvq 4) (PD.q dc_int) (nomark _)) (w_or (t_cmp z_ge (dvq 4) (PD.q (d_callB c_len rfl z_len PySem.boot_len (aq_cons (dvq 0) aq_nil se_Name) se_Name npl_nil)) (nomark _)) (w_or1 (t_cmp z_lt (dvq 5) (PD.q dc_int) (nomark _)))))) (s_one (s_ret dc_non)) s_nil)
      (s_cons (s_set (i := 6) sc__law_total.nd rfl (Or.inl rfl) (d_op z_add (PD.q (PF.d (f_list rfl z_list (PD.q (d_ix (PD.q (d_ix (dvq 0) (dvq 4) (fun _ _ => rfl))) (PD.q dc_int) (fun _ _ => rfl))) se_Subscript))) (PD.q (PF.d (f_lst (a_cons (d_ix (PD.q (d_ix (dvq 0) (dvq 4) (fun _ _ => rfl))) (PD.q dc_int) (fun _ _ => rfl)) a_nil se_Subscript))))))
      (s_one (s_compN (i := 3) (k := 2) (N' := ["_law_one", "_law_more", "_law_weight"]) (cap := [none, none, some 5]) rfl sc__law_total.nd rfl (Or.inl rfl) (.ok (show compOk ["_law_rows_here", "_law_shares", "_law_n", "_law_total_here", "_law_number", "_law_weight", "_law_row"] (defScope s__law_total) _ ["_law_one", "_law_more", "_law_weight"] [none, none, some 5] = true by decide +kernel)) (by decide +kernel) (gm_seq (n := 2) (gm_cons (gm_set (by decide)) (gm_cons (gm_set (by decide)) gm_nil))) (i_zipU rfl z_zip (a_cons (dv 3) (a_cons (dv 6) a_nil se_Name) se_Name)) (fun _ _ _ _ _ => (g_seq (n := 2) rfl (gs_cons (g_name (i := 0) (show List.Nodup (["_law_one", "_law_more", "_law_weight"] : List Str) by decide +kernel) rfl (Or.inl rfl)) (gs_cons (g_name (i := 1) (show List.Nodup (["_law_one", "_law_more", "_law_weight"] : List Str) by decide +kernel) rfl (Or.inl rfl)) gs_nil)))) (fun _ _ _ _ _ => (d_op z_add (dvq 0) (PD.q (d_op z_mul (dvq 2) (dvq 1))))))))))
      (s_one (s_ret (dv 3))))), ?_⟩
  refine ⟨⟨by omega, by omega, ?_⟩, ((List.replicate n (0 : Int), (0 : Int)).1 ++ [(List.replicate n (0 : Int), (0 : Int)).2]).map D.int, ?_, fun i ρ => ∃ (a : Row) (u4 u5 u6 : Option Sl), ρ = [some (.v (.lst (rs.map rowD))), some (.v (.lst (shs.map prD))), some (.v (.int n)), some (.v (.lst ((a.1 ++ [a.2]).map D.int))), u4, u5, u6] ∧ a.1.length = n ∧ sumS rs (shs.take i) n = some a, ⟨(List.replicate n 0, 0), _, _, _, rfl, List.length_replicate, rfl⟩, ?_, ?_⟩
  · rw [show [D.int 0].length = 1 from rfl]; exact small (by omega)
  · rw [rep_one, show Int.toNat ((n : Int) + 1) = n + 1 by omega, rep_end]
  · rintro i d ρ hd ⟨a, u4, u5, u6, rfl, hal, hsum⟩
    obtain ⟨⟨k, w⟩, rfl, hs⟩ := map_atD hd
    have hw := hfs _ (List.mem_of_getElem? hs)
    refine ⟨rfl, fun ρ => okS rs (k, w) ∧ ρ = [some (.v (.lst (rs.map rowD))), some (.v (.lst (shs.map prD))), some (.v (.int n)), some (.v (.lst ((a.1 ++ [a.2]).map D.int))), some (.v (.int k)), some (.v (.int w)), u6], ?_, ?_⟩
    · refine ⟨fun h => ⟨fun _ => q0 (sumS_bad hs fun ok => ?_), fun h => tf h⟩, fun h => ⟨fun h2 => ⟨fun _ => q0 (sumS_bad hs fun ok => ?_), fun h => tf h⟩, fun h2 => ⟨fun h3 => q0 (sumS_bad hs fun ok => ?_), fun h3 => ⟨?_, rfl⟩⟩⟩⟩
      · have h1 := ok.1.1
        have h2 := dP h
        simp only at *
        omega
      · have h1 := ok.1.2
        have h3 := dP h2
        rw [List.length_map] at h3
        simp only at *
        omega
      · have h1 := ok.2
        have h4 := dP h3
        simp only at *
        omega
      · have h1 := of_decide_eq_false h
        have h4 := of_decide_eq_false h2
        have h5 := of_decide_eq_false h3
        rw [List.length_map] at h4
        exact ⟨⟨by show 0 ≤ k; omega, by show k < rs.length; omega⟩, by show 0 ≤ w; omega⟩
    rintro ρ ⟨ok, rfl⟩
    have k0 : 0 ≤ k := ok.1.1
    have k1 : k < rs.length := ok.1.2
    have hmem := rowAt_mem k0 k1
    have hrow := hfr _ hmem
    have hrl := hlen _ hmem
    refine ⟨_, at_row k0 k1, _, rfl, _, rfl, _, at_row k0 k1, _, rfl, ?_, _, snocM _ _ _, _, _, rfl, rfl, ?_⟩
    · show ((rowAt rs k).1.map D.int).length + 1 ≤ sizeLine
      rw [List.length_map, hrl]; exact small (by omega)
    refine compN_zip (fun t e => D.int (t + w * e)) ?_ (fun t ht e he => ⟨rfl, mulOk_of (m := 60000) (n := 60000) (by decide) (by decide) hw ?_ (by decide), rfl⟩) ?_
    · rw [List.length_append, hal]; exact small1000 (by simp; omega)
    · rcases List.mem_append.mp he with h | h
      · exact hrow.1 e h
      · rw [List.mem_singleton.mp h]; exact hrow.2
    · have e4 : List.zipWith (fun t e => D.int (t + w * e)) (a.1 ++ [a.2]) ((rowAt rs k).1 ++ [(rowAt rs k).2]) = ((addS rs a (k, w)).1 ++ [(addS rs a (k, w)).2]).map D.int := by
        rw [zw_end (hal.trans hrl.symm), List.map_append]
        unfold addS
        simp [List.map_zipWith]
      rw [e4]
      refine ⟨addS rs a (k, w), _, _, _, rfl, ?_, sumS_ok hs hsum ok⟩
      unfold addS
      rw [List.length_zipWith, hal, hrl]
      exact Nat.min_self n
  · rintro ρ ⟨a, u4, u5, u6, rfl, hal, hsum⟩
    rw [List.length_map, List.take_length] at hsum
    exact q1 a hsum hal
def z__law_left : SpD := fun ds R => ∃ (xs ys : List Int), ds = [.tup (xs.map D.int), .tup (ys.map D.int)] ∧ xs.length ≤ 1000 ∧ (∀ x ∈ xs, BigI x) ∧ (∀ y ∈ ys, BigI y) ∧ R (.int (dot xs ys))
theorem ok__law_left {n : Nat} {f : Addr} {fd : FuncData} (F : Fun K "_law_left" "_law_left" s__law_left f fd) (z_sum : mg "sum" = none) (z_zip : mg "zip" = none) : FnOk P w K mg base CX0 (n + 1) f fd ["_law_entries", "_law_spot"] (lSp K z__law_left) := by
  refine F.okD sc__law_left (fun ds R h => ?_) (fun cdv A outer s H E ds R hr h => ?_)
  · obtain ⟨xs, ys, rfl, _⟩ := h; rfl
  obtain ⟨xs, ys, rfl, hl, hx, hy, q⟩ := h
  refine ⟨_, (s_one (s_ret (d_callB (c_sum rfl) rfl z_sum PyProof.Rows.boot_sum (aq_cons (PD.q (PF.d (f_compN (k := 2) (N' := ["_law_one", "_law_other"]) (cap := [none, none]) rfl (.ok (show compOk ["_law_entries", "_law_spot"] (defScope s__law_left) _ ["_law_one", "_law_other"] [none, none] = true by decide +kernel)) (by decide +kernel) (gm_seq (n := 2) (gm_cons (gm_set (by decide)) (gm_cons (gm_set (by decide)) gm_nil))) (i_zipU rfl z_zip (a_cons (dv 0) (a_cons (dv 1) a_nil se_Name) se_Name)) (fun _ _ _ _ _ => (g_seq (n := 2) rfl (gs_cons (g_name (i := 0) (show List.Nodup (["_law_one", "_law_other"] : List Str) by decide +kernel) rfl (Or.inl rfl)) (gs_cons (g_name (i := 1) (show List.Nodup (["_law_one", "_law_other"] : List Str) by decide +kernel) rfl (Or.inl rfl)) gs_nil)))) (fun _ _ _ _ _ => (d_op z_mul (dvq 0) (dvq 1)))))) aq_nil se_ListComp) se_ListComp npl_nil))), ?_⟩
  refine ⟨_, _, rfl, rfl, ?_⟩
  refine compN_zip (fun x y => D.int (x * y)) (small1000 hl) (fun x hx' y hy' => ⟨rfl, mulBig (hx x hx') (hy y hy'), rfl⟩) ?_
  exact ⟨List.zipWith (fun x y => x * y) xs ys, by rw [List.map_zipWith]; rfl, q⟩
def z__law_unit : SpD := fun ds R => ∃ (n : Nat) (k : Int), ds = [.int (n : Int), .int k] ∧ n ≤ 500 ∧ ∀ us : List Int, us.length = n → (∀ x ∈ us, x.natAbs ≤ 1) → R (.tup (us.map D.int))
theorem ok__law_unit {n : Nat} {f : Addr} {fd : FuncData} (F : Fun K "_law_unit" "_law_unit" s__law_unit f fd) (z_tuple : mg "tuple" = none) (z_int : mg "int" = none) (z_range : mg "range" = none) : FnOk P w K mg base CX0 (n + 1) f fd ["_law_n", "_law_at"] (lSp K z__law_unit) := by
  refine F.okD sc__law_unit (fun ds R h => ?_) (fun cdv A outer s H E ds R hr h => ?_)
  · obtain ⟨n, k, rfl, _⟩ := h; rfl
  obtain ⟨n, k, rfl, hn, q⟩ := h
  refine ⟨_, (s_one (s_ret (d_callTy c_tuple rfl z_tuple PyProof.Rows.boot_tuple (aq_cons (PD.q (PF.d (f_compN (k := 1) (N' := ["_law_k", "_law_at"]) (cap := [none, some 1]) rfl (.ok (show compOk ["_law_n", "_law_at"] (defScope s__law_unit) _ ["_law_k", "_law_at"] [none, some 1] = true by decide +kernel)) (by decide +kernel) (gm_set (by decide)) (i_range1 rfl z_range (a_cons (dv 0) a_nil se_Name)) (fun _ _ _ _ _ => (g_name (i := 0) (show List.Nodup (["_law_k", "_law_at"] : List Str) by decide +kernel) rfl (Or.inl rfl))) (fun _ _ _ _ _ => (d_callTy c_int rfl z_int PyProof.Rows.boot_int (aq_cons (PD.q (d_cmp (z_eq hr.units) (dvq 0) (dvq 1) (nomark _))) aq_nil se_Compare) se_Compare npl_nil))))) aq_nil se_ListComp) se_ListComp npl_nil))), ?_⟩
  refine ⟨⟨by omega, by omega⟩, by rw [rangeD_len]; exact small1000 (by omega), fun i y => ∃ x : Int, x.natAbs ≤ 1 ∧ y = .int x, fun i d hd => ?_, fun ys hyl hy => ?_⟩
  · obtain ⟨hi, rfl⟩ := rangeD_at hd
    refine ⟨_, ?_, rfl⟩
    cases ((0 + (i : Int)) == k) <;> decide
  · obtain ⟨us, rfl, hus⟩ := ex_map hy
    rw [List.length_map, rangeD_len] at hyl
    exact q us (by omega) hus
theorem ne_n {xs : List Int} {n : Nat} (h : (!((((xs.map D.int).length : Nat) : Int) == (n : Int))) = true) : ¬ xs.length = n := fun e => by
  rw [List.length_map, e] at h
  simp at h
theorem eq_n {xs : List Int} {n : Nat} (h : (!((((xs.map D.int).length : Nat) : Int) == (n : Int))) = false) : xs.length = n := by
  rw [List.length_map] at h
  simp at h
  omega
def z__law_meets : SpD := fun ds R => ∃ (rs : List Row) (p : Row) (goal : List Int), ds = [.lst (rs.map rowD), rowD p, .int (goal.length : Int)] ∧ EndOk rs goal ∧ BigRow p ∧ R (.bl (pointB rs goal p))
theorem ok__law_meets {n : Nat} {f : Addr} {fd : FuncData} (F : Fun K "_law_meets" "_law_meets" s__law_meets f fd) {f__law_left : Addr} {d__law_left : FuncData} (G__law_left : FnOk P w K mg base CX0 n f__law_left d__law_left ["_law_entries", "_law_spot"] (lSp K z__law_left)) (b__law_left : Binds K d__law_left ["_law_entries", "_law_spot"] []) (k__law_left : PySem.W.keepIn K (.ref f__law_left) = true) (m__law_left : mg "_law_left" = some (.ref f__law_left)) (z_all : mg "all" = none) (z_len : mg "len" = none) : FnOk P w K mg base CX0 (n + 1) f fd ["_law_rows_here", "_law_point", "_law_n"] (lSp K z__law_meets) := by
  refine F.okD sc__law_meets (fun ds R h => ?_) (fun cdv A outer s H E ds R hr h => ?_)
  · obtain ⟨rs, p, goal, rfl, _⟩ := h; rfl
  obtain ⟨rs, p, goal, rfl, ok, hp, q⟩ := h
  refine ⟨_, (s_cut (s_if (PWD.td (w_or (t_cmp z_lt (PD.q (d_ix (dvq 1) (PD.q dc_int) (fun _ _ => rfl))) (PD.q dc_int) (nomark _)) (w_or1 (t_cmp (z_ne hr.units) (PD.q (d_callB c_len rfl z_len PySem.boot_len (aq_cons (PD.q (d_ix (dvq 1) (PD.q dc_int) (fun _ _ => rfl))) aq_nil se_Subscript) se_Subscript npl_nil)) (dvq 2) (nomark _))))) (s_one (s_ret dc_bl)) s_nil)
      (s_one (s_ret (d_callB (c_all rfl) rfl z_all PyProof.Rows.boot_all (aq_cons (PD.q (PF.d (f_compN (k := 1) (N' := ["_law_row", "_law_point"]) (cap := [none, some 1]) rfl (.ok (show compOk ["_law_rows_here", "_law_point", "_law_n"] (defScope s__law_meets) _ ["_law_row", "_law_point"] [none, some 1] = true by decide +kernel)) (by decide +kernel) (gm_set (by decide)) (i_seq (dv 0)) (fun _ _ _ _ _ => (g_name (i := 0) (show List.Nodup (["_law_row", "_law_point"] : List Str) by decide +kernel) rfl (Or.inl rfl))) (fun _ _ _ _ _ => (d_cmp z_ge (PD.q (d_call G__law_left hr rfl m__law_left k__law_left b__law_left pass0 (a_cons (d_ix (dvq 0) (PD.q dc_int) (fun _ _ => rfl)) (a_cons (d_ix (dvq 1) (PD.q dc_int) (fun _ _ => rfl)) a_nil se_Subscript) se_Subscript) se_Subscript (npl_cons se_Subscript npl_nil))) (PD.q (d_op z_mul (PD.q (d_ix (dvq 0) (PD.q dc_int) (fun _ _ => rfl))) (PD.q (d_ix (dvq 1) (PD.q dc_int) (fun _ _ => rfl))))) (nomark _)))))) aq_nil se_ListComp) se_ListComp npl_nil)))), ?_⟩
  refine ⟨fun ρ => (¬ (p.2 < 1 ∨ p.1.length ≠ goal.length)) ∧ ρ = [some (.v (.lst (rs.map rowD))), some (.v (rowD p)), some (.v (.int goal.length))], ⟨_, rfl, fun h => ⟨fun _ => toB q ?_, fun h => tf h⟩, fun h => ⟨_, rfl, fun h2 => toB q ?_, fun h2 => ⟨?_, rfl⟩⟩⟩, ?_⟩
  · unfold pointB
    rw [if_pos (.inl (dP h))]
  · unfold pointB
    rw [if_pos (.inr (ne_n h2))]
  · intro c
    rcases c with c | c
    · exact of_decide_eq_false h c
    · exact c (eq_n h2)
  rintro ρ ⟨hc, rfl⟩
  have e1 : pointB rs goal p = rs.all fun r => decide (dot r.1 p.1 ≥ r.2 * p.2) := by unfold pointB; rw [if_neg hc]
  refine compN_map (fun r => D.bl (decide (dot r.1 p.1 ≥ r.2 * p.2))) (small1000 (by have := ok.rows; omega)) (fun r hr' => ⟨_, rfl, _, rfl, r.1, p.1, rfl, by have := ok.len r hr'; have := ok.size; omega, (ok.big r hr').1, hp.1, _, rfl, _, rfl, mulBig (ok.big r hr').2 hp.2, rfl⟩) ?_
  refine ⟨rs.map fun r => decide (dot r.1 p.1 ≥ r.2 * p.2), by rw [List.map_map]; rfl, toB q ?_⟩
  rw [e1]
  exact (all_of rfl).symm
def z__law_ray_due : SpD := fun ds R => ∃ (rs : List Row) (goal ray : List Int), ds = [.lst (rs.map rowD), .tup (goal.map D.int), .tup (ray.map D.int), .int (goal.length : Int)] ∧ EndOk rs goal ∧ (∀ x ∈ ray, BigI x) ∧ R (.bl (rayB rs goal ray))
theorem ok__law_ray_due {n : Nat} {f : Addr} {fd : FuncData} (F : Fun K "_law_ray_due" "_law_ray_due" s__law_ray_due f fd) {f__law_left : Addr} {d__law_left : FuncData} (G__law_left : FnOk P w K mg base CX0 n f__law_left d__law_left ["_law_entries", "_law_spot"] (lSp K z__law_left)) (b__law_left : Binds K d__law_left ["_law_entries", "_law_spot"] []) (k__law_left : PySem.W.keepIn K (.ref f__law_left) = true) (m__law_left : mg "_law_left" = some (.ref f__law_left)) (z_all : mg "all" = none) (z_len : mg "len" = none) : FnOk P w K mg base CX0 (n + 1) f fd ["_law_rows_here", "_law_goal", "_law_ray", "_law_n"] (lSp K z__law_ray_due) := by
  refine F.okD sc__law_ray_due (fun ds R h => ?_) (fun cdv A outer s H E ds R hr h => ?_)
  · obtain ⟨rs, goal, ray, rfl, _⟩ := h; rfl
  obtain ⟨rs, goal, ray, rfl, ok, hy, q⟩ := h
  refine ⟨_, (s_cut (s_if (PWD.td (w_or (t_cmp (z_ne hr.units) (PD.q (d_callB c_len rfl z_len PySem.boot_len (aq_cons (dvq 2) aq_nil se_Name) se_Name npl_nil)) (dvq 3) (nomark _)) (w_or1 (t_cmp z_le (PD.q (d_call G__law_left hr rfl m__law_left k__law_left b__law_left pass0 (a_cons (dv 1) (a_cons (dv 2) a_nil se_Name) se_Name) se_Name (npl_cons se_Name npl_nil))) (PD.q dc_int) (nomark _))))) (s_one (s_ret dc_bl)) s_nil)
      (s_one (s_ret (d_callB (c_all rfl) rfl z_all PyProof.Rows.boot_all (aq_cons (PD.q (PF.d (f_compN (k := 1) (N' := ["_law_row", "_law_ray"]) (cap := [none, some 2]) rfl (.ok (show compOk ["_law_rows_here", "_law_goal", "_law_ray", "_law_n"] (defScope s__law_ray_due) _ ["_law_row", "_law_ray"] [none, some 2] = true by decide +kernel)) (by decide +kernel) (gm_set (by decide)) (i_seq (dv 0)) (fun _ _ _ _ _ => (g_name (i := 0) (show List.Nodup (["_law_row", "_law_ray"] : List Str) by decide +kernel) rfl (Or.inl rfl))) (fun _ _ _ _ _ => (d_cmp z_ge (PD.q (d_call G__law_left hr rfl m__law_left k__law_left b__law_left pass0 (a_cons (d_ix (dvq 0) (PD.q dc_int) (fun _ _ => rfl)) (a_cons (dv 1) a_nil se_Name) se_Subscript) se_Subscript (npl_cons se_Name npl_nil))) (PD.q dc_int) (nomark _)))))) aq_nil se_ListComp) se_ListComp npl_nil)))), ?_⟩
  refine ⟨fun ρ => (ray.length = goal.length ∧ dot goal ray > 0) ∧ ρ = [some (.v (.lst (rs.map rowD))), some (.v (.tup (goal.map D.int))), some (.v (.tup (ray.map D.int))), some (.v (.int goal.length))], ⟨fun h => ⟨fun _ => toB q ?_, fun h => tf h⟩, fun h => ⟨goal, ray, rfl, by have := ok.size; omega, ok.gbig, hy, fun h2 => toB q ?_, fun h2 => ⟨⟨eq_n h, ?_⟩, rfl⟩⟩⟩, ?_⟩
  · unfold rayB
    rw [if_neg (ne_n h)]
  · have h3 := dP h2
    unfold rayB
    rw [decide_eq_false (show ¬ dot goal ray > 0 by omega), Bool.and_false, ite_self]
  · have h3 := of_decide_eq_false h2
    omega
  rintro ρ ⟨⟨hl, hg⟩, rfl⟩
  have e1 : rayB rs goal ray = (rs.all fun r => decide (dot r.1 ray ≥ 0)) := by unfold rayB; rw [if_pos hl, decide_eq_true hg, Bool.and_true]
  refine compN_map (fun r => D.bl (decide (dot r.1 ray ≥ 0))) (small1000 (by have := ok.rows; omega)) (fun r hr' => ⟨_, rfl, r.1, ray, rfl, by have := ok.len r hr'; have := ok.size; omega, (ok.big r hr').1, hy, rfl⟩) ?_
  refine ⟨rs.map fun r => decide (dot r.1 ray ≥ 0), by rw [List.map_map]; rfl, toB q ?_⟩
  rw [e1]
  exact (all_of rfl).symm
def enOf (kind : Int) (p : Row) (ray : List Int) (shs : List (Int × Int)) (d : Int) : En := if kind = 0 then .no shs else if kind = 1 then .endless p ray else .best p shs d
def partsD (p : Row) (ray : List Int) (shs : List (Int × Int)) (d : Int) : D := .tup [rowD p, .tup (ray.map D.int), .lst (shs.map prD), .int d]
def z__law_told : SpD := fun ds R => ∃ (kind : Int) (p : Row) (ray : List Int) (shs : List (Int × Int)) (d : Int), ds = [.int kind, partsD p ray shs d] ∧ R (enD (enOf kind p ray shs d))
theorem ok__law_told {n : Nat} {f : Addr} {fd : FuncData} (F : Fun K "_law_told" "_law_told" s__law_told f fd) (z_tuple : mg "tuple" = none) : FnOk P w K mg base CX0 (n + 1) f fd ["_law_kind", "_law_parts"] (lSp K z__law_told) := by
  refine F.okD sc__law_told (fun ds R h => ?_) (fun cdv A outer s H E ds R hr h => ?_)
  · obtain ⟨kind, p, ray, shs, d, rfl, _⟩ := h; rfl
  obtain ⟨kind, p, ray, shs, d, rfl, q⟩ := h
  refine ⟨_, (s_cons (s_asg (dv 1) (g_seq (n := 4) rfl (gs_cons (g_name (i := 2) sc__law_told.nd rfl (Or.inl rfl)) (gs_cons (g_name (i := 3) sc__law_told.nd rfl (Or.inl rfl)) (gs_cons (g_name (i := 4) sc__law_told.nd rfl (Or.inl rfl)) (gs_cons (g_name (i := 5) sc__law_told.nd rfl (Or.inl rfl)) gs_nil))))))
      (s_cut (s_if (t_cmp (z_eq hr.units) (dvq 0) (PD.q dc_int) (nomark _)) (s_one (s_ret (d_tup (a_cons dc_str (a_cons (d_callTy c_tuple rfl z_tuple PyProof.Rows.boot_tuple (aq_cons (dvq 4) aq_nil se_Name) se_Name npl_nil) a_nil se_Call) se_Constant)))) s_nil)
      (s_cut (s_if (t_cmp (z_eq hr.units) (dvq 0) (PD.q dc_int) (nomark _)) (s_one (s_ret (d_tup (a_cons dc_str (a_cons (dv 2) (a_cons (dv 3) a_nil se_Name) se_Name) se_Constant)))) s_nil)
      (s_one (s_ret (d_tup (a_cons dc_str (a_cons (dv 2) (a_cons (d_callTy c_tuple rfl z_tuple PyProof.Rows.boot_tuple (aq_cons (dvq 4) aq_nil se_Name) se_Name npl_nil) (a_cons (dv 5) a_nil se_Name) se_Call) se_Name) se_Constant))))))), ?_⟩
  refine ⟨rfl, fun ρ => kind ≠ 0 ∧ ρ = [some (.v (.int kind)), some (.v (partsD p ray shs d)), some (.v (rowD p)), some (.v (.tup (ray.map D.int))), some (.v (.lst (shs.map prD))), some (.v (.int d))], ⟨fun h => ?_, fun h => ⟨fun c => ?_, rfl⟩⟩, ?_⟩
  · have h' : kind = 0 := eq_of_beq h
    rw [enOf, if_pos h'] at q
    exact q
  · rw [c] at h
    exact tf h
  rintro ρ ⟨hk, rfl⟩
  refine ⟨fun ρ => kind ≠ 1 ∧ ρ = [some (.v (.int kind)), some (.v (partsD p ray shs d)), some (.v (rowD p)), some (.v (.tup (ray.map D.int))), some (.v (.lst (shs.map prD))), some (.v (.int d))], ⟨fun h => ?_, fun h => ⟨fun c => ?_, rfl⟩⟩, ?_⟩
  · have h' : kind = 1 := eq_of_beq h
    rw [enOf, if_neg hk, if_pos h'] at q
    exact q
  · rw [c] at h
    exact tf h
  rintro ρ ⟨hk1, rfl⟩
  rw [enOf, if_neg hk, if_neg hk1] at q
  exact q
theorem cm_lst (xs ys : List Int) : cmB 40 (.lst (xs.map D.int)) (.lst (ys.map D.int)) = some (decide (xs = ys)) := by
  show (if (xs.map D.int).length = (ys.map D.int).length then cmL (cmB 39) (xs.map D.int) (ys.map D.int) else some false) = _
  split
  · exact cm_ints 38 xs ys
  · rename_i h
    rw [decide_eq_false fun e => h (by rw [e])]
theorem eq_lst {xs ys : List Int} {R : D → Prop} (q : R (.bl (decide (xs = ys)))) : zEq (.lst (xs.map D.int)) (.lst (ys.map D.int)) R := by
  unfold zEq
  rw [cm_lst]
  exact q
def z__law_due : SpD := fun ds R => ∃ (kind : Int) (rs : List Row) (goal : List Int) (p : Row) (ray : List Int) (shs : List (Int × Int)) (d : Int), ds = [.int kind, .lst (rs.map rowD), .tup (goal.map D.int), partsD p ray shs d, .int (goal.length : Int)] ∧ EndOk rs goal ∧ BigRow p ∧ (∀ x ∈ ray, BigI x) ∧ (∀ s ∈ shs, BigI s.2) ∧ (∀ a, sumS rs shs goal.length = some a → BigI a.2) ∧ d.natAbs < 2 ^ 60 ∧ R (.bl (endB rs goal (enOf kind p ray shs d)))
theorem ok__law_due {n : Nat} {f : Addr} {fd : FuncData} (F : Fun K "_law_due" "_law_due" s__law_due f fd) {f__law_total : Addr} {d__law_total : FuncData} (G__law_total : FnOk P w K mg base CX0 n f__law_total d__law_total ["_law_rows_here", "_law_shares", "_law_n"] (lSp K z__law_total)) (b__law_total : Binds K d__law_total ["_law_rows_here", "_law_shares", "_law_n"] []) (k__law_total : PySem.W.keepIn K (.ref f__law_total) = true) (m__law_total : mg "_law_total" = some (.ref f__law_total)) {f__law_meets : Addr} {d__law_meets : FuncData} (G__law_meets : FnOk P w K mg base CX0 n f__law_meets d__law_meets ["_law_rows_here", "_law_point", "_law_n"] (lSp K z__law_meets)) (b__law_meets : Binds K d__law_meets ["_law_rows_here", "_law_point", "_law_n"] []) (k__law_meets : PySem.W.keepIn K (.ref f__law_meets) = true) (m__law_meets : mg "_law_meets" = some (.ref f__law_meets)) {f__law_ray_due : Addr} {d__law_ray_due : FuncData} (G__law_ray_due : FnOk P w K mg base CX0 n f__law_ray_due d__law_ray_due ["_law_rows_here", "_law_goal", "_law_ray", "_law_n"] (lSp K z__law_ray_due)) (b__law_ray_due : Binds K d__law_ray_due ["_law_rows_here", "_law_goal", "_law_ray", "_law_n"] []) (k__law_ray_due : PySem.W.keepIn K (.ref f__law_ray_due) = true) (m__law_ray_due : mg "_law_ray_due" = some (.ref f__law_ray_due)) {f__law_left : Addr} {d__law_left : FuncData} (G__law_left : FnOk P w K mg base CX0 n f__law_left d__law_left ["_law_entries", "_law_spot"] (lSp K z__law_left)) (b__law_left : Binds K d__law_left ["_law_entries", "_law_spot"] []) (k__law_left : PySem.W.keepIn K (.ref f__law_left) = true) (m__law_left : mg "_law_left" = some (.ref f__law_left)) (z_all : mg "all" = none) : FnOk P w K mg base CX0 (n + 1) f fd ["_law_kind", "_law_rows_here", "_law_goal", "_law_parts", "_law_n"] (lSp K z__law_due) := by
  refine F.okD sc__law_due (fun ds R h => ?_) (fun cdv A outer s H E ds R hr h => ?_)
  · obtain ⟨kind, rs, goal, p, ray, shs, d, rfl, _⟩ := h; rfl
  obtain ⟨kind, rs, goal, p, ray, shs, d, rfl, ok, hp, hy, hs, hsb, hd, q⟩ := h
  refine ⟨_, (s_cons (s_asg (dv 3) (g_seq (n := 4) rfl (gs_cons (g_name (i := 5) sc__law_due.nd rfl (Or.inl rfl)) (gs_cons (g_name (i := 6) sc__law_due.nd rfl (Or.inl rfl)) (gs_cons (g_name (i := 7) sc__law_due.nd rfl (Or.inl rfl)) (gs_cons (g_name (i := 8) sc__law_due.nd rfl (Or.inr rfl)) gs_nil))))))
      (s_cut (s_if (t_cmp (z_eq hr.units) (dvq 0) (PD.q dc_int) (nomark _)) (s_one (s_ret (d_and (d_call G__law_meets hr rfl m__law_meets k__law_meets b__law_meets pass0 (a_cons (dv 1) (a_cons (dv 5) (a_cons (dv 4) a_nil se_Name) se_Name) se_Name) se_Name (npl_cons se_Name (npl_cons se_Name npl_nil))) (d_one (d_call G__law_ray_due hr rfl m__law_ray_due k__law_ray_due b__law_ray_due pass0 (a_cons (dv 1) (a_cons (dv 2) (a_cons (dv 6) (a_cons (dv 4) a_nil se_Name) se_Name) se_Name) se_Name) se_Name (npl_cons se_Name (npl_cons se_Name (npl_cons se_Name npl_nil)))))))) s_nil)
      (s_cons (s_set (i := 9) sc__law_due.nd rfl (Or.inl rfl) (d_call G__law_total hr rfl m__law_total k__law_total b__law_total pass0 (a_cons (dv 1) (a_cons (dv 7) (a_cons (dv 4) a_nil se_Name) se_Name) se_Name) se_Name (npl_cons se_Name (npl_cons se_Name npl_nil))))
      (s_cut (s_if (t_cmp z_is (dvq 9) (PD.q dc_non) (nomark _)) (s_one (s_ret dc_bl)) s_nil)
      (s_cut (s_if (t_cmp (z_eq hr.units) (dvq 0) (PD.q dc_int) (nomark _)) (s_one (s_ret (d_and (d_cmp z_gt (PD.q (d_ix (dvq 9) (dvq 4) (fun _ _ => rfl))) (PD.q dc_int) (nomark _)) (d_one (d_callB (c_all rfl) rfl z_all PyProof.Rows.boot_all (aq_cons (PD.q (PF.d (f_compN (k := 1) (N' := ["_law_one"]) (cap := [none]) rfl (.ok (show compOk ["_law_kind", "_law_rows_here", "_law_goal", "_law_parts", "_law_n", "_law_point", "_law_ray", "_law_shares", "_law_divisor", "_law_total_here"] (defScope s__law_due) _ ["_law_one"] [none] = true by decide +kernel)) (by decide +kernel) (gm_set (by decide)) (i_seq (d_sl (dvq 9) o_none (o_some (dvq 4)))) (fun _ _ _ _ _ => (g_name (i := 0) (show List.Nodup (["_law_one"] : List Str) by decide +kernel) rfl (Or.inl rfl))) (fun _ _ _ _ _ => (d_cmp (z_eq hr.units) (dvq 0) (PD.q dc_int) (nomark _)))))) aq_nil se_ListComp) se_ListComp npl_nil))))) s_nil)
      (s_cut (s_if (PWD.td (w_or (t_cmp z_lt (dvq 8) (PD.q dc_int) (nomark _)) (w_or1 (t_not (t_tru (PD.q (d_call G__law_meets hr rfl m__law_meets k__law_meets b__law_meets pass0 (a_cons (dv 1) (a_cons (dv 5) (a_cons (dv 4) a_nil se_Name) se_Name) se_Name) se_Name (npl_cons se_Name (npl_cons se_Name npl_nil)))) (fun _ => rfl)))))) (s_one (s_ret dc_bl)) s_nil)
      (s_cut (s_if (t_cmp (z_ne hr.units) (PD.q (d_op z_mul (PD.q (d_ix (dvq 9) (dvq 4) (fun _ _ => rfl))) (PD.q (d_ix (dvq 5) (PD.q dc_int) (fun _ _ => rfl))))) (PD.q (d_op z_mul (PD.q (d_neg (dvq 8))) (PD.q (d_call G__law_left hr rfl m__law_left k__law_left b__law_left pass0 (a_cons (dv 2) (a_cons (d_ix (dvq 5) (PD.q dc_int) (fun _ _ => rfl)) a_nil se_Subscript) se_Name) se_Name (npl_cons se_Subscript npl_nil))))) (nomark _)) (s_one (s_ret dc_bl)) s_nil)
      (s_one (s_ret (d_cmp (z_eq hr.units) (PD.q (d_sl (dvq 9) o_none (o_some (dvq 4)))) (PD.q (PF.d (f_compN (k := 1) (N' := ["_law_one", "_law_divisor"]) (cap := [none, some 8]) rfl (.ok (show compOk ["_law_kind", "_law_rows_here", "_law_goal", "_law_parts", "_law_n", "_law_point", "_law_ray", "_law_shares", "_law_divisor", "_law_total_here"] (defScope s__law_due) _ ["_law_one", "_law_divisor"] [none, some 8] = true by decide +kernel)) (by decide +kernel) (gm_set (by decide)) (i_seq (dv 2)) (fun _ _ _ _ _ => (g_name (i := 0) (show List.Nodup (["_law_one", "_law_divisor"] : List Str) by decide +kernel) rfl (Or.inl rfl))) (fun _ _ _ _ _ => (d_op z_mul (PD.q (d_neg (dvq 1))) (dvq 0)))))) (nomark _))))))))))), ?_⟩
  have e60 : 2 ^ 60 = 1152921504606846976 := by decide
  refine ⟨rfl, fun ρ => kind ≠ 1 ∧ ρ = [some (.v (.int kind)), some (.v (.lst (rs.map rowD))), some (.v (.tup (goal.map D.int))), some (.v (partsD p ray shs d)), some (.v (.int goal.length)), some (.v (rowD p)), some (.v (.tup (ray.map D.int))), some (.v (.lst (shs.map prD))), some (.v (.int d)), none], ⟨fun h => ?_, fun h => ⟨fun c => ?_, rfl⟩⟩, ?_⟩
  · have h' : kind = 1 := eq_of_beq h
    have e : endB rs goal (enOf kind p ray shs d) = (pointB rs goal p && rayB rs goal ray) := by rw [enOf, h', if_neg (by decide), if_pos rfl]; rfl
    refine ⟨rs, p, goal, rfl, ok, hp, fun h => ⟨rs, goal, ray, rfl, ok, hy, toB q ?_⟩, fun h => toB q ?_⟩
    · rw [e, h, Bool.true_and]
    · rw [e, h, Bool.false_and]
  · rw [c] at h
    exact tf h
  rintro ρ ⟨hk1, rfl⟩
  refine ⟨rs, shs, goal.length, rfl, ok.size, ⟨ok.big, hs⟩, ok.len, fun e => ?_, fun a e hal => ?_⟩
  · refine ⟨fun _ => False, ⟨fun _ => toB q ?_, fun h => tf h⟩, fun _ h => h.elim⟩
    by_cases c : kind = 0
    · rw [enOf, if_pos c]
      show _ = noneB rs goal.length shs
      unfold noneB; rw [e]
    · rw [enOf, if_neg c, if_neg hk1]
      show _ = bestB rs goal p shs d
      unfold bestB
      rw [e]
      simp
  refine ⟨fun ρ => ρ = [some (.v (.int kind)), some (.v (.lst (rs.map rowD))), some (.v (.tup (goal.map D.int))), some (.v (partsD p ray shs d)), some (.v (.int goal.length)), some (.v (rowD p)), some (.v (.tup (ray.map D.int))), some (.v (.lst (shs.map prD))), some (.v (.int d)), some (.v (.lst ((a.1 ++ [a.2]).map D.int)))], ⟨fun h => ff h, fun _ => rfl⟩, ?_⟩
  rintro ρ rfl
  have hat : atI ((a.1 ++ [a.2]).map D.int) (goal.length : Int) = some (.int a.2) := at_map (i := goal.length) (by rw [List.getElem?_append_right (by omega), hal, Nat.sub_self]; rfl) rfl
  have hcut : cutL ((a.1 ++ [a.2]).map D.int) none (some (goal.length : Int)) = a.1.map D.int := by rw [cutL_map, cut_head, ← hal, List.take_left]
  refine ⟨fun ρ => kind ≠ 0 ∧ ρ = [some (.v (.int kind)), some (.v (.lst (rs.map rowD))), some (.v (.tup (goal.map D.int))), some (.v (partsD p ray shs d)), some (.v (.int goal.length)), some (.v (rowD p)), some (.v (.tup (ray.map D.int))), some (.v (.lst (shs.map prD))), some (.v (.int d)), some (.v (.lst ((a.1 ++ [a.2]).map D.int)))], ⟨fun h => ?_, fun h => ⟨fun c => ?_, rfl⟩⟩, ?_⟩
  · have h' : kind = 0 := eq_of_beq h
    have e1 : endB rs goal (enOf kind p ray shs d) = (zeroB a.1 && decide (a.2 > 0)) := by
      rw [enOf, if_pos h']
      show noneB rs goal.length shs = _
      unfold noneB; rw [e]
    refine ⟨_, hat, fun h => ⟨_, hcut, ?_⟩, fun h => toB q (by rw [e1, h, Bool.and_false])⟩
    refine compN_map (fun x => D.bl (decide (x = 0))) (small1000 (by have := ok.size; omega)) (fun x hx => congrArg D.bl (eq0 x)) ?_
    refine ⟨a.1.map fun x => decide (x = 0), by rw [List.map_map]; rfl, toB q ?_⟩
    rw [e1, h, Bool.and_true]
    exact (all_of rfl).symm
  · rw [c] at h
    exact tf h
  rintro ρ ⟨hk0, rfl⟩
  rw [enOf, if_neg hk0, if_neg hk1] at q
  have q' : R (.bl (bestB rs goal p shs d)) := q
  refine ⟨fun ρ => (¬ d < 1 ∧ pointB rs goal p = true) ∧ ρ = [some (.v (.int kind)), some (.v (.lst (rs.map rowD))), some (.v (.tup (goal.map D.int))), some (.v (partsD p ray shs d)), some (.v (.int goal.length)), some (.v (rowD p)), some (.v (.tup (ray.map D.int))), some (.v (.lst (shs.map prD))), some (.v (.int d)), some (.v (.lst ((a.1 ++ [a.2]).map D.int)))], ⟨fun h => ⟨fun _ => toB q' ?_, fun h => tf h⟩, fun h => ⟨rs, p, goal, rfl, ok, hp, ?_⟩⟩, ?_⟩
  · unfold bestB
    rw [if_pos (dP h)]
  · have h' := of_decide_eq_false h
    cases c : pointB rs goal p with
    | true => exact ⟨fun h => ff h, fun _ => ⟨⟨h', rfl⟩, rfl⟩⟩
    | false =>
      refine ⟨fun _ => toB q' ?_, fun h => tf h⟩
      unfold bestB
      rw [if_neg h', c, if_neg (by decide)]
  rintro ρ ⟨⟨hd1, hpt⟩, rfl⟩
  have e1 : bestB rs goal p shs d = (if a.1 = goal.map (fun x => -d * x) then decide (a.2 * p.2 = -d * dot goal p.1) else false) := by
    unfold bestB
    rw [if_neg hd1, if_pos hpt, e]
  refine ⟨fun ρ => a.2 * p.2 = -d * dot goal p.1 ∧ ρ = [some (.v (.int kind)), some (.v (.lst (rs.map rowD))), some (.v (.tup (goal.map D.int))), some (.v (partsD p ray shs d)), some (.v (.int goal.length)), some (.v (rowD p)), some (.v (.tup (ray.map D.int))), some (.v (.lst (shs.map prD))), some (.v (.int d)), some (.v (.lst ((a.1 ++ [a.2]).map D.int)))], ⟨_, hat, _, rfl, mulBig (hsb a e) hp.2, _, rfl, goal, p.1, rfl, by have := ok.size; omega, ok.gbig, hp.1, mulOk_l (by omega) (by omega), fun h => toB q' ?_, fun h => ⟨?_, rfl⟩⟩, ?_⟩
  · have hne : ¬ a.2 * p.2 = -d * dot goal p.1 := fun c => by rw [c] at h; simp at h
    rw [e1, decide_eq_false hne, ite_self]
  · simpa using h
  rintro ρ ⟨hm, rfl⟩
  rw [decide_eq_true hm] at e1
  refine ⟨_, hcut, ?_⟩
  refine compN_int (fun x => -d * x) (small1000 (by have := ok.size; omega)) (fun x hx => ⟨mulOk_l (by omega) (by omega), rfl⟩) ?_
  exact eq_lst (xs := a.1) (ys := goal.map fun x => -d * x) (R := R) (toB q' (by
    rw [e1]
    by_cases c : a.1 = goal.map fun x => -d * x
    · rw [if_pos c, decide_eq_true c]
    · rw [if_neg c, decide_eq_false c]))
def z__law_cell : SpD := fun ds R => ∃ (ns : List Int) (k : Int), ds = [.fzl (ns.map D.int), .int k] ∧ ns.length ≤ 63 ∧ 0 ≤ k ∧ ∀ i : Int, R (.int i)
theorem ok__law_cell {n : Nat} {f : Addr} {fd : FuncData} (F : Fun K "_law_cell" "_law_cell" s__law_cell f fd) (z_len : mg "len" = none) : FnOk P w K mg base CX0 (n + 1) f fd ["_law_script", "_law_k"] (lSp K z__law_cell) := by
  refine F.okD sc__law_cell (fun ds R h => ?_) (fun cdv A outer s H E ds R hr h => ?_)
  · obtain ⟨ns, k, rfl, _⟩ := h; rfl
  obtain ⟨ns, k, rfl, hz, h0, q⟩ := h
  refine ⟨_, (s_cut (s_if (t_not (t_tru (dvq 0) (fun _ => rfl))) (s_one (s_ret (d_op z_add (PD.q (d_op z_mul (PD.q dc_int) (dvq 1))) (PD.q dc_int)))) s_nil)
      (s_one (s_ret (d_op z_add (PD.q (d_ix (dvq 0) (PD.q (d_op z_mod (dvq 1) (PD.q (d_callB c_len rfl z_len PySem.boot_len (aq_cons (dvq 0) aq_nil se_Name) se_Name npl_nil)))) (fun _ _ => rfl))) (PD.q (d_op z_mul (PD.q dc_int) (PD.q (d_op z_fdiv (dvq 1) (PD.q (d_callB c_len rfl z_len PySem.boot_len (aq_cons (dvq 0) aq_nil se_Name) se_Name npl_nil)))))))))), ?_⟩
  refine ⟨fun ρ => ns ≠ [] ∧ ρ = [some (.v (.fzl (ns.map D.int))), some (.v (.int k))], ⟨fun h => ⟨mulOk_l (by decide) (by decide), q _⟩, fun h => ⟨fun e => ?_, rfl⟩⟩, ?_⟩
  · subst e; cases h
  rintro ρ ⟨hne, rfl⟩
  have hp : (0 : Int) < ((ns.map D.int).length : Int) := by
    have := List.length_pos_iff.mpr hne
    rw [List.length_map]; omega
  have hl : (ns.map D.int).length ≤ 63 := by rw [List.length_map]; exact hz
  obtain ⟨v, hv⟩ := at_intD (ns := ns) (k := k % ((ns.map D.int).length : Int)) (Int.emod_nonneg _ (by omega)) (by have := Int.emod_lt_of_pos k hp; rw [List.length_map] at this ⊢; exact this)
  exact ⟨hp, _, hv, CDivB.of hp (by have h9 : (1000 : Int) < 2 ^ 9000 := by decide +kernel
                                    omega), mulOk_l (by decide) (by decide), q _⟩
abbrev Dr (d z : Int) : Prop := 0 ≤ d ∧ d < z
abbrev Drawn (ds zs : List Int) : Prop := Paired Dr ds zs
theorem Drawn.take {zs : List Int} {i : Nat} {z : Int} {ds : List Int} (h : Drawn ds (zs.take i)) (hz : zs[i]? = some z) {d : Int} (h0 : 0 ≤ d) (h1 : d < z) : Drawn (ds ++ [d]) (zs.take (i + 1)) := by
  rw [take_snoc hz]
  exact Paired.snoc h ⟨h0, h1⟩
theorem Drawn.len {ds zs : List Int} (h : Drawn ds zs) : ds.length = zs.length := Paired.length h
def z__law_draws : SpD := fun ds R => ∃ (c s : Int) (zs : List Int), ds = [.int c, .int s, .lst (zs.map D.int)] ∧ zs.length ≤ 1000 ∧ 0 ≤ s ∧ s < 2 ^ 20 ∧ (∀ z ∈ zs, 0 < z ∧ z < 2 ^ 9000) ∧ ∀ es : List Int, Drawn es zs → R (.lst (es.map D.int))
theorem ok__law_draws {n : Nat} {f : Addr} {fd : FuncData} (F : Fun K "_law_draws" "_law_draws" s__law_draws f fd) (z_max : mg "max" = none) (z_enumerate : mg "enumerate" = none) (z_abs : mg "abs" = none) : FnOk P w K mg base CX0 (n + 1) f fd ["_law_cell_here", "_law_salt", "_law_sizes"] (lSp K z__law_draws) := by
  refine F.okD sc__law_draws (fun ds R h => ?_) (fun cdv A outer s H E ds R hr h => ?_)
  · obtain ⟨c, s0, zs, rfl, _⟩ := h; rfl
  obtain ⟨c, s0, zs, rfl, hz, hs0, hs1, hzs, q⟩ := h
  refine ⟨_, (s_cons (s_own (i := 3) sc__law_draws.nd rfl (Or.inl rfl) (f_lst a_nil))
      (s_cons (s_set (i := 4) sc__law_draws.nd rfl (Or.inl rfl) (d_callB (c_max2 rfl) rfl z_max PyProof.Rows.boot_max (aq_cons (PD.q dc_int) (aq_cons (PD.q (d_op z_sub (PD.q (d_callB c_abs rfl z_abs PyProof.Rows.boot_abs (aq_cons (dvq 0) aq_nil se_Name) se_Name npl_nil)) (PD.q (d_op z_pow (PD.q dc_int) (PD.q dc_int))))) aq_nil se_BinOp) se_Constant) se_Constant (npl_cons se_BinOp npl_nil)))
      (s_cons (s_for PassesOwn.never rfl (i_enumU rfl z_enumerate (a_cons (dv 2) a_nil se_Name)) (g_seq (n := 2) rfl (gs_cons (g_name (i := 5) sc__law_draws.nd rfl (Or.inl rfl)) (gs_cons (g_name (i := 6) sc__law_draws.nd rfl (Or.inl rfl)) gs_nil))) (s_one (s_if (t_cmp z_gt (dvq 4) (PD.q dc_int) (nomark _)) (s_cons (s_append 3 (d_op z_mod (PD.q (d_op z_sub (dvq 4) (PD.q dc_int))) (dvq 6)) (few_of se_BinOp) se_BinOp)
      (s_one (s_set (i := 4) sc__law_draws.nd rfl (Or.inl rfl) (d_op z_fdiv (PD.q (d_op z_sub (dvq 4) (PD.q dc_int))) (dvq 6))))) (s_cons (s_set (i := 7) sc__law_draws.nd rfl (Or.inl rfl) (d_op z_add (PD.q (d_op z_add (PD.q (d_op z_mul (PD.q (d_op z_mod (dvq 0) (PD.q dc_int))) (PD.q dc_int))) (PD.q (d_op z_mul (dvq 1) (PD.q dc_int))))) (PD.q dc_int)))
      (s_cons (s_set (i := 7) sc__law_draws.nd rfl (Or.inl rfl) (d_op z_add (dvq 7) (PD.q (d_op z_mul (dvq 5) (PD.q (d_op z_add (PD.q (d_op z_mul (dvq 5) (PD.q dc_int))) (PD.q dc_int)))))))
      (s_cons (s_set (i := 7) sc__law_draws.nd rfl (Or.inl rfl) (d_op z_add (PD.q (d_op z_mod (PD.q (d_op z_mul (dvq 7) (PD.q dc_int))) (PD.q dc_int))) (PD.q (d_op z_mul (dvq 5) (dvq 1)))))
      (s_cons (s_set (i := 7) sc__law_draws.nd rfl (Or.inl rfl) (d_op z_mod (PD.q (d_op z_mul (dvq 7) (PD.q dc_int))) (PD.q dc_int)))
      (s_cut (s_if (t_cmp z_gt (dvq 6) (PD.q dc_int) (nomark _)) (s_one (s_set (i := 7) sc__law_draws.nd rfl (Or.inl rfl) (d_op z_mul (PD.q (d_op z_mul (PD.q (d_op z_mul (dvq 7) (dvq 7))) (dvq 7))) (dvq 7)))) s_nil)
      (s_one (s_append 3 (d_op z_mod (dvq 7) (dvq 6)) (few_of se_BinOp) se_BinOp))))))))))
      (s_frz 3 (s_one (s_ret (dv 3))))))), ?_⟩
  refine ⟨⟨by decide, by decide, by decide⟩, fun i ρ => ∃ (r : Int) (es : List Int) (u5 u6 u7 : Option Sl), ρ = [some (.v (.int c)), some (.v (.int s0)), some (.v (.lst (zs.map D.int))), some (.own (es.map D.int)), some (.v (.int r)), u5, u6, u7] ∧ Drawn es (zs.take i), ⟨_, [], _, _, _, rfl, .nil⟩, ?_, ?_⟩
  · rintro i d ρ hd ⟨r, es, u5, u6, u7, rfl, hD⟩
    obtain ⟨e, he, rfl⟩ := enumD_at hd
    obtain ⟨z, rfl, hzi⟩ := map_intD he
    have hzm := hzs z (List.mem_of_getElem? hzi)
    have hi : i < zs.length := lt_of_at hzi
    have ll : (es.map D.int).length < sizeLine := by
      have := hD.len
      rw [List.length_take] at this
      rw [List.length_map]
      exact small1000 (by omega)
    refine ⟨rfl, ⟨fun h => ?_, fun h => ?_⟩⟩
    · exact ⟨hzm.1, ll, _, snocM _ _ _, CDivB.of hzm.1 hzm.2, _, es ++ [(r - 1) % z], _, _, _, rfl, hD.take hzi (Int.emod_nonneg _ (by omega)) (Int.emod_lt_of_pos _ hzm.1)⟩
    · refine ⟨(by decide : (0 : Int) < 1000003), mulOk_r (by decide) (by decide), mulOk_r (by decide) (by decide), mulOk_r (by decide) (by decide), mulOk_l (by omega) (by omega), mulOk_r (by decide) (by decide), (by decide : (0 : Int) < 2147483647), mulOk_l (by omega) (by omega), mulOk_r (by decide) (by decide), (by decide : (0 : Int) < 1000000007), ?_⟩
      refine ⟨fun ρ => ∃ m : Int, ρ = [some (.v (.int c)), some (.v (.int s0)), some (.v (.lst (zs.map D.int))), some (.own (es.map D.int)), some (.v (.int r)), some (.v (.int i)), some (.v (.int z)), some (.v (.int m))], ⟨fun h2 => ?_, fun h2 => ⟨_, rfl⟩⟩, ?_⟩
      · have m0 := Int.emod_nonneg ((((c % 1000003 * 7919 + s0 * 15485863 + 5 + (i : Int) * ((i : Int) * 104729 + 611953)) * 48271 % 2147483647 + (i : Int) * s0)) * 69621) (b := 1000000007) (by decide)
        have m1 := Int.emod_lt_of_pos ((((c % 1000003 * 7919 + s0 * 15485863 + 5 + (i : Int) * ((i : Int) * 104729 + 611953)) * 48271 % 2147483647 + (i : Int) * s0)) * 69621) (b := 1000000007) (by decide)
        exact ⟨mulOk_r (by omega) (by omega), mulOk_r (by omega) (by omega), mulOk_r (by omega) (by omega), _, rfl⟩
      · rintro ρ ⟨m, rfl⟩
        exact ⟨hzm.1, ll, _, snocM _ _ _, _, es ++ [m % z], _, _, _, rfl, hD.take hzi (Int.emod_nonneg _ (by omega)) (Int.emod_lt_of_pos _ hzm.1)⟩
  · rintro ρ ⟨r, es, u5, u6, u7, rfl, hD⟩
    rw [enumD_len, List.length_map, List.take_length] at hD
    exact q es hD
theorem Drawn.at {ds zs : List Int} (h : Drawn ds zs) : ∀ {i : Nat} {z : Int}, zs[i]? = some z → ∃ d, ds[i]? = some d ∧ 0 ≤ d ∧ d < z := by
  induction h with
  | nil => intro i z hz; simp at hz
  | cons h1 t ih =>
    intro i z hz
    cases i with
    | zero => cases hz; exact ⟨_, rfl, h1⟩
    | succ i => exact ih hz
theorem Drawn.mem {ds zs : List Int} (h : Drawn ds zs) : ∀ d ∈ ds, ∃ z ∈ zs, 0 ≤ d ∧ d < z := by
  induction h with
  | nil => intro d hd; exact absurd hd List.not_mem_nil
  | cons h1 t ih =>
    intro d hd
    rcases List.mem_cons.mp hd with rfl | hd
    · exact ⟨_, List.mem_cons_self, h1⟩
    · obtain ⟨z, hz, q⟩ := ih d hd
      exact ⟨z, List.mem_cons_of_mem _ hz, q⟩
def RowB (b : Nat) (r : Row) : Prop := (∀ x ∈ r.1, x.natAbs ≤ 2 ^ b) ∧ r.2.natAbs ≤ 2 ^ b
theorem RowB.mono {b c : Nat} {r : Row} (h : RowB b r) (hc : b ≤ c) : RowB c r := ⟨fun x hx => Nat.le_trans (h.1 x hx) (Nat.pow_le_pow_right (by decide) hc), Nat.le_trans h.2 (Nat.pow_le_pow_right (by decide) hc)⟩
def RowN (n b : Nat) (r : Row) : Prop := r.1.length = n ∧ RowB b r
theorem cut_nat {α : Type} {xs : List α} {lo hi : Int} {a b : Nat} (ea : lo = (a : Int)) (eb : hi = (b : Int)) (hb : b ≤ xs.length) (ha : a ≤ b) : (cutL xs (some lo) (some hi)).length = b - a ∧ ∀ x ∈ cutL xs (some lo) (some hi), x ∈ xs := by
  subst ea eb
  refine ⟨?_, fun x hx => cutL_sub hx⟩
  rw [cut_mid xs a b hb ha, List.length_take, List.length_drop]
  omega
theorem drawn_le {ds zs : List Int} (h : Drawn ds zs) {b : Int} (hz : ∀ z ∈ zs, z ≤ b) : ∀ d ∈ ds, 0 ≤ d ∧ d < b := fun d hd => by
  obtain ⟨z, hz', q⟩ := h.mem d hd
  have := hz z hz'
  omega
def z__law_rows : SpD := fun ds R => ∃ (c s big : Int) (n many : Nat), ds = [.int c, .int s, .int (n : Int), .int (many : Int), .int big] ∧ 0 ≤ s ∧ s < 2 ^ 20 ∧ n ≤ 8 ∧ many ≤ 10 ∧ 0 < big ∧ big ≤ 2 ^ 39 ∧
  ∀ rs : List Row, rs.length = many → (∀ r ∈ rs, RowN n 40 r) → R (.lst (rs.map rowD))
theorem ok__law_rows {n : Nat} {f : Addr} {fd : FuncData} (F : Fun K "_law_rows" "_law_rows" s__law_rows f fd) {f__law_draws : Addr} {d__law_draws : FuncData} (G__law_draws : FnOk P w K mg base CX0 n f__law_draws d__law_draws ["_law_cell_here", "_law_salt", "_law_sizes"] (lSp K z__law_draws)) (b__law_draws : Binds K d__law_draws ["_law_cell_here", "_law_salt", "_law_sizes"] []) (k__law_draws : PySem.W.keepIn K (.ref f__law_draws) = true) (m__law_draws : mg "_law_draws" = some (.ref f__law_draws)) (z_range : mg "range" = none) (z_tuple : mg "tuple" = none) : FnOk P w K mg base CX0 (n + 1) f fd ["_law_cell_here", "_law_salt", "_law_n", "_law_many", "_law_big"] (lSp K z__law_rows) := by
  refine F.okD sc__law_rows (fun ds R h => ?_) (fun cdv A outer s H E ds R hr h => ?_)
  · obtain ⟨c, s0, big, n, many, rfl, _⟩ := h; rfl
  obtain ⟨c, s0, big, n, many, rfl, hs0, hs1, hn, hm, hb0, hb1, q⟩ := h
  refine ⟨_, (s_cons (s_set (i := 5) sc__law_rows.nd rfl (Or.inl rfl) (d_call G__law_draws hr rfl m__law_draws k__law_draws b__law_draws pass0 (a_cons (dv 0) (a_cons (dv 1) (a_cons (d_op z_mul (PD.q (PF.d (f_lst (a_cons (d_op z_add (PD.q (d_op z_mul (PD.q dc_int) (dvq 4))) (PD.q dc_int)) a_nil se_BinOp)))) (PD.q (d_op z_mul (PD.q (d_op z_add (dvq 2) (PD.q dc_int))) (dvq 3)))) a_nil se_BinOp) se_Name) se_Name) se_Name (npl_cons se_Name (npl_cons se_BinOp npl_nil))))
      (s_cons (s_own (i := 6) sc__law_rows.nd rfl (Or.inl rfl) (f_lst a_nil))
      (s_cons (s_for PassesOwn.never rfl (i_range1 rfl z_range (a_cons (dv 3) a_nil se_Name)) (g_name (i := 7) sc__law_rows.nd rfl (Or.inl rfl)) (s_cons (s_set (i := 8) sc__law_rows.nd rfl (Or.inl rfl) (d_sl (dvq 5) (o_some (PD.q (d_op z_mul (dvq 7) (PD.q (d_op z_add (dvq 2) (PD.q dc_int)))))) (o_some (PD.q (d_op z_mul (PD.q (d_op z_add (dvq 7) (PD.q dc_int))) (PD.q (d_op z_add (dvq 2) (PD.q dc_int))))))))
      (s_one (s_append 6 (d_tup (a_cons (d_callTy c_tuple rfl z_tuple PyProof.Rows.boot_tuple (aq_cons (PD.q (PF.d (f_compN (k := 1) (N' := ["_law_one", "_law_big"]) (cap := [none, some 4]) rfl (.ok (show compOk ["_law_cell_here", "_law_salt", "_law_n", "_law_many", "_law_big", "_law_numbers", "_law_rows_here", "_law_k", "_law_part"] (defScope s__law_rows) _ ["_law_one", "_law_big"] [none, some 4] = true by decide +kernel)) (by decide +kernel) (gm_set (by decide)) (i_seq (d_sl (dvq 8) o_none (o_some (dvq 2)))) (fun _ _ _ _ _ => (g_name (i := 0) (show List.Nodup (["_law_one", "_law_big"] : List Str) by decide +kernel) rfl (Or.inl rfl))) (fun _ _ _ _ _ => (d_op z_sub (dvq 0) (dvq 1)))))) aq_nil se_ListComp) se_ListComp npl_nil) (a_cons (d_op z_sub (PD.q (d_ix (dvq 8) (dvq 2) (fun _ _ => rfl))) (dvq 4)) a_nil se_BinOp) se_Call)) (few_of se_Tuple) se_Tuple))))
      (s_frz 6 (s_one (s_ret (dv 6))))))), ?_⟩
  have hnm : (n + 1) * many ≤ 90 := Nat.le_trans (Nat.mul_le_mul (show n + 1 ≤ 9 by omega) hm) (by decide)
  have hnmI : ((n : Int) + 1) * (many : Int) = (((n + 1) * many : Nat) : Int) := by push_cast; rfl
  refine ⟨mulOk_l (by decide) (by decide), mulOk_l (by omega) (by omega), ⟨by omega, by omega, ?_⟩, (List.replicate ((n + 1) * many) (2 * big + 1)).map D.int, ?_, c, s0, List.replicate ((n + 1) * many) (2 * big + 1), rfl, by rw [List.length_replicate]; omega, hs0, hs1, fun z hz => ?_, fun es hD => ?_⟩
  · rw [show [D.int (2 * big + 1)].length = 1 from rfl]; exact small (by omega)
  · rw [rep_one, hnmI, Int.toNat_natCast]
  · rw [(List.mem_replicate.mp hz).2]
    have : (2 : Int) * 2 ^ 39 + 1 < 2 ^ 9000 := by decide +kernel
    omega
  have hdl : es.length = (n + 1) * many := by rw [hD.len, List.length_replicate]
  have hdb := drawn_le hD (b := 2 * big + 1) fun z hz => by rw [(List.mem_replicate.mp hz).2]; exact Int.le_refl _
  refine ⟨⟨by omega, by omega⟩, fun i ρ => ∃ (rs : List Row) (u7 u8 : Option Sl), ρ = [some (.v (.int c)), some (.v (.int s0)), some (.v (.int n)), some (.v (.int many)), some (.v (.int big)), some (.v (.lst (es.map D.int))), some (.own (rs.map rowD)), u7, u8] ∧ rs.length = i ∧ ∀ r ∈ rs, RowN n 40 r, ⟨[], _, _, rfl, rfl, fun r hr => absurd hr List.not_mem_nil⟩, ?_, ?_⟩
  · rintro i d ρ hd ⟨rs, u7, u8, rfl, hrl, hr⟩
    obtain ⟨hi, rfl⟩ := rangeD_at hd
    have hi' : i < many := by omega
    have hle : (i + 1) * (n + 1) ≤ es.length := by rw [hdl, Nat.mul_comm (n + 1)]; exact Nat.mul_le_mul_right _ hi'
    have hsb : i * (n + 1) ≤ (i + 1) * (n + 1) := Nat.mul_le_mul_right _ (Nat.le_succ i)
    have e1 : (0 + (i : Int)) * ((n : Int) + 1) = ((i * (n + 1) : Nat) : Int) := by rw [Int.zero_add]; push_cast; rfl
    have e2 : (0 + (i : Int) + 1) * ((n : Int) + 1) = (((i + 1) * (n + 1) : Nat) : Int) := by rw [Int.zero_add]; push_cast; rfl
    obtain ⟨pl, pm⟩ := cut_nat (xs := es) e1 e2 hle hsb
    have ecut := cutL_map D.int es (some ((0 + (i : Int)) * ((n : Int) + 1))) (some ((0 + (i : Int) + 1) * ((n : Int) + 1)))
    generalize cutL es (some ((0 + (i : Int)) * ((n : Int) + 1))) (some ((0 + (i : Int) + 1) * ((n : Int) + 1))) = ps at pl pm ecut
    have hpl : ps.length = n + 1 := by rw [pl, ← Nat.sub_mul]; simp
    refine ⟨mulOk_l (by omega) (by omega), mulOk_l (by omega) (by omega), _, ecut, _, (cutL_map D.int ps none (some (n : Int))).trans (by rw [cut_head]), ?_⟩
    refine compN_map (fun x => D.int (x - big)) (small1000 (by rw [List.length_take]; omega)) (fun x hx => rfl) ?_
    have hpn : n < ps.length := by omega
    have eR : D.tup [.tup ((ps.take n).map fun x => D.int (x - big)), .int (ps[n] - big)] = rowD ((ps.take n).map fun x => x - big, ps[n] - big) := by unfold rowD; rw [List.map_map]; rfl
    refine ⟨_, at_map (get_of hpn) rfl, ?_, _, (congrArg (fun z => rs.map rowD ++ [z]) eR).trans (snocM _ _ _), rs ++ [((ps.take n).map fun x => x - big, ps[n] - big)], _, _, rfl, by rw [List.length_append, hrl]; rfl, fun r hr' => ?_⟩
    · rw [List.length_map, hrl]; exact small1000 (by omega)
    · rcases List.mem_append.mp hr' with h | h
      · exact hr r h
      · rw [List.mem_singleton.mp h]
        refine ⟨by rw [List.length_map, List.length_take]; omega, fun y hy => ?_, ?_⟩
        · obtain ⟨u, hu, rfl⟩ := List.mem_map.mp hy
          have := hdb u (pm u (List.mem_of_mem_take hu))
          omega
        · have := hdb _ (pm _ (List.getElem_mem hpn))
          show (ps[n] - big).natAbs ≤ _
          omega
  · rintro ρ ⟨rs, u7, u8, rfl, hrl, hr⟩
    rw [rangeD_len] at hrl
    exact q rs (by omega) hr
abbrev B40 (x : Int) : Prop := x.natAbs ≤ 2 ^ 40
theorem B40.big {x : Int} (h : B40 x) : BigI x := Nat.lt_of_le_of_lt h (Nat.pow_lt_pow_right (by decide) (by decide))
theorem big_of {x : Int} {b : Nat} (hb : b < 60000) (h : x.natAbs ≤ 2 ^ b) : BigI x := Nat.lt_of_le_of_lt h (Nat.pow_lt_pow_right (by decide) hb)
def z__law_along : SpD := fun ds R => ∃ (es ray : List Int), ds = [.tup (es.map D.int), .tup (ray.map D.int)] ∧ es.length ≤ 500 ∧ (∀ x ∈ es, B40 x) ∧ (∀ x ∈ ray, B40 x) ∧ ∀ es' : List Int, es'.length = es.length → (∀ x ∈ es', B40 x) → R (.tup (es'.map D.int))
theorem ok__law_along {n : Nat} {f : Addr} {fd : FuncData} (F : Fun K "_law_along" "_law_along" s__law_along f fd) {f__law_left : Addr} {d__law_left : FuncData} (G__law_left : FnOk P w K mg base CX0 n f__law_left d__law_left ["_law_entries", "_law_spot"] (lSp K z__law_left)) (b__law_left : Binds K d__law_left ["_law_entries", "_law_spot"] []) (k__law_left : PySem.W.keepIn K (.ref f__law_left) = true) (m__law_left : mg "_law_left" = some (.ref f__law_left)) (z_tuple : mg "tuple" = none) : FnOk P w K mg base CX0 (n + 1) f fd ["_law_entries", "_law_ray"] (lSp K z__law_along) := by
  refine F.okD sc__law_along (fun ds R h => ?_) (fun cdv A outer s H E ds R hr h => ?_)
  · obtain ⟨es, ray, rfl, _⟩ := h; rfl
  obtain ⟨es, ray, rfl, hl, he, hy, q⟩ := h
  refine ⟨_, (s_cut (s_if (t_cmp z_lt (PD.q (d_call G__law_left hr rfl m__law_left k__law_left b__law_left pass0 (a_cons (dv 0) (a_cons (dv 1) a_nil se_Name) se_Name) se_Name (npl_cons se_Name npl_nil))) (PD.q dc_int) (nomark _)) (s_one (s_ret (d_callTy c_tuple rfl z_tuple PyProof.Rows.boot_tuple (aq_cons (PD.q (PF.d (f_compN (k := 1) (N' := ["_law_one"]) (cap := [none]) rfl (.ok (show compOk ["_law_entries", "_law_ray"] (defScope s__law_along) _ ["_law_one"] [none] = true by decide +kernel)) (by decide +kernel) (gm_set (by decide)) (i_seq (dv 0)) (fun _ _ _ _ _ => (g_name (i := 0) (show List.Nodup (["_law_one"] : List Str) by decide +kernel) rfl (Or.inl rfl))) (fun _ _ _ _ _ => (d_neg (dvq 0)))))) aq_nil se_ListComp) se_ListComp npl_nil))) s_nil)
      (s_one (s_ret (dv 0)))), ?_⟩
  refine ⟨fun ρ => ρ = [some (.v (.tup (es.map D.int))), some (.v (.tup (ray.map D.int)))], ⟨es, ray, rfl, by omega, fun x hx => (he x hx).big, fun x hx => (hy x hx).big, fun h => ?_, fun h => rfl⟩, ?_⟩
  · refine compN_int (fun x => -x) (small1000 (by omega)) (fun x hx => rfl) ?_
    refine q (es.map fun x => -x) (by rw [List.length_map]) fun x hx => ?_
    obtain ⟨u, hu, rfl⟩ := List.mem_map.mp hx
    have := he u hu
    show (-u).natAbs ≤ _
    rw [Int.natAbs_neg]
    exact this
  · rintro ρ rfl
    exact q es rfl he
def z__law_under : SpD := fun ds R => ∃ (top bottom slack : Int), ds = [.int top, .int bottom, .int slack] ∧ 1 ≤ bottom ∧ bottom < 1000 ∧ 0 ≤ slack ∧ slack < 10 ∧ ∀ x : Int, x.natAbs ≤ top.natAbs + 10 → R (.int x)
theorem ok__law_under {n : Nat} {f : Addr} {fd : FuncData} (F : Fun K "_law_under" "_law_under" s__law_under f fd) (z_max : mg "max" = none) : FnOk P w K mg base CX0 (n + 1) f fd ["_law_top", "_law_bottom", "_law_slack"] (lSp K z__law_under) := by
  refine F.okD sc__law_under (fun ds R h => ?_) (fun cdv A outer s H E ds R hr h => ?_)
  · obtain ⟨top, bottom, slack, rfl, _⟩ := h; rfl
  obtain ⟨top, bottom, slack, rfl, hb, hb1, hs0, hs1, q⟩ := h
  refine ⟨_, (s_one (s_ret (d_op z_sub (PD.q (d_op z_fdiv (dvq 0) (dvq 1))) (PD.q (d_callB (c_max2 rfl) rfl z_max PyProof.Rows.boot_max (aq_cons (PD.q dc_int) (aq_cons (PD.q (d_op z_sub (dvq 2) (PD.q dc_int))) aq_nil se_BinOp) se_Constant) se_Constant (npl_cons se_BinOp npl_nil)))))), ?_⟩
  have h9 : (1000 : Int) < 2 ^ 9000 := by decide +kernel
  refine ⟨CDivB.of (by omega) (by omega), q _ ?_⟩
  have h1 := Int.natAbs_ediv_le_natAbs top bottom
  have h2 : ∀ m : Int, 0 ≤ m → m < 10 → (top / bottom - m).natAbs ≤ top.natAbs + 10 := fun m m0 m1 => by omega
  apply h2
  · split <;> omega
  · split <;> omega
def z__law_fits : SpD := fun ds R => ∃ (es : List Int) (bd : Int) (l : Bool) (p : Row), ds = [.tup (es.map D.int), .int bd, .bl l, rowD p] ∧ es.length ≤ 500 ∧ (∀ x ∈ es, BigI x) ∧ BigI bd ∧ BigRow p ∧ 1 ≤ p.2 ∧ ∀ b : Bool, R (.bl b)
theorem ok__law_fits {n : Nat} {f : Addr} {fd : FuncData} (F : Fun K "_law_fits" "_law_fits" s__law_fits f fd) {f__law_left : Addr} {d__law_left : FuncData} (G__law_left : FnOk P w K mg base CX0 n f__law_left d__law_left ["_law_entries", "_law_spot"] (lSp K z__law_left)) (b__law_left : Binds K d__law_left ["_law_entries", "_law_spot"] []) (k__law_left : PySem.W.keepIn K (.ref f__law_left) = true) (m__law_left : mg "_law_left" = some (.ref f__law_left)) (z_all : mg "all" = none) : FnOk P w K mg base CX0 (n + 1) f fd ["_law_entries", "_law_bound", "_law_least", "_law_point"] (lSp K z__law_fits) := by
  refine F.okD sc__law_fits (fun ds R h => ?_) (fun cdv A outer s H E ds R hr h => ?_)
  · obtain ⟨es, bd, l, p, rfl, _⟩ := h; rfl
  obtain ⟨es, bd, l, p, rfl, hl, he, hb, hp, hp1, q⟩ := h
  refine ⟨_, (s_cut (s_if (t_cmp (z_ne hr.units) (PD.q (d_call G__law_left hr rfl m__law_left k__law_left b__law_left pass0 (a_cons (dv 0) (a_cons (d_ix (dvq 3) (PD.q dc_int) (fun _ _ => rfl)) a_nil se_Subscript) se_Name) se_Name (npl_cons se_Subscript npl_nil))) (PD.q (d_op z_mul (dvq 1) (PD.q (d_ix (dvq 3) (PD.q dc_int) (fun _ _ => rfl))))) (nomark _)) (s_one (s_ret dc_bl)) s_nil)
      (s_one (s_ret (d_or (dv 2) (d_one (d_callB (c_all rfl) rfl z_all PyProof.Rows.boot_all (aq_cons (PD.q (PF.d (f_compN (k := 1) (N' := ["_law_one", "_law_point"]) (cap := [none, some 3]) rfl (.ok (show compOk ["_law_entries", "_law_bound", "_law_least", "_law_point"] (defScope s__law_fits) _ ["_law_one", "_law_point"] [none, some 3] = true by decide +kernel)) (by decide +kernel) (gm_set (by decide)) (i_seq (dv 0)) (fun _ _ _ _ _ => (g_name (i := 0) (show List.Nodup (["_law_one", "_law_point"] : List Str) by decide +kernel) rfl (Or.inl rfl))) (fun _ _ _ _ _ => (d_cmp (z_eq hr.units) (PD.q (d_op z_mod (dvq 0) (PD.q (d_ix (dvq 1) (PD.q dc_int) (fun _ _ => rfl))))) (PD.q dc_int) (nomark _)))))) aq_nil se_ListComp) se_ListComp npl_nil)))))), ?_⟩
  refine ⟨fun ρ => ρ = [some (.v (.tup (es.map D.int))), some (.v (.int bd)), some (.v (.bl l)), some (.v (rowD p))], ⟨_, rfl, es, p.1, rfl, by omega, he, hp.1, _, rfl, mulBig hb hp.2, fun h => q _, fun h => rfl⟩, ?_⟩
  rintro ρ rfl
  refine ⟨fun h => q _, fun h => ?_⟩
  refine compN_map (fun x => D.bl (x % p.2 == 0)) (small1000 (by omega)) (fun x hx => ⟨_, rfl, by omega, rfl⟩) ?_
  exact ⟨es.map fun x => x % p.2 == 0, by rw [List.map_map]; rfl, q _⟩
abbrev B200 (x : Int) : Prop := x.natAbs ≤ 2 ^ 200
structure Mk (n : Nat) (rs : List Row) (goal : List Int) (p : Row) (ray : List Int) (shs : List (Int × Int)) (d : Int) : Prop where
  rl : rs.length ≤ 12
  rr : ∀ r ∈ rs, RowN n 200 r
  gl : goal.length = n
  gb : ∀ x ∈ goal, B200 x
  pb : RowB 200 p
  pl : p.1.length ≤ 12
  yb : ∀ x ∈ ray, B200 x
  yl : ray.length ≤ 12
  sl : shs.length ≤ 20
  sb : ∀ s ∈ shs, s.2.natAbs ≤ 2 ^ 40
  db : d.natAbs ≤ 2 ^ 40
def madeD (rs : List Row) (goal : List Int) (p : Row) (ray : List Int) (shs : List (Int × Int)) (d : Int) : D := .tup [.lst (rs.map rowD), .tup (goal.map D.int), partsD p ray shs d]
def MadeR (n : Nat) (R : D → Prop) : Prop := ∀ rs goal p ray shs d, Mk n rs goal p ray shs d → R (madeD rs goal p ray shs d)
theorem RowN.up {n b c : Nat} {r : Row} (h : RowN n b r) (hb : b ≤ c) : RowN n c r := ⟨h.1, h.2.mono hb⟩
theorem takeG {α : Type} {f : α → D} {xs : List α} {a : Int} (h : 0 ≤ a) : cutL (xs.map f) none (some a) = (xs.take a.toNat).map f := by
  have e : a = ((a.toNat : Nat) : Int) := by omega
  rw [cutL_map]
  conv => lhs; rw [e]
  rw [cut_head]
theorem dropG {α : Type} {f : α → D} {xs : List α} {a : Int} (h : 0 ≤ a) : cutL (xs.map f) (some a) none = (xs.drop a.toNat).map f := by
  have e : a = ((a.toNat : Nat) : Int) := by omega
  rw [cutL_map]
  conv => lhs; rw [e]
  rw [cut_tail]
theorem sumS_some {rs : List Row} {n : Nat} {shs : List (Int × Int)} (h : ∀ s ∈ shs, okS rs s) : ∃ a, sumS rs shs n = some a := by
  have key : ∀ (shs : List (Int × Int)) (a : Row), (∀ s ∈ shs, okS rs s) → ∃ r, shs.foldl (stepS rs) (some a) = some r := by
    intro shs
    induction shs with
    | nil => intro a _; exact ⟨a, rfl⟩
    | cons s t ih =>
      intro a h
      have e : stepS rs (some a) s = some (addS rs a s) := by
        unfold stepS
        rw [Option.bind_some, if_pos (h s List.mem_cons_self)]
      rw [List.foldl_cons, e]
      exact ih _ fun s' hs' => h s' (List.mem_cons_of_mem _ hs')
  exact key shs _ h
theorem sum_b {rs : List Row} {n : Nat} {shs : List (Int × Int)} {a : Row} (h : sumS rs shs n = some a) {b c : Nat} (hr : ∀ r ∈ rs, RowB b r) (hw : ∀ s ∈ shs, s.2.natAbs ≤ 2 ^ 40) (hl : shs.length ≤ 32) (hc : b + 45 ≤ c) : RowB c a := by
  obtain ⟨h1, h2⟩ := sumS_le (E := 2 ^ b) (W := 2 ^ 40) h hr hw
  have h3 : shs.length * (2 ^ 40 * 2 ^ b) ≤ 2 ^ c := by
    refine Nat.le_trans (Nat.mul_le_mul_right _ hl) ?_
    rw [show 32 = 2 ^ 5 from rfl, ← Nat.pow_add, ← Nat.pow_add]
    exact Nat.pow_le_pow_right (by decide) (by omega)
  exact ⟨fun x hx => Nat.le_trans (h1 x hx) h3, Nat.le_trans h2 h3⟩
theorem e200 : 2 ^ 200 = 1606938044258990275541962092341162602522202993782792835301376 := by decide
theorem e40 : 2 ^ 40 = 1099511627776 := by decide
theorem drawn_cons {ds : List Int} {z : Int} {zs : List Int} (h : Drawn ds (z :: zs)) : ∃ x t, ds = x :: t ∧ (0 ≤ x ∧ x < z) ∧ Drawn t zs := by
  cases h with | cons h1 t1 => exact ⟨_, _, rfl, h1, t1⟩
theorem drawn_nil {ds : List Int} (h : Drawn ds []) : ds = [] := by cases h; rfl
theorem rep_b {n : Nat} {v : Int} (h0 : 0 < v) (h1 : v < 2 ^ 64) : ∀ z ∈ List.replicate n v, 0 < z ∧ z < 2 ^ 9000 := fun z hz => by
  rw [(List.mem_replicate.mp hz).2]
  have : (2 : Int) ^ 64 < 2 ^ 9000 := by decide +kernel
  omega
def z__law_wild : SpD := fun ds R => ∃ (c0 c1 c2 : Int) (n many : Nat) (big : Int), ds = [.lst ([c0, c1, c2].map D.int), .int (n : Int), .int (many : Int), .int big] ∧ n ≤ 3 ∧ many ≤ 4 ∧ 0 < big ∧ big ≤ 2 ^ 31 ∧ MadeR n R
theorem ok__law_wild {n : Nat} {f : Addr} {fd : FuncData} (F : Fun K "_law_wild" "_law_wild" s__law_wild f fd) {f__law_draws : Addr} {d__law_draws : FuncData} (G__law_draws : FnOk P w K mg base CX0 n f__law_draws d__law_draws ["_law_cell_here", "_law_salt", "_law_sizes"] (lSp K z__law_draws)) (b__law_draws : Binds K d__law_draws ["_law_cell_here", "_law_salt", "_law_sizes"] []) (k__law_draws : PySem.W.keepIn K (.ref f__law_draws) = true) (m__law_draws : mg "_law_draws" = some (.ref f__law_draws)) {f__law_rows : Addr} {d__law_rows : FuncData} (G__law_rows : FnOk P w K mg base CX0 n f__law_rows d__law_rows ["_law_cell_here", "_law_salt", "_law_n", "_law_many", "_law_big"] (lSp K z__law_rows)) (b__law_rows : Binds K d__law_rows ["_law_cell_here", "_law_salt", "_law_n", "_law_many", "_law_big"] []) (k__law_rows : PySem.W.keepIn K (.ref f__law_rows) = true) (m__law_rows : mg "_law_rows" = some (.ref f__law_rows)) {f__law_unit : Addr} {d__law_unit : FuncData} (G__law_unit : FnOk P w K mg base CX0 n f__law_unit d__law_unit ["_law_n", "_law_at"] (lSp K z__law_unit)) (b__law_unit : Binds K d__law_unit ["_law_n", "_law_at"] []) (k__law_unit : PySem.W.keepIn K (.ref f__law_unit) = true) (m__law_unit : mg "_law_unit" = some (.ref f__law_unit)) (z_tuple : mg "tuple" = none) (z_range : mg "range" = none) : FnOk P w K mg base CX0 (n + 1) f fd ["_law_cells", "_law_n", "_law_many", "_law_big"] (lSp K z__law_wild) := by
  refine F.okD sc__law_wild (fun ds R h => ?_) (fun cdv A outer s H E ds R hr h => ?_)
  · obtain ⟨c0, c1, c2, n, many, big, rfl, _⟩ := h; rfl
  obtain ⟨c0, c1, c2, n, many, big, rfl, hn, hm, hb0, hb1, q⟩ := h
  refine ⟨_, (s_cons (s_set (i := 4) sc__law_wild.nd rfl (Or.inr rfl) (d_call G__law_draws hr rfl m__law_draws k__law_draws b__law_draws pass0 (a_cons (d_ix (dvq 0) (PD.q dc_int) (fun _ _ => rfl)) (a_cons dc_int (a_cons (d_op z_mul (PD.q (PF.d (f_lst (a_cons (d_op z_add (PD.q (d_op z_mul (PD.q dc_int) (dvq 3))) (PD.q dc_int)) a_nil se_BinOp)))) (dvq 1)) a_nil se_BinOp) se_Constant) se_Subscript) se_Subscript (npl_cons se_Constant (npl_cons se_BinOp npl_nil))))
      (s_cons (s_compN (i := 5) (k := 1) (N' := ["_law_k", "_law_n", "_law_big", "_law_leasts"]) (cap := [none, some 1, some 3, some 4]) rfl sc__law_wild.nd rfl (Or.inl rfl) (.ok (show compOk ["_law_cells", "_law_n", "_law_many", "_law_big", "_law_leasts", "_law_rows_here", "_law_drawn", "_law_numbers", "_law_shares", "_law_point", "_law_ray"] (defScope s__law_wild) _ ["_law_k", "_law_n", "_law_big", "_law_leasts"] [none, some 1, some 3, some 4] = true by decide +kernel)) (by decide +kernel) (gm_set (by decide)) (i_range1 rfl z_range (a_cons (dv 1) a_nil se_Name)) (fun _ _ _ _ _ => (g_name (i := 0) (show List.Nodup (["_law_k", "_law_n", "_law_big", "_law_leasts"] : List Str) by decide +kernel) rfl (Or.inl rfl))) (fun _ _ _ _ _ => (d_tup (a_cons (d_call G__law_unit hr rfl m__law_unit k__law_unit b__law_unit pass0 (a_cons (dv 1) (a_cons (dv 0) a_nil se_Name) se_Name) se_Name (npl_cons se_Name npl_nil)) (a_cons (d_op z_sub (PD.q (d_ix (dvq 3) (dvq 0) (fun _ _ => rfl))) (dvq 2)) a_nil se_BinOp) se_Call))))
      (s_cons (s_set (i := 6) sc__law_wild.nd rfl (Or.inl rfl) (d_call G__law_rows hr rfl m__law_rows k__law_rows b__law_rows pass0 (a_cons (d_ix (dvq 0) (PD.q dc_int) (fun _ _ => rfl)) (a_cons dc_int (a_cons (dv 1) (a_cons (d_op z_add (dvq 2) (PD.q dc_int)) (a_cons (dv 3) a_nil se_Name) se_BinOp) se_Name) se_Constant) se_Subscript) se_Subscript (npl_cons se_Constant (npl_cons se_Name (npl_cons se_BinOp (npl_cons se_Name npl_nil))))))
      (s_cons (s_set (i := 7) sc__law_wild.nd rfl (Or.inr rfl) (d_call G__law_draws hr rfl m__law_draws k__law_draws b__law_draws pass0 (a_cons (d_ix (dvq 0) (PD.q dc_int) (fun _ _ => rfl)) (a_cons dc_int (a_cons (d_op z_add (PD.q (d_op z_add (PD.q (d_op z_mul (PD.q (PF.d (f_lst (a_cons (d_op z_add (PD.q (d_op z_add (dvq 1) (dvq 2))) (PD.q dc_int)) (a_cons dc_int a_nil se_Constant) se_BinOp)))) (PD.q dc_int))) (PD.q (PF.d (f_lst (a_cons dc_int (a_cons dc_int (a_cons dc_int a_nil se_Constant) se_Constant) se_Constant)))))) (PD.q (d_op z_mul (PD.q (PF.d (f_lst (a_cons dc_int a_nil se_Constant)))) (dvq 1)))) a_nil se_BinOp) se_Constant) se_Subscript) se_Subscript (npl_cons se_Constant (npl_cons se_BinOp npl_nil))))
      (s_cons (s_compN (i := 8) (k := 1) (N' := ["_law_k", "_law_numbers"]) (cap := [none, some 7]) rfl sc__law_wild.nd rfl (Or.inl rfl) (.ok (show compOk ["_law_cells", "_law_n", "_law_many", "_law_big", "_law_leasts", "_law_rows_here", "_law_drawn", "_law_numbers", "_law_shares", "_law_point", "_law_ray"] (defScope s__law_wild) _ ["_law_k", "_law_numbers"] [none, some 7] = true by decide +kernel)) (by decide +kernel) (gm_set (by decide)) (i_range1 rfl z_range (a_cons (d_ix (dvq 7) (PD.q dc_int) (fun _ _ => rfl)) a_nil se_Subscript)) (fun _ _ _ _ _ => (g_name (i := 0) (show List.Nodup (["_law_k", "_law_numbers"] : List Str) by decide +kernel) rfl (Or.inl rfl))) (fun _ _ _ _ _ => (d_tup (a_cons (d_op z_sub (PD.q (d_ix (dvq 1) (PD.q (d_op z_mul (PD.q dc_int) (dvq 0))) (fun _ _ => rfl))) (PD.q dc_int)) (a_cons (d_op z_sub (PD.q (d_ix (dvq 1) (PD.q (d_op z_add (PD.q (d_op z_mul (PD.q dc_int) (dvq 0))) (PD.q dc_int))) (fun _ _ => rfl))) (PD.q dc_int)) a_nil se_BinOp) se_BinOp))))
      (s_cons (s_set (i := 9) sc__law_wild.nd rfl (Or.inl rfl) (d_tup (a_cons (d_ix (PD.q (d_ix (dvq 6) (dvq 2) (fun _ _ => rfl))) (PD.q dc_int) (fun _ _ => rfl)) (a_cons (d_ix (dvq 7) (PD.q dc_int) (fun _ _ => rfl)) a_nil se_Subscript) se_Subscript)))
      (s_cons (s_set (i := 10) sc__law_wild.nd rfl (Or.inl rfl) (d_callTy c_tuple rfl z_tuple PyProof.Rows.boot_tuple (aq_cons (PD.q (PF.d (f_compN (k := 1) (N' := ["_law_one"]) (cap := [none]) rfl (.ok (show compOk ["_law_cells", "_law_n", "_law_many", "_law_big", "_law_leasts", "_law_rows_here", "_law_drawn", "_law_numbers", "_law_shares", "_law_point", "_law_ray"] (defScope s__law_wild) _ ["_law_one"] [none] = true by decide +kernel)) (by decide +kernel) (gm_set (by decide)) (i_seq (d_sl (dvq 7) (o_some (PD.q dc_int)) o_none)) (fun _ _ _ _ _ => (g_name (i := 0) (show List.Nodup (["_law_one"] : List Str) by decide +kernel) rfl (Or.inl rfl))) (fun _ _ _ _ _ => (d_op z_sub (dvq 0) (PD.q dc_int)))))) aq_nil se_ListComp) se_ListComp npl_nil))
      (s_one (s_ret (d_tup (a_cons (d_op z_add (dvq 5) (PD.q (d_sl (dvq 6) o_none (o_some (dvq 2))))) (a_cons (d_ix (PD.q (d_ix (dvq 6) (PD.q (d_op z_add (dvq 2) (PD.q dc_int))) (fun _ _ => rfl))) (PD.q dc_int) (fun _ _ => rfl)) (a_cons (d_tup (a_cons (dv 9) (a_cons (dv 10) (a_cons (dv 8) (a_cons (d_ix (dvq 7) (PD.q dc_int) (fun _ _ => rfl)) a_nil se_Subscript) se_Name) se_Name) se_Name)) a_nil se_Tuple) se_Subscript) se_BinOp))))))))))), ?_⟩
  refine ⟨_, rfl, mulOk_l (by decide) (by decide), ⟨by omega, by omega, ?_⟩, (List.replicate n (2 * big + 1)).map D.int, ?_, c0, 21, List.replicate n (2 * big + 1), rfl, by rw [List.length_replicate]; omega, by decide, by decide, rep_b (by omega) (by omega), fun les hL => ?_⟩
  · rw [show [D.int (2 * big + 1)].length = 1 from rfl]; exact small (by omega)
  · rw [rep_one, Int.toNat_natCast]
  have hll : les.length = n := by rw [hL.len, List.length_replicate]
  have hlb := drawn_le hL (b := 2 * big + 1) fun z hz => by rw [(List.mem_replicate.mp hz).2]; exact Int.le_refl _
  refine ⟨⟨by omega, by omega⟩, by rw [rangeD_len]; exact small1000 (by omega), fun i y => ∃ r : Row, RowN n 40 r ∧ y = rowD r, fun i d hd => ?_, fun ys hyl hy => ?_⟩
  · obtain ⟨hi, rfl⟩ := rangeD_at hd
    refine ⟨n, 0 + (i : Int), rfl, by omega, fun us hul hub => ?_⟩
    have hi' : i < les.length := by omega
    refine ⟨_, at_map (get_of hi') (by omega), (us, les[i] - big), ⟨hul, fun x hx => Nat.le_trans (hub x hx) (by decide), ?_⟩, rfl⟩
    have := hlb _ (List.getElem_mem hi')
    show (les[i] - big).natAbs ≤ _
    rw [e40]
    omega
  obtain ⟨r0, rfl, hr0⟩ := ex_map hy
  rw [List.length_map, rangeD_len] at hyl
  refine ⟨_, rfl, c1, 22, big, n, many + 2, by push_cast; rfl, by decide, by decide, by omega, by omega, hb0, by omega, fun r1 hl1 hr1 => ?_⟩
  refine ⟨_, rfl, ⟨by decide, by decide, small (by show 2 * 3 ≤ 1000; decide)⟩, _, rep_map 3 [(n : Int) + (many : Int) + 3, 6], small (by simp), _, catM D.int _ [4, 4, 4], ⟨by omega, by omega, ?_⟩, (List.replicate n (6 : Int)).map D.int, ?_, ?_, _, catM D.int _ _, c2, 23, _, rfl, ?_, by decide, by decide, fun z hz => ?_, fun es hD => ?_⟩
  · rw [show [D.int 6].length = 1 from rfl]; exact small (by omega)
  · rw [rep_one, Int.toNat_natCast]
  · exact small (by simp; omega)
  · simp; omega
  · have h9 : (1000 : Int) < 2 ^ 9000 := by decide +kernel
    rcases List.mem_append.mp hz with h | h
    · simp at h; omega
    · rw [(List.mem_replicate.mp h).2]; omega
  have hD' : Drawn es (((n : Int) + (many : Int) + 3) :: 6 :: ((n : Int) + (many : Int) + 3) :: 6 :: ((n : Int) + (many : Int) + 3) :: 6 :: 4 :: 4 :: 4 :: List.replicate n 6) := hD
  obtain ⟨x0, t, rfl, d0, hD⟩ := drawn_cons hD'
  obtain ⟨x1, t, rfl, d1, hD⟩ := drawn_cons hD
  obtain ⟨x2, t, rfl, d2, hD⟩ := drawn_cons hD
  obtain ⟨x3, t, rfl, d3, hD⟩ := drawn_cons hD
  obtain ⟨x4, t, rfl, d4, hD⟩ := drawn_cons hD
  obtain ⟨x5, t, rfl, d5, hD⟩ := drawn_cons hD
  obtain ⟨x6, t, rfl, d6, hD⟩ := drawn_cons hD
  obtain ⟨x7, t, rfl, d7, hD⟩ := drawn_cons hD
  obtain ⟨x8, t, rfl, d8, hD⟩ := drawn_cons hD
  have htl : t.length = n := by rw [hD.len, List.length_replicate]
  have htb := drawn_le hD (b := 6) fun z hz => by rw [(List.mem_replicate.mp hz).2]; exact Int.le_refl _
  have hat : ∀ {i : Nat} {v : Int} {k : Int}, (x0 :: x1 :: x2 :: x3 :: x4 :: x5 :: x6 :: x7 :: x8 :: t)[i]? = some v → k = (i : Int) → atI ((x0 :: x1 :: x2 :: x3 :: x4 :: x5 :: x6 :: x7 :: x8 :: t).map D.int) k = some (.int v) := fun h e => at_map h e
  refine ⟨_, hat (i := 6) rfl rfl, ⟨by omega, by omega⟩, by rw [rangeD_len]; exact small1000 (by omega), fun i y => ∃ s : Int × Int, s.2.natAbs ≤ 6 ∧ y = prD s, fun i d hd => ?_, fun ys hyl hy => ?_⟩
  · obtain ⟨hi, rfl⟩ := rangeD_at hd
    have hi3 : i = 0 ∨ i = 1 ∨ i = 2 := by omega
    rcases hi3 with rfl | rfl | rfl
    · exact ⟨mulOk_l (by decide) (by decide), _, hat (i := 0) rfl rfl, mulOk_l (by decide) (by decide), _, hat (i := 1) rfl rfl, (x0 - 1, x1 - 1), by show (x1 - 1).natAbs ≤ 6; omega, rfl⟩
    · exact ⟨mulOk_l (by decide) (by decide), _, hat (i := 2) rfl rfl, mulOk_l (by decide) (by decide), _, hat (i := 3) rfl rfl, (x2 - 1, x3 - 1), by show (x3 - 1).natAbs ≤ 6; omega, rfl⟩
    · exact ⟨mulOk_l (by decide) (by decide), _, hat (i := 4) rfl rfl, mulOk_l (by decide) (by decide), _, hat (i := 5) rfl rfl, (x4 - 1, x5 - 1), by show (x5 - 1).natAbs ≤ 6; omega, rfl⟩
  obtain ⟨shs, rfl, hss⟩ := ex_map hy
  rw [List.length_map, rangeD_len] at hyl
  have hdr : cutL ((x0 :: x1 :: x2 :: x3 :: x4 :: x5 :: x6 :: x7 :: x8 :: t).map D.int) (some 9) none = t.map D.int := dropG (f := D.int) (by decide)
  have hm1 : many < r1.length := by omega
  have hm2 : many + 1 < r1.length := by omega
  refine ⟨_, at_map (f := rowD) (get_of hm1) rfl, _, rfl, _, hat (i := 7) rfl rfl, _, hdr, ?_⟩
  refine compN_int (fun x => x - 1) (small1000 (by omega)) (fun x hx => rfl) ?_
  refine ⟨_, takeG (f := rowD) (by omega), ?_, _, catM rowD _ _, _, at_map (f := rowD) (get_of hm2) (by push_cast; rfl), _, rfl, _, hat (i := 8) rfl rfl, ?_⟩
  · rw [List.length_map, List.length_map, List.length_take]; exact small (by omega)
  rw [Int.toNat_natCast]
  refine q (r0 ++ r1.take many) r1[many + 1].1 (r1[many].1, x7) (t.map fun x => x - 1) shs x8 ⟨?_, fun r h => ?_, ?_, fun x hx => ?_, ⟨fun x hx => ?_, ?_⟩, ?_, fun x hx => ?_, ?_, by omega, fun s hs => ?_, ?_⟩
  · rw [List.length_append, List.length_take]; omega
  · rcases List.mem_append.mp h with h | h
    · exact (hr0 r h).up (by decide)
    · exact (hr1 r (List.mem_of_mem_take h)).up (by decide)
  · exact (hr1 _ (List.getElem_mem hm2)).1
  · exact Nat.le_trans ((hr1 _ (List.getElem_mem hm2)).2.1 x hx) (Nat.pow_le_pow_right (by decide) (by decide))
  · exact Nat.le_trans ((hr1 _ (List.getElem_mem hm1)).2.1 x hx) (Nat.pow_le_pow_right (by decide) (by decide))
  · show x7.natAbs ≤ _
    rw [e200]; omega
  · show (r1[many].1).length ≤ 12
    rw [(hr1 _ (List.getElem_mem hm1)).1]; omega
  · obtain ⟨u, hu, rfl⟩ := List.mem_map.mp hx
    have := htb u hu
    show (u - 1).natAbs ≤ _
    rw [e200]; omega
  · rw [List.length_map]; omega
  · exact Nat.le_trans (hss s hs) (by decide)
  · rw [e40]; omega
theorem e201 : 2 ^ 201 = 3213876088517980551083924184682325205044405987565585670602752 := by decide
theorem up201 {x : Int} (h : B200 x) : x.natAbs ≤ 2 ^ 201 := Nat.le_trans h (Nat.pow_le_pow_right (by decide) (by decide))
def bump (xs : List Int) (k : Nat) (h : k < xs.length) (v : Int) : List Int := xs.take k ++ [xs[k] + v] ++ xs.drop (k + 1)
theorem bump_len {xs : List Int} {k : Nat} {h : k < xs.length} {v : Int} : (bump xs k h v).length = xs.length := by
  unfold bump
  rw [List.length_append, List.length_append, List.length_take, List.length_drop]
  simp
  omega
theorem bump_b {xs : List Int} {k : Nat} {h : k < xs.length} {v : Int} (hx : ∀ x ∈ xs, B200 x) (hv : v.natAbs ≤ 3) : ∀ x ∈ bump xs k h v, x.natAbs ≤ 2 ^ 201 := fun x hm => by
  rcases List.mem_append.mp hm with h1 | h1
  · rcases List.mem_append.mp h1 with h2 | h2
    · exact up201 (hx x (List.mem_of_mem_take h2))
    · rw [List.mem_singleton.mp h2]
      have : xs[k].natAbs ≤ 2 ^ 200 := hx _ (List.getElem_mem h)
      rw [e200] at this
      rw [e201]
      omega
  · exact up201 (hx x (List.mem_of_mem_drop h1))
theorem mod_k {a : Int} {n : Nat} (hn : 0 < n) : 0 ≤ a % (n : Int) ∧ (a % (n : Int)).toNat < n ∧ a % (n : Int) = (((a % (n : Int)).toNat : Nat) : Int) := by
  have h1 := Int.emod_nonneg a (b := (n : Int)) (by omega)
  have h2 := Int.emod_lt_of_pos a (b := (n : Int)) (by omega)
  omega
theorem takeK {α : Type} {f : α → D} {xs : List α} {a : Int} {k : Nat} (e : a = (k : Int)) : cutL (xs.map f) none (some a) = (xs.take k).map f := by
  rw [takeG (by omega), e, Int.toNat_natCast]
theorem dropK {α : Type} {f : α → D} {xs : List α} {a : Int} {k : Nat} (e : a = (k : Int)) : cutL (xs.map f) (some a) none = (xs.drop k).map f := by
  rw [dropG (by omega), e, Int.toNat_natCast]
def z__law_bent_point : SpD := fun ds R => ∃ (p : Row) (way at_ step : Int), ds = [rowD p, .int way, .int at_, .int step] ∧ RowB 200 p ∧ p.1.length ≤ 12 ∧ step.natAbs ≤ 3 ∧ ∀ p' : Row, RowB 201 p' → p'.1.length ≤ 13 → R (rowD p')
theorem ok__law_bent_point {n : Nat} {f : Addr} {fd : FuncData} (F : Fun K "_law_bent_point" "_law_bent_point" s__law_bent_point f fd) (z_len : mg "len" = none) (z_tuple : mg "tuple" = none) : FnOk P w K mg base CX0 (n + 1) f fd ["_law_point", "_law_way", "_law_at", "_law_step"] (lSp K z__law_bent_point) := by
  refine F.okD sc__law_bent_point (fun ds R h => ?_) (fun cdv A outer s H E ds R hr h => ?_)
  · obtain ⟨p, way, at_, step, rfl, _⟩ := h; rfl
  obtain ⟨p, way, at_, step, rfl, hp, hl, hst, q⟩ := h
  refine ⟨_, (s_cons (s_asg (dv 0) (g_seq (n := 2) rfl (gs_cons (g_name (i := 4) sc__law_bent_point.nd rfl (Or.inl rfl)) (gs_cons (g_name (i := 5) sc__law_bent_point.nd rfl (Or.inl rfl)) gs_nil))))
      (s_cut (s_if (PWD.td (w_and (t_cmp (z_eq hr.units) (dvq 1) (PD.q dc_int) (nomark _)) (w_and1 (t_tru (dvq 4) (fun _ => rfl))))) (s_cons (s_set (i := 2) sc__law_bent_point.nd rfl (Or.inl rfl) (d_op z_mod (dvq 2) (PD.q (d_callB c_len rfl z_len PySem.boot_len (aq_cons (dvq 4) aq_nil se_Name) se_Name npl_nil))))
      (s_one (s_ret (d_tup (a_cons (d_op z_add (PD.q (d_op z_add (PD.q (d_sl (dvq 4) o_none (o_some (dvq 2)))) (PD.q (d_tup (a_cons (d_op z_add (PD.q (d_ix (dvq 4) (dvq 2) (fun _ _ => rfl))) (dvq 3)) a_nil se_BinOp))))) (PD.q (d_sl (dvq 4) (o_some (PD.q (d_op z_add (dvq 2) (PD.q dc_int)))) o_none))) (a_cons (dv 5) a_nil se_Name) se_BinOp))))) s_nil)
      (s_cut (s_if (t_cmp (z_eq hr.units) (dvq 1) (PD.q dc_int) (nomark _)) (s_one (s_ret (d_tup (a_cons (d_op z_add (dvq 4) (PD.q (d_tup (a_cons dc_int a_nil se_Constant)))) (a_cons (dv 5) a_nil se_Name) se_BinOp)))) s_nil)
      (s_cut (s_if (t_cmp (z_eq hr.units) (dvq 1) (PD.q dc_int) (nomark _)) (s_one (s_ret (d_tup (a_cons (d_callTy c_tuple rfl z_tuple PyProof.Rows.boot_tuple (aq_cons (PD.q (PF.d (f_compN (k := 1) (N' := ["_law_one"]) (cap := [none]) rfl (.ok (show compOk ["_law_point", "_law_way", "_law_at", "_law_step", "_law_tops", "_law_bottom"] (defScope s__law_bent_point) _ ["_law_one"] [none] = true by decide +kernel)) (by decide +kernel) (gm_set (by decide)) (i_seq (dv 4)) (fun _ _ _ _ _ => (g_name (i := 0) (show List.Nodup (["_law_one"] : List Str) by decide +kernel) rfl (Or.inl rfl))) (fun _ _ _ _ _ => (d_neg (dvq 0)))))) aq_nil se_ListComp) se_ListComp npl_nil) (a_cons (d_neg (dvq 5)) a_nil se_UnaryOp) se_Call)))) s_nil)
      (s_one (s_ret (d_tup (a_cons (dv 4) (a_cons (d_op z_add (dvq 5) (dvq 3)) a_nil se_BinOp) se_Name)))))))), ?_⟩
  have hlI : (((p.1.map D.int).length : Nat) : Int) = (p.1.length : Int) := by rw [List.length_map]
  have hp2 : p.2.natAbs ≤ 2 ^ 201 := up201 hp.2
  refine ⟨rfl, fun ρ => ρ = [some (.v (rowD p)), some (.v (.int way)), some (.v (.int at_)), some (.v (.int step)), some (.v (.tup (p.1.map D.int))), some (.v (.int p.2))], ⟨fun h => ⟨fun hne => ?_, fun _ => rfl⟩, fun h => ⟨fun h => ff h, fun _ => rfl⟩⟩, ?_⟩
  · have hpos : 0 < p.1.length := by
      cases e : p.1 with
      | nil => rw [e] at hne; cases hne
      | cons => simp
    obtain ⟨m0, m1, m2⟩ := mod_k (a := at_) hpos
    generalize hk : (at_ % (p.1.length : Int)).toNat = k at m1 m2
    refine ⟨by rw [hlI]; omega, _, takeK (k := k) (by rw [hlI]; exact m2), _, at_map (f := D.int) (get_of m1) (by rw [hlI]; exact m2), ?_, _, snocM D.int _ _, _, dropK (k := k + 1) (by rw [hlI]; omega), ?_, _, catM D.int _ _, ?_⟩
    · rw [List.length_map, List.length_take]; exact small (by simp; omega)
    · simp only [List.length_map, List.length_append, List.length_take, List.length_drop]; exact small (by simp; omega)
    · exact q (bump p.1 k m1 step, p.2) ⟨bump_b hp.1 hst, hp2⟩ (by show (bump p.1 k m1 step).length ≤ 13; rw [bump_len]; omega)
  rintro ρ rfl
  refine ⟨fun ρ => ρ = [some (.v (rowD p)), some (.v (.int way)), some (.v (.int at_)), some (.v (.int step)), some (.v (.tup (p.1.map D.int))), some (.v (.int p.2))], ⟨fun h => ⟨?_, _, snocM D.int _ 0, ?_⟩, fun h => rfl⟩, ?_⟩
  · rw [List.length_map]; exact small (by simp; omega)
  · refine q (p.1 ++ [0], p.2) ⟨fun x hx => ?_, hp2⟩ (by show (p.1 ++ [0]).length ≤ 13; rw [List.length_append]; simp; omega)
    rcases List.mem_append.mp hx with h | h
    · exact up201 (hp.1 x h)
    · rw [List.mem_singleton.mp h]; exact Nat.zero_le _
  rintro ρ rfl
  refine ⟨fun ρ => ρ = [some (.v (rowD p)), some (.v (.int way)), some (.v (.int at_)), some (.v (.int step)), some (.v (.tup (p.1.map D.int))), some (.v (.int p.2))], ⟨fun h => ?_, fun h => rfl⟩, ?_⟩
  · refine compN_int (fun x => -x) (small1000 (by omega)) (fun x hx => rfl) ?_
    refine q (p.1.map fun x => -x, -p.2) ⟨fun x hx => ?_, by show (-p.2).natAbs ≤ _; rw [Int.natAbs_neg]; exact hp2⟩ (by show (p.1.map fun x => -x).length ≤ 13; rw [List.length_map]; omega)
    obtain ⟨u, hu, rfl⟩ := List.mem_map.mp hx
    rw [Int.natAbs_neg]
    exact up201 (hp.1 u hu)
  rintro ρ rfl
  refine q (p.1, p.2 + step) ⟨fun x hx => up201 (hp.1 x hx), ?_⟩ (by show p.1.length ≤ 13; omega)
  have := hp.2
  show (p.2 + step).natAbs ≤ _
  rw [e200] at this
  rw [e201]
  omega
def z__law_bent_shares : SpD := fun ds R => ∃ (shs : List (Int × Int)) (way at_ step : Int), ds = [.lst (shs.map prD), .int way, .int at_, .int step] ∧ shs ≠ [] ∧ shs.length ≤ 20 ∧ (∀ s ∈ shs, s.2.natAbs ≤ 2 ^ 40) ∧ step.natAbs ≤ 3 ∧ ∀ shs' : List (Int × Int), shs'.length ≤ 22 → (∀ s ∈ shs', s.2.natAbs ≤ 2 ^ 41) → R (.lst (shs'.map prD))
theorem e41 : 2 ^ 41 = 2199023255552 := by decide
theorem ok__law_bent_shares {n : Nat} {f : Addr} {fd : FuncData} (F : Fun K "_law_bent_shares" "_law_bent_shares" s__law_bent_shares f fd) (z_len : mg "len" = none) : FnOk P w K mg base CX0 (n + 1) f fd ["_law_shares", "_law_way", "_law_at", "_law_step"] (lSp K z__law_bent_shares) := by
  refine F.okD sc__law_bent_shares (fun ds R h => ?_) (fun cdv A outer s H E ds R hr h => ?_)
  · obtain ⟨shs, way, at_, step, rfl, _⟩ := h; rfl
  obtain ⟨shs, way, at_, step, rfl, hne, hl, hb, hst, q⟩ := h
  refine ⟨_, (s_cons (s_asg (d_ix (dvq 0) (PD.q (d_op z_mod (dvq 2) (PD.q (d_callB c_len rfl z_len PySem.boot_len (aq_cons (dvq 0) aq_nil se_Name) se_Name npl_nil)))) (fun _ _ => rfl)) (g_seq (n := 2) rfl (gs_cons (g_name (i := 4) sc__law_bent_shares.nd rfl (Or.inl rfl)) (gs_cons (g_name (i := 5) sc__law_bent_shares.nd rfl (Or.inl rfl)) gs_nil))))
      (s_cons (s_set (i := 6) sc__law_bent_shares.nd rfl (Or.inl rfl) (d_op z_add (PD.q (d_sl (dvq 0) o_none (o_some (PD.q (d_op z_mod (dvq 2) (PD.q (d_callB c_len rfl z_len PySem.boot_len (aq_cons (dvq 0) aq_nil se_Name) se_Name npl_nil))))))) (PD.q (d_sl (dvq 0) (o_some (PD.q (d_op z_add (PD.q (d_op z_mod (dvq 2) (PD.q (d_callB c_len rfl z_len PySem.boot_len (aq_cons (dvq 0) aq_nil se_Name) se_Name npl_nil)))) (PD.q dc_int)))) o_none))))
      (s_cut (s_if (t_cmp (z_eq hr.units) (dvq 1) (PD.q dc_int) (nomark _)) (s_one (s_ret (d_op z_add (dvq 6) (PD.q (PF.d (f_lst (a_cons (d_tup (a_cons (d_op z_add (dvq 4) (dvq 3)) (a_cons (dv 5) a_nil se_Name) se_BinOp)) a_nil se_Tuple))))))) s_nil)
      (s_cut (s_if (t_cmp (z_eq hr.units) (dvq 1) (PD.q dc_int) (nomark _)) (s_one (s_ret (d_op z_add (dvq 6) (PD.q (PF.d (f_lst (a_cons (d_tup (a_cons (dv 4) (a_cons (d_op z_add (dvq 5) (dvq 3)) a_nil se_BinOp) se_Name)) a_nil se_Tuple))))))) s_nil)
      (s_cut (s_if (t_cmp (z_eq hr.units) (dvq 1) (PD.q dc_int) (nomark _)) (s_one (s_ret (dv 6))) s_nil)
      (s_one (s_ret (d_op z_add (dvq 0) (PD.q (PF.d (f_lst (a_cons (d_tup (a_cons (dv 4) (a_cons dc_int a_nil se_Constant) se_Name)) (a_cons (d_tup (a_cons (dv 4) (a_cons (d_neg (PD.q dc_int)) a_nil se_UnaryOp) se_Name)) a_nil se_Tuple) se_Tuple)))))))))))), ?_⟩
  have hlI : (((shs.map prD).length : Nat) : Int) = (shs.length : Int) := by rw [List.length_map]
  have hpos : 0 < shs.length := List.length_pos_iff.mpr hne
  obtain ⟨m0, m1, m2⟩ := mod_k (a := at_) hpos
  have hb' : ∀ s ∈ shs, s.2.natAbs ≤ 2 ^ 41 := fun s hs => Nat.le_trans (hb s hs) (by decide)
  generalize hk : (at_ % (shs.length : Int)).toNat = k at m1 m2
  have hs1 := hb _ (List.getElem_mem m1)
  rw [e40] at hs1
  refine ⟨by rw [hlI]; omega, _, at_map (f := prD) (get_of m1) (by rw [hlI]; exact m2), rfl, by rw [hlI]; omega, _, takeK (k := k) (by rw [hlI]; exact m2), by rw [hlI]; omega, _, dropK (k := k + 1) (by rw [hlI]; omega), ?_, _, catM prD _ _, ?_⟩
  · simp only [List.length_map, List.length_append, List.length_take, List.length_drop]; exact small (by omega)
  have hrb : ∀ s ∈ shs.take k ++ shs.drop (k + 1), s.2.natAbs ≤ 2 ^ 41 := fun s hs => by
    rcases List.mem_append.mp hs with h | h
    · exact hb' s (List.mem_of_mem_take h)
    · exact hb' s (List.mem_of_mem_drop h)
  have hrl : (shs.take k ++ shs.drop (k + 1)).length ≤ 20 := by
    simp only [List.length_append, List.length_take, List.length_drop]; omega
  have hsz : ∀ xs : List (Int × Int), xs.length ≤ 20 → ∀ ys : List D, ys.length ≤ 2 → (xs.map prD).length + ys.length ≤ sizeLine := fun xs h ys h2 => by rw [List.length_map]; exact small (by omega)
  have fin : ∀ (xs ys : List (Int × Int)), xs.length ≤ 20 → ys.length ≤ 2 → (∀ s ∈ xs, s.2.natAbs ≤ 2 ^ 41) → (∀ s ∈ ys, s.2.natAbs ≤ 2 ^ 41) → R (.lst ((xs ++ ys).map prD)) := fun xs ys h1 h2 h3 h4 => q (xs ++ ys) (by rw [List.length_append]; omega) fun s hs => (List.mem_append.mp hs).elim (h3 s) (h4 s)
  refine ⟨fun ρ => ρ = [some (.v (.lst (shs.map prD))), some (.v (.int way)), some (.v (.int at_)), some (.v (.int step)), some (.v (.int shs[k].1)), some (.v (.int shs[k].2)), some (.v (.lst ((shs.take k ++ shs.drop (k + 1)).map prD)))], ⟨fun h => ⟨hsz _ hrl _ (by simp), _, snocM prD _ (shs[k].1 + step, shs[k].2), fin _ [_] hrl (by simp) hrb fun s hs => ?_⟩, fun h => rfl⟩, ?_⟩
  · rw [List.mem_singleton.mp hs, e41]
    show shs[k].2.natAbs ≤ _
    omega
  rintro ρ rfl
  refine ⟨fun ρ => ρ = [some (.v (.lst (shs.map prD))), some (.v (.int way)), some (.v (.int at_)), some (.v (.int step)), some (.v (.int shs[k].1)), some (.v (.int shs[k].2)), some (.v (.lst ((shs.take k ++ shs.drop (k + 1)).map prD)))], ⟨fun h => ⟨hsz _ hrl _ (by simp), _, snocM prD _ (shs[k].1, shs[k].2 + step), fin _ [_] hrl (by simp) hrb fun s hs => ?_⟩, fun h => rfl⟩, ?_⟩
  · rw [List.mem_singleton.mp hs, e41]
    show (shs[k].2 + step).natAbs ≤ _
    omega
  rintro ρ rfl
  refine ⟨fun ρ => ρ = [some (.v (.lst (shs.map prD))), some (.v (.int way)), some (.v (.int at_)), some (.v (.int step)), some (.v (.int shs[k].1)), some (.v (.int shs[k].2)), some (.v (.lst ((shs.take k ++ shs.drop (k + 1)).map prD)))], ⟨fun h => ?_, fun h => rfl⟩, ?_⟩
  · have := fin _ [] hrl (by simp) hrb fun s hs => absurd hs List.not_mem_nil
    rw [List.append_nil] at this
    exact this
  rintro ρ rfl
  refine ⟨hsz _ hl _ (by simp), _, catM prD _ [(shs[k].1, 1), (shs[k].1, -1)], fin shs _ hl (by simp) hb' fun s hs => ?_⟩
  simp only [List.mem_cons, List.not_mem_nil, or_false] at hs
  rcases hs with rfl | rfl <;> simp only <;> decide
def BentR (n : Nat) (R : D → Prop) : Prop := ∀ (p : Row) (ray : List Int) (shs : List (Int × Int)) (d : Int), RowB 201 p → p.1.length ≤ 13 → (∀ x ∈ ray, x.natAbs ≤ 2 ^ 201) → ray.length ≤ 13 → shs.length ≤ 22 → (∀ s ∈ shs, s.2.natAbs ≤ 2 ^ 41) → d.natAbs ≤ 2 ^ 41 → R (partsD p ray shs d)
def z__law_bent : SpD := fun ds R => ∃ (p : Row) (ray : List Int) (shs : List (Int × Int)) (d spoil way at_ step : Int), ds = [partsD p ray shs d, .int spoil, .int way, .int at_, .int step] ∧ RowB 200 p ∧ p.1.length ≤ 12 ∧ (∀ x ∈ ray, B200 x) ∧ ray.length ≤ 12 ∧ shs.length ≤ 20 ∧ (∀ s ∈ shs, s.2.natAbs ≤ 2 ^ 40) ∧ d.natAbs ≤ 2 ^ 40 ∧ step.natAbs ≤ 3 ∧ 0 ≤ way ∧ way < 4 ∧ BentR 0 R
def stB (ps : D) (spoil way at_ step : Int) (p : Row) (ray : List Int) (shs : List (Int × Int)) (d : Int) : Rho := [some (.v ps), some (.v (.int spoil)), some (.v (.int way)), some (.v (.int at_)), some (.v (.int step)), some (.v (rowD p)), some (.v (.tup (ray.map D.int))), some (.v (.lst (shs.map prD))), some (.v (.int d))]
theorem ok__law_bent {n : Nat} {f : Addr} {fd : FuncData} (F : Fun K "_law_bent" "_law_bent" s__law_bent f fd) {f__law_bent_point : Addr} {d__law_bent_point : FuncData} (G__law_bent_point : FnOk P w K mg base CX0 n f__law_bent_point d__law_bent_point ["_law_point", "_law_way", "_law_at", "_law_step"] (lSp K z__law_bent_point)) (b__law_bent_point : Binds K d__law_bent_point ["_law_point", "_law_way", "_law_at", "_law_step"] []) (k__law_bent_point : PySem.W.keepIn K (.ref f__law_bent_point) = true) (m__law_bent_point : mg "_law_bent_point" = some (.ref f__law_bent_point)) {f__law_bent_shares : Addr} {d__law_bent_shares : FuncData} (G__law_bent_shares : FnOk P w K mg base CX0 n f__law_bent_shares d__law_bent_shares ["_law_shares", "_law_way", "_law_at", "_law_step"] (lSp K z__law_bent_shares)) (b__law_bent_shares : Binds K d__law_bent_shares ["_law_shares", "_law_way", "_law_at", "_law_step"] []) (k__law_bent_shares : PySem.W.keepIn K (.ref f__law_bent_shares) = true) (m__law_bent_shares : mg "_law_bent_shares" = some (.ref f__law_bent_shares)) (z_len : mg "len" = none) : FnOk P w K mg base CX0 (n + 1) f fd ["_law_parts", "_law_spoil", "_law_way", "_law_at", "_law_step"] (lSp K z__law_bent) := by
  refine F.okD sc__law_bent (fun ds R h => ?_) (fun cdv A outer s H E ds R hr h => ?_)
  · obtain ⟨p0, ray0, shs0, d0, spoil, way, at_, step, rfl, _⟩ := h; rfl
  obtain ⟨p0, ray0, shs0, d0, spoil, way, at_, step, rfl, hp, hpl, hy, hyl, hsl, hs0, hd, hst, hw0, hw4, q⟩ := h
  refine ⟨_, (s_cons (s_asg (dv 0) (g_seq (n := 4) rfl (gs_cons (g_name (i := 5) sc__law_bent.nd rfl (Or.inl rfl)) (gs_cons (g_name (i := 6) sc__law_bent.nd rfl (Or.inl rfl)) (gs_cons (g_name (i := 7) sc__law_bent.nd rfl (Or.inl rfl)) (gs_cons (g_name (i := 8) sc__law_bent.nd rfl (Or.inl rfl)) gs_nil))))))
      (s_cut (s_if (t_cmp (z_eq hr.units) (dvq 1) (PD.q dc_int) (nomark _)) (s_one (s_set (i := 5) sc__law_bent.nd rfl (Or.inl rfl) (d_call G__law_bent_point hr rfl m__law_bent_point k__law_bent_point b__law_bent_point pass0 (a_cons (dv 5) (a_cons (dv 2) (a_cons (dv 3) (a_cons (dv 4) a_nil se_Name) se_Name) se_Name) se_Name) se_Name (npl_cons se_Name (npl_cons se_Name (npl_cons se_Name npl_nil)))))) s_nil)
      (s_cut (s_if (PWD.td (w_and (t_cmp (z_eq hr.units) (dvq 1) (PD.q dc_int) (nomark _)) (w_and1 (t_tru (dvq 7) (fun _ => rfl))))) (s_one (s_set (i := 7) sc__law_bent.nd rfl (Or.inl rfl) (d_call G__law_bent_shares hr rfl m__law_bent_shares k__law_bent_shares b__law_bent_shares pass0 (a_cons (dv 7) (a_cons (dv 2) (a_cons (dv 3) (a_cons (dv 4) a_nil se_Name) se_Name) se_Name) se_Name) se_Name (npl_cons se_Name (npl_cons se_Name (npl_cons se_Name npl_nil)))))) s_nil)
      (s_cut (s_if (t_cmp (z_eq hr.units) (dvq 1) (PD.q dc_int) (nomark _)) (s_one (s_set (i := 8) sc__law_bent.nd rfl (Or.inl rfl) (d_ix (PD.q (PF.d (f_lst (a_cons dc_int (a_cons (d_op z_add (dvq 8) (dvq 4)) (a_cons (d_neg (dvq 8)) (a_cons (d_op z_add (dvq 8) (PD.q dc_int)) a_nil se_BinOp) se_UnaryOp) se_BinOp) se_Constant)))) (dvq 2) (fun _ _ => rfl)))) s_nil)
      (s_cut (s_if (PWD.td (w_and (t_cmp (z_eq hr.units) (dvq 1) (PD.q dc_int) (nomark _)) (w_and1 (t_cmp z_gt (dvq 2) (PD.q dc_int) (nomark _))))) (s_one (s_set (i := 6) sc__law_bent.nd rfl (Or.inl rfl) (d_ix (PD.q (PF.d (f_lst (a_cons (d_op z_add (dvq 6) (PD.q (d_tup (a_cons dc_int a_nil se_Constant)))) (a_cons (d_sl (dvq 6) (o_some (PD.q dc_int)) o_none) a_nil se_Subscript) se_BinOp)))) (PD.q (d_op z_mod (dvq 2) (PD.q dc_int))) (fun _ _ => rfl)))) s_nil)
      (s_cut (s_if (PWD.td (w_and (t_cmp (z_eq hr.units) (dvq 1) (PD.q dc_int) (nomark _)) (w_and (t_cmp z_lt (dvq 2) (PD.q dc_int) (nomark _)) (w_and1 (t_tru (dvq 6) (fun _ => rfl)))))) (s_cons (s_set (i := 3) sc__law_bent.nd rfl (Or.inl rfl) (d_op z_mod (dvq 3) (PD.q (d_callB c_len rfl z_len PySem.boot_len (aq_cons (dvq 6) aq_nil se_Name) se_Name npl_nil))))
      (s_one (s_set (i := 6) sc__law_bent.nd rfl (Or.inl rfl) (d_op z_add (PD.q (d_op z_add (PD.q (d_sl (dvq 6) o_none (o_some (dvq 3)))) (PD.q (d_tup (a_cons (d_op z_add (PD.q (d_ix (dvq 6) (dvq 3) (fun _ _ => rfl))) (dvq 4)) a_nil se_BinOp))))) (PD.q (d_sl (dvq 6) (o_some (PD.q (d_op z_add (dvq 3) (PD.q dc_int)))) o_none)))))) s_nil)
      (s_one (s_ret (d_tup (a_cons (dv 5) (a_cons (dv 6) (a_cons (dv 7) (a_cons (dv 8) a_nil se_Name) se_Name) se_Name) se_Name)))))))))), ?_⟩
  have e40' := e40
  have hd' : d0.natAbs ≤ 1099511627776 := by rw [← e40]; exact hd
  have hp1 : RowB 201 p0 := ⟨fun x hx => up201 (hp.1 x hx), up201 hp.2⟩
  have hs1 : ∀ s ∈ shs0, s.2.natAbs ≤ 2 ^ 41 := fun s hs => Nat.le_trans (hs0 s hs) (by decide)
  refine ⟨rfl, fun ρ => ∃ p : Row, (RowB 201 p ∧ p.1.length ≤ 13) ∧ ρ = stB (partsD p0 ray0 shs0 d0) spoil way at_ step p ray0 shs0 d0, ⟨fun h => ⟨p0, way, at_, step, rfl, hp, hpl, hst, fun p' h1 h2 => ⟨p', ⟨h1, h2⟩, rfl⟩⟩, fun h => ⟨p0, ⟨hp1, by omega⟩, rfl⟩⟩, ?_⟩
  rintro ρ ⟨p, hpp, rfl⟩
  refine ⟨fun ρ => ∃ shs : List (Int × Int), (shs.length ≤ 22 ∧ ∀ s ∈ shs, s.2.natAbs ≤ 2 ^ 41) ∧ ρ = stB (partsD p0 ray0 shs0 d0) spoil way at_ step p ray0 shs d0, ⟨fun h => ⟨fun hne => ⟨shs0, way, at_, step, rfl, fun e => ?_, hsl, hs0, hst, fun shs' h1 h2 => ⟨shs', ⟨h1, h2⟩, rfl⟩⟩, fun _ => ⟨shs0, ⟨by omega, hs1⟩, rfl⟩⟩, fun h => ⟨fun h => ff h, fun _ => ⟨shs0, ⟨by omega, hs1⟩, rfl⟩⟩⟩, ?_⟩
  · subst e; cases hne
  rintro ρ ⟨shs, hss, rfl⟩
  refine ⟨fun ρ => ∃ d : Int, d.natAbs ≤ 2 ^ 41 ∧ ρ = stB (partsD p0 ray0 shs0 d0) spoil way at_ step p ray0 shs d, ⟨fun h => ?_, fun h => ⟨d0, by rw [e41]; omega, rfl⟩⟩, ?_⟩
  · have hk : way = 0 ∨ way = 1 ∨ way = 2 ∨ way = 3 := by omega
    rcases hk with rfl | rfl | rfl | rfl
    · exact ⟨_, rfl, _, by decide, rfl⟩
    · exact ⟨_, rfl, _, by rw [e41]; omega, rfl⟩
    · exact ⟨_, rfl, _, by rw [e41]; omega, rfl⟩
    · exact ⟨_, rfl, _, by rw [e41]; omega, rfl⟩
  rintro ρ ⟨d, hdd, rfl⟩
  have hy1 : ∀ x ∈ ray0, x.natAbs ≤ 2 ^ 201 := fun x hx => up201 (hy x hx)
  refine ⟨fun ρ => ∃ ray : List Int, ((way < 2 → ray = ray0) ∧ ray.length ≤ 13 ∧ ∀ x ∈ ray, x.natAbs ≤ 2 ^ 201) ∧ ρ = stB (partsD p0 ray0 shs0 d0) spoil way at_ step p ray shs d, ⟨fun h => ⟨fun h2 => ?_, fun _ => ⟨ray0, ⟨fun _ => rfl, by omega, hy1⟩, rfl⟩⟩, fun h => ⟨fun h => ff h, fun _ => ⟨ray0, ⟨fun _ => rfl, by omega, hy1⟩, rfl⟩⟩⟩, ?_⟩
  · have h3 : way > 1 := dP h2
    refine ⟨?_, _, snocM D.int ray0 0, _, dropK (k := 1) rfl, (by decide : (0 : Int) < 2), ?_⟩
    · rw [List.length_map]; exact small (by simp; omega)
    · have hk : way = 2 ∨ way = 3 := by omega
      rcases hk with rfl | rfl
      · refine ⟨_, rfl, ray0 ++ [0], ⟨fun h => absurd h (by decide), by rw [List.length_append]; simp; omega, fun x hx => ?_⟩, rfl⟩
        rcases List.mem_append.mp hx with h | h
        · exact hy1 x h
        · rw [List.mem_singleton.mp h]; exact Nat.zero_le _
      · exact ⟨_, rfl, ray0.drop 1, ⟨fun h => absurd h (by decide), by rw [List.length_drop]; omega, fun x hx => hy1 x (List.mem_of_mem_drop hx)⟩, rfl⟩
  rintro ρ ⟨ray, ⟨hr1, hr2, hr3⟩, rfl⟩
  refine ⟨fun ρ => ∃ (ray' : List Int) (u3 : Option Sl), (ray'.length ≤ 13 ∧ ∀ x ∈ ray', x.natAbs ≤ 2 ^ 201) ∧ ρ = [some (.v (partsD p0 ray0 shs0 d0)), some (.v (.int spoil)), some (.v (.int way)), u3, some (.v (.int step)), some (.v (rowD p)), some (.v (.tup (ray'.map D.int))), some (.v (.lst (shs.map prD))), some (.v (.int d))], ⟨fun h => ⟨fun h2 => ⟨fun hne => ?_, fun _ => ⟨ray, _, ⟨hr2, hr3⟩, rfl⟩⟩, fun _ => ⟨fun h => ff h, fun _ => ⟨ray, _, ⟨hr2, hr3⟩, rfl⟩⟩⟩, fun h => ⟨fun h => ff h, fun _ => ⟨ray, _, ⟨hr2, hr3⟩, rfl⟩⟩⟩, ?_⟩
  · obtain rfl := hr1 (dP h2)
    have hlI : (((ray.map D.int).length : Nat) : Int) = (ray.length : Int) := by rw [List.length_map]
    have hpos : 0 < ray.length := by
      cases ray with
      | nil => cases hne
      | cons => simp
    obtain ⟨m0, m1, m2⟩ := mod_k (a := at_) hpos
    generalize hk : (at_ % (ray.length : Int)).toNat = k at m1 m2
    refine ⟨by rw [hlI]; omega, _, takeK (k := k) (by rw [hlI]; exact m2), _, at_map (f := D.int) (get_of m1) (by rw [hlI]; exact m2), ?_, _, snocM D.int _ _, _, dropK (k := k + 1) (by rw [hlI]; omega), ?_, _, catM D.int _ _, bump ray k m1 step, _, ⟨by rw [bump_len]; omega, bump_b hy hst⟩, rfl⟩
    · rw [List.length_map, List.length_take]; exact small (by simp; omega)
    · simp only [List.length_map, List.length_append, List.length_take, List.length_drop]; exact small (by simp; omega)
  rintro ρ ⟨ray', u3, hrr, rfl⟩
  exact q p ray' shs d hpp.1 hpp.2 hrr.2 hrr.1 hss.1 hss.2 hdd
def z__law_bent_rows : SpD := fun ds R => ∃ (rs : List Row) (goal : List Int) (spoil at_ step : Int) (n : Nat), ds = [.lst (rs.map rowD), .tup (goal.map D.int), .int spoil, .int at_, .int step] ∧ rs.length ≤ 12 ∧ goal.length = n ∧ n ≤ 12 ∧ (∀ r ∈ rs, RowN n 200 r) ∧ (∀ x ∈ goal, B200 x) ∧ step.natAbs ≤ 3 ∧
  ∀ (rs' : List Row) (goal' : List Int), rs'.length ≤ 12 → goal'.length = n → (∀ r ∈ rs', RowN n 201 r) → (∀ x ∈ goal', x.natAbs ≤ 2 ^ 201) → R (.tup [.lst (rs'.map rowD), .tup (goal'.map D.int)])
theorem ok__law_bent_rows {n : Nat} {f : Addr} {fd : FuncData} (F : Fun K "_law_bent_rows" "_law_bent_rows" s__law_bent_rows f fd) (z_len : mg "len" = none) : FnOk P w K mg base CX0 (n + 1) f fd ["_law_rows_here", "_law_goal", "_law_spoil", "_law_at", "_law_step"] (lSp K z__law_bent_rows) := by
  refine F.okD sc__law_bent_rows (fun ds R h => ?_) (fun cdv A outer s H E ds R hr h => ?_)
  · obtain ⟨rs, goal, spoil, at_, step, n, rfl, _⟩ := h; rfl
  obtain ⟨rs, goal, spoil, at_, step, n, rfl, hrl, hgl, hn, hrr, hg, hst, q⟩ := h
  refine ⟨_, (s_cut (s_if (PWD.td (w_and (t_cmp (z_eq hr.units) (dvq 2) (PD.q dc_int) (nomark _)) (w_and1 (t_tru (dvq 0) (fun _ => rfl))))) (s_cons (s_set (i := 3) sc__law_bent_rows.nd rfl (Or.inl rfl) (d_op z_mod (dvq 3) (PD.q (d_callB c_len rfl z_len PySem.boot_len (aq_cons (dvq 0) aq_nil se_Name) se_Name npl_nil))))
      (s_one (s_set (i := 0) sc__law_bent_rows.nd rfl (Or.inl rfl) (d_op z_add (PD.q (d_op z_add (PD.q (d_sl (dvq 0) o_none (o_some (dvq 3)))) (PD.q (PF.d (f_lst (a_cons (d_tup (a_cons (d_ix (PD.q (d_ix (dvq 0) (dvq 3) (fun _ _ => rfl))) (PD.q dc_int) (fun _ _ => rfl)) (a_cons (d_op z_add (PD.q (d_ix (PD.q (d_ix (dvq 0) (dvq 3) (fun _ _ => rfl))) (PD.q dc_int) (fun _ _ => rfl))) (dvq 4)) a_nil se_BinOp) se_Subscript)) a_nil se_Tuple)))))) (PD.q (d_sl (dvq 0) (o_some (PD.q (d_op z_add (dvq 3) (PD.q dc_int)))) o_none)))))) s_nil)
      (s_cut (s_if (PWD.td (w_and (t_cmp (z_eq hr.units) (dvq 2) (PD.q dc_int) (nomark _)) (w_and1 (t_tru (dvq 1) (fun _ => rfl))))) (s_cons (s_set (i := 3) sc__law_bent_rows.nd rfl (Or.inl rfl) (d_op z_mod (dvq 3) (PD.q (d_callB c_len rfl z_len PySem.boot_len (aq_cons (dvq 1) aq_nil se_Name) se_Name npl_nil))))
      (s_one (s_set (i := 1) sc__law_bent_rows.nd rfl (Or.inl rfl) (d_op z_add (PD.q (d_op z_add (PD.q (d_sl (dvq 1) o_none (o_some (dvq 3)))) (PD.q (d_tup (a_cons (d_op z_add (PD.q (d_ix (dvq 1) (dvq 3) (fun _ _ => rfl))) (dvq 4)) a_nil se_BinOp))))) (PD.q (d_sl (dvq 1) (o_some (PD.q (d_op z_add (dvq 3) (PD.q dc_int)))) o_none)))))) s_nil)
      (s_one (s_ret (d_tup (a_cons (dv 0) (a_cons (dv 1) a_nil se_Name) se_Name)))))), ?_⟩
  have hr1 : ∀ r ∈ rs, RowN n 201 r := fun r h => (hrr r h).up (by decide)
  have hg1 : ∀ x ∈ goal, x.natAbs ≤ 2 ^ 201 := fun x hx => up201 (hg x hx)
  refine ⟨fun ρ => ∃ (rs' : List Row) (a' : Int), (rs'.length ≤ 12 ∧ ∀ r ∈ rs', RowN n 201 r) ∧ ρ = [some (.v (.lst (rs'.map rowD))), some (.v (.tup (goal.map D.int))), some (.v (.int spoil)), some (.v (.int a')), some (.v (.int step))], ⟨fun h => ⟨fun hne => ?_, fun _ => ⟨rs, _, ⟨hrl, hr1⟩, rfl⟩⟩, fun h => ⟨fun h => ff h, fun _ => ⟨rs, _, ⟨hrl, hr1⟩, rfl⟩⟩⟩, ?_⟩
  · have hlI : (((rs.map rowD).length : Nat) : Int) = (rs.length : Int) := by rw [List.length_map]
    have hpos : 0 < rs.length := by
      cases rs with
      | nil => cases hne
      | cons => simp
    obtain ⟨m0, m1, m2⟩ := mod_k (a := at_) hpos
    generalize hk : (at_ % (rs.length : Int)).toNat = k at m1 m2
    have e1 : atI (rs.map rowD) (at_ % (((rs.map rowD).length : Nat) : Int)) = some (rowD rs[k]) := at_map (f := rowD) (get_of m1) (by rw [hlI]; exact m2)
    refine ⟨by rw [hlI]; omega, _, takeK (k := k) (by rw [hlI]; exact m2), _, e1, _, rfl, _, e1, _, rfl, ?_, _, snocM rowD _ (rs[k].1, rs[k].2 + step), _, dropK (k := k + 1) (by rw [hlI]; omega), ?_, _, catM rowD _ _, rs.take k ++ [(rs[k].1, rs[k].2 + step)] ++ rs.drop (k + 1), _, ⟨?_, fun r h => ?_⟩, rfl⟩
    · rw [List.length_map, List.length_take]; exact small (by simp; omega)
    · simp only [List.length_map, List.length_append, List.length_take, List.length_drop]; exact small (by simp; omega)
    · simp only [List.length_append, List.length_take, List.length_drop]; simp; omega
    · rcases List.mem_append.mp h with h | h
      · rcases List.mem_append.mp h with h | h
        · exact hr1 r (List.mem_of_mem_take h)
        · rw [List.mem_singleton.mp h]
          have h5 := hrr _ (List.getElem_mem m1)
          refine ⟨h5.1, fun x hx => up201 (h5.2.1 x hx), ?_⟩
          have h6 : rs[k].2.natAbs ≤ 2 ^ 200 := h5.2.2
          show (rs[k].2 + step).natAbs ≤ 2 ^ 201
          rw [e200] at h6
          rw [e201]
          omega
      · exact hr1 r (List.mem_of_mem_drop h)
  rintro ρ ⟨rs', a', ⟨hl', hr'⟩, rfl⟩
  refine ⟨fun ρ => ∃ (goal' : List Int) (u3 : Option Sl), (goal'.length = n ∧ ∀ x ∈ goal', x.natAbs ≤ 2 ^ 201) ∧ ρ = [some (.v (.lst (rs'.map rowD))), some (.v (.tup (goal'.map D.int))), some (.v (.int spoil)), u3, some (.v (.int step))], ⟨fun h => ⟨fun hne => ?_, fun _ => ⟨goal, _, ⟨hgl, hg1⟩, rfl⟩⟩, fun h => ⟨fun h => ff h, fun _ => ⟨goal, _, ⟨hgl, hg1⟩, rfl⟩⟩⟩, ?_⟩
  · have hlI : (((goal.map D.int).length : Nat) : Int) = (goal.length : Int) := by rw [List.length_map]
    have hpos : 0 < goal.length := by
      cases goal with
      | nil => cases hne
      | cons => simp
    obtain ⟨m0, m1, m2⟩ := mod_k (a := a') hpos
    generalize hk : (a' % (goal.length : Int)).toNat = k at m1 m2
    refine ⟨by rw [hlI]; omega, _, takeK (k := k) (by rw [hlI]; exact m2), _, at_map (f := D.int) (get_of m1) (by rw [hlI]; exact m2), ?_, _, snocM D.int _ _, _, dropK (k := k + 1) (by rw [hlI]; omega), ?_, _, catM D.int _ _, bump goal k m1 step, _, ⟨by rw [bump_len]; omega, bump_b hg hst⟩, rfl⟩
    · rw [List.length_map, List.length_take]; exact small (by simp; omega)
    · simp only [List.length_map, List.length_append, List.length_take, List.length_drop]; exact small (by simp; omega)
  rintro ρ ⟨goal', u3, ⟨h1, h2⟩, rfl⟩
  exact q rs' goal' hl' h1 hr' h2
def z__law_endless_built : SpD := fun ds R => ∃ (c0 c1 c2 : Int) (n many : Nat) (big : Int), ds = [.lst ([c0, c1, c2].map D.int), .int (n : Int), .int (many : Int), .int big] ∧ n ≤ 3 ∧ many ≤ 4 ∧ 0 < big ∧ big ≤ 2 ^ 31 ∧ MadeR n R
theorem left_b {es ts : List Int} {n : Nat} (hn : es.length = n) (h3 : n ≤ 3) (he : ∀ x ∈ es, B40 x) (ht : ∀ x ∈ ts, B40 x) : (dot es ts).natAbs ≤ 2 ^ 85 := by
  refine Nat.le_trans (dot_le (A := 2 ^ 40) (B := 2 ^ 40) he ht) ?_
  rw [hn]
  exact Nat.le_trans (Nat.mul_le_mul_right _ h3) (by decide)
theorem ok__law_endless_built {n : Nat} {f : Addr} {fd : FuncData} (F : Fun K "_law_endless_built" "_law_endless_built" s__law_endless_built f fd) {f__law_draws : Addr} {d__law_draws : FuncData} (G__law_draws : FnOk P w K mg base CX0 n f__law_draws d__law_draws ["_law_cell_here", "_law_salt", "_law_sizes"] (lSp K z__law_draws)) (b__law_draws : Binds K d__law_draws ["_law_cell_here", "_law_salt", "_law_sizes"] []) (k__law_draws : PySem.W.keepIn K (.ref f__law_draws) = true) (m__law_draws : mg "_law_draws" = some (.ref f__law_draws)) {f__law_rows : Addr} {d__law_rows : FuncData} (G__law_rows : FnOk P w K mg base CX0 n f__law_rows d__law_rows ["_law_cell_here", "_law_salt", "_law_n", "_law_many", "_law_big"] (lSp K z__law_rows)) (b__law_rows : Binds K d__law_rows ["_law_cell_here", "_law_salt", "_law_n", "_law_many", "_law_big"] []) (k__law_rows : PySem.W.keepIn K (.ref f__law_rows) = true) (m__law_rows : mg "_law_rows" = some (.ref f__law_rows)) {f__law_along : Addr} {d__law_along : FuncData} (G__law_along : FnOk P w K mg base CX0 n f__law_along d__law_along ["_law_entries", "_law_ray"] (lSp K z__law_along)) (b__law_along : Binds K d__law_along ["_law_entries", "_law_ray"] []) (k__law_along : PySem.W.keepIn K (.ref f__law_along) = true) (m__law_along : mg "_law_along" = some (.ref f__law_along)) {f__law_unit : Addr} {d__law_unit : FuncData} (G__law_unit : FnOk P w K mg base CX0 n f__law_unit d__law_unit ["_law_n", "_law_at"] (lSp K z__law_unit)) (b__law_unit : Binds K d__law_unit ["_law_n", "_law_at"] []) (k__law_unit : PySem.W.keepIn K (.ref f__law_unit) = true) (m__law_unit : mg "_law_unit" = some (.ref f__law_unit)) {f__law_under : Addr} {d__law_under : FuncData} (G__law_under : FnOk P w K mg base CX0 n f__law_under d__law_under ["_law_top", "_law_bottom", "_law_slack"] (lSp K z__law_under)) (b__law_under : Binds K d__law_under ["_law_top", "_law_bottom", "_law_slack"] []) (k__law_under : PySem.W.keepIn K (.ref f__law_under) = true) (m__law_under : mg "_law_under" = some (.ref f__law_under)) {f__law_left : Addr} {d__law_left : FuncData} (G__law_left : FnOk P w K mg base CX0 n f__law_left d__law_left ["_law_entries", "_law_spot"] (lSp K z__law_left)) (b__law_left : Binds K d__law_left ["_law_entries", "_law_spot"] []) (k__law_left : PySem.W.keepIn K (.ref f__law_left) = true) (m__law_left : mg "_law_left" = some (.ref f__law_left)) (z_tuple : mg "tuple" = none) (z_range : mg "range" = none) : FnOk P w K mg base CX0 (n + 1) f fd ["_law_cells", "_law_n", "_law_many", "_law_big"] (lSp K z__law_endless_built) := by
  refine F.okD sc__law_endless_built (fun ds R h => ?_) (fun cdv A outer s H E ds R hr h => ?_)
  · obtain ⟨c0, c1, c2, n, many, big, rfl, _⟩ := h; rfl
  obtain ⟨c0, c1, c2, n, many, big, rfl, hn, hm, hb0, hb1, q⟩ := h
  refine ⟨_, (s_cons (s_set (i := 4) sc__law_endless_built.nd rfl (Or.inl rfl) (d_call G__law_draws hr rfl m__law_draws k__law_draws b__law_draws pass0 (a_cons (d_ix (dvq 0) (PD.q dc_int) (fun _ _ => rfl)) (a_cons dc_int (a_cons (d_op z_add (PD.q (d_op z_add (PD.q (d_op z_mul (PD.q (PF.d (f_lst (a_cons dc_int a_nil se_Constant)))) (dvq 1))) (PD.q (d_op z_mul (PD.q (PF.d (f_lst (a_cons (d_op z_add (PD.q (d_op z_mul (PD.q dc_int) (dvq 3))) (PD.q dc_int)) a_nil se_BinOp)))) (dvq 1))))) (PD.q (PF.d (f_lst (a_cons dc_int a_nil se_Constant))))) a_nil se_BinOp) se_Constant) se_Subscript) se_Subscript (npl_cons se_Constant (npl_cons se_BinOp npl_nil))))
      (s_cons (s_set (i := 5) sc__law_endless_built.nd rfl (Or.inl rfl) (d_callTy c_tuple rfl z_tuple PyProof.Rows.boot_tuple (aq_cons (PD.q (d_sl (dvq 4) o_none (o_some (dvq 1)))) aq_nil se_Subscript) se_Subscript npl_nil))
      (s_cons (s_set (i := 6) sc__law_endless_built.nd rfl (Or.inr rfl) (d_callTy c_tuple rfl z_tuple PyProof.Rows.boot_tuple (aq_cons (PD.q (PF.d (f_compN (k := 1) (N' := ["_law_one", "_law_big"]) (cap := [none, some 3]) rfl (.ok (show compOk ["_law_cells", "_law_n", "_law_many", "_law_big", "_law_numbers", "_law_ray", "_law_tops", "_law_bottom", "_law_slacks", "_law_rows_here", "_law_drawn", "_law_k", "_law_entries", "_law_goal"] (defScope s__law_endless_built) _ ["_law_one", "_law_big"] [none, some 3] = true by decide +kernel)) (by decide +kernel) (gm_set (by decide)) (i_seq (d_sl (dvq 4) (o_some (dvq 1)) (o_some (PD.q (d_op z_mul (PD.q dc_int) (dvq 1)))))) (fun _ _ _ _ _ => (g_name (i := 0) (show List.Nodup (["_law_one", "_law_big"] : List Str) by decide +kernel) rfl (Or.inl rfl))) (fun _ _ _ _ _ => (d_op z_sub (dvq 0) (dvq 1)))))) aq_nil se_ListComp) se_ListComp npl_nil))
      (s_cons (s_set (i := 7) sc__law_endless_built.nd rfl (Or.inr rfl) (d_op z_add (PD.q dc_int) (PD.q (d_ix (dvq 4) (PD.q (d_op z_mul (PD.q dc_int) (dvq 1))) (fun _ _ => rfl)))))
      (s_cons (s_set (i := 8) sc__law_endless_built.nd rfl (Or.inr rfl) (d_call G__law_draws hr rfl m__law_draws k__law_draws b__law_draws pass0 (a_cons (d_ix (dvq 0) (PD.q dc_int) (fun _ _ => rfl)) (a_cons dc_int (a_cons (d_op z_mul (PD.q (PF.d (f_lst (a_cons dc_int a_nil se_Constant)))) (PD.q (d_op z_add (dvq 1) (dvq 2)))) a_nil se_BinOp) se_Constant) se_Subscript) se_Subscript (npl_cons se_Constant (npl_cons se_BinOp npl_nil))))
      (s_cons (s_compNO (i := 9) (k := 1) (N' := ["_law_k", "_law_n", "_law_bottom", "_law_tops", "_law_slacks"]) (cap := [none, some 1, some 7, some 6, some 8]) rfl sc__law_endless_built.nd rfl (Or.inl rfl) (.ok (show compOk ["_law_cells", "_law_n", "_law_many", "_law_big", "_law_numbers", "_law_ray", "_law_tops", "_law_bottom", "_law_slacks", "_law_rows_here", "_law_drawn", "_law_k", "_law_entries", "_law_goal"] (defScope s__law_endless_built) _ ["_law_k", "_law_n", "_law_bottom", "_law_tops", "_law_slacks"] [none, some 1, some 7, some 6, some 8] = true by decide +kernel)) (by decide +kernel) (gm_set (by decide)) (i_range1 rfl z_range (a_cons (dv 1) a_nil se_Name)) (fun _ _ _ _ _ => (g_name (i := 0) (show List.Nodup (["_law_k", "_law_n", "_law_bottom", "_law_tops", "_law_slacks"] : List Str) by decide +kernel) rfl (Or.inl rfl))) (fun _ _ _ _ _ => (d_tup (a_cons (d_call G__law_unit hr rfl m__law_unit k__law_unit b__law_unit pass0 (a_cons (dv 1) (a_cons (dv 0) a_nil se_Name) se_Name) se_Name (npl_cons se_Name npl_nil)) (a_cons (d_call G__law_under hr rfl m__law_under k__law_under b__law_under pass0 (a_cons (d_ix (dvq 3) (dvq 0) (fun _ _ => rfl)) (a_cons (dv 2) (a_cons (d_ix (dvq 4) (dvq 0) (fun _ _ => rfl)) a_nil se_Subscript) se_Name) se_Subscript) se_Subscript (npl_cons se_Name (npl_cons se_Subscript npl_nil))) a_nil se_Call) se_Call))))
      (s_cons (s_set (i := 10) sc__law_endless_built.nd rfl (Or.inl rfl) (d_call G__law_rows hr rfl m__law_rows k__law_rows b__law_rows pass0 (a_cons (d_ix (dvq 0) (PD.q dc_int) (fun _ _ => rfl)) (a_cons dc_int (a_cons (dv 1) (a_cons (d_op z_add (dvq 2) (PD.q dc_int)) (a_cons (dv 3) a_nil se_Name) se_BinOp) se_Name) se_Constant) se_Subscript) se_Subscript (npl_cons se_Constant (npl_cons se_Name (npl_cons se_BinOp (npl_cons se_Name npl_nil))))))
      (s_cons (s_for PassesOwn.never rfl (i_range1 rfl z_range (a_cons (dv 2) a_nil se_Name)) (g_name (i := 11) sc__law_endless_built.nd rfl (Or.inl rfl)) (s_cons (s_set (i := 12) sc__law_endless_built.nd rfl (Or.inl rfl) (d_call G__law_along hr rfl m__law_along k__law_along b__law_along pass0 (a_cons (d_ix (PD.q (d_ix (dvq 10) (dvq 11) (fun _ _ => rfl))) (PD.q dc_int) (fun _ _ => rfl)) (a_cons (dv 5) a_nil se_Name) se_Subscript) se_Subscript (npl_cons se_Name npl_nil)))
      (s_one (s_append 9 (d_tup (a_cons (dv 12) (a_cons (d_call G__law_under hr rfl m__law_under k__law_under b__law_under pass0 (a_cons (d_call G__law_left hr rfl m__law_left k__law_left b__law_left pass0 (a_cons (dv 12) (a_cons (dv 6) a_nil se_Name) se_Name) se_Name (npl_cons se_Name npl_nil)) (a_cons (dv 7) (a_cons (d_ix (dvq 8) (PD.q (d_op z_add (dvq 1) (dvq 11))) (fun _ _ => rfl)) a_nil se_Subscript) se_Name) se_Call) se_Call (npl_cons se_Name (npl_cons se_Subscript npl_nil))) a_nil se_Call) se_Name)) (few_of se_Tuple) se_Tuple))))
      (s_cons (s_set (i := 13) sc__law_endless_built.nd rfl (Or.inl rfl) (d_call G__law_along hr rfl m__law_along k__law_along b__law_along pass0 (a_cons (d_ix (PD.q (d_ix (dvq 10) (dvq 2) (fun _ _ => rfl))) (PD.q dc_int) (fun _ _ => rfl)) (a_cons (dv 5) a_nil se_Name) se_Subscript) se_Subscript (npl_cons se_Name npl_nil)))
      (s_frz 9 (s_one (s_ret (d_tup (a_cons (dv 9) (a_cons (dv 13) (a_cons (d_tup (a_cons (d_tup (a_cons (dv 6) (a_cons (dv 7) a_nil se_Name) se_Name)) (a_cons (dv 5) (a_cons (PF.d (f_lst (a_cons (d_tup (a_cons dc_int (a_cons dc_int a_nil se_Constant) se_Constant)) a_nil se_Tuple))) (a_cons dc_int a_nil se_Constant) se_List) se_Name) se_Tuple)) a_nil se_Tuple) se_Name) se_Name)))))))))))))), ?_⟩
  have e40' := e40
  have h64 : (2 : Int) ^ 64 < 2 ^ 9000 := by decide +kernel
  refine ⟨_, rfl, ⟨by omega, by omega, ?_⟩, (List.replicate n (5 : Int)).map D.int, ?_, mulOk_l (by decide) (by decide), ⟨by omega, by omega, ?_⟩, (List.replicate n (2 * big + 1)).map D.int, ?_, ?_, _, catM D.int _ _, ?_, _, snocM D.int _ 3, c0, 15, _, rfl, ?_, by decide, by decide, fun z hz => ?_, fun es hD => ?_⟩
  · rw [show [D.int 5].length = 1 from rfl]; exact small (by omega)
  · rw [rep_one, Int.toNat_natCast]
  · rw [show [D.int (2 * big + 1)].length = 1 from rfl]; exact small (by omega)
  · rw [rep_one, Int.toNat_natCast]
  · simp only [List.length_map, List.length_replicate]; exact small (by omega)
  · simp only [List.length_map, List.length_append, List.length_replicate]; exact small (by simp; omega)
  · simp; omega
  · rcases List.mem_append.mp hz with h | h
    · rcases List.mem_append.mp h with h | h
      · rw [(List.mem_replicate.mp h).2]; omega
      · rw [(List.mem_replicate.mp h).2]; omega
    · rw [List.mem_singleton.mp h]; omega
  have hel : es.length = 2 * n + 1 := by rw [hD.len]; simp; omega
  have heb := drawn_le hD (b := 2 * big + 6) fun z hz => by
    rcases List.mem_append.mp hz with h | h
    · rcases List.mem_append.mp h with h | h
      · rw [(List.mem_replicate.mp h).2]; omega
      · rw [(List.mem_replicate.mp h).2]; omega
    · rw [List.mem_singleton.mp h]; omega
  obtain ⟨bo, hbo, hbb⟩ := hD.at (i := 2 * n) (z := 3) (by
    rw [List.getElem?_append_right (by simp; omega)]
    have e0 : 2 * n - (List.replicate n (5 : Int) ++ List.replicate n (2 * big + 1)).length = 0 := by simp; omega
    rw [e0]
    rfl)
  obtain ⟨pl, pm⟩ := cut_nat (xs := es) (lo := (n : Int)) (hi := 2 * (n : Int)) (a := n) (b := 2 * n) rfl (by push_cast; rfl) (by omega) (by omega)
  have ecut := cutL_map D.int es (some (n : Int)) (some (2 * (n : Int)))
  generalize cutL es (some (n : Int)) (some (2 * (n : Int))) = ps at pl pm ecut
  refine ⟨_, takeK (k := n) rfl, mulOk_l (by decide) (by decide), _, ecut, ?_⟩
  refine compN_int (fun x => x - big) (small1000 (by omega)) (fun x hx => rfl) ?_
  have hyb : ∀ x ∈ es.take n, B40 x := fun x hx => by
    have := heb x (List.mem_of_mem_take hx)
    show x.natAbs ≤ 2 ^ 40
    omega
  have hyl' : (es.take n).length ≤ 12 := by rw [List.length_take]; omega
  have htl : (ps.map fun x => x - big).length = n := by rw [List.length_map]; omega
  have htb : ∀ x ∈ (ps.map fun x => x - big), B40 x := fun x hx => by
    obtain ⟨u, hu, rfl⟩ := List.mem_map.mp hx
    have := heb u (pm u hu)
    show (u - big).natAbs ≤ 2 ^ 40
    omega
  generalize (ps.map fun x => x - big) = tops at htl htb ⊢
  generalize es.take n = ray at hyb hyl' ⊢
  refine ⟨mulOk_l (by decide) (by decide), _, at_map (f := D.int) hbo (by push_cast; rfl), ?_⟩
  have hsI : (n : Int) + (many : Int) = ((n + many : Nat) : Int) := by push_cast; rfl
  refine ⟨_, rfl, ⟨by omega, by omega, ?_⟩, (List.replicate (n + many) (5 : Int)).map D.int, ?_, c2, 16, List.replicate (n + many) 5, rfl, by rw [List.length_replicate]; omega, by decide, by decide, rep_b (by decide) (by decide), fun sl hS => ?_⟩
  · rw [show [D.int 5].length = 1 from rfl]; exact small (by omega)
  · rw [rep_one, hsI, Int.toNat_natCast]
  have hsll : sl.length = n + many := by rw [hS.len, List.length_replicate]
  have hslb := drawn_le hS (b := 5) fun z hz => by rw [(List.mem_replicate.mp hz).2]; exact Int.le_refl _
  refine ⟨⟨by omega, by omega⟩, by rw [rangeD_len]; exact small1000 (by omega), fun i y => ∃ r : Row, RowN n 200 r ∧ y = rowD r, fun i d hd => ?_, fun ys hyl hy => ?_⟩
  · obtain ⟨hi, rfl⟩ := rangeD_at hd
    have hi1 : i < tops.length := by omega
    have hi2 : i < sl.length := by omega
    have hs5 := hslb _ (List.getElem_mem hi2)
    refine ⟨n, 0 + (i : Int), rfl, by omega, fun us hul hub => ⟨_, at_map (f := D.int) (get_of hi1) (by omega), _, at_map (f := D.int) (get_of hi2) (by omega), tops[i], 1 + bo, sl[i], rfl, by omega, by omega, by omega, by omega, fun x hx => ⟨(us, x), ⟨hul, fun y hy => Nat.le_trans (hub y hy) (by decide), ?_⟩, rfl⟩⟩⟩
    have : tops[i].natAbs ≤ 2 ^ 40 := htb _ (List.getElem_mem hi1)
    show x.natAbs ≤ 2 ^ 200
    rw [e200]
    omega
  obtain ⟨r0, rfl, hr0⟩ := ex_map hy
  rw [List.length_map, rangeD_len] at hyl
  refine ⟨_, rfl, c1, 17, big, n, many + 1, by push_cast; rfl, by decide, by decide, by omega, by omega, hb0, by omega, fun dr hdl hdr => ?_⟩
  refine ⟨⟨by omega, by omega⟩, fun i ρ => ∃ (rs : List Row) (u11 u12 : Option Sl), ρ = [some (.v (.lst ([c0, c1, c2].map D.int))), some (.v (.int n)), some (.v (.int many)), some (.v (.int big)), some (.v (.lst (es.map D.int))), some (.v (.tup (ray.map D.int))), some (.v (.tup (tops.map D.int))), some (.v (.int (1 + bo))), some (.v (.lst (sl.map D.int))), some (.own (rs.map rowD)), some (.v (.lst (dr.map rowD))), u11, u12, none] ∧ rs.length = n + i ∧ ∀ r ∈ rs, RowN n 200 r, ⟨r0, _, _, rfl, by omega, hr0⟩, ?_, ?_⟩
  · rintro i d ρ hd ⟨rs, u11, u12, rfl, hrl, hrs⟩
    obtain ⟨hi, rfl⟩ := rangeD_at hd
    have hi1 : i < dr.length := by omega
    have hi2 : n + i < sl.length := by omega
    have hs5 := hslb _ (List.getElem_mem hi2)
    have hdi := hdr _ (List.getElem_mem hi1)
    refine ⟨_, at_map (f := rowD) (get_of hi1) (by omega), _, rfl, dr[i].1, ray, rfl, by rw [hdi.1]; omega, hdi.2.1, hyb, fun en hel hen => ?_⟩
    have hel' : en.length = n := hel.trans hdi.1
    refine ⟨en, tops, rfl, by omega, fun x hx => B40.big (hen x hx), fun x hx => B40.big (htb x hx), _, at_map (f := D.int) (get_of hi2) (by push_cast; omega), dot en tops, 1 + bo, sl[n + i], rfl, by omega, by omega, by omega, by omega, fun x hx => ?_⟩
    refine ⟨by rw [List.length_map]; exact small1000 (by omega), _, snocM rowD _ (en, x), rs ++ [(en, x)], _, _, rfl, by rw [List.length_append]; simp; omega, fun r h => ?_⟩
    rcases List.mem_append.mp h with h | h
    · exact hrs r h
    · rw [List.mem_singleton.mp h]
      refine ⟨hel', fun y hy => Nat.le_trans (hen y hy) (Nat.pow_le_pow_right (by decide) (by decide)), ?_⟩
      have h85 := left_b hel' (by omega) hen htb
      have e85 : 2 ^ 85 = 38685626227668133590597632 := by decide
      show x.natAbs ≤ 2 ^ 200
      rw [e85] at h85
      rw [e200]
      omega
  rintro ρ ⟨rs, u11, u12, rfl, hrl, hrs⟩
  rw [rangeD_len] at hrl
  have hm1 : many < dr.length := by omega
  have hdm := hdr _ (List.getElem_mem hm1)
  refine ⟨_, at_map (f := rowD) (get_of hm1) rfl, _, rfl, dr[many].1, ray, rfl, by rw [hdm.1]; omega, hdm.2.1, hyb, fun gl hgl hgb => ?_⟩
  exact q rs gl (tops, 1 + bo) ray [(0, 1)] 1 ⟨by omega, hrs, hgl.trans hdm.1, fun x hx => Nat.le_trans (hgb x hx) (Nat.pow_le_pow_right (by decide) (by decide)), ⟨fun x hx => Nat.le_trans (htb x hx) (Nat.pow_le_pow_right (by decide) (by decide)), by show (1 + bo).natAbs ≤ 2 ^ 200; rw [e200]; omega⟩, by show tops.length ≤ 12; omega, fun x hx => Nat.le_trans (hyb x hx) (Nat.pow_le_pow_right (by decide) (by decide)), hyl', by simp, fun s hs => by rw [List.mem_singleton.mp hs]; decide, by decide⟩
def z__law_best_rows : SpD := fun ds R => ∃ (c0 c1 c2 : Int) (n many : Nat) (big : Int) (tops : List Int) (bo : Int) (ray : List Int), ds = [.lst ([c0, c1, c2].map D.int), .int (n : Int), .int (many : Int), .int big, rowD (tops, bo), .tup (ray.map D.int)] ∧ n ≤ 3 ∧ many ≤ 4 ∧ 0 < big ∧ big ≤ 2 ^ 31 ∧ tops.length = n ∧ (∀ x ∈ tops, B40 x) ∧ 1 ≤ bo ∧ bo ≤ 3 ∧ (∀ x ∈ ray, B40 x) ∧ ∀ rs : List Row, rs.length = n + many → (∀ r ∈ rs, RowN n 90 r) → R (.lst (rs.map rowD))
theorem ok__law_best_rows {n : Nat} {f : Addr} {fd : FuncData} (F : Fun K "_law_best_rows" "_law_best_rows" s__law_best_rows f fd) {f__law_draws : Addr} {d__law_draws : FuncData} (G__law_draws : FnOk P w K mg base CX0 n f__law_draws d__law_draws ["_law_cell_here", "_law_salt", "_law_sizes"] (lSp K z__law_draws)) (b__law_draws : Binds K d__law_draws ["_law_cell_here", "_law_salt", "_law_sizes"] []) (k__law_draws : PySem.W.keepIn K (.ref f__law_draws) = true) (m__law_draws : mg "_law_draws" = some (.ref f__law_draws)) {f__law_rows : Addr} {d__law_rows : FuncData} (G__law_rows : FnOk P w K mg base CX0 n f__law_rows d__law_rows ["_law_cell_here", "_law_salt", "_law_n", "_law_many", "_law_big"] (lSp K z__law_rows)) (b__law_rows : Binds K d__law_rows ["_law_cell_here", "_law_salt", "_law_n", "_law_many", "_law_big"] []) (k__law_rows : PySem.W.keepIn K (.ref f__law_rows) = true) (m__law_rows : mg "_law_rows" = some (.ref f__law_rows)) {f__law_along : Addr} {d__law_along : FuncData} (G__law_along : FnOk P w K mg base CX0 n f__law_along d__law_along ["_law_entries", "_law_ray"] (lSp K z__law_along)) (b__law_along : Binds K d__law_along ["_law_entries", "_law_ray"] []) (k__law_along : PySem.W.keepIn K (.ref f__law_along) = true) (m__law_along : mg "_law_along" = some (.ref f__law_along)) {f__law_left : Addr} {d__law_left : FuncData} (G__law_left : FnOk P w K mg base CX0 n f__law_left d__law_left ["_law_entries", "_law_spot"] (lSp K z__law_left)) (b__law_left : Binds K d__law_left ["_law_entries", "_law_spot"] []) (k__law_left : PySem.W.keepIn K (.ref f__law_left) = true) (m__law_left : mg "_law_left" = some (.ref f__law_left)) {f__law_unit : Addr} {d__law_unit : FuncData} (G__law_unit : FnOk P w K mg base CX0 n f__law_unit d__law_unit ["_law_n", "_law_at"] (lSp K z__law_unit)) (b__law_unit : Binds K d__law_unit ["_law_n", "_law_at"] []) (k__law_unit : PySem.W.keepIn K (.ref f__law_unit) = true) (m__law_unit : mg "_law_unit" = some (.ref f__law_unit)) {f__law_under : Addr} {d__law_under : FuncData} (G__law_under : FnOk P w K mg base CX0 n f__law_under d__law_under ["_law_top", "_law_bottom", "_law_slack"] (lSp K z__law_under)) (b__law_under : Binds K d__law_under ["_law_top", "_law_bottom", "_law_slack"] []) (k__law_under : PySem.W.keepIn K (.ref f__law_under) = true) (m__law_under : mg "_law_under" = some (.ref f__law_under)) (z_enumerate : mg "enumerate" = none) (z_range : mg "range" = none) (z_tuple : mg "tuple" = none) : FnOk P w K mg base CX0 (n + 1) f fd ["_law_cells", "_law_n", "_law_many", "_law_big", "_law_point", "_law_ray"] (lSp K z__law_best_rows) := by
  refine F.okD sc__law_best_rows (fun ds R h => ?_) (fun cdv A outer s H E ds R hr h => ?_)
  · obtain ⟨c0, c1, c2, n, many, big, tops, bo, ray, rfl, _⟩ := h; rfl
  obtain ⟨c0, c1, c2, n, many, big, tops, bo, ray, rfl, hn, hm, hb0, hb1, htl, htb, hbo1, hbo3, hyb, q⟩ := h
  refine ⟨_, (s_cons (s_asg (dv 4) (g_seq (n := 2) rfl (gs_cons (g_name (i := 6) sc__law_best_rows.nd rfl (Or.inr rfl)) (gs_cons (g_name (i := 7) sc__law_best_rows.nd rfl (Or.inr rfl)) gs_nil))))
      (s_cons (s_set (i := 8) sc__law_best_rows.nd rfl (Or.inr rfl) (d_call G__law_draws hr rfl m__law_draws k__law_draws b__law_draws pass0 (a_cons (d_ix (dvq 0) (PD.q dc_int) (fun _ _ => rfl)) (a_cons dc_int (a_cons (d_op z_mul (PD.q (PF.d (f_lst (a_cons dc_int a_nil se_Constant)))) (PD.q (d_op z_add (dvq 1) (dvq 2)))) a_nil se_BinOp) se_Constant) se_Subscript) se_Subscript (npl_cons se_Constant (npl_cons se_BinOp npl_nil))))
      (s_cons (s_compNO (i := 9) (k := 1) (N' := ["_law_k", "_law_n", "_law_bottom", "_law_tops", "_law_slacks"]) (cap := [none, some 1, some 7, some 6, some 8]) rfl sc__law_best_rows.nd rfl (Or.inl rfl) (.ok (show compOk ["_law_cells", "_law_n", "_law_many", "_law_big", "_law_point", "_law_ray", "_law_tops", "_law_bottom", "_law_slacks", "_law_rows_here", "_law_k", "_law_entries", "_law_bound", "_law_total_here"] (defScope s__law_best_rows) _ ["_law_k", "_law_n", "_law_bottom", "_law_tops", "_law_slacks"] [none, some 1, some 7, some 6, some 8] = true by decide +kernel)) (by decide +kernel) (gm_set (by decide)) (i_range1 rfl z_range (a_cons (dv 1) a_nil se_Name)) (fun _ _ _ _ _ => (g_name (i := 0) (show List.Nodup (["_law_k", "_law_n", "_law_bottom", "_law_tops", "_law_slacks"] : List Str) by decide +kernel) rfl (Or.inl rfl))) (fun _ _ _ _ _ => (d_tup (a_cons (d_call G__law_unit hr rfl m__law_unit k__law_unit b__law_unit pass0 (a_cons (dv 1) (a_cons (dv 0) a_nil se_Name) se_Name) se_Name (npl_cons se_Name npl_nil)) (a_cons (d_call G__law_under hr rfl m__law_under k__law_under b__law_under pass0 (a_cons (d_ix (dvq 3) (dvq 0) (fun _ _ => rfl)) (a_cons (dv 2) (a_cons (d_ix (dvq 4) (dvq 0) (fun _ _ => rfl)) a_nil se_Subscript) se_Name) se_Subscript) se_Subscript (npl_cons se_Name (npl_cons se_Subscript npl_nil))) a_nil se_Call) se_Call))))
      (s_cons (s_for PassesOwn.never rfl (i_enumU rfl z_enumerate (a_cons (d_call G__law_rows hr rfl m__law_rows k__law_rows b__law_rows pass0 (a_cons (d_ix (dvq 0) (PD.q dc_int) (fun _ _ => rfl)) (a_cons dc_int (a_cons (dv 1) (a_cons (dv 2) (a_cons (dv 3) a_nil se_Name) se_Name) se_Name) se_Constant) se_Subscript) se_Subscript (npl_cons se_Constant (npl_cons se_Name (npl_cons se_Name (npl_cons se_Name npl_nil))))) a_nil se_Call)) (g_seq (n := 2) rfl (gs_cons (g_name (i := 10) sc__law_best_rows.nd rfl (Or.inl rfl)) (gs_cons (g_seq (n := 2) rfl (gs_cons (g_name (i := 11) sc__law_best_rows.nd rfl (Or.inl rfl)) (gs_cons (g_name (i := 12) sc__law_best_rows.nd rfl (Or.inl rfl)) gs_nil))) gs_nil))) (s_cons (s_set (i := 11) sc__law_best_rows.nd rfl (Or.inl rfl) (d_call G__law_along hr rfl m__law_along k__law_along b__law_along pass0 (a_cons (dv 11) (a_cons (dv 5) a_nil se_Name) se_Name) se_Name (npl_cons se_Name npl_nil)))
      (s_cons (s_set (i := 13) sc__law_best_rows.nd rfl (Or.inl rfl) (d_call G__law_left hr rfl m__law_left k__law_left b__law_left pass0 (a_cons (dv 11) (a_cons (dv 6) a_nil se_Name) se_Name) se_Name (npl_cons se_Name npl_nil)))
      (s_one (s_if (t_cmp z_lt (PD.q (d_ix (dvq 8) (PD.q (d_op z_add (dvq 1) (dvq 10))) (fun _ _ => rfl))) (PD.q dc_int) (nomark _)) (s_one (s_append 9 (d_tup (a_cons (d_callTy c_tuple rfl z_tuple PyProof.Rows.boot_tuple (aq_cons (PD.q (PF.d (f_compN (k := 1) (N' := ["_law_one", "_law_bottom"]) (cap := [none, some 7]) rfl (.ok (show compOk ["_law_cells", "_law_n", "_law_many", "_law_big", "_law_point", "_law_ray", "_law_tops", "_law_bottom", "_law_slacks", "_law_rows_here", "_law_k", "_law_entries", "_law_bound", "_law_total_here"] (defScope s__law_best_rows) _ ["_law_one", "_law_bottom"] [none, some 7] = true by decide +kernel)) (by decide +kernel) (gm_set (by decide)) (i_seq (dv 11)) (fun _ _ _ _ _ => (g_name (i := 0) (show List.Nodup (["_law_one", "_law_bottom"] : List Str) by decide +kernel) rfl (Or.inl rfl))) (fun _ _ _ _ _ => (d_op z_mul (dvq 1) (dvq 0)))))) aq_nil se_ListComp) se_ListComp npl_nil) (a_cons (dv 13) a_nil se_Name) se_Call)) (few_of se_Tuple) se_Tuple)) (s_one (s_append 9 (d_tup (a_cons (dv 11) (a_cons (d_op z_fdiv (dvq 13) (dvq 7)) a_nil se_BinOp) se_Name)) (few_of se_Tuple) se_Tuple)))))))
      (s_frz 9 (s_one (s_ret (dv 9)))))))), ?_⟩
  have e40' := e40
  have e90 : 2 ^ 90 = 1237940039285380274899124224 := by decide
  have h9 : (1000 : Int) < 2 ^ 9000 := by decide +kernel
  have hsI : (n : Int) + (many : Int) = ((n + many : Nat) : Int) := by push_cast; rfl
  refine ⟨rfl, _, rfl, ⟨by omega, by omega, ?_⟩, (List.replicate (n + many) (4 : Int)).map D.int, ?_, c2, 18, List.replicate (n + many) 4, rfl, by rw [List.length_replicate]; omega, by decide, by decide, rep_b (by decide) (by decide), fun sl hS => ?_⟩
  · rw [show [D.int 4].length = 1 from rfl]; exact small (by omega)
  · rw [rep_one, hsI, Int.toNat_natCast]
  have hsll : sl.length = n + many := by rw [hS.len, List.length_replicate]
  have hslb := drawn_le hS (b := 4) fun z hz => by rw [(List.mem_replicate.mp hz).2]; exact Int.le_refl _
  refine ⟨⟨by omega, by omega⟩, by rw [rangeD_len]; exact small1000 (by omega), fun i y => ∃ r : Row, RowN n 90 r ∧ y = rowD r, fun i d hd => ?_, fun ys hyl hy => ?_⟩
  · obtain ⟨hi, rfl⟩ := rangeD_at hd
    have hi1 : i < tops.length := by omega
    have hi2 : i < sl.length := by omega
    have hs5 := hslb _ (List.getElem_mem hi2)
    refine ⟨n, 0 + (i : Int), rfl, by omega, fun us hul hub => ⟨_, at_map (f := D.int) (get_of hi1) (by omega), _, at_map (f := D.int) (get_of hi2) (by omega), tops[i], bo, sl[i], rfl, by omega, by omega, by omega, by omega, fun x hx => ⟨(us, x), ⟨hul, fun y hy => Nat.le_trans (hub y hy) (by decide), ?_⟩, rfl⟩⟩⟩
    have : tops[i].natAbs ≤ 2 ^ 40 := htb _ (List.getElem_mem hi1)
    show x.natAbs ≤ 2 ^ 90
    rw [e90]
    omega
  obtain ⟨r0, rfl, hr0⟩ := ex_map hy
  rw [List.length_map, rangeD_len] at hyl
  refine ⟨_, rfl, c1, 19, big, n, many, rfl, by decide, by decide, by omega, by omega, hb0, by omega, fun dr hdl hdr => ?_⟩
  refine ⟨fun i ρ => ∃ (rs : List Row) (u10 u11 u12 u13 : Option Sl), ρ = [some (.v (.lst ([c0, c1, c2].map D.int))), some (.v (.int n)), some (.v (.int many)), some (.v (.int big)), some (.v (rowD (tops, bo))), some (.v (.tup (ray.map D.int))), some (.v (.tup (tops.map D.int))), some (.v (.int bo)), some (.v (.lst (sl.map D.int))), some (.own (rs.map rowD)), u10, u11, u12, u13] ∧ rs.length = n + i ∧ ∀ r ∈ rs, RowN n 90 r, ⟨r0, _, _, _, _, rfl, by omega, hr0⟩, ?_, ?_⟩
  · rintro i d ρ hd ⟨rs, u10, u11, u12, u13, rfl, hrl, hrs⟩
    obtain ⟨e, he, rfl⟩ := enumD_at hd
    obtain ⟨r, rfl, hri⟩ := map_atD he
    have hi1 := lt_of_at hri
    have hdi := hdr r (List.mem_of_getElem? hri)
    have hi2 : n + i < sl.length := by omega
    refine ⟨rfl, rfl, r.1, ray, rfl, by rw [hdi.1]; omega, hdi.2.1, hyb, fun en hel hen => ?_⟩
    have hel' : en.length = n := hel.trans hdi.1
    have h85 := left_b hel' (by omega) hen htb
    have e85 : 2 ^ 85 = 38685626227668133590597632 := by decide
    rw [e85] at h85
    refine ⟨en, tops, rfl, by omega, fun x hx => B40.big (hen x hx), fun x hx => B40.big (htb x hx), _, at_map (f := D.int) (get_of hi2) (by push_cast; rfl), fun h => ?_, fun h => ?_⟩
    · refine compN_int (fun x => bo * x) (small1000 (by omega)) (fun x hx => ⟨mulOk_l (by omega) (by omega), rfl⟩) ?_
      refine ⟨by rw [List.length_map]; exact small1000 (by omega), _, snocM rowD _ (en.map fun x => bo * x, dot en tops), rs ++ [(en.map fun x => bo * x, dot en tops)], _, _, _, _, rfl, by rw [List.length_append]; simp; omega, fun r' h => ?_⟩
      rcases List.mem_append.mp h with h | h
      · exact hrs r' h
      · rw [List.mem_singleton.mp h]
        refine ⟨by show (en.map fun x => bo * x).length = n; rw [List.length_map]; exact hel', fun y hy => ?_, ?_⟩
        · obtain ⟨u, hu, rfl⟩ := List.mem_map.mp hy
          have hu' : u.natAbs ≤ 2 ^ 40 := hen u hu
          have : (bo * u).natAbs ≤ 3 * 2 ^ 40 := by rw [Int.natAbs_mul]; exact Nat.mul_le_mul (by omega) hu'
          exact Nat.le_trans this (by decide)
        · show (dot en tops).natAbs ≤ 2 ^ 90
          rw [e90]; omega
    · refine ⟨CDivB.of (by omega) (by omega), by rw [List.length_map]; exact small1000 (by omega), _, snocM rowD _ (en, dot en tops / bo), rs ++ [(en, dot en tops / bo)], _, _, _, _, rfl, by rw [List.length_append]; simp; omega, fun r' h => ?_⟩
      rcases List.mem_append.mp h with h | h
      · exact hrs r' h
      · rw [List.mem_singleton.mp h]
        refine ⟨hel', fun y hy => Nat.le_trans (hen y hy) (Nat.pow_le_pow_right (by decide) (by decide)), ?_⟩
        have h1 := Int.natAbs_ediv_le_natAbs (dot en tops) bo
        show (dot en tops / bo).natAbs ≤ 2 ^ 90
        rw [e90]; omega
  rintro ρ ⟨rs, u10, u11, u12, u13, rfl, hrl, hrs⟩
  rw [enumD_len, List.length_map] at hrl
  exact q rs (by omega) hrs
def z__law_best_built : SpD := fun ds R => ∃ (c0 c1 c2 : Int) (n many : Nat) (big : Int), ds = [.lst ([c0, c1, c2].map D.int), .int (n : Int), .int (many : Int), .int big] ∧ n ≤ 3 ∧ many ≤ 4 ∧ 0 < big ∧ big ≤ 2 ^ 31 ∧ MadeR n R
def bestZ (n many : Nat) (big : Int) : List Int := List.replicate n (2 * big + 1) ++ [3, 2, 3, 3, 2] ++ List.replicate (2 * n + many) 4
theorem bestZ_len (n many : Nat) (big : Int) : (bestZ n many big).length = 3 * n + 5 + many := by unfold bestZ; simp; omega
theorem bestZ_mid {n many : Nat} {big : Int} {j : Nat} {v : Int} (h : [(3 : Int), 2, 3, 3, 2][j]? = some v) : (bestZ n many big)[n + j]? = some v := by
  have hj := lt_of_at h
  unfold bestZ
  rw [List.append_assoc, List.getElem?_append_right (by simp), List.length_replicate, Nat.add_sub_cancel_left, List.getElem?_append_left hj]
  exact h
theorem bestZ_end {n many : Nat} {big : Int} {j : Nat} (h : j < 2 * n + many) : (bestZ n many big)[n + 5 + j]? = some 4 := by
  unfold bestZ
  rw [List.getElem?_append_right (by simp), List.getElem?_replicate, if_pos (by simp; omega)]
theorem ok__law_best_built {n : Nat} {f : Addr} {fd : FuncData} (F : Fun K "_law_best_built" "_law_best_built" s__law_best_built f fd) {f__law_draws : Addr} {d__law_draws : FuncData} (G__law_draws : FnOk P w K mg base CX0 n f__law_draws d__law_draws ["_law_cell_here", "_law_salt", "_law_sizes"] (lSp K z__law_draws)) (b__law_draws : Binds K d__law_draws ["_law_cell_here", "_law_salt", "_law_sizes"] []) (k__law_draws : PySem.W.keepIn K (.ref f__law_draws) = true) (m__law_draws : mg "_law_draws" = some (.ref f__law_draws)) {f__law_best_rows : Addr} {d__law_best_rows : FuncData} (G__law_best_rows : FnOk P w K mg base CX0 n f__law_best_rows d__law_best_rows ["_law_cells", "_law_n", "_law_many", "_law_big", "_law_point", "_law_ray"] (lSp K z__law_best_rows)) (b__law_best_rows : Binds K d__law_best_rows ["_law_cells", "_law_n", "_law_many", "_law_big", "_law_point", "_law_ray"] []) (k__law_best_rows : PySem.W.keepIn K (.ref f__law_best_rows) = true) (m__law_best_rows : mg "_law_best_rows" = some (.ref f__law_best_rows)) {f__law_total : Addr} {d__law_total : FuncData} (G__law_total : FnOk P w K mg base CX0 n f__law_total d__law_total ["_law_rows_here", "_law_shares", "_law_n"] (lSp K z__law_total)) (b__law_total : Binds K d__law_total ["_law_rows_here", "_law_shares", "_law_n"] []) (k__law_total : PySem.W.keepIn K (.ref f__law_total) = true) (m__law_total : mg "_law_total" = some (.ref f__law_total)) {f__law_fits : Addr} {d__law_fits : FuncData} (G__law_fits : FnOk P w K mg base CX0 n f__law_fits d__law_fits ["_law_entries", "_law_bound", "_law_least", "_law_point"] (lSp K z__law_fits)) (b__law_fits : Binds K d__law_fits ["_law_entries", "_law_bound", "_law_least", "_law_point"] []) (k__law_fits : PySem.W.keepIn K (.ref f__law_fits) = true) (m__law_fits : mg "_law_fits" = some (.ref f__law_fits)) (z_tuple : mg "tuple" = none) (z_enumerate : mg "enumerate" = none) (z_max : mg "max" = none) : FnOk P w K mg base CX0 (n + 1) f fd ["_law_cells", "_law_n", "_law_many", "_law_big"] (lSp K z__law_best_built) := by
  refine F.okD sc__law_best_built (fun ds R h => ?_) (fun cdv A outer s H E ds R hr h => ?_)
  · obtain ⟨c0, c1, c2, n, many, big, rfl, _⟩ := h; rfl
  obtain ⟨c0, c1, c2, n, many, big, rfl, hn, hm, hb0, hb1, q⟩ := h
  refine ⟨_, (s_cons (s_set (i := 4) sc__law_best_built.nd rfl (Or.inl rfl) (d_call G__law_draws hr rfl m__law_draws k__law_draws b__law_draws pass0 (a_cons (d_ix (dvq 0) (PD.q dc_int) (fun _ _ => rfl)) (a_cons dc_int (a_cons (d_op z_add (PD.q (d_op z_add (PD.q (d_op z_mul (PD.q (PF.d (f_lst (a_cons (d_op z_add (PD.q (d_op z_mul (PD.q dc_int) (dvq 3))) (PD.q dc_int)) a_nil se_BinOp)))) (dvq 1))) (PD.q (PF.d (f_lst (a_cons dc_int (a_cons dc_int (a_cons dc_int (a_cons dc_int (a_cons dc_int a_nil se_Constant) se_Constant) se_Constant) se_Constant) se_Constant)))))) (PD.q (d_op z_mul (PD.q (PF.d (f_lst (a_cons dc_int a_nil se_Constant)))) (PD.q (d_op z_add (PD.q (d_op z_mul (PD.q dc_int) (dvq 1))) (dvq 2)))))) a_nil se_BinOp) se_Constant) se_Subscript) se_Subscript (npl_cons se_Constant (npl_cons se_BinOp npl_nil))))
      (s_cons (s_set (i := 5) sc__law_best_built.nd rfl (Or.inl rfl) (d_callTy c_tuple rfl z_tuple PyProof.Rows.boot_tuple (aq_cons (PD.q (PF.d (f_compN (k := 1) (N' := ["_law_one"]) (cap := [none]) rfl (.ok (show compOk ["_law_cells", "_law_n", "_law_many", "_law_big", "_law_numbers", "_law_ray", "_law_tops", "_law_bottom", "_law_rows_here", "_law_divisor", "_law_shares", "_law_k", "_law_entries", "_law_bound", "_law_weight", "_law_total_here", "_law_goal", "_law_times", "_law_scale", "_law_point"] (defScope s__law_best_built) _ ["_law_one"] [none] = true by decide +kernel)) (by decide +kernel) (gm_set (by decide)) (i_seq (d_sl (dvq 4) (o_some (PD.q (d_op z_add (PD.q (d_op z_add (PD.q (d_op z_mul (PD.q dc_int) (dvq 1))) (PD.q dc_int))) (dvq 2)))) o_none)) (fun _ _ _ _ _ => (g_name (i := 0) (show List.Nodup (["_law_one"] : List Str) by decide +kernel) rfl (Or.inl rfl))) (fun _ _ _ _ _ => (d_callB (c_max2 rfl) rfl z_max PyProof.Rows.boot_max (aq_cons (PD.q dc_int) (aq_cons (PD.q (d_op z_sub (dvq 0) (PD.q dc_int))) aq_nil se_BinOp) se_Constant) se_Constant (npl_cons se_BinOp npl_nil)))))) aq_nil se_ListComp) se_ListComp npl_nil))
      (s_cons (s_set (i := 6) sc__law_best_built.nd rfl (Or.inl rfl) (d_callTy c_tuple rfl z_tuple PyProof.Rows.boot_tuple (aq_cons (PD.q (PF.d (f_compN (k := 1) (N' := ["_law_one", "_law_big"]) (cap := [none, some 3]) rfl (.ok (show compOk ["_law_cells", "_law_n", "_law_many", "_law_big", "_law_numbers", "_law_ray", "_law_tops", "_law_bottom", "_law_rows_here", "_law_divisor", "_law_shares", "_law_k", "_law_entries", "_law_bound", "_law_weight", "_law_total_here", "_law_goal", "_law_times", "_law_scale", "_law_point"] (defScope s__law_best_built) _ ["_law_one", "_law_big"] [none, some 3] = true by decide +kernel)) (by decide +kernel) (gm_set (by decide)) (i_seq (d_sl (dvq 4) o_none (o_some (dvq 1)))) (fun _ _ _ _ _ => (g_name (i := 0) (show List.Nodup (["_law_one", "_law_big"] : List Str) by decide +kernel) rfl (Or.inl rfl))) (fun _ _ _ _ _ => (d_op z_sub (dvq 0) (dvq 1)))))) aq_nil se_ListComp) se_ListComp npl_nil))
      (s_cons (s_set (i := 7) sc__law_best_built.nd rfl (Or.inl rfl) (d_op z_add (PD.q dc_int) (PD.q (d_ix (dvq 4) (dvq 1) (fun _ _ => rfl)))))
      (s_cons (s_set (i := 8) sc__law_best_built.nd rfl (Or.inl rfl) (d_call G__law_best_rows hr rfl m__law_best_rows k__law_best_rows b__law_best_rows pass0 (a_cons (dv 0) (a_cons (dv 1) (a_cons (dv 2) (a_cons (dv 3) (a_cons (d_tup (a_cons (dv 6) (a_cons (dv 7) a_nil se_Name) se_Name)) (a_cons (dv 5) a_nil se_Name) se_Tuple) se_Name) se_Name) se_Name) se_Name) se_Name (npl_cons se_Name (npl_cons se_Name (npl_cons se_Name (npl_cons se_Tuple (npl_cons se_Name npl_nil)))))))
      (s_cons (s_set (i := 9) sc__law_best_built.nd rfl (Or.inr rfl) dc_int)
      (s_cut (s_if (t_cmp (z_eq hr.units) (PD.q (d_ix (dvq 4) (PD.q (d_op z_add (dvq 1) (PD.q dc_int))) (fun _ _ => rfl))) (PD.q dc_int) (nomark _)) (s_one (s_set (i := 9) sc__law_best_built.nd rfl (Or.inr rfl) (dv 7))) s_nil)
      (s_cons (s_own (i := 10) sc__law_best_built.nd rfl (Or.inl rfl) (f_lst a_nil))
      (s_cons (s_for PassesOwn.never rfl (i_enumU rfl z_enumerate (a_cons (dv 8) a_nil se_Name)) (g_seq (n := 2) rfl (gs_cons (g_name (i := 11) sc__law_best_built.nd rfl (Or.inl rfl)) (gs_cons (g_seq (n := 2) rfl (gs_cons (g_name (i := 12) sc__law_best_built.nd rfl (Or.inl rfl)) (gs_cons (g_name (i := 13) sc__law_best_built.nd rfl (Or.inl rfl)) gs_nil))) gs_nil))) (s_cons (s_set (i := 14) sc__law_best_built.nd rfl (Or.inl rfl) (d_ix (dvq 4) (PD.q (d_op z_add (PD.q (d_op z_add (dvq 1) (PD.q dc_int))) (dvq 11))) (fun _ _ => rfl)))
      (s_cut (s_if (t_cmp z_lt (dvq 11) (dvq 1) (nomark _)) (s_one (s_set (i := 14) sc__law_best_built.nd rfl (Or.inl rfl) (d_op z_mul (dvq 14) (dvq 9)))) s_nil)
      (s_one (s_if (t_tru (PD.q (d_call G__law_fits hr rfl m__law_fits k__law_fits b__law_fits pass0 (a_cons (dv 12) (a_cons (dv 13) (a_cons (d_cmp z_lt (dvq 11) (dvq 1) (nomark _)) (a_cons (d_tup (a_cons (dv 6) (a_cons (dv 7) a_nil se_Name) se_Name)) a_nil se_Tuple) se_Compare) se_Name) se_Name) se_Name (npl_cons se_Name (npl_cons se_Compare (npl_cons se_Tuple npl_nil))))) (fun _ => rfl)) (s_one (s_append 10 (d_tup (a_cons (dv 11) (a_cons (dv 14) a_nil se_Name) se_Name)) (few_of se_Tuple) se_Tuple)) s_nil)))))
      (s_frz 10 (s_cons (s_set (i := 15) sc__law_best_built.nd rfl (Or.inl rfl) (d_call G__law_total hr rfl m__law_total k__law_total b__law_total pass0 (a_cons (dv 8) (a_cons (dv 10) (a_cons (dv 1) a_nil se_Name) se_Name) se_Name) se_Name (npl_cons se_Name (npl_cons se_Name npl_nil))))
      (s_cons (s_set (i := 16) sc__law_best_built.nd rfl (Or.inl rfl) (d_callTy c_tuple rfl z_tuple PyProof.Rows.boot_tuple (aq_cons (PD.q (PF.d (f_compN (k := 1) (N' := ["_law_one", "_law_divisor"]) (cap := [none, some 9]) rfl (.ok (show compOk ["_law_cells", "_law_n", "_law_many", "_law_big", "_law_numbers", "_law_ray", "_law_tops", "_law_bottom", "_law_rows_here", "_law_divisor", "_law_shares", "_law_k", "_law_entries", "_law_bound", "_law_weight", "_law_total_here", "_law_goal", "_law_times", "_law_scale", "_law_point"] (defScope s__law_best_built) _ ["_law_one", "_law_divisor"] [none, some 9] = true by decide +kernel)) (by decide +kernel) (gm_set (by decide)) (i_seq (d_sl (dvq 15) o_none (o_some (dvq 1)))) (fun _ _ _ _ _ => (g_name (i := 0) (show List.Nodup (["_law_one", "_law_divisor"] : List Str) by decide +kernel) rfl (Or.inl rfl))) (fun _ _ _ _ _ => (d_op z_fdiv (PD.q (d_neg (dvq 0))) (dvq 1)))))) aq_nil se_ListComp) se_ListComp npl_nil))
      (s_cons (s_set (i := 17) sc__law_best_built.nd rfl (Or.inr rfl) (d_op z_add (PD.q dc_int) (PD.q (d_ix (dvq 4) (PD.q (d_op z_add (dvq 1) (PD.q dc_int))) (fun _ _ => rfl)))))
      (s_frz 10 (s_cons (s_compNO (i := 10) (k := 2) (N' := ["_law_k", "_law_weight", "_law_times"]) (cap := [none, none, some 17]) rfl sc__law_best_built.nd rfl (Or.inl rfl) (.ok (show compOk ["_law_cells", "_law_n", "_law_many", "_law_big", "_law_numbers", "_law_ray", "_law_tops", "_law_bottom", "_law_rows_here", "_law_divisor", "_law_shares", "_law_k", "_law_entries", "_law_bound", "_law_weight", "_law_total_here", "_law_goal", "_law_times", "_law_scale", "_law_point"] (defScope s__law_best_built) _ ["_law_k", "_law_weight", "_law_times"] [none, none, some 17] = true by decide +kernel)) (by decide +kernel) (gm_seq (n := 2) (gm_cons (gm_set (by decide)) (gm_cons (gm_set (by decide)) gm_nil))) (i_seq (dv 10)) (fun _ _ _ _ _ => (g_seq (n := 2) rfl (gs_cons (g_name (i := 0) (show List.Nodup (["_law_k", "_law_weight", "_law_times"] : List Str) by decide +kernel) rfl (Or.inl rfl)) (gs_cons (g_name (i := 1) (show List.Nodup (["_law_k", "_law_weight", "_law_times"] : List Str) by decide +kernel) rfl (Or.inl rfl)) gs_nil)))) (fun _ _ _ _ _ => (d_tup (a_cons (dv 0) (a_cons (d_op z_mul (dvq 1) (dvq 2)) a_nil se_BinOp) se_Name))))
      (s_cut (s_if (t_tru (dvq 10) (fun _ => rfl)) (s_cons (s_asg (d_ix (dvq 10) (PD.q dc_int) (fun _ _ => rfl)) (g_seq (n := 2) rfl (gs_cons (g_name (i := 11) sc__law_best_built.nd rfl (Or.inl rfl)) (gs_cons (g_name (i := 14) sc__law_best_built.nd rfl (Or.inl rfl)) gs_nil))))
      (s_one (s_own (i := 10) sc__law_best_built.nd rfl (Or.inl rfl) (f_cat (PD.q (d_sl (dvq 10) (o_some (PD.q dc_int)) o_none)) (PD.q (PF.d (f_lst (a_cons (d_tup (a_cons (dv 11) (a_cons (d_op z_sub (dvq 14) (PD.q (d_op z_fdiv (dvq 14) (PD.q dc_int)))) a_nil se_BinOp) se_Name)) (a_cons (d_tup (a_cons (dv 11) (a_cons (d_op z_fdiv (dvq 14) (PD.q dc_int)) a_nil se_BinOp) se_Name)) a_nil se_Tuple) se_Tuple)))))))) s_nil)
      (s_cut (s_if (t_cmp (z_eq hr.units) (PD.q (d_ix (dvq 4) (PD.q (d_op z_add (dvq 1) (PD.q dc_int))) (fun _ _ => rfl))) (PD.q dc_int) (nomark _)) (s_one (s_own (i := 10) sc__law_best_built.nd rfl (Or.inl rfl) (f_back (dvq 10) (o_some (PD.q (d_neg (PD.q dc_int))))))) s_nil)
      (s_cons (s_set (i := 18) sc__law_best_built.nd rfl (Or.inr rfl) (d_op z_add (PD.q dc_int) (PD.q (d_ix (dvq 4) (PD.q (d_op z_add (dvq 1) (PD.q dc_int))) (fun _ _ => rfl)))))
      (s_cons (s_set (i := 19) sc__law_best_built.nd rfl (Or.inl rfl) (d_tup (a_cons (d_callTy c_tuple rfl z_tuple PyProof.Rows.boot_tuple (aq_cons (PD.q (PF.d (f_compN (k := 1) (N' := ["_law_one", "_law_scale"]) (cap := [none, some 18]) rfl (.ok (show compOk ["_law_cells", "_law_n", "_law_many", "_law_big", "_law_numbers", "_law_ray", "_law_tops", "_law_bottom", "_law_rows_here", "_law_divisor", "_law_shares", "_law_k", "_law_entries", "_law_bound", "_law_weight", "_law_total_here", "_law_goal", "_law_times", "_law_scale", "_law_point"] (defScope s__law_best_built) _ ["_law_one", "_law_scale"] [none, some 18] = true by decide +kernel)) (by decide +kernel) (gm_set (by decide)) (i_seq (dv 6)) (fun _ _ _ _ _ => (g_name (i := 0) (show List.Nodup (["_law_one", "_law_scale"] : List Str) by decide +kernel) rfl (Or.inl rfl))) (fun _ _ _ _ _ => (d_op z_mul (dvq 1) (dvq 0)))))) aq_nil se_ListComp) se_ListComp npl_nil) (a_cons (d_op z_mul (dvq 18) (dvq 7)) a_nil se_BinOp) se_Call)))
      (s_frz 10 (s_one (s_ret (d_tup (a_cons (dv 8) (a_cons (dv 16) (a_cons (d_tup (a_cons (dv 19) (a_cons (dv 5) (a_cons (dv 10) (a_cons (d_op z_mul (dvq 9) (dvq 17)) a_nil se_BinOp) se_Name) se_Name) se_Name)) a_nil se_Tuple) se_Name) se_Name)))))))))))))))))))))))), ?_⟩
  have e40' := e40
  have h64 : (2 : Int) ^ 64 < 2 ^ 9000 := by decide +kernel
  have hsI : 2 * (n : Int) + (many : Int) = ((2 * n + many : Nat) : Int) := by push_cast; rfl
  refine ⟨_, rfl, mulOk_l (by decide) (by decide), ⟨by omega, by omega, ?_⟩, (List.replicate n (2 * big + 1)).map D.int, ?_, ?_, _, catM D.int _ [3, 2, 3, 3, 2], mulOk_l (by decide) (by decide), ⟨by omega, by omega, ?_⟩, (List.replicate (2 * n + many) (4 : Int)).map D.int, ?_, ?_, _, catM D.int _ _, c0, 20, bestZ n many big, rfl, by rw [bestZ_len]; omega, by decide, by decide, fun z hz => ?_, fun es hD => ?_⟩
  · rw [show [D.int (2 * big + 1)].length = 1 from rfl]; exact small (by omega)
  · rw [rep_one, Int.toNat_natCast]
  · simp only [List.length_map, List.length_replicate]; exact small (by simp; omega)
  · rw [show [D.int 4].length = 1 from rfl]; exact small (by omega)
  · rw [rep_one, hsI, Int.toNat_natCast]
  · simp only [List.length_map, List.length_append, List.length_replicate]; exact small (by simp; omega)
  · unfold bestZ at hz
    rcases List.mem_append.mp hz with h | h
    · rcases List.mem_append.mp h with h | h
      · rw [(List.mem_replicate.mp h).2]; omega
      · simp at h; omega
    · rw [(List.mem_replicate.mp h).2]; omega
  have hel : es.length = 3 * n + 5 + many := by rw [hD.len, bestZ_len]
  have heb := drawn_le hD (b := 2 * big + 6) fun z hz => by
    unfold bestZ at hz
    rcases List.mem_append.mp hz with h | h
    · rcases List.mem_append.mp h with h | h
      · rw [(List.mem_replicate.mp h).2]; omega
      · simp at h; omega
    · rw [(List.mem_replicate.mp h).2]; omega
  obtain ⟨b0, hb0', d0⟩ := hD.at (bestZ_mid (n := n) (many := many) (big := big) (j := 0) rfl)
  obtain ⟨b1, hb1', d1⟩ := hD.at (bestZ_mid (n := n) (many := many) (big := big) (j := 1) rfl)
  obtain ⟨b2, hb2', d2⟩ := hD.at (bestZ_mid (n := n) (many := many) (big := big) (j := 2) rfl)
  obtain ⟨b3, hb3', d3⟩ := hD.at (bestZ_mid (n := n) (many := many) (big := big) (j := 3) rfl)
  obtain ⟨b4, hb4', d4⟩ := hD.at (bestZ_mid (n := n) (many := many) (big := big) (j := 4) rfl)
  refine ⟨mulOk_l (by decide) (by decide), _, dropK (k := 2 * n + 5 + many) (by push_cast; rfl), ?_⟩
  refine compN_int (fun x => if x - 2 > 0 then x - 2 else 0) (small1000 (by rw [List.length_drop]; omega)) (fun x hx => rfl) ?_
  have hyl : ((es.drop (2 * n + 5 + many)).map fun x => if x - 2 > 0 then x - 2 else 0).length = n := by rw [List.length_map, List.length_drop]; omega
  have hyb : ∀ x ∈ ((es.drop (2 * n + 5 + many)).map fun x => if x - 2 > 0 then x - 2 else 0), B40 x := fun x hx => by
    obtain ⟨u, hu, rfl⟩ := List.mem_map.mp hx
    have := heb u (List.mem_of_mem_drop hu)
    show (if u - 2 > 0 then u - 2 else 0).natAbs ≤ 2 ^ 40
    split <;> omega
  generalize ((es.drop (2 * n + 5 + many)).map fun x => if x - 2 > 0 then x - 2 else 0) = ray at hyl hyb ⊢
  refine ⟨_, takeK (k := n) rfl, ?_⟩
  refine compN_int (fun x => x - big) (small1000 (by rw [List.length_take]; omega)) (fun x hx => rfl) ?_
  have htl : ((es.take n).map fun x => x - big).length = n := by rw [List.length_map, List.length_take]; omega
  have htb : ∀ x ∈ ((es.take n).map fun x => x - big), B40 x := fun x hx => by
    obtain ⟨u, hu, rfl⟩ := List.mem_map.mp hx
    have := heb u (List.mem_of_mem_take hu)
    show (u - big).natAbs ≤ 2 ^ 40
    omega
  generalize ((es.take n).map fun x => x - big) = tops at htl htb ⊢
  refine ⟨_, at_map (f := D.int) hb0' (by push_cast; omega), c0, c1, c2, n, many, big, tops, 1 + b0, ray, rfl, hn, hm, hb0, hb1, htl, htb, by omega, by omega, hyb, fun rs hrl hrs => ?_⟩
  refine ⟨fun ρ => ∃ dv : Int, (1 ≤ dv ∧ dv ≤ 3) ∧ ρ = [some (.v (.lst ([c0, c1, c2].map D.int))), some (.v (.int n)), some (.v (.int many)), some (.v (.int big)), some (.v (.lst (es.map D.int))), some (.v (.tup (ray.map D.int))), some (.v (.tup (tops.map D.int))), some (.v (.int (1 + b0))), some (.v (.lst (rs.map rowD))), some (.v (.int dv)), none, none, none, none, none, none, none, none, none, none], ⟨_, at_map (f := D.int) hb1' (by push_cast; rfl), fun h => ⟨1 + b0, ⟨by omega, by omega⟩, rfl⟩, fun h => ⟨1, ⟨by omega, by omega⟩, rfl⟩⟩, ?_⟩
  rintro ρ ⟨dv, ⟨hdv1, hdv3⟩, rfl⟩
  have hrb : ∀ r ∈ rs, BigRow r := fun r h => ⟨fun x hx => big_of (by decide) ((hrs r h).2.1 x hx), big_of (by decide) (hrs r h).2.2⟩
  have hpb : BigRow (tops, 1 + b0) := ⟨fun x hx => B40.big (htb x hx), big_of (b := 40) (by decide) (by show (1 + b0).natAbs ≤ 2 ^ 40; omega)⟩
  refine ⟨fun i ρ => ∃ (shs : List (Int × Int)) (u11 u12 u13 u14 : Option Sl), ρ = [some (.v (.lst ([c0, c1, c2].map D.int))), some (.v (.int n)), some (.v (.int many)), some (.v (.int big)), some (.v (.lst (es.map D.int))), some (.v (.tup (ray.map D.int))), some (.v (.tup (tops.map D.int))), some (.v (.int (1 + b0))), some (.v (.lst (rs.map rowD))), some (.v (.int dv)), some (.own (shs.map prD)), u11, u12, u13, u14, none, none, none, none, none] ∧ shs.length ≤ i ∧ ∀ s ∈ shs, okS rs s ∧ s.2 ≤ 9, ⟨[], _, _, _, _, rfl, by simp, fun s hs => absurd hs List.not_mem_nil⟩, ?_, ?_⟩
  · rintro i d ρ hd ⟨shs, u11, u12, u13, u14, rfl, hsl, hss⟩
    obtain ⟨e, he, rfl⟩ := enumD_at hd
    obtain ⟨r, rfl, hri⟩ := map_atD he
    have hi1 := lt_of_at hri
    have hR := hrs r (List.mem_of_getElem? hri)
    obtain ⟨wt, hwt, dw⟩ := hD.at (bestZ_end (n := n) (many := many) (big := big) (j := i) (by omega))
    refine ⟨rfl, rfl, _, at_map (f := D.int) hwt (by push_cast; rfl), fun ρ => ∃ w' : Int, (0 ≤ w' ∧ w' ≤ 9) ∧ ρ = [some (.v (.lst ([c0, c1, c2].map D.int))), some (.v (.int n)), some (.v (.int many)), some (.v (.int big)), some (.v (.lst (es.map D.int))), some (.v (.tup (ray.map D.int))), some (.v (.tup (tops.map D.int))), some (.v (.int (1 + b0))), some (.v (.lst (rs.map rowD))), some (.v (.int dv)), some (.own (shs.map prD)), some (.v (.int i)), some (.v (.tup (r.1.map D.int))), some (.v (.int r.2)), some (.v (.int w')), none, none, none, none, none], ⟨fun h => ⟨mulOk_l (by omega) (by omega), wt * dv, ⟨Int.mul_nonneg (by omega) (by omega), ?_⟩, rfl⟩, fun h => ⟨wt, ⟨by omega, by omega⟩, rfl⟩⟩, ?_⟩
    · have h1 : wt * dv ≤ 3 * 3 := Int.mul_le_mul (by omega) hdv3 (by omega) (by omega)
      omega
    rintro ρ ⟨w', ⟨hw0, hw9⟩, rfl⟩
    refine ⟨r.1, r.2, _, (tops, 1 + b0), rfl, by rw [hR.1]; omega, (hrb r (List.mem_of_getElem? hri)).1, (hrb r (List.mem_of_getElem? hri)).2, hpb, by show 1 ≤ 1 + b0; omega, fun b => ?_⟩
    cases b with
    | true =>
      refine ⟨fun _ => ⟨by rw [List.length_map]; exact small1000 (by omega), _, snocM prD _ ((i : Int), w'), shs ++ [((i : Int), w')], _, _, _, _, rfl, by rw [List.length_append]; simp; omega, fun s hs => ?_⟩, fun h => tf h⟩
      rcases List.mem_append.mp hs with h | h
      · exact hss s h
      · rw [List.mem_singleton.mp h]
        exact ⟨⟨⟨by show (0 : Int) ≤ i; omega, by show (i : Int) < rs.length; omega⟩, hw0⟩, hw9⟩
    | false => exact ⟨fun h => ff h, fun _ => ⟨shs, _, _, _, _, rfl, by omega, hss⟩⟩
  rintro ρ ⟨shs, u11, u12, u13, u14, rfl, hsl, hss⟩
  rw [enumD_len, List.length_map] at hsl
  have hs40 : ∀ s ∈ shs, s.2.natAbs ≤ 2 ^ 40 := fun s hs => by
    have h1 := (hss s hs).1.2
    have h2 := (hss s hs).2
    omega
  obtain ⟨a, ea⟩ := sumS_some (n := n) fun s hs => (hss s hs).1
  have hab : RowB 140 a := sum_b ea (fun r h => (hrs r h).2) hs40 (by omega) (by decide)
  refine ⟨rs, shs, n, rfl, by omega, ⟨hrb, fun s hs => big_of (b := 40) (by decide) (hs40 s hs)⟩, fun r h => (hrs r h).1, fun e => absurd (e.symm.trans ea) (by simp), fun a' e hal => ?_⟩
  cases (e.symm.trans ea)
  have hcut : cutL ((a.1 ++ [a.2]).map D.int) none (some (n : Int)) = a.1.map D.int := by rw [cutL_map, cut_head, ← hal, List.take_left]
  refine ⟨_, hcut, ?_⟩
  refine compN_int (fun x => -x / dv) (small1000 (by omega)) (fun x hx => ⟨CDivB.of (by omega) (by omega), rfl⟩) ?_
  have hgl : (a.1.map fun x => -x / dv).length = n := by rw [List.length_map]; exact hal
  have hgb : ∀ x ∈ (a.1.map fun x => -x / dv), B200 x := fun x hx => by
    obtain ⟨u, hu, rfl⟩ := List.mem_map.mp hx
    have h1 : u.natAbs ≤ 2 ^ 140 := hab.1 u hu
    have h2 := Int.natAbs_ediv_le_natAbs (-u) dv
    rw [Int.natAbs_neg] at h2
    exact Nat.le_trans h2 (Nat.le_trans h1 (Nat.pow_le_pow_right (by decide) (by decide)))
  generalize (a.1.map fun x => -x / dv) = goal at hgl hgb ⊢
  refine ⟨_, at_map (f := D.int) hb2' (by push_cast; rfl), ?_⟩
  refine compN_map (fun s : Int × Int => prD (s.1, s.2 * (1 + b2))) (small1000 (by omega)) (fun s hs => ⟨rfl, mulOk_r (by omega) (by omega), rfl⟩) ?_
  have e1 : shs.map (fun s : Int × Int => prD (s.1, s.2 * (1 + b2))) = (shs.map fun s => (s.1, s.2 * (1 + b2))).map prD := by rw [List.map_map]; rfl
  rw [e1]
  have h1l : (shs.map fun s => (s.1, s.2 * (1 + b2))).length ≤ 7 := by rw [List.length_map]; omega
  have h1b : ∀ s ∈ (shs.map fun s => (s.1, s.2 * (1 + b2))), 0 ≤ s.2 ∧ s.2 ≤ 27 := fun s hs => by
    obtain ⟨u, hu, rfl⟩ := List.mem_map.mp hs
    have g1 := (hss u hu).1.2
    have g2 := (hss u hu).2
    refine ⟨Int.mul_nonneg g1 (by omega), ?_⟩
    have g3 : u.2 * (1 + b2) ≤ 9 * 3 := Int.mul_le_mul g2 (by omega) (by omega) (by omega)
    show u.2 * (1 + b2) ≤ 27
    omega
  generalize (shs.map fun s => (s.1, s.2 * (1 + b2))) = s1 at h1l h1b ⊢
  refine ⟨fun ρ => ∃ (s2 : List (Int × Int)) (v11 v14 : Option Sl), (s2.length ≤ 9 ∧ ∀ s ∈ s2, s.2.natAbs ≤ 2 ^ 40) ∧ ρ = [some (.v (.lst ([c0, c1, c2].map D.int))), some (.v (.int n)), some (.v (.int many)), some (.v (.int big)), some (.v (.lst (es.map D.int))), some (.v (.tup (ray.map D.int))), some (.v (.tup (tops.map D.int))), some (.v (.int (1 + b0))), some (.v (.lst (rs.map rowD))), some (.v (.int dv)), some (.own (s2.map prD)), v11, u12, u13, v14, some (.v (.lst ((a.1 ++ [a.2]).map D.int))), some (.v (.tup (goal.map D.int))), some (.v (.int (1 + b2))), none, none], ⟨fun hne => ?_, fun he => ⟨s1, _, _, ⟨by omega, fun s hs => by have := h1b s hs; omega⟩, rfl⟩⟩, ?_⟩
  · cases s1 with
    | nil => cases hne
    | cons s0 t =>
      have h0 := h1b s0 List.mem_cons_self
      have hat0 : atI ((s0 :: t).map prD) 0 = some (prD s0) := at_map (i := 0) rfl rfl
      refine ⟨_, hat0, rfl, _, dropK (k := 1) rfl, CDivB.of (by decide) (by omega), CDivB.of (by decide) (by omega), ?_, _, catM prD _ [(s0.1, s0.2 - s0.2 / 2), (s0.1, s0.2 / 2)], t ++ [(s0.1, s0.2 - s0.2 / 2), (s0.1, s0.2 / 2)], _, _, ⟨?_, fun s hs => ?_⟩, rfl⟩
      · simp only [List.length_map, List.length_drop]; exact small (by simp at h1l ⊢; omega)
      · rw [List.length_append]; simp at h1l ⊢; omega
      · rcases List.mem_append.mp hs with h | h
        · have := h1b s (List.mem_cons_of_mem _ h); omega
        · simp only [List.mem_cons, List.not_mem_nil, or_false] at h
          rcases h with rfl | rfl
          · show (s0.2 - s0.2 / 2).natAbs ≤ _; omega
          · show (s0.2 / 2).natAbs ≤ _; omega
  rintro ρ ⟨s2, v11, v14, ⟨h2l, h2b⟩, rfl⟩
  refine ⟨fun ρ => ∃ (s3 : List (Int × Int)), (s3.length ≤ 9 ∧ ∀ s ∈ s3, s.2.natAbs ≤ 2 ^ 40) ∧ ρ = [some (.v (.lst ([c0, c1, c2].map D.int))), some (.v (.int n)), some (.v (.int many)), some (.v (.int big)), some (.v (.lst (es.map D.int))), some (.v (.tup (ray.map D.int))), some (.v (.tup (tops.map D.int))), some (.v (.int (1 + b0))), some (.v (.lst (rs.map rowD))), some (.v (.int dv)), some (.own (s3.map prD)), v11, u12, u13, v14, some (.v (.lst ((a.1 ++ [a.2]).map D.int))), some (.v (.tup (goal.map D.int))), some (.v (.int (1 + b2))), none, none], ⟨_, at_map (f := D.int) hb4' (by push_cast; rfl), fun h => ⟨rfl, _, (List.map_reverse (f := prD) (l := s2)).symm, s2.reverse, ⟨by rw [List.length_reverse]; exact h2l, fun s hs => h2b s (List.mem_reverse.mp hs)⟩, rfl⟩, fun h => ⟨s2, ⟨h2l, h2b⟩, rfl⟩⟩, ?_⟩
  rintro ρ ⟨s3, ⟨h3l, h3b⟩, rfl⟩
  refine ⟨_, at_map (f := D.int) hb3' (by push_cast; rfl), ?_⟩
  refine compN_int (fun x => (1 + b3) * x) (small1000 (by omega)) (fun x hx => ⟨mulOk_l (by omega) (by omega), rfl⟩) ?_
  refine ⟨mulOk_l (by omega) (by omega), mulOk_l (by omega) (by omega), ?_⟩
  have hsc : ∀ y : Int, y.natAbs ≤ 2 ^ 40 → ((1 + b3) * y).natAbs ≤ 2 ^ 200 := fun y hy => by
    have : ((1 + b3) * y).natAbs ≤ 3 * 2 ^ 40 := by rw [Int.natAbs_mul]; exact Nat.mul_le_mul (by omega) hy
    exact Nat.le_trans this (by decide)
  refine q rs goal (tops.map fun x => (1 + b3) * x, (1 + b3) * (1 + b0)) ray s3 (dv * (1 + b2)) ⟨by omega, fun r h => (hrs r h).up (by decide), hgl, hgb, ⟨fun x hx => ?_, hsc _ (by omega)⟩, ?_, fun x hx => Nat.le_trans (hyb x hx) (Nat.pow_le_pow_right (by decide) (by decide)), by omega, by omega, h3b, ?_⟩
  · obtain ⟨u, hu, rfl⟩ := List.mem_map.mp hx
    exact hsc u (htb u hu)
  · show (tops.map fun x => (1 + b3) * x).length ≤ 12
    rw [List.length_map]; omega
  · have : (dv * (1 + b2)).natAbs ≤ 3 * 3 := by rw [Int.natAbs_mul]; exact Nat.mul_le_mul (by omega) (by omega)
    omega
def z__law_none_built : SpD := fun ds R => ∃ (c0 c1 c2 : Int) (n many : Nat) (big : Int), ds = [.lst ([c0, c1, c2].map D.int), .int (n : Int), .int (many : Int), .int big] ∧ n ≤ 3 ∧ many ≤ 4 ∧ 0 < big ∧ big ≤ 2 ^ 31 ∧ MadeR n R
theorem ok__law_none_built {n : Nat} {f : Addr} {fd : FuncData} (F : Fun K "_law_none_built" "_law_none_built" s__law_none_built f fd) {f__law_draws : Addr} {d__law_draws : FuncData} (G__law_draws : FnOk P w K mg base CX0 n f__law_draws d__law_draws ["_law_cell_here", "_law_salt", "_law_sizes"] (lSp K z__law_draws)) (b__law_draws : Binds K d__law_draws ["_law_cell_here", "_law_salt", "_law_sizes"] []) (k__law_draws : PySem.W.keepIn K (.ref f__law_draws) = true) (m__law_draws : mg "_law_draws" = some (.ref f__law_draws)) {f__law_total : Addr} {d__law_total : FuncData} (G__law_total : FnOk P w K mg base CX0 n f__law_total d__law_total ["_law_rows_here", "_law_shares", "_law_n"] (lSp K z__law_total)) (b__law_total : Binds K d__law_total ["_law_rows_here", "_law_shares", "_law_n"] []) (k__law_total : PySem.W.keepIn K (.ref f__law_total) = true) (m__law_total : mg "_law_total" = some (.ref f__law_total)) {f__law_rows : Addr} {d__law_rows : FuncData} (G__law_rows : FnOk P w K mg base CX0 n f__law_rows d__law_rows ["_law_cell_here", "_law_salt", "_law_n", "_law_many", "_law_big"] (lSp K z__law_rows)) (b__law_rows : Binds K d__law_rows ["_law_cell_here", "_law_salt", "_law_n", "_law_many", "_law_big"] []) (k__law_rows : PySem.W.keepIn K (.ref f__law_rows) = true) (m__law_rows : mg "_law_rows" = some (.ref f__law_rows)) {f__law_unit : Addr} {d__law_unit : FuncData} (G__law_unit : FnOk P w K mg base CX0 n f__law_unit d__law_unit ["_law_n", "_law_at"] (lSp K z__law_unit)) (b__law_unit : Binds K d__law_unit ["_law_n", "_law_at"] []) (k__law_unit : PySem.W.keepIn K (.ref f__law_unit) = true) (m__law_unit : mg "_law_unit" = some (.ref f__law_unit)) (z_tuple : mg "tuple" = none) (z_len : mg "len" = none) (z_range : mg "range" = none) (z_max : mg "max" = none) : FnOk P w K mg base CX0 (n + 1) f fd ["_law_cells", "_law_n", "_law_many", "_law_big"] (lSp K z__law_none_built) := by
  refine F.okD sc__law_none_built (fun ds R h => ?_) (fun cdv A outer s H E ds R hr h => ?_)
  · obtain ⟨c0, c1, c2, n, many, big, rfl, _⟩ := h; rfl
  obtain ⟨c0, c1, c2, n, many, big, rfl, hn, hm, hb0, hb1, q⟩ := h
  refine ⟨_, (s_cons (s_set (i := 4) sc__law_none_built.nd rfl (Or.inr rfl) (d_call G__law_draws hr rfl m__law_draws k__law_draws b__law_draws pass0 (a_cons (d_ix (dvq 0) (PD.q dc_int) (fun _ _ => rfl)) (a_cons dc_int (a_cons (d_op z_mul (PD.q (PF.d (f_lst (a_cons (d_op z_add (PD.q (d_op z_mul (PD.q dc_int) (dvq 3))) (PD.q dc_int)) a_nil se_BinOp)))) (dvq 1)) a_nil se_BinOp) se_Constant) se_Subscript) se_Subscript (npl_cons se_Constant (npl_cons se_BinOp npl_nil))))
      (s_cons (s_own (i := 5) sc__law_none_built.nd rfl (Or.inl rfl) (f_cat (PD.q (PF.d (f_compN (k := 1) (N' := ["_law_k", "_law_n", "_law_big", "_law_leasts"]) (cap := [none, some 1, some 3, some 4]) rfl (.ok (show compOk ["_law_cells", "_law_n", "_law_many", "_law_big", "_law_leasts", "_law_rows_here", "_law_numbers", "_law_shares", "_law_total_here", "_law_at"] (defScope s__law_none_built) _ ["_law_k", "_law_n", "_law_big", "_law_leasts"] [none, some 1, some 3, some 4] = true by decide +kernel)) (by decide +kernel) (gm_set (by decide)) (i_range1 rfl z_range (a_cons (dv 1) a_nil se_Name)) (fun _ _ _ _ _ => (g_name (i := 0) (show List.Nodup (["_law_k", "_law_n", "_law_big", "_law_leasts"] : List Str) by decide +kernel) rfl (Or.inl rfl))) (fun _ _ _ _ _ => (d_tup (a_cons (d_call G__law_unit hr rfl m__law_unit k__law_unit b__law_unit pass0 (a_cons (dv 1) (a_cons (dv 0) a_nil se_Name) se_Name) se_Name (npl_cons se_Name npl_nil)) (a_cons (d_op z_sub (PD.q (d_ix (dvq 3) (dvq 0) (fun _ _ => rfl))) (dvq 2)) a_nil se_BinOp) se_Call)))))) (PD.q (d_call G__law_rows hr rfl m__law_rows k__law_rows b__law_rows pass0 (a_cons (d_ix (dvq 0) (PD.q dc_int) (fun _ _ => rfl)) (a_cons dc_int (a_cons (dv 1) (a_cons (dv 2) (a_cons (dv 3) a_nil se_Name) se_Name) se_Name) se_Constant) se_Subscript) se_Subscript (npl_cons se_Constant (npl_cons se_Name (npl_cons se_Name (npl_cons se_Name npl_nil))))))))
      (s_cons (s_set (i := 6) sc__law_none_built.nd rfl (Or.inr rfl) (d_call G__law_draws hr rfl m__law_draws k__law_draws b__law_draws pass0 (a_cons (d_ix (dvq 0) (PD.q dc_int) (fun _ _ => rfl)) (a_cons dc_int (a_cons (d_op z_add (PD.q (d_op z_mul (PD.q (PF.d (f_lst (a_cons (d_callB (c_max2 rfl) rfl z_max PyProof.Rows.boot_max (aq_cons (PD.q dc_int) (aq_cons (PD.q (d_callB c_len rfl z_len PySem.boot_len (aq_cons (dvq 5) aq_nil se_Name) se_Name npl_nil)) aq_nil se_Call) se_Constant) se_Constant (npl_cons se_Call npl_nil)) (a_cons dc_int a_nil se_Constant) se_Call)))) (PD.q dc_int))) (PD.q (PF.d (f_lst (a_cons dc_int (a_cons dc_int (a_cons dc_int a_nil se_Constant) se_Constant) se_Constant))))) a_nil se_BinOp) se_Constant) se_Subscript) se_Subscript (npl_cons se_Constant (npl_cons se_BinOp npl_nil))))
      (s_cons (s_set (i := 7) sc__law_none_built.nd rfl (Or.inl rfl) (PF.d (f_lst a_nil)))
      (s_cut (s_if (t_tru (dvq 5) (fun _ => rfl)) (s_one (s_compN (i := 7) (k := 1) (N' := ["_law_k", "_law_numbers"]) (cap := [none, some 6]) rfl sc__law_none_built.nd rfl (Or.inl rfl) (.ok (show compOk ["_law_cells", "_law_n", "_law_many", "_law_big", "_law_leasts", "_law_rows_here", "_law_numbers", "_law_shares", "_law_total_here", "_law_at"] (defScope s__law_none_built) _ ["_law_k", "_law_numbers"] [none, some 6] = true by decide +kernel)) (by decide +kernel) (gm_set (by decide)) (i_range1 rfl z_range (a_cons (d_ix (dvq 6) (PD.q dc_int) (fun _ _ => rfl)) a_nil se_Subscript)) (fun _ _ _ _ _ => (g_name (i := 0) (show List.Nodup (["_law_k", "_law_numbers"] : List Str) by decide +kernel) rfl (Or.inl rfl))) (fun _ _ _ _ _ => (d_tup (a_cons (d_ix (dvq 1) (PD.q (d_op z_mul (PD.q dc_int) (dvq 0))) (fun _ _ => rfl)) (a_cons (d_ix (dvq 1) (PD.q (d_op z_add (PD.q (d_op z_mul (PD.q dc_int) (dvq 0))) (PD.q dc_int))) (fun _ _ => rfl)) a_nil se_Subscript) se_Subscript))))) s_nil)
      (s_cons (s_thaw (i := 5) (j := 8) sc__law_none_built.nd rfl (Or.inl rfl) (d_call G__law_total hr rfl m__law_total k__law_total b__law_total pass0 (a_cons (dv 5) (a_cons (dv 7) (a_cons (dv 1) a_nil se_Name) se_Name) se_Name) se_Name (npl_cons se_Name (npl_cons se_Name npl_nil))))
      (s_cons (s_append 5 (d_tup (a_cons (d_callTy c_tuple rfl z_tuple PyProof.Rows.boot_tuple (aq_cons (PD.q (PF.d (f_compN (k := 1) (N' := ["_law_one"]) (cap := [none]) rfl (.ok (show compOk ["_law_cells", "_law_n", "_law_many", "_law_big", "_law_leasts", "_law_rows_here", "_law_numbers", "_law_shares", "_law_total_here", "_law_at"] (defScope s__law_none_built) _ ["_law_one"] [none] = true by decide +kernel)) (by decide +kernel) (gm_set (by decide)) (i_seq (d_sl (dvq 8) o_none (o_some (dvq 1)))) (fun _ _ _ _ _ => (g_name (i := 0) (show List.Nodup (["_law_one"] : List Str) by decide +kernel) rfl (Or.inl rfl))) (fun _ _ _ _ _ => (d_neg (dvq 0)))))) aq_nil se_ListComp) se_ListComp npl_nil) (a_cons (d_op z_sub (PD.q (d_ix (dvq 6) (PD.q dc_int) (fun _ _ => rfl))) (PD.q (d_ix (dvq 8) (dvq 1) (fun _ _ => rfl)))) a_nil se_BinOp) se_Call)) (few_of se_Tuple) se_Tuple)
      (s_cons (s_set (i := 9) sc__law_none_built.nd rfl (Or.inl rfl) (d_op z_mod (PD.q (d_ix (dvq 6) (PD.q dc_int) (fun _ _ => rfl))) (PD.q (d_op z_add (PD.q (d_callB c_len rfl z_len PySem.boot_len (aq_cons (dvq 7) aq_nil se_Name) se_Name npl_nil)) (PD.q dc_int)))))
      (s_cons (s_set (i := 7) sc__law_none_built.nd rfl (Or.inl rfl) (d_op z_add (PD.q (d_op z_add (PD.q (d_sl (dvq 7) o_none (o_some (dvq 9)))) (PD.q (PF.d (f_lst (a_cons (d_tup (a_cons (d_op z_sub (PD.q (d_callB c_len rfl z_len PySem.boot_len (aq_cons (dvq 5) aq_nil se_Name) se_Name npl_nil)) (PD.q dc_int)) (a_cons dc_int a_nil se_Constant) se_BinOp)) a_nil se_Tuple)))))) (PD.q (d_sl (dvq 7) (o_some (dvq 9)) o_none))))
      (s_frz 5 (s_one (s_ret (d_tup (a_cons (dv 5) (a_cons (d_op z_mul (PD.q (d_tup (a_cons dc_int a_nil se_Constant))) (dvq 1)) (a_cons (d_tup (a_cons (d_tup (a_cons (d_callTy c_tuple rfl z_tuple PyProof.Rows.boot_tuple (aq_cons (PD.q (d_op z_mul (PD.q (PF.d (f_lst (a_cons dc_int a_nil se_Constant)))) (dvq 1))) aq_nil se_BinOp) se_BinOp npl_nil) (a_cons dc_int a_nil se_Constant) se_Call)) (a_cons (d_op z_mul (PD.q (d_tup (a_cons dc_int a_nil se_Constant))) (dvq 1)) (a_cons (dv 7) (a_cons dc_int a_nil se_Constant) se_Name) se_BinOp) se_Tuple)) a_nil se_Tuple) se_BinOp) se_Name)))))))))))))), ?_⟩
  refine ⟨_, rfl, mulOk_l (by decide) (by decide), ⟨by omega, by omega, ?_⟩, (List.replicate n (2 * big + 1)).map D.int, ?_, c0, 12, List.replicate n (2 * big + 1), rfl, by rw [List.length_replicate]; omega, by decide, by decide, rep_b (by omega) (by omega), fun les hL => ?_⟩
  · rw [show [D.int (2 * big + 1)].length = 1 from rfl]; exact small (by omega)
  · rw [rep_one, Int.toNat_natCast]
  have hll : les.length = n := by rw [hL.len, List.length_replicate]
  have hlb := drawn_le hL (b := 2 * big + 1) fun z hz => by rw [(List.mem_replicate.mp hz).2]; exact Int.le_refl _
  refine ⟨⟨by omega, by omega⟩, by rw [rangeD_len]; exact small1000 (by omega), fun i y => ∃ r : Row, RowN n 40 r ∧ y = rowD r, fun i d hd => ?_, fun ys hyl hy => ?_⟩
  · obtain ⟨hi, rfl⟩ := rangeD_at hd
    refine ⟨n, 0 + (i : Int), rfl, by omega, fun us hul hub => ?_⟩
    have hi' : i < les.length := by omega
    refine ⟨_, at_map (get_of hi') (by omega), (us, les[i] - big), ⟨hul, fun x hx => Nat.le_trans (hub x hx) (by decide), ?_⟩, rfl⟩
    have := hlb _ (List.getElem_mem hi')
    show (les[i] - big).natAbs ≤ _
    rw [e40]
    omega
  obtain ⟨r0, rfl, hr0⟩ := ex_map hy
  rw [List.length_map, rangeD_len] at hyl
  refine ⟨_, rfl, c1, 13, big, n, many, rfl, by decide, by decide, by omega, by omega, hb0, by omega, fun r1 hl1 hr1 => ?_⟩
  refine ⟨by rw [List.length_map, List.length_map]; exact small (by omega), _, catM _ _ _, ?_⟩
  have hrs : ∀ r ∈ r0 ++ r1, RowN n 40 r := fun r h => (List.mem_append.mp h).elim (hr0 r) (hr1 r)
  have hrl : (r0 ++ r1).length = n + many := by rw [List.length_append]; omega
  generalize r0 ++ r1 = rs at hrs hrl ⊢
  have hM0 : 1 ≤ (if (((rs.map rowD).length : Nat) : Int) > 1 then (((rs.map rowD).length : Nat) : Int) else 1) := by split <;> omega
  have hM1 : rs ≠ [] → (if (((rs.map rowD).length : Nat) : Int) > 1 then (((rs.map rowD).length : Nat) : Int) else 1) = (rs.length : Int) := fun h => by
    have := List.length_pos_iff.mpr h
    rw [List.length_map]
    split <;> omega
  have hM2 : (if (((rs.map rowD).length : Nat) : Int) > 1 then (((rs.map rowD).length : Nat) : Int) else 1) ≤ 10 := by
    rw [List.length_map]
    split <;> omega
  refine ⟨_, rfl, ⟨by decide, by decide, small (by show 2 * 3 ≤ 1000; decide)⟩, _, rep_map 3 [if (((rs.map rowD).length : Nat) : Int) > 1 then (((rs.map rowD).length : Nat) : Int) else 1, 5], small (by simp), _, catM D.int _ [4, 4, 4], c2, 14, _, rfl, by simp, by decide, by decide, fun z hz => ?_, fun es hD => ?_⟩
  · have h9 : (1000 : Int) < 2 ^ 9000 := by decide +kernel
    simp at hz
    omega
  generalize (if (((rs.map rowD).length : Nat) : Int) > 1 then (((rs.map rowD).length : Nat) : Int) else 1) = M at hM0 hM1 hM2 hD
  have hD' : Drawn es [M, 5, M, 5, M, 5, 4, 4, 4] := hD
  obtain ⟨x0, t, rfl, d0, hD⟩ := drawn_cons hD'
  obtain ⟨x1, t, rfl, d1, hD⟩ := drawn_cons hD
  obtain ⟨x2, t, rfl, d2, hD⟩ := drawn_cons hD
  obtain ⟨x3, t, rfl, d3, hD⟩ := drawn_cons hD
  obtain ⟨x4, t, rfl, d4, hD⟩ := drawn_cons hD
  obtain ⟨x5, t, rfl, d5, hD⟩ := drawn_cons hD
  obtain ⟨x6, t, rfl, d6, hD⟩ := drawn_cons hD
  obtain ⟨x7, t, rfl, d7, hD⟩ := drawn_cons hD
  obtain ⟨x8, t, rfl, d8, hD⟩ := drawn_cons hD
  cases drawn_nil hD
  refine ⟨fun ρ => ∃ (shs : List (Int × Int)), (shs.length ≤ 3 ∧ ∀ s ∈ shs, okS rs s ∧ s.2.natAbs ≤ 4) ∧ ρ = [some (.v (.lst ([c0, c1, c2].map D.int))), some (.v (.int n)), some (.v (.int many)), some (.v (.int big)), some (.v (.lst (les.map D.int))), some (.own (rs.map rowD)), some (.v (.lst ([x0, x1, x2, x3, x4, x5, x6, x7, x8].map D.int))), some (.v (.lst (shs.map prD))), none, none], ⟨fun hne => ?_, fun he => ⟨[], ⟨by simp, fun s hs => absurd hs List.not_mem_nil⟩, rfl⟩⟩, ?_⟩
  · have hne' : rs ≠ [] := fun e => by subst e; cases hne
    have hM := hM1 hne'
    refine ⟨_, rfl, ⟨by omega, by omega⟩, by rw [rangeD_len]; exact small1000 (by omega), fun i y => ∃ s : Int × Int, (okS rs s ∧ s.2.natAbs ≤ 4) ∧ y = prD s, fun i d hd => ?_, fun ys hyl hy => ?_⟩
    · obtain ⟨hi, rfl⟩ := rangeD_at hd
      have hi3 : i = 0 ∨ i = 1 ∨ i = 2 := by omega
      rcases hi3 with rfl | rfl | rfl
      · exact ⟨mulOk_l (by decide) (by decide), _, rfl, mulOk_l (by decide) (by decide), _, rfl, (x0, x1), ⟨⟨⟨by show 0 ≤ x0; omega, by show x0 < _; omega⟩, by show 0 ≤ x1; omega⟩, by show x1.natAbs ≤ 4; omega⟩, rfl⟩
      · exact ⟨mulOk_l (by decide) (by decide), _, rfl, mulOk_l (by decide) (by decide), _, rfl, (x2, x3), ⟨⟨⟨by show 0 ≤ x2; omega, by show x2 < _; omega⟩, by show 0 ≤ x3; omega⟩, by show x3.natAbs ≤ 4; omega⟩, rfl⟩
      · exact ⟨mulOk_l (by decide) (by decide), _, rfl, mulOk_l (by decide) (by decide), _, rfl, (x4, x5), ⟨⟨⟨by show 0 ≤ x4; omega, by show x4 < _; omega⟩, by show 0 ≤ x5; omega⟩, by show x5.natAbs ≤ 4; omega⟩, rfl⟩
    · obtain ⟨shs, rfl, hss⟩ := ex_map hy
      rw [List.length_map, rangeD_len] at hyl
      exact ⟨shs, ⟨by omega, hss⟩, rfl⟩
  rintro ρ ⟨shs, ⟨hsl, hss⟩, rfl⟩
  obtain ⟨a, ea⟩ := sumS_some (n := n) fun s hs => (hss s hs).1
  have hab : RowB 100 a := sum_b ea (fun r h => (hrs r h).2) (fun s hs => Nat.le_trans (hss s hs).2 (by decide)) (by omega) (by decide)
  refine ⟨rs, shs, n, rfl, by omega, ⟨fun r h => ⟨fun x hx => big_of (by decide) ((hrs r h).2.1 x hx), big_of (by decide) (hrs r h).2.2⟩, fun s hs => big_of (b := 40) (by decide) (Nat.le_trans (hss s hs).2 (by decide))⟩, fun r h => (hrs r h).1, fun e => absurd (e.symm.trans ea) (by simp), fun a' e hal => ?_⟩
  cases (e.symm.trans ea)
  refine ⟨⟨by simp, fun x hx => ?_, fun d hd i => ?_⟩, ?_⟩
  · obtain ⟨y, _, rfl⟩ := List.mem_map.mp hx
    exact ⟨y, rfl⟩
  · obtain ⟨y, _, rfl⟩ := List.mem_map.mp hd
    exact fun h => by cases h
  have hat : atI ((a.1 ++ [a.2]).map D.int) (n : Int) = some (.int a.2) := at_map (i := n) (by rw [List.getElem?_append_right (by omega), hal, Nat.sub_self]; rfl) rfl
  have hcut : cutL ((a.1 ++ [a.2]).map D.int) none (some (n : Int)) = a.1.map D.int := by rw [cutL_map, cut_head, ← hal, List.take_left]
  refine ⟨_, hcut, ?_⟩
  refine compN_int (fun x => -x) (small1000 (by omega)) (fun x hx => rfl) ?_
  refine ⟨_, rfl, _, hat, small1000 (by rw [List.length_map]; omega), _, snocM rowD _ (a.1.map fun x => -x, x7 - a.2), ?_⟩
  have hj0 : 0 ≤ x8 % (((shs.map prD).length : Int) + 1) := Int.emod_nonneg _ (by omega)
  have hj1 := Int.emod_lt_of_pos x8 (show 0 < ((shs.map prD).length : Int) + 1 by omega)
  refine ⟨_, rfl, by show 0 < _; omega, ?_⟩
  have hj2 : (x8 % (((shs.map prD).length : Int) + 1)).toNat ≤ shs.length := by rw [List.length_map] at hj1 ⊢; omega
  refine ⟨_, takeG (f := prD) hj0, small ?_, _, snocM prD _ ((((rs ++ [(a.1.map fun x => -x, x7 - a.2)]).map rowD).length : Int) - 1, 1), _, dropG (f := prD) hj0, small ?_, _, catM prD _ _, ?_⟩
  · rw [List.length_map, List.length_take]; show _ + 1 ≤ _; omega
  · simp only [List.length_map, List.length_append, List.length_take, List.length_drop, List.length_singleton]; omega
  refine ⟨⟨by simp, by omega, by omega, by simp; omega⟩, (List.replicate n (0 : Int)).map D.int, by rw [rep_one, Int.toNat_natCast], ?_⟩
  refine ⟨⟨by omega, by omega, small (by simp; omega)⟩, (List.replicate n (0 : Int)).map D.int, by rw [rep_one, Int.toNat_natCast], ?_⟩
  refine ⟨⟨by simp, by omega, by omega, by simp; omega⟩, (List.replicate n (0 : Int)).map D.int, by rw [rep_one, Int.toNat_natCast], ?_⟩
  have h0 : ∀ x ∈ List.replicate n (0 : Int), x.natAbs ≤ 2 ^ 200 := fun x hx => by rw [(List.mem_replicate.mp hx).2]; decide
  refine q (rs ++ [(a.1.map fun x => -x, x7 - a.2)]) (List.replicate n 0) (List.replicate n 0, 1) (List.replicate n 0) _ 1 ⟨?_, fun r h => ?_, List.length_replicate .., h0, ⟨h0, by show (1 : Int).natAbs ≤ _; decide⟩, ?_, h0, ?_, ?_, fun s hs => ?_, by decide⟩
  · rw [List.length_append]; show _ + 1 ≤ _; omega
  · rcases List.mem_append.mp h with h | h
    · exact (hrs r h).up (by decide)
    · cases List.mem_singleton.mp h
      refine ⟨by show (a.1.map _).length = n; rw [List.length_map]; exact hal, fun x hx => ?_, ?_⟩
      · obtain ⟨y, hy, rfl⟩ := List.mem_map.mp hx
        rw [Int.natAbs_neg]
        exact Nat.le_trans (hab.1 y hy) (by decide)
      · have h1 := hab.2
        have h2 : (2 : Nat) ^ 100 = 1267650600228229401496703205376 := by decide
        show (x7 - a.2).natAbs ≤ _
        rw [e200]
        omega
  · show (List.replicate n (0 : Int)).length ≤ 12; rw [List.length_replicate]; omega
  · rw [List.length_replicate]; omega
  · simp only [List.length_append, List.length_take, List.length_drop, List.length_singleton]; omega
  · rcases List.mem_append.mp hs with h | h
    · rcases List.mem_append.mp h with h | h
      · exact Nat.le_trans (hss s (List.mem_of_mem_take h)).2 (by decide)
      · cases List.mem_singleton.mp h
        show (1 : Int).natAbs ≤ _
        decide
    · exact Nat.le_trans (hss s (List.mem_of_mem_drop h)).2 (by decide)
def z__law_made : SpD := fun ds R => ∃ (kind : Int) (wild : Bool) (c0 c1 c2 : Int) (n many : Nat) (big : Int), ds = [.int kind, .bl wild, .lst ([c0, c1, c2].map D.int), .int (n : Int), .int (many : Int), .int big] ∧ n ≤ 3 ∧ many ≤ 4 ∧ 0 < big ∧ big ≤ 2 ^ 31 ∧ MadeR n R
theorem ok__law_made {n : Nat} {f : Addr} {fd : FuncData} (F : Fun K "_law_made" "_law_made" s__law_made f fd) {f__law_best_built : Addr} {d__law_best_built : FuncData} (G__law_best_built : FnOk P w K mg base CX0 n f__law_best_built d__law_best_built ["_law_cells", "_law_n", "_law_many", "_law_big"] (lSp K z__law_best_built)) (b__law_best_built : Binds K d__law_best_built ["_law_cells", "_law_n", "_law_many", "_law_big"] []) (k__law_best_built : PySem.W.keepIn K (.ref f__law_best_built) = true) (m__law_best_built : mg "_law_best_built" = some (.ref f__law_best_built)) {f__law_wild : Addr} {d__law_wild : FuncData} (G__law_wild : FnOk P w K mg base CX0 n f__law_wild d__law_wild ["_law_cells", "_law_n", "_law_many", "_law_big"] (lSp K z__law_wild)) (b__law_wild : Binds K d__law_wild ["_law_cells", "_law_n", "_law_many", "_law_big"] []) (k__law_wild : PySem.W.keepIn K (.ref f__law_wild) = true) (m__law_wild : mg "_law_wild" = some (.ref f__law_wild)) {f__law_none_built : Addr} {d__law_none_built : FuncData} (G__law_none_built : FnOk P w K mg base CX0 n f__law_none_built d__law_none_built ["_law_cells", "_law_n", "_law_many", "_law_big"] (lSp K z__law_none_built)) (b__law_none_built : Binds K d__law_none_built ["_law_cells", "_law_n", "_law_many", "_law_big"] []) (k__law_none_built : PySem.W.keepIn K (.ref f__law_none_built) = true) (m__law_none_built : mg "_law_none_built" = some (.ref f__law_none_built)) {f__law_endless_built : Addr} {d__law_endless_built : FuncData} (G__law_endless_built : FnOk P w K mg base CX0 n f__law_endless_built d__law_endless_built ["_law_cells", "_law_n", "_law_many", "_law_big"] (lSp K z__law_endless_built)) (b__law_endless_built : Binds K d__law_endless_built ["_law_cells", "_law_n", "_law_many", "_law_big"] []) (k__law_endless_built : PySem.W.keepIn K (.ref f__law_endless_built) = true) (m__law_endless_built : mg "_law_endless_built" = some (.ref f__law_endless_built)) : FnOk P w K mg base CX0 (n + 1) f fd ["_law_kind", "_law_wild_here", "_law_cells", "_law_n", "_law_many", "_law_big"] (lSp K z__law_made) := by
  refine F.okD sc__law_made (fun ds R h => ?_) (fun cdv A outer s H E ds R hr h => ?_)
  · obtain ⟨kind, wild, c0, c1, c2, n, many, big, rfl, _⟩ := h; rfl
  obtain ⟨kind, wild, c0, c1, c2, n, many, big, rfl, hn, hm, hb0, hb1, q⟩ := h
  refine ⟨_, (s_cut (s_if (t_tru (dvq 1) (fun _ => rfl)) (s_one (s_ret (d_call G__law_wild hr rfl m__law_wild k__law_wild b__law_wild pass0 (a_cons (dv 2) (a_cons (dv 3) (a_cons (dv 4) (a_cons (dv 5) a_nil se_Name) se_Name) se_Name) se_Name) se_Name (npl_cons se_Name (npl_cons se_Name (npl_cons se_Name npl_nil)))))) s_nil)
      (s_cut (s_if (t_cmp (z_eq hr.units) (dvq 0) (PD.q dc_int) (nomark _)) (s_one (s_ret (d_call G__law_none_built hr rfl m__law_none_built k__law_none_built b__law_none_built pass0 (a_cons (dv 2) (a_cons (dv 3) (a_cons (dv 4) (a_cons (dv 5) a_nil se_Name) se_Name) se_Name) se_Name) se_Name (npl_cons se_Name (npl_cons se_Name (npl_cons se_Name npl_nil)))))) s_nil)
      (s_cut (s_if (t_cmp (z_eq hr.units) (dvq 0) (PD.q dc_int) (nomark _)) (s_one (s_ret (d_call G__law_endless_built hr rfl m__law_endless_built k__law_endless_built b__law_endless_built pass0 (a_cons (dv 2) (a_cons (dv 3) (a_cons (dv 4) (a_cons (dv 5) a_nil se_Name) se_Name) se_Name) se_Name) se_Name (npl_cons se_Name (npl_cons se_Name (npl_cons se_Name npl_nil)))))) s_nil)
      (s_one (s_ret (d_call G__law_best_built hr rfl m__law_best_built k__law_best_built b__law_best_built pass0 (a_cons (dv 2) (a_cons (dv 3) (a_cons (dv 4) (a_cons (dv 5) a_nil se_Name) se_Name) se_Name) se_Name) se_Name (npl_cons se_Name (npl_cons se_Name (npl_cons se_Name npl_nil))))))))), ?_⟩
  refine ⟨fun ρ => ρ = [some (.v (.int kind)), some (.v (.bl wild)), some (.v (.lst ([c0, c1, c2].map D.int))), some (.v (.int n)), some (.v (.int many)), some (.v (.int big))], ⟨fun h => ⟨c0, c1, c2, n, many, big, rfl, hn, hm, hb0, hb1, q⟩, fun h => rfl⟩, ?_⟩
  rintro ρ rfl
  refine ⟨fun ρ => ρ = [some (.v (.int kind)), some (.v (.bl wild)), some (.v (.lst ([c0, c1, c2].map D.int))), some (.v (.int n)), some (.v (.int many)), some (.v (.int big))], ⟨fun h => ⟨c0, c1, c2, n, many, big, rfl, hn, hm, hb0, hb1, q⟩, fun h => rfl⟩, ?_⟩
  rintro ρ rfl
  refine ⟨fun ρ => ρ = [some (.v (.int kind)), some (.v (.bl wild)), some (.v (.lst ([c0, c1, c2].map D.int))), some (.v (.int n)), some (.v (.int many)), some (.v (.int big))], ⟨fun h => ⟨c0, c1, c2, n, many, big, rfl, hn, hm, hb0, hb1, q⟩, fun h => rfl⟩, ?_⟩
  rintro ρ rfl
  exact ⟨c0, c1, c2, n, many, big, rfl, hn, hm, hb0, hb1, q⟩
abbrev sp_law := spLaw
abbrev z_law := z_lawS
theorem big_at {x : Int} (h : 0 ≤ x ∧ x < 4) : ∃ b : Int, atI [D.int 3, D.int 3, D.int 9, D.int (10 ^ (9 : Int).toNat)] x = some (D.int b) ∧ 0 < b ∧ b ≤ 2 ^ 31 := by
  have : x = 0 ∨ x = 1 ∨ x = 2 ∨ x = 3 := by omega
  rcases this with rfl | rfl | rfl | rfl
  · exact ⟨3, rfl, by decide, by decide⟩
  · exact ⟨3, rfl, by decide, by decide⟩
  · exact ⟨9, rfl, by decide, by decide⟩
  · exact ⟨10 ^ 9, rfl, by decide, by decide⟩
theorem step_at {x : Int} (h : 0 ≤ x ∧ x < 4) : ∃ b : Int, atI [D.int 1, D.int (-1), D.int 2, D.int (-3)] x = some (D.int b) ∧ b.natAbs ≤ 3 := by
  have : x = 0 ∨ x = 1 ∨ x = 2 ∨ x = 3 := by omega
  rcases this with rfl | rfl | rfl | rfl
  · exact ⟨1, rfl, by decide⟩
  · exact ⟨-1, rfl, by decide⟩
  · exact ⟨2, rfl, by decide⟩
  · exact ⟨-3, rfl, by decide⟩
theorem en_ok {rs : List Row} {goal : List Int} {kind : Int} {p : Row} {ray : List Int} {shs : List (Int × Int)} {d : Int} (hp : BigRow p) (hy : ∀ x ∈ ray, BigI x) (hs : ∀ s ∈ shs, BigI s.2) (hsb : ∀ a, sumS rs shs goal.length = some a → BigI a.2) (hd : d.natAbs < 2 ^ 60) : EnOk rs goal (enOf kind p ray shs d) := by
  unfold enOf
  split
  · exact hs
  split
  · exact ⟨hp, hy⟩
  · exact ⟨hp, hs, hsb, hd⟩
theorem ok_law {n : Nat} {f : Addr} {fd : FuncData} (F : Fun K "law" "law" s_law f fd) {f__law_draws : Addr} {d__law_draws : FuncData} (G__law_draws : FnOk P w K mg base CX0 n f__law_draws d__law_draws ["_law_cell_here", "_law_salt", "_law_sizes"] (lSp K z__law_draws)) (b__law_draws : Binds K d__law_draws ["_law_cell_here", "_law_salt", "_law_sizes"] []) (k__law_draws : PySem.W.keepIn K (.ref f__law_draws) = true) (m__law_draws : mg "_law_draws" = some (.ref f__law_draws)) {f__law_made : Addr} {d__law_made : FuncData} (G__law_made : FnOk P w K mg base CX0 n f__law_made d__law_made ["_law_kind", "_law_wild_here", "_law_cells", "_law_n", "_law_many", "_law_big"] (lSp K z__law_made)) (b__law_made : Binds K d__law_made ["_law_kind", "_law_wild_here", "_law_cells", "_law_n", "_law_many", "_law_big"] []) (k__law_made : PySem.W.keepIn K (.ref f__law_made) = true) (m__law_made : mg "_law_made" = some (.ref f__law_made)) {f__law_bent : Addr} {d__law_bent : FuncData} (G__law_bent : FnOk P w K mg base CX0 n f__law_bent d__law_bent ["_law_parts", "_law_spoil", "_law_way", "_law_at", "_law_step"] (lSp K z__law_bent)) (b__law_bent : Binds K d__law_bent ["_law_parts", "_law_spoil", "_law_way", "_law_at", "_law_step"] []) (k__law_bent : PySem.W.keepIn K (.ref f__law_bent) = true) (m__law_bent : mg "_law_bent" = some (.ref f__law_bent)) {f__law_bent_rows : Addr} {d__law_bent_rows : FuncData} (G__law_bent_rows : FnOk P w K mg base CX0 n f__law_bent_rows d__law_bent_rows ["_law_rows_here", "_law_goal", "_law_spoil", "_law_at", "_law_step"] (lSp K z__law_bent_rows)) (b__law_bent_rows : Binds K d__law_bent_rows ["_law_rows_here", "_law_goal", "_law_spoil", "_law_at", "_law_step"] []) (k__law_bent_rows : PySem.W.keepIn K (.ref f__law_bent_rows) = true) (m__law_bent_rows : mg "_law_bent_rows" = some (.ref f__law_bent_rows)) {f_shares_hold : Addr} {d_shares_hold : FuncData} (G_shares_hold : FnOk P w K mg base CX0 n f_shares_hold d_shares_hold ["rows", "goal", "told"] (lSp K z_shares_hold)) (b_shares_hold : Binds K d_shares_hold ["rows", "goal", "told"] []) (k_shares_hold : PySem.W.keepIn K (.ref f_shares_hold) = true) (m_shares_hold : mg "shares_hold" = some (.ref f_shares_hold)) {f__law_cell : Addr} {d__law_cell : FuncData} (G__law_cell : FnOk P w K mg base CX0 n f__law_cell d__law_cell ["_law_script", "_law_k"] (lSp K z__law_cell)) (b__law_cell : Binds K d__law_cell ["_law_script", "_law_k"] []) (k__law_cell : PySem.W.keepIn K (.ref f__law_cell) = true) (m__law_cell : mg "_law_cell" = some (.ref f__law_cell)) {f__law_told : Addr} {d__law_told : FuncData} (G__law_told : FnOk P w K mg base CX0 n f__law_told d__law_told ["_law_kind", "_law_parts"] (lSp K z__law_told)) (b__law_told : Binds K d__law_told ["_law_kind", "_law_parts"] []) (k__law_told : PySem.W.keepIn K (.ref f__law_told) = true) (m__law_told : mg "_law_told" = some (.ref f__law_told)) {f__law_due : Addr} {d__law_due : FuncData} (G__law_due : FnOk P w K mg base CX0 n f__law_due d__law_due ["_law_kind", "_law_rows_here", "_law_goal", "_law_parts", "_law_n"] (lSp K z__law_due)) (b__law_due : Binds K d__law_due ["_law_kind", "_law_rows_here", "_law_goal", "_law_parts", "_law_n"] []) (k__law_due : PySem.W.keepIn K (.ref f__law_due) = true) (m__law_due : mg "_law_due" = some (.ref f__law_due)) (z_tuple : mg "tuple" = none) (z_isinstance : mg "isinstance" = none) (z_bool : mg "bool" = none) (z_range : mg "range" = none) : FnOk P w K mg base CX0 (n + 1) f fd ["_law_script"] (lSp K z_law) := by
  refine F.okD sc_law (fun ds R h => ?_) (fun cdv A outer s H E ds R hr h => ?_)
  · obtain ⟨ns, rfl, _⟩ := h; rfl
  obtain ⟨ns, rfl, hz, q⟩ := h
  refine ⟨_, (s_cons (s_set (i := 1) sc_law.nd rfl (Or.inl rfl) (d_call G__law_draws hr rfl m__law_draws k__law_draws b__law_draws pass0 (a_cons (d_call G__law_cell hr rfl m__law_cell k__law_cell b__law_cell pass0 (a_cons (dv 0) (a_cons dc_int a_nil se_Constant) se_Name) se_Name (npl_cons se_Constant npl_nil)) (a_cons dc_int (a_cons (PF.d (f_lst (a_cons dc_int (a_cons dc_int (a_cons dc_int (a_cons dc_int (a_cons dc_int (a_cons dc_int (a_cons dc_int (a_cons dc_int (a_cons dc_int a_nil se_Constant) se_Constant) se_Constant) se_Constant) se_Constant) se_Constant) se_Constant) se_Constant) se_Constant))) a_nil se_List) se_Constant) se_Call) se_Call (npl_cons se_Constant (npl_cons se_List npl_nil))))
      (s_cons (s_set (i := 2) sc_law.nd rfl (Or.inl rfl) (d_ix (dvq 1) (PD.q dc_int) (fun _ _ => rfl)))
      (s_cons (s_set (i := 3) sc_law.nd rfl (Or.inl rfl) (d_ix (dvq 1) (PD.q dc_int) (fun _ _ => rfl)))
      (s_cons (s_compN (i := 4) (k := 1) (N' := ["_law_k", "_law_script"]) (cap := [none, some 0]) rfl sc_law.nd rfl (Or.inl rfl) (.ok (show compOk ["_law_script", "_law_shape", "_law_kind", "_law_n", "_law_cells", "_law_rows_here", "_law_goal", "_law_parts", "_law_step", "_law_told_here"] (defScope s_law) _ ["_law_k", "_law_script"] [none, some 0] = true by decide +kernel)) (by decide +kernel) (gm_set (by decide)) (i_range2 rfl z_range (a_cons dc_int (a_cons dc_int a_nil se_Constant) se_Constant)) (fun _ _ _ _ _ => (g_name (i := 0) (show List.Nodup (["_law_k", "_law_script"] : List Str) by decide +kernel) rfl (Or.inl rfl))) (fun _ _ _ _ _ => (d_call G__law_cell hr rfl m__law_cell k__law_cell b__law_cell pass0 (a_cons (dv 1) (a_cons (dv 0) a_nil se_Name) se_Name) se_Name (npl_cons se_Name npl_nil))))
      (s_cons (s_asg (d_call G__law_made hr rfl m__law_made k__law_made b__law_made pass0 (a_cons (dv 2) (a_cons (d_cmp (z_eq hr.units) (PD.q (d_ix (dvq 1) (PD.q dc_int) (fun _ _ => rfl))) (PD.q dc_int) (nomark _)) (a_cons (dv 4) (a_cons (dv 3) (a_cons (d_ix (dvq 1) (PD.q dc_int) (fun _ _ => rfl)) (a_cons (d_ix (PD.q (PF.d (f_lst (a_cons dc_int (a_cons dc_int (a_cons dc_int (a_cons (d_op z_pow (PD.q dc_int) (PD.q dc_int)) a_nil se_BinOp) se_Constant) se_Constant) se_Constant)))) (PD.q (d_ix (dvq 1) (PD.q dc_int) (fun _ _ => rfl))) (fun _ _ => rfl)) a_nil se_Subscript) se_Subscript) se_Name) se_Name) se_Compare) se_Name) se_Name (npl_cons se_Compare (npl_cons se_Name (npl_cons se_Name (npl_cons se_Subscript (npl_cons se_Subscript npl_nil)))))) (g_seq (n := 3) rfl (gs_cons (g_name (i := 5) sc_law.nd rfl (Or.inl rfl)) (gs_cons (g_name (i := 6) sc_law.nd rfl (Or.inl rfl)) (gs_cons (g_name (i := 7) sc_law.nd rfl (Or.inl rfl)) gs_nil)))))
      (s_cons (s_set (i := 8) sc_law.nd rfl (Or.inl rfl) (d_ix (PD.q (PF.d (f_lst (a_cons dc_int (a_cons (d_neg (PD.q dc_int)) (a_cons dc_int (a_cons (d_neg (PD.q dc_int)) a_nil se_UnaryOp) se_Constant) se_UnaryOp) se_Constant)))) (PD.q (d_ix (dvq 1) (PD.q dc_int) (fun _ _ => rfl))) (fun _ _ => rfl)))
      (s_cons (s_set (i := 7) sc_law.nd rfl (Or.inl rfl) (d_call G__law_bent hr rfl m__law_bent k__law_bent b__law_bent pass0 (a_cons (dv 7) (a_cons (d_ix (dvq 1) (PD.q dc_int) (fun _ _ => rfl)) (a_cons (d_ix (dvq 1) (PD.q dc_int) (fun _ _ => rfl)) (a_cons (d_ix (dvq 1) (PD.q dc_int) (fun _ _ => rfl)) (a_cons (dv 8) a_nil se_Name) se_Subscript) se_Subscript) se_Subscript) se_Name) se_Name (npl_cons se_Subscript (npl_cons se_Subscript (npl_cons se_Subscript (npl_cons se_Name npl_nil))))))
      (s_cons (s_asg (d_call G__law_bent_rows hr rfl m__law_bent_rows k__law_bent_rows b__law_bent_rows pass0 (a_cons (dv 5) (a_cons (dv 6) (a_cons (d_ix (dvq 1) (PD.q dc_int) (fun _ _ => rfl)) (a_cons (d_ix (dvq 1) (PD.q dc_int) (fun _ _ => rfl)) (a_cons (dv 8) a_nil se_Name) se_Subscript) se_Subscript) se_Name) se_Name) se_Name (npl_cons se_Name (npl_cons se_Subscript (npl_cons se_Subscript (npl_cons se_Name npl_nil))))) (g_seq (n := 2) rfl (gs_cons (g_name (i := 5) sc_law.nd rfl (Or.inl rfl)) (gs_cons (g_name (i := 6) sc_law.nd rfl (Or.inl rfl)) gs_nil))))
      (s_cons (s_set (i := 9) sc_law.nd rfl (Or.inl rfl) (d_call G_shares_hold hr rfl m_shares_hold k_shares_hold b_shares_hold pass0 (a_cons (d_callTy c_tuple rfl z_tuple PyProof.Rows.boot_tuple (aq_cons (dvq 5) aq_nil se_Name) se_Name npl_nil) (a_cons (dv 6) (a_cons (d_call G__law_told hr rfl m__law_told k__law_told b__law_told pass0 (a_cons (dv 2) (a_cons (dv 7) a_nil se_Name) se_Name) se_Name (npl_cons se_Name npl_nil)) a_nil se_Call) se_Name) se_Call) se_Call (npl_cons se_Name (npl_cons se_Call npl_nil))))
      (s_one (s_ret (d_and (d_isi rfl z_isinstance (dvq 9) (pe_bltn (v := .ty "bool") rfl z_bool PyProof.Rows.boot_bool rfl) se_Name se_Name) (d_one (d_cmp (z_eq hr.units) (dvq 9) (PD.q (d_call G__law_due hr rfl m__law_due k__law_due b__law_due pass0 (a_cons (dv 2) (a_cons (dv 5) (a_cons (dv 6) (a_cons (dv 7) (a_cons (dv 3) a_nil se_Name) se_Name) se_Name) se_Name) se_Name) se_Name (npl_cons se_Name (npl_cons se_Name (npl_cons se_Name (npl_cons se_Name npl_nil)))))) (nomark _))))))))))))))), ?_⟩
  refine ⟨ns, 0, rfl, hz, by decide, fun c0 => ⟨c0, 1, [3, 4, 5, 4, 4, 8, 4, 8, 4], rfl, by decide, by decide, by decide, by decide +kernel, fun es hD => ?_⟩⟩
  obtain ⟨x0, t, rfl, d0, hD⟩ := drawn_cons hD
  obtain ⟨x1, t, rfl, d1, hD⟩ := drawn_cons hD
  obtain ⟨x2, t, rfl, d2, hD⟩ := drawn_cons hD
  obtain ⟨x3, t, rfl, d3, hD⟩ := drawn_cons hD
  obtain ⟨x4, t, rfl, d4, hD⟩ := drawn_cons hD
  obtain ⟨x5, t, rfl, d5, hD⟩ := drawn_cons hD
  obtain ⟨x6, t, rfl, d6, hD⟩ := drawn_cons hD
  obtain ⟨x7, t, rfl, d7, hD⟩ := drawn_cons hD
  obtain ⟨x8, t, rfl, d8, hD⟩ := drawn_cons hD
  cases drawn_nil hD
  obtain ⟨n, rfl⟩ : ∃ n : Nat, x1 = n := ⟨x1.toNat, by omega⟩
  obtain ⟨many, rfl⟩ : ∃ n : Nat, x2 = n := ⟨x2.toNat, by omega⟩
  refine ⟨_, rfl, _, rfl, ⟨by decide, by decide, by decide, by decide⟩, by rw [rangeD_len]; exact small1000 (by decide), fun i y => ∃ c : Int, True ∧ y = .int c, fun i d hd => ?_, fun ys hyl hy => ?_⟩
  · obtain ⟨hi, rfl⟩ := rangeD_at hd
    exact ⟨ns, 1 + (i : Int), rfl, hz, by omega, fun c => ⟨c, trivial, rfl⟩⟩
  obtain ⟨cs, rfl, -⟩ := ex_map hy
  rw [List.length_map, rangeD_len] at hyl
  obtain ⟨c1, c2, c3, rfl⟩ : ∃ c1 c2 c3, cs = [c1, c2, c3] := by
    match cs, hyl with
    | [c1, c2, c3], _ => exact ⟨c1, c2, c3, rfl⟩
  obtain ⟨big, ebig, hb0, hb1⟩ := big_at d3
  obtain ⟨step, estep, hst⟩ := step_at d8
  refine ⟨_, rfl, _, rfl, ⟨by decide, by decide⟩, _, rfl, .int big, ebig, x0, (x4 == 0), c1, c2, c3, n, many, big, rfl, by omega, by omega, hb0, hb1, fun rs goal p ray shs d hM => ⟨rfl, ?_⟩⟩
  refine ⟨_, rfl, .int step, estep, _, rfl, _, rfl, _, rfl, p, ray, shs, d, x5, x6, x7, step, rfl, hM.pb, hM.pl, hM.yb, hM.yl, hM.sl, hM.sb, hM.db, hst, by omega, by omega, fun p' ray' shs' d' b1 b2 b3 b4 b5 b6 b7 => ?_⟩
  refine ⟨_, rfl, _, rfl, rs, goal, x5, x7, step, n, rfl, hM.rl, hM.gl, by omega, hM.rr, hM.gb, hst, fun rs' goal' g1 g2 g3 g4 => ⟨rfl, ?_⟩⟩
  have ok : EndOk rs' goal' := ⟨fun r h => ⟨fun x hx => big_of (by decide) ((g3 r h).2.1 x hx), big_of (by decide) (g3 r h).2.2⟩, fun r h => by rw [(g3 r h).1, g2], by omega, by omega, fun x hx => big_of (by decide) (g4 x hx)⟩
  have hp : BigRow p' := ⟨fun x hx => big_of (by decide) (b1.1 x hx), big_of (by decide) b1.2⟩
  have hy' : ∀ x ∈ ray', BigI x := fun x hx => big_of (by decide) (b3 x hx)
  have hs : ∀ s ∈ shs', BigI s.2 := fun s hs => big_of (by decide) (b6 s hs)
  have hd : d'.natAbs < 2 ^ 60 := by
    have h1 : (2 : Nat) ^ 41 = 2199023255552 := by decide
    have h2 : (2 : Nat) ^ 60 = 1152921504606846976 := by decide
    omega
  have hsb : ∀ a, sumS rs' shs' goal'.length = some a → BigI a.2 := fun a ea => by
    have := sumS_le (E := 2 ^ 201) (W := 2 ^ 41) ea (fun r h => (g3 r h).2) b6
    refine big_of (b := 300) (by decide) (Nat.le_trans this.2 ?_)
    exact Nat.le_trans (Nat.mul_le_mul_right _ b5) (by decide)
  refine ⟨x0, p', ray', shs', d', rfl, rs', goal', enOf x0 p' ray' shs' d', rfl, ok, en_ok hp hy' hs hsb hd, true, isi_bb _, fun _ => ⟨x0, rs', goal', p', ray', shs', d', by rw [g2], ok, hp, hy', hs, hsb, hd, ?_⟩, fun h => tf h⟩
  have e : (endB rs' goal' (enOf x0 p' ray' shs' d') == endB rs' goal' (enOf x0 p' ray' shs' d')) = true := by simp
  rw [← e] at q
  exact q
end
theorem us_1 {A : Type} : ∀ us : List A, us.length = 1 → ∃ a0, us = [a0]
  | [a0], _ => ⟨a0, rfl⟩
theorem us_2 {A : Type} : ∀ us : List A, us.length = 2 → ∃ a0 a1, us = [a0, a1]
  | [a0, a1], _ => ⟨a0, a1, rfl⟩
theorem us_3 {A : Type} : ∀ us : List A, us.length = 3 → ∃ a0 a1 a2, us = [a0, a1, a2]
  | [a0, a1, a2], _ => ⟨a0, a1, a2, rfl⟩
theorem us_4 {A : Type} : ∀ us : List A, us.length = 4 → ∃ a0 a1 a2 a3, us = [a0, a1, a2, a3]
  | [a0, a1, a2, a3], _ => ⟨a0, a1, a2, a3, rfl⟩
theorem us_5 {A : Type} : ∀ us : List A, us.length = 5 → ∃ a0 a1 a2 a3 a4, us = [a0, a1, a2, a3, a4]
  | [a0, a1, a2, a3, a4], _ => ⟨a0, a1, a2, a3, a4, rfl⟩
theorem us_6 {A : Type} : ∀ us : List A, us.length = 6 → ∃ a0 a1 a2 a3 a4 a5, us = [a0, a1, a2, a3, a4, a5]
  | [a0, a1, a2, a3, a4, a5], _ => ⟨a0, a1, a2, a3, a4, a5, rfl⟩
theorem all_mk {l : PySem.W.OpenLaw} {w : World} {K : PySem.W.Frag} {h : Heap} {mg : Str → Option Value} {fa f1 f2 f3 f4 f5 f6 f7 f8 f9 f10 f11 f12 f13 f14 f15 f16 f17 f18 f19 f20 f21 f22 f23 f24 f25 f26 f27 f28 f29 f30 f31 f32 f33 : Addr} (X : K.In h) (G : h.Ns mainGlobals mg) (hfa : mg "law" = some (.ref fa))
    {od1 an1 od2 an2 od3 an3 od4 an4 od5 an5 od6 an6 od7 an7 od8 an8 od9 an9 od10 an10 od11 an11 od12 an12 od13 an13 od14 an14 od15 an15 od16 an16 od17 an17 od18 an18 od19 an19 od20 an20 od21 an21 od22 an22 od23 an23 od24 an24 od25 an25 od26 an26 od27 an27 od28 an28 od29 an29 od30 an30 od31 an31 od32 an32 od33 an33 : Option Addr} {sl1 sl2 sl3 sl4 sl5 sl6 sl7 sl8 sl9 sl10 sl11 sl12 sl13 sl14 sl15 sl16 sl17 sl18 sl19 sl20 sl21 sl22 sl23 sl24 sl25 sl26 sl27 sl28 sl29 sl30 sl31 sl32 sl33 : Array (Option Value)} {oc1 kV1 dc1 pm1 cd1 ct1 oc2 kV2 dc2 pm2 cd2 ct2 oc3 kV3 dc3 pm3 cd3 ct3 oc4 kV4 dc4 pm4 cd4 ct4 oc5 kV5 dc5 pm5 cd5 ct5 oc6 kV6 dc6 pm6 cd6 ct6 oc7 kV7 dc7 pm7 cd7 ct7 oc8 kV8 dc8 pm8 cd8 ct8 oc9 kV9 dc9 pm9 cd9 ct9 oc10 kV10 dc10 pm10 cd10 ct10 oc11 kV11 dc11 pm11 cd11 ct11 oc12 kV12 dc12 pm12 cd12 ct12 oc13 kV13 dc13 pm13 cd13 ct13 oc14 kV14 dc14 pm14 cd14 ct14 oc15 kV15 dc15 pm15 cd15 ct15 oc16 kV16 dc16 pm16 cd16 ct16 oc17 kV17 dc17 pm17 cd17 ct17 oc18 kV18 dc18 pm18 cd18 ct18 oc19 kV19 dc19 pm19 cd19 ct19 oc20 kV20 dc20 pm20 cd20 ct20 oc21 kV21 dc21 pm21 cd21 ct21 oc22 kV22 dc22 pm22 cd22 ct22 oc23 kV23 dc23 pm23 cd23 ct23 oc24 kV24 dc24 pm24 cd24 ct24 oc25 kV25 dc25 pm25 cd25 ct25 oc26 kV26 dc26 pm26 cd26 ct26 oc27 kV27 dc27 pm27 cd27 ct27 oc28 kV28 dc28 pm28 cd28 ct28 oc29 kV29 dc29 pm29 cd29 ct29 oc30 kV30 dc30 pm30 cd30 ct30 oc31 kV31 dc31 pm31 cd31 ct31 oc32 kV32 dc32 pm32 cd32 ct32 oc33 kV33 dc33 pm33 cd33 ct33 : Value}
    (a1 : PySem.W.nsIn K mainGlobals "left" = some (some (.ref f1))) (l1 : K.lookup f1 = some ⟨oc1, od1, .func (PySem.W.fnOf "left" "left" (defArgs s_left) (defBody s_left) (defScope s_left) .none kV1 dc1 pm1 an1 cd1 ct1), sl1⟩) (c1 : PySem.W.codeIn K cd1 "left" = true) (k1 : PySem.W.keepIn K (.ref f1) = true)
    (a2 : PySem.W.nsIn K mainGlobals "passes" = some (some (.ref f2))) (l2 : K.lookup f2 = some ⟨oc2, od2, .func (PySem.W.fnOf "passes" "passes" (defArgs s_passes) (defBody s_passes) (defScope s_passes) .none kV2 dc2 pm2 an2 cd2 ct2), sl2⟩) (c2 : PySem.W.codeIn K cd2 "passes" = true) (k2 : PySem.W.keepIn K (.ref f2) = true)
    (a3 : PySem.W.nsIn K mainGlobals "is_row_number" = some (some (.ref f3))) (l3 : K.lookup f3 = some ⟨oc3, od3, .func (PySem.W.fnOf "is_row_number" "is_row_number" (defArgs s_is_row_number) (defBody s_is_row_number) (defScope s_is_row_number) .none kV3 dc3 pm3 an3 cd3 ct3), sl3⟩) (c3 : PySem.W.codeIn K cd3 "is_row_number" = true) (k3 : PySem.W.keepIn K (.ref f3) = true)
    (a4 : PySem.W.nsIn K mainGlobals "shares_sum" = some (some (.ref f4))) (l4 : K.lookup f4 = some ⟨oc4, od4, .func (PySem.W.fnOf "shares_sum" "shares_sum" (defArgs s_shares_sum) (defBody s_shares_sum) (defScope s_shares_sum) .none kV4 dc4 pm4 an4 cd4 ct4), sl4⟩) (c4 : PySem.W.codeIn K cd4 "shares_sum" = true) (k4 : PySem.W.keepIn K (.ref f4) = true)
    (a5 : PySem.W.nsIn K mainGlobals "none_holds" = some (some (.ref f5))) (l5 : K.lookup f5 = some ⟨oc5, od5, .func (PySem.W.fnOf "none_holds" "none_holds" (defArgs s_none_holds) (defBody s_none_holds) (defScope s_none_holds) .none kV5 dc5 pm5 an5 cd5 ct5), sl5⟩) (c5 : PySem.W.codeIn K cd5 "none_holds" = true) (k5 : PySem.W.keepIn K (.ref f5) = true)
    (a6 : PySem.W.nsIn K mainGlobals "is_ray" = some (some (.ref f6))) (l6 : K.lookup f6 = some ⟨oc6, od6, .func (PySem.W.fnOf "is_ray" "is_ray" (defArgs s_is_ray) (defBody s_is_ray) (defScope s_is_ray) .none kV6 dc6 pm6 an6 cd6 ct6), sl6⟩) (c6 : PySem.W.codeIn K cd6 "is_ray" = true) (k6 : PySem.W.keepIn K (.ref f6) = true)
    (a7 : PySem.W.nsIn K mainGlobals "is_point" = some (some (.ref f7))) (l7 : K.lookup f7 = some ⟨oc7, od7, .func (PySem.W.fnOf "is_point" "is_point" (defArgs s_is_point) (defBody s_is_point) (defScope s_is_point) .none kV7 dc7 pm7 an7 cd7 ct7), sl7⟩) (c7 : PySem.W.codeIn K cd7 "is_point" = true) (k7 : PySem.W.keepIn K (.ref f7) = true)
    (a8 : PySem.W.nsIn K mainGlobals "best_holds" = some (some (.ref f8))) (l8 : K.lookup f8 = some ⟨oc8, od8, .func (PySem.W.fnOf "best_holds" "best_holds" (defArgs s_best_holds) (defBody s_best_holds) (defScope s_best_holds) .none kV8 dc8 pm8 an8 cd8 ct8), sl8⟩) (c8 : PySem.W.codeIn K cd8 "best_holds" = true) (k8 : PySem.W.keepIn K (.ref f8) = true)
    (a9 : PySem.W.nsIn K mainGlobals "shares_hold" = some (some (.ref f9))) (l9 : K.lookup f9 = some ⟨oc9, od9, .func (PySem.W.fnOf "shares_hold" "shares_hold" (defArgs s_shares_hold) (defBody s_shares_hold) (defScope s_shares_hold) .none kV9 dc9 pm9 an9 cd9 ct9), sl9⟩) (c9 : PySem.W.codeIn K cd9 "shares_hold" = true) (k9 : PySem.W.keepIn K (.ref f9) = true)
    (a10 : PySem.W.nsIn K mainGlobals "_law_cell" = some (some (.ref f10))) (l10 : K.lookup f10 = some ⟨oc10, od10, .func (PySem.W.fnOf "_law_cell" "_law_cell" (defArgs s__law_cell) (defBody s__law_cell) (defScope s__law_cell) .none kV10 dc10 pm10 an10 cd10 ct10), sl10⟩) (c10 : PySem.W.codeIn K cd10 "_law_cell" = true) (k10 : PySem.W.keepIn K (.ref f10) = true)
    (a11 : PySem.W.nsIn K mainGlobals "_law_draws" = some (some (.ref f11))) (l11 : K.lookup f11 = some ⟨oc11, od11, .func (PySem.W.fnOf "_law_draws" "_law_draws" (defArgs s__law_draws) (defBody s__law_draws) (defScope s__law_draws) .none kV11 dc11 pm11 an11 cd11 ct11), sl11⟩) (c11 : PySem.W.codeIn K cd11 "_law_draws" = true) (k11 : PySem.W.keepIn K (.ref f11) = true)
    (a12 : PySem.W.nsIn K mainGlobals "_law_total" = some (some (.ref f12))) (l12 : K.lookup f12 = some ⟨oc12, od12, .func (PySem.W.fnOf "_law_total" "_law_total" (defArgs s__law_total) (defBody s__law_total) (defScope s__law_total) .none kV12 dc12 pm12 an12 cd12 ct12), sl12⟩) (c12 : PySem.W.codeIn K cd12 "_law_total" = true) (k12 : PySem.W.keepIn K (.ref f12) = true)
    (a13 : PySem.W.nsIn K mainGlobals "_law_rows" = some (some (.ref f13))) (l13 : K.lookup f13 = some ⟨oc13, od13, .func (PySem.W.fnOf "_law_rows" "_law_rows" (defArgs s__law_rows) (defBody s__law_rows) (defScope s__law_rows) .none kV13 dc13 pm13 an13 cd13 ct13), sl13⟩) (c13 : PySem.W.codeIn K cd13 "_law_rows" = true) (k13 : PySem.W.keepIn K (.ref f13) = true)
    (a14 : PySem.W.nsIn K mainGlobals "_law_left" = some (some (.ref f14))) (l14 : K.lookup f14 = some ⟨oc14, od14, .func (PySem.W.fnOf "_law_left" "_law_left" (defArgs s__law_left) (defBody s__law_left) (defScope s__law_left) .none kV14 dc14 pm14 an14 cd14 ct14), sl14⟩) (c14 : PySem.W.codeIn K cd14 "_law_left" = true) (k14 : PySem.W.keepIn K (.ref f14) = true)
    (a15 : PySem.W.nsIn K mainGlobals "_law_unit" = some (some (.ref f15))) (l15 : K.lookup f15 = some ⟨oc15, od15, .func (PySem.W.fnOf "_law_unit" "_law_unit" (defArgs s__law_unit) (defBody s__law_unit) (defScope s__law_unit) .none kV15 dc15 pm15 an15 cd15 ct15), sl15⟩) (c15 : PySem.W.codeIn K cd15 "_law_unit" = true) (k15 : PySem.W.keepIn K (.ref f15) = true)
    (a16 : PySem.W.nsIn K mainGlobals "_law_meets" = some (some (.ref f16))) (l16 : K.lookup f16 = some ⟨oc16, od16, .func (PySem.W.fnOf "_law_meets" "_law_meets" (defArgs s__law_meets) (defBody s__law_meets) (defScope s__law_meets) .none kV16 dc16 pm16 an16 cd16 ct16), sl16⟩) (c16 : PySem.W.codeIn K cd16 "_law_meets" = true) (k16 : PySem.W.keepIn K (.ref f16) = true)
    (a17 : PySem.W.nsIn K mainGlobals "_law_ray_due" = some (some (.ref f17))) (l17 : K.lookup f17 = some ⟨oc17, od17, .func (PySem.W.fnOf "_law_ray_due" "_law_ray_due" (defArgs s__law_ray_due) (defBody s__law_ray_due) (defScope s__law_ray_due) .none kV17 dc17 pm17 an17 cd17 ct17), sl17⟩) (c17 : PySem.W.codeIn K cd17 "_law_ray_due" = true) (k17 : PySem.W.keepIn K (.ref f17) = true)
    (a18 : PySem.W.nsIn K mainGlobals "_law_due" = some (some (.ref f18))) (l18 : K.lookup f18 = some ⟨oc18, od18, .func (PySem.W.fnOf "_law_due" "_law_due" (defArgs s__law_due) (defBody s__law_due) (defScope s__law_due) .none kV18 dc18 pm18 an18 cd18 ct18), sl18⟩) (c18 : PySem.W.codeIn K cd18 "_law_due" = true) (k18 : PySem.W.keepIn K (.ref f18) = true)
    (a19 : PySem.W.nsIn K mainGlobals "_law_told" = some (some (.ref f19))) (l19 : K.lookup f19 = some ⟨oc19, od19, .func (PySem.W.fnOf "_law_told" "_law_told" (defArgs s__law_told) (defBody s__law_told) (defScope s__law_told) .none kV19 dc19 pm19 an19 cd19 ct19), sl19⟩) (c19 : PySem.W.codeIn K cd19 "_law_told" = true) (k19 : PySem.W.keepIn K (.ref f19) = true)
    (a20 : PySem.W.nsIn K mainGlobals "_law_none_built" = some (some (.ref f20))) (l20 : K.lookup f20 = some ⟨oc20, od20, .func (PySem.W.fnOf "_law_none_built" "_law_none_built" (defArgs s__law_none_built) (defBody s__law_none_built) (defScope s__law_none_built) .none kV20 dc20 pm20 an20 cd20 ct20), sl20⟩) (c20 : PySem.W.codeIn K cd20 "_law_none_built" = true) (k20 : PySem.W.keepIn K (.ref f20) = true)
    (a21 : PySem.W.nsIn K mainGlobals "_law_along" = some (some (.ref f21))) (l21 : K.lookup f21 = some ⟨oc21, od21, .func (PySem.W.fnOf "_law_along" "_law_along" (defArgs s__law_along) (defBody s__law_along) (defScope s__law_along) .none kV21 dc21 pm21 an21 cd21 ct21), sl21⟩) (c21 : PySem.W.codeIn K cd21 "_law_along" = true) (k21 : PySem.W.keepIn K (.ref f21) = true)
    (a22 : PySem.W.nsIn K mainGlobals "_law_under" = some (some (.ref f22))) (l22 : K.lookup f22 = some ⟨oc22, od22, .func (PySem.W.fnOf "_law_under" "_law_under" (defArgs s__law_under) (defBody s__law_under) (defScope s__law_under) .none kV22 dc22 pm22 an22 cd22 ct22), sl22⟩) (c22 : PySem.W.codeIn K cd22 "_law_under" = true) (k22 : PySem.W.keepIn K (.ref f22) = true)
    (a23 : PySem.W.nsIn K mainGlobals "_law_endless_built" = some (some (.ref f23))) (l23 : K.lookup f23 = some ⟨oc23, od23, .func (PySem.W.fnOf "_law_endless_built" "_law_endless_built" (defArgs s__law_endless_built) (defBody s__law_endless_built) (defScope s__law_endless_built) .none kV23 dc23 pm23 an23 cd23 ct23), sl23⟩) (c23 : PySem.W.codeIn K cd23 "_law_endless_built" = true) (k23 : PySem.W.keepIn K (.ref f23) = true)
    (a24 : PySem.W.nsIn K mainGlobals "_law_best_rows" = some (some (.ref f24))) (l24 : K.lookup f24 = some ⟨oc24, od24, .func (PySem.W.fnOf "_law_best_rows" "_law_best_rows" (defArgs s__law_best_rows) (defBody s__law_best_rows) (defScope s__law_best_rows) .none kV24 dc24 pm24 an24 cd24 ct24), sl24⟩) (c24 : PySem.W.codeIn K cd24 "_law_best_rows" = true) (k24 : PySem.W.keepIn K (.ref f24) = true)
    (a25 : PySem.W.nsIn K mainGlobals "_law_fits" = some (some (.ref f25))) (l25 : K.lookup f25 = some ⟨oc25, od25, .func (PySem.W.fnOf "_law_fits" "_law_fits" (defArgs s__law_fits) (defBody s__law_fits) (defScope s__law_fits) .none kV25 dc25 pm25 an25 cd25 ct25), sl25⟩) (c25 : PySem.W.codeIn K cd25 "_law_fits" = true) (k25 : PySem.W.keepIn K (.ref f25) = true)
    (a26 : PySem.W.nsIn K mainGlobals "_law_best_built" = some (some (.ref f26))) (l26 : K.lookup f26 = some ⟨oc26, od26, .func (PySem.W.fnOf "_law_best_built" "_law_best_built" (defArgs s__law_best_built) (defBody s__law_best_built) (defScope s__law_best_built) .none kV26 dc26 pm26 an26 cd26 ct26), sl26⟩) (c26 : PySem.W.codeIn K cd26 "_law_best_built" = true) (k26 : PySem.W.keepIn K (.ref f26) = true)
    (a27 : PySem.W.nsIn K mainGlobals "_law_wild" = some (some (.ref f27))) (l27 : K.lookup f27 = some ⟨oc27, od27, .func (PySem.W.fnOf "_law_wild" "_law_wild" (defArgs s__law_wild) (defBody s__law_wild) (defScope s__law_wild) .none kV27 dc27 pm27 an27 cd27 ct27), sl27⟩) (c27 : PySem.W.codeIn K cd27 "_law_wild" = true) (k27 : PySem.W.keepIn K (.ref f27) = true)
    (a28 : PySem.W.nsIn K mainGlobals "_law_bent_shares" = some (some (.ref f28))) (l28 : K.lookup f28 = some ⟨oc28, od28, .func (PySem.W.fnOf "_law_bent_shares" "_law_bent_shares" (defArgs s__law_bent_shares) (defBody s__law_bent_shares) (defScope s__law_bent_shares) .none kV28 dc28 pm28 an28 cd28 ct28), sl28⟩) (c28 : PySem.W.codeIn K cd28 "_law_bent_shares" = true) (k28 : PySem.W.keepIn K (.ref f28) = true)
    (a29 : PySem.W.nsIn K mainGlobals "_law_bent_point" = some (some (.ref f29))) (l29 : K.lookup f29 = some ⟨oc29, od29, .func (PySem.W.fnOf "_law_bent_point" "_law_bent_point" (defArgs s__law_bent_point) (defBody s__law_bent_point) (defScope s__law_bent_point) .none kV29 dc29 pm29 an29 cd29 ct29), sl29⟩) (c29 : PySem.W.codeIn K cd29 "_law_bent_point" = true) (k29 : PySem.W.keepIn K (.ref f29) = true)
    (a30 : PySem.W.nsIn K mainGlobals "_law_bent" = some (some (.ref f30))) (l30 : K.lookup f30 = some ⟨oc30, od30, .func (PySem.W.fnOf "_law_bent" "_law_bent" (defArgs s__law_bent) (defBody s__law_bent) (defScope s__law_bent) .none kV30 dc30 pm30 an30 cd30 ct30), sl30⟩) (c30 : PySem.W.codeIn K cd30 "_law_bent" = true) (k30 : PySem.W.keepIn K (.ref f30) = true)
    (a31 : PySem.W.nsIn K mainGlobals "_law_bent_rows" = some (some (.ref f31))) (l31 : K.lookup f31 = some ⟨oc31, od31, .func (PySem.W.fnOf "_law_bent_rows" "_law_bent_rows" (defArgs s__law_bent_rows) (defBody s__law_bent_rows) (defScope s__law_bent_rows) .none kV31 dc31 pm31 an31 cd31 ct31), sl31⟩) (c31 : PySem.W.codeIn K cd31 "_law_bent_rows" = true) (k31 : PySem.W.keepIn K (.ref f31) = true)
    (a32 : PySem.W.nsIn K mainGlobals "_law_made" = some (some (.ref f32))) (l32 : K.lookup f32 = some ⟨oc32, od32, .func (PySem.W.fnOf "_law_made" "_law_made" (defArgs s__law_made) (defBody s__law_made) (defScope s__law_made) .none kV32 dc32 pm32 an32 cd32 ct32), sl32⟩) (c32 : PySem.W.codeIn K cd32 "_law_made" = true) (k32 : PySem.W.keepIn K (.ref f32) = true)
    (a33 : PySem.W.nsIn K mainGlobals "law" = some (some (.ref f33))) (l33 : K.lookup f33 = some ⟨oc33, od33, .func (PySem.W.fnOf "law" "law" (defArgs s_law) (defBody s_law) (defScope s_law) .none kV33 dc33 pm33 an33 cd33 ct33), sl33⟩) (c33 : PySem.W.codeIn K cd33 "law" = true) (k33 : PySem.W.keepIn K (.ref f33) = true)
    (y_sum : PySem.W.nsIn K mainGlobals "sum" = some none)
    (y_zip : PySem.W.nsIn K mainGlobals "zip" = some none)
    (y_len : PySem.W.nsIn K mainGlobals "len" = some none)
    (y_tuple : PySem.W.nsIn K mainGlobals "tuple" = some none)
    (y_all : PySem.W.nsIn K mainGlobals "all" = some none)
    (y_max : PySem.W.nsIn K mainGlobals "max" = some none)
    (y_enumerate : PySem.W.nsIn K mainGlobals "enumerate" = some none)
    (y_abs : PySem.W.nsIn K mainGlobals "abs" = some none)
    (y_list : PySem.W.nsIn K mainGlobals "list" = some none)
    (y_range : PySem.W.nsIn K mainGlobals "range" = some none)
    (y_int : PySem.W.nsIn K mainGlobals "int" = some none)
    (y_isinstance : PySem.W.nsIn K mainGlobals "isinstance" = some none)
    (y_bool : PySem.W.nsIn K mainGlobals "bool" = some none) :
    ∃ fd : FuncData, (∀ (s : Shared) (v : Value), BindsTo s fd ⟨[v], []⟩ [("_law_script", v)]) ∧ ∀ base : Heap, K.In base → base.Ns mainGlobals mg → FnOk l.prog w K mg base CX0 6 fa fd ["_law_script"] (sp_law K) := by
  have e := hfa.symm.trans (PySem.W.mg_of X G a33)
  cases e
  have F1 := fun_mk (st := s_left) l1 c1 k1
  have b1 := F1.binds (ps := ["entries", "spot"]) fun _ _ _ _ _ _ us hl => by obtain ⟨_, _, rfl⟩ := us_2 us hl; rfl
  have F2 := fun_mk (st := s_passes) l2 c2 k2
  have b2 := F2.binds (ps := ["row", "point"]) fun _ _ _ _ _ _ us hl => by obtain ⟨_, _, rfl⟩ := us_2 us hl; rfl
  have F3 := fun_mk (st := s_is_row_number) l3 c3 k3
  have b3 := F3.binds (ps := ["rows", "number"]) fun _ _ _ _ _ _ us hl => by obtain ⟨_, _, rfl⟩ := us_2 us hl; rfl
  have F4 := fun_mk (st := s_shares_sum) l4 c4 k4
  have b4 := F4.binds (ps := ["rows", "shares", "n"]) fun _ _ _ _ _ _ us hl => by obtain ⟨_, _, _, rfl⟩ := us_3 us hl; rfl
  have F5 := fun_mk (st := s_none_holds) l5 c5 k5
  have b5 := F5.binds (ps := ["rows", "goal", "shares"]) fun _ _ _ _ _ _ us hl => by obtain ⟨_, _, _, rfl⟩ := us_3 us hl; rfl
  have F6 := fun_mk (st := s_is_ray) l6 c6 k6
  have b6 := F6.binds (ps := ["rows", "goal", "ray"]) fun _ _ _ _ _ _ us hl => by obtain ⟨_, _, _, rfl⟩ := us_3 us hl; rfl
  have F7 := fun_mk (st := s_is_point) l7 c7 k7
  have b7 := F7.binds (ps := ["rows", "goal", "point"]) fun _ _ _ _ _ _ us hl => by obtain ⟨_, _, _, rfl⟩ := us_3 us hl; rfl
  have F8 := fun_mk (st := s_best_holds) l8 c8 k8
  have b8 := F8.binds (ps := ["rows", "goal", "point", "shares", "divisor"]) fun _ _ _ _ _ _ us hl => by obtain ⟨_, _, _, _, _, rfl⟩ := us_5 us hl; rfl
  have F9 := fun_mk (st := s_shares_hold) l9 c9 k9
  have b9 := F9.binds (ps := ["rows", "goal", "told"]) fun _ _ _ _ _ _ us hl => by obtain ⟨_, _, _, rfl⟩ := us_3 us hl; rfl
  have F10 := fun_mk (st := s__law_cell) l10 c10 k10
  have b10 := F10.binds (ps := ["_law_script", "_law_k"]) fun _ _ _ _ _ _ us hl => by obtain ⟨_, _, rfl⟩ := us_2 us hl; rfl
  have F11 := fun_mk (st := s__law_draws) l11 c11 k11
  have b11 := F11.binds (ps := ["_law_cell_here", "_law_salt", "_law_sizes"]) fun _ _ _ _ _ _ us hl => by obtain ⟨_, _, _, rfl⟩ := us_3 us hl; rfl
  have F12 := fun_mk (st := s__law_total) l12 c12 k12
  have b12 := F12.binds (ps := ["_law_rows_here", "_law_shares", "_law_n"]) fun _ _ _ _ _ _ us hl => by obtain ⟨_, _, _, rfl⟩ := us_3 us hl; rfl
  have F13 := fun_mk (st := s__law_rows) l13 c13 k13
  have b13 := F13.binds (ps := ["_law_cell_here", "_law_salt", "_law_n", "_law_many", "_law_big"]) fun _ _ _ _ _ _ us hl => by obtain ⟨_, _, _, _, _, rfl⟩ := us_5 us hl; rfl
  have F14 := fun_mk (st := s__law_left) l14 c14 k14
  have b14 := F14.binds (ps := ["_law_entries", "_law_spot"]) fun _ _ _ _ _ _ us hl => by obtain ⟨_, _, rfl⟩ := us_2 us hl; rfl
  have F15 := fun_mk (st := s__law_unit) l15 c15 k15
  have b15 := F15.binds (ps := ["_law_n", "_law_at"]) fun _ _ _ _ _ _ us hl => by obtain ⟨_, _, rfl⟩ := us_2 us hl; rfl
  have F16 := fun_mk (st := s__law_meets) l16 c16 k16
  have b16 := F16.binds (ps := ["_law_rows_here", "_law_point", "_law_n"]) fun _ _ _ _ _ _ us hl => by obtain ⟨_, _, _, rfl⟩ := us_3 us hl; rfl
  have F17 := fun_mk (st := s__law_ray_due) l17 c17 k17
  have b17 := F17.binds (ps := ["_law_rows_here", "_law_goal", "_law_ray", "_law_n"]) fun _ _ _ _ _ _ us hl => by obtain ⟨_, _, _, _, rfl⟩ := us_4 us hl; rfl
  have F18 := fun_mk (st := s__law_due) l18 c18 k18
  have b18 := F18.binds (ps := ["_law_kind", "_law_rows_here", "_law_goal", "_law_parts", "_law_n"]) fun _ _ _ _ _ _ us hl => by obtain ⟨_, _, _, _, _, rfl⟩ := us_5 us hl; rfl
  have F19 := fun_mk (st := s__law_told) l19 c19 k19
  have b19 := F19.binds (ps := ["_law_kind", "_law_parts"]) fun _ _ _ _ _ _ us hl => by obtain ⟨_, _, rfl⟩ := us_2 us hl; rfl
  have F20 := fun_mk (st := s__law_none_built) l20 c20 k20
  have b20 := F20.binds (ps := ["_law_cells", "_law_n", "_law_many", "_law_big"]) fun _ _ _ _ _ _ us hl => by obtain ⟨_, _, _, _, rfl⟩ := us_4 us hl; rfl
  have F21 := fun_mk (st := s__law_along) l21 c21 k21
  have b21 := F21.binds (ps := ["_law_entries", "_law_ray"]) fun _ _ _ _ _ _ us hl => by obtain ⟨_, _, rfl⟩ := us_2 us hl; rfl
  have F22 := fun_mk (st := s__law_under) l22 c22 k22
  have b22 := F22.binds (ps := ["_law_top", "_law_bottom", "_law_slack"]) fun _ _ _ _ _ _ us hl => by obtain ⟨_, _, _, rfl⟩ := us_3 us hl; rfl
  have F23 := fun_mk (st := s__law_endless_built) l23 c23 k23
  have b23 := F23.binds (ps := ["_law_cells", "_law_n", "_law_many", "_law_big"]) fun _ _ _ _ _ _ us hl => by obtain ⟨_, _, _, _, rfl⟩ := us_4 us hl; rfl
  have F24 := fun_mk (st := s__law_best_rows) l24 c24 k24
  have b24 := F24.binds (ps := ["_law_cells", "_law_n", "_law_many", "_law_big", "_law_point", "_law_ray"]) fun _ _ _ _ _ _ us hl => by obtain ⟨_, _, _, _, _, _, rfl⟩ := us_6 us hl; rfl
  have F25 := fun_mk (st := s__law_fits) l25 c25 k25
  have b25 := F25.binds (ps := ["_law_entries", "_law_bound", "_law_least", "_law_point"]) fun _ _ _ _ _ _ us hl => by obtain ⟨_, _, _, _, rfl⟩ := us_4 us hl; rfl
  have F26 := fun_mk (st := s__law_best_built) l26 c26 k26
  have b26 := F26.binds (ps := ["_law_cells", "_law_n", "_law_many", "_law_big"]) fun _ _ _ _ _ _ us hl => by obtain ⟨_, _, _, _, rfl⟩ := us_4 us hl; rfl
  have F27 := fun_mk (st := s__law_wild) l27 c27 k27
  have b27 := F27.binds (ps := ["_law_cells", "_law_n", "_law_many", "_law_big"]) fun _ _ _ _ _ _ us hl => by obtain ⟨_, _, _, _, rfl⟩ := us_4 us hl; rfl
  have F28 := fun_mk (st := s__law_bent_shares) l28 c28 k28
  have b28 := F28.binds (ps := ["_law_shares", "_law_way", "_law_at", "_law_step"]) fun _ _ _ _ _ _ us hl => by obtain ⟨_, _, _, _, rfl⟩ := us_4 us hl; rfl
  have F29 := fun_mk (st := s__law_bent_point) l29 c29 k29
  have b29 := F29.binds (ps := ["_law_point", "_law_way", "_law_at", "_law_step"]) fun _ _ _ _ _ _ us hl => by obtain ⟨_, _, _, _, rfl⟩ := us_4 us hl; rfl
  have F30 := fun_mk (st := s__law_bent) l30 c30 k30
  have b30 := F30.binds (ps := ["_law_parts", "_law_spoil", "_law_way", "_law_at", "_law_step"]) fun _ _ _ _ _ _ us hl => by obtain ⟨_, _, _, _, _, rfl⟩ := us_5 us hl; rfl
  have F31 := fun_mk (st := s__law_bent_rows) l31 c31 k31
  have b31 := F31.binds (ps := ["_law_rows_here", "_law_goal", "_law_spoil", "_law_at", "_law_step"]) fun _ _ _ _ _ _ us hl => by obtain ⟨_, _, _, _, _, rfl⟩ := us_5 us hl; rfl
  have F32 := fun_mk (st := s__law_made) l32 c32 k32
  have b32 := F32.binds (ps := ["_law_kind", "_law_wild_here", "_law_cells", "_law_n", "_law_many", "_law_big"]) fun _ _ _ _ _ _ us hl => by obtain ⟨_, _, _, _, _, _, rfl⟩ := us_6 us hl; rfl
  have F33 := fun_mk (st := s_law) l33 c33 k33
  have b33 := F33.binds (ps := ["_law_script"]) fun _ _ _ _ _ _ us hl => by obtain ⟨_, rfl⟩ := us_1 us hl; rfl
  refine ⟨PySem.W.fnOf "law" "law" (defArgs s_law) (defBody s_law) (defScope s_law) .none kV33 dc33 pm33 an33 cd33 ct33, fun s v => .of_eq rfl, fun base _ _ => ?_⟩
  have z_sum := PySem.W.mg_none_of X G y_sum
  have z_zip := PySem.W.mg_none_of X G y_zip
  have z_len := PySem.W.mg_none_of X G y_len
  have z_tuple := PySem.W.mg_none_of X G y_tuple
  have z_all := PySem.W.mg_none_of X G y_all
  have z_max := PySem.W.mg_none_of X G y_max
  have z_enumerate := PySem.W.mg_none_of X G y_enumerate
  have z_abs := PySem.W.mg_none_of X G y_abs
  have z_list := PySem.W.mg_none_of X G y_list
  have z_range := PySem.W.mg_none_of X G y_range
  have z_int := PySem.W.mg_none_of X G y_int
  have z_isinstance := PySem.W.mg_none_of X G y_isinstance
  have z_bool := PySem.W.mg_none_of X G y_bool
  have H1 := ok_left (P := l.prog) (w := w) (mg := mg) (base := base) (n := 0) F1 z_sum z_zip
  have H2 := ok_passes (P := l.prog) (w := w) (mg := mg) (base := base) (n := 1) F2 (H1.mono (by decide)) b1 k1 (PySem.W.mg_of X G a1)
  have H3 := ok_is_row_number (P := l.prog) (w := w) (mg := mg) (base := base) (n := 0) F3 z_len
  have H4 := ok_shares_sum (P := l.prog) (w := w) (mg := mg) (base := base) (n := 1) F4 (H3.mono (by decide)) b3 k3 (PySem.W.mg_of X G a3) z_tuple z_zip
  have H5 := ok_none_holds (P := l.prog) (w := w) (mg := mg) (base := base) (n := 2) F5 (H4.mono (by decide)) b4 k4 (PySem.W.mg_of X G a4) z_len z_all
  have H6 := ok_is_ray (P := l.prog) (w := w) (mg := mg) (base := base) (n := 1) F6 (H1.mono (by decide)) b1 k1 (PySem.W.mg_of X G a1) z_len z_all
  have H7 := ok_is_point (P := l.prog) (w := w) (mg := mg) (base := base) (n := 2) F7 (H2.mono (by decide)) b2 k2 (PySem.W.mg_of X G a2) z_all z_len
  have H8 := ok_best_holds (P := l.prog) (w := w) (mg := mg) (base := base) (n := 3) F8 (H4.mono (by decide)) b4 k4 (PySem.W.mg_of X G a4) (H7.mono (by decide)) b7 k7 (PySem.W.mg_of X G a7) (H1.mono (by decide)) b1 k1 (PySem.W.mg_of X G a1) z_len z_tuple
  have H9 := ok_shares_hold (P := l.prog) (w := w) (mg := mg) (base := base) (n := 4) F9 (H8.mono (by decide)) b8 k8 (PySem.W.mg_of X G a8) (H5.mono (by decide)) b5 k5 (PySem.W.mg_of X G a5) (H7.mono (by decide)) b7 k7 (PySem.W.mg_of X G a7) (H6.mono (by decide)) b6 k6 (PySem.W.mg_of X G a6)
  have H10 := ok__law_cell (P := l.prog) (w := w) (mg := mg) (base := base) (n := 0) F10 z_len
  have H11 := ok__law_draws (P := l.prog) (w := w) (mg := mg) (base := base) (n := 0) F11 z_max z_enumerate z_abs
  have H12 := ok__law_total (P := l.prog) (w := w) (mg := mg) (base := base) (n := 0) F12 z_list z_len z_zip
  have H13 := ok__law_rows (P := l.prog) (w := w) (mg := mg) (base := base) (n := 1) F13 (H11.mono (by decide)) b11 k11 (PySem.W.mg_of X G a11) z_range z_tuple
  have H14 := ok__law_left (P := l.prog) (w := w) (mg := mg) (base := base) (n := 0) F14 z_sum z_zip
  have H15 := ok__law_unit (P := l.prog) (w := w) (mg := mg) (base := base) (n := 0) F15 z_tuple z_int z_range
  have H16 := ok__law_meets (P := l.prog) (w := w) (mg := mg) (base := base) (n := 1) F16 (H14.mono (by decide)) b14 k14 (PySem.W.mg_of X G a14) z_all z_len
  have H17 := ok__law_ray_due (P := l.prog) (w := w) (mg := mg) (base := base) (n := 1) F17 (H14.mono (by decide)) b14 k14 (PySem.W.mg_of X G a14) z_all z_len
  have H18 := ok__law_due (P := l.prog) (w := w) (mg := mg) (base := base) (n := 2) F18 (H12.mono (by decide)) b12 k12 (PySem.W.mg_of X G a12) (H16.mono (by decide)) b16 k16 (PySem.W.mg_of X G a16) (H17.mono (by decide)) b17 k17 (PySem.W.mg_of X G a17) (H14.mono (by decide)) b14 k14 (PySem.W.mg_of X G a14) z_all
  have H19 := ok__law_told (P := l.prog) (w := w) (mg := mg) (base := base) (n := 0) F19 z_tuple
  have H20 := ok__law_none_built (P := l.prog) (w := w) (mg := mg) (base := base) (n := 2) F20 (H11.mono (by decide)) b11 k11 (PySem.W.mg_of X G a11) (H12.mono (by decide)) b12 k12 (PySem.W.mg_of X G a12) (H13.mono (by decide)) b13 k13 (PySem.W.mg_of X G a13) (H15.mono (by decide)) b15 k15 (PySem.W.mg_of X G a15) z_tuple z_len z_range z_max
  have H21 := ok__law_along (P := l.prog) (w := w) (mg := mg) (base := base) (n := 1) F21 (H14.mono (by decide)) b14 k14 (PySem.W.mg_of X G a14) z_tuple
  have H22 := ok__law_under (P := l.prog) (w := w) (mg := mg) (base := base) (n := 0) F22 z_max
  have H23 := ok__law_endless_built (P := l.prog) (w := w) (mg := mg) (base := base) (n := 2) F23 (H11.mono (by decide)) b11 k11 (PySem.W.mg_of X G a11) (H13.mono (by decide)) b13 k13 (PySem.W.mg_of X G a13) (H21.mono (by decide)) b21 k21 (PySem.W.mg_of X G a21) (H15.mono (by decide)) b15 k15 (PySem.W.mg_of X G a15) (H22.mono (by decide)) b22 k22 (PySem.W.mg_of X G a22) (H14.mono (by decide)) b14 k14 (PySem.W.mg_of X G a14) z_tuple z_range
  have H24 := ok__law_best_rows (P := l.prog) (w := w) (mg := mg) (base := base) (n := 2) F24 (H11.mono (by decide)) b11 k11 (PySem.W.mg_of X G a11) (H13.mono (by decide)) b13 k13 (PySem.W.mg_of X G a13) (H21.mono (by decide)) b21 k21 (PySem.W.mg_of X G a21) (H14.mono (by decide)) b14 k14 (PySem.W.mg_of X G a14) (H15.mono (by decide)) b15 k15 (PySem.W.mg_of X G a15) (H22.mono (by decide)) b22 k22 (PySem.W.mg_of X G a22) z_enumerate z_range z_tuple
  have H25 := ok__law_fits (P := l.prog) (w := w) (mg := mg) (base := base) (n := 1) F25 (H14.mono (by decide)) b14 k14 (PySem.W.mg_of X G a14) z_all
  have H26 := ok__law_best_built (P := l.prog) (w := w) (mg := mg) (base := base) (n := 3) F26 (H11.mono (by decide)) b11 k11 (PySem.W.mg_of X G a11) (H24.mono (by decide)) b24 k24 (PySem.W.mg_of X G a24) (H12.mono (by decide)) b12 k12 (PySem.W.mg_of X G a12) (H25.mono (by decide)) b25 k25 (PySem.W.mg_of X G a25) z_tuple z_enumerate z_max
  have H27 := ok__law_wild (P := l.prog) (w := w) (mg := mg) (base := base) (n := 2) F27 (H11.mono (by decide)) b11 k11 (PySem.W.mg_of X G a11) (H13.mono (by decide)) b13 k13 (PySem.W.mg_of X G a13) (H15.mono (by decide)) b15 k15 (PySem.W.mg_of X G a15) z_tuple z_range
  have H28 := ok__law_bent_shares (P := l.prog) (w := w) (mg := mg) (base := base) (n := 0) F28 z_len
  have H29 := ok__law_bent_point (P := l.prog) (w := w) (mg := mg) (base := base) (n := 0) F29 z_len z_tuple
  have H30 := ok__law_bent (P := l.prog) (w := w) (mg := mg) (base := base) (n := 1) F30 (H29.mono (by decide)) b29 k29 (PySem.W.mg_of X G a29) (H28.mono (by decide)) b28 k28 (PySem.W.mg_of X G a28) z_len
  have H31 := ok__law_bent_rows (P := l.prog) (w := w) (mg := mg) (base := base) (n := 0) F31 z_len
  have H32 := ok__law_made (P := l.prog) (w := w) (mg := mg) (base := base) (n := 4) F32 (H26.mono (by decide)) b26 k26 (PySem.W.mg_of X G a26) (H27.mono (by decide)) b27 k27 (PySem.W.mg_of X G a27) (H20.mono (by decide)) b20 k20 (PySem.W.mg_of X G a20) (H23.mono (by decide)) b23 k23 (PySem.W.mg_of X G a23)
  have H33 := ok_law (P := l.prog) (w := w) (mg := mg) (base := base) (n := 5) F33 (H11.mono (by decide)) b11 k11 (PySem.W.mg_of X G a11) (H32.mono (by decide)) b32 k32 (PySem.W.mg_of X G a32) (H30.mono (by decide)) b30 k30 (PySem.W.mg_of X G a30) (H31.mono (by decide)) b31 k31 (PySem.W.mg_of X G a31) (H9.mono (by decide)) b9 k9 (PySem.W.mg_of X G a9) (H10.mono (by decide)) b10 k10 (PySem.W.mg_of X G a10) (H19.mono (by decide)) b19 k19 (PySem.W.mg_of X G a19) (H18.mono (by decide)) b18 k18 (PySem.W.mg_of X G a18) z_tuple z_isinstance z_bool z_range
  exact H33.imp conv_law
theorem walk {l : PySem.W.OpenLaw} {q : Program} {loose : List Str} {XP : (Str → Option Value) → Heap → Prop} {YP : World → Heap → Prop} {d : DefRec} {K : Params → PySem.W.Frag} (hn : l.most = some 63) (hdf : d.params.defaults = [])
    (hY : ∀ (w : World) (h : Heap), YP w h → (K w.params).In h)
    (F : ∀ (w : World) (mg : Str → Option Value) (fa : Addr) (h : Heap), (K w.params).In h → h.Ns mainGlobals mg → mg d.name = some (.ref fa) →
      ∃ fd : FuncData, (∀ (s : Shared) (u : Value), BindsTo s fd ⟨[u], []⟩ [("_law_script", u)]) ∧ ∀ base : Heap, (K w.params).In base → base.Ns mainGlobals mg → FnOk l.prog w (K w.params) mg base CX0 6 fa fd ["_law_script"] (sp_law (K w.params))) :
    PySem.W.WalkO q loose XP YP l.row.toRowW d [] (fun f vs => PySem.call f vs) :=
  L2.walk_of (n := 63) (k := 6) (x := "_law_script") (CX := fun _ => CX0) (sp := fun w => sp_law (K w.params)) hn (by decide) hdf ⟨rfl, by decide, by decide⟩ hY F (fun _ _ a ns hl _ hS => ⟨a, ns, rfl, hS, hl, fun _ => rfl⟩) fun _ _ _ _ _ z => z
end Kx
open PySem PySem.W PyProof.Rows
set_option maxRecDepth 100000 in
set_option maxHeartbeats 0 in
theorem PySem.Challenge.cw_cutyard_k20_endings_read_holds : PySem.Challenge.rw_cutyard_k20_endings_read.Holds := by
  w_on; o_law; k_head; (case hw => w_witness2)
  k_fill
  refine Kx.walk (l := PySem.Challenge.rw_cutyard_k20_endings_read) rfl rfl (fun w h Y => PySem.W.kIn_of Y) ?F
  case F =>
    intro w mg fa h KX G hmg
    refine' Kx.all_mk KX G hmg ?a1 ?l1 ?c1 ?k1 ?a2 ?l2 ?c2 ?k2 ?a3 ?l3 ?c3 ?k3 ?a4 ?l4 ?c4 ?k4 ?a5 ?l5 ?c5 ?k5 ?a6 ?l6 ?c6 ?k6 ?a7 ?l7 ?c7 ?k7 ?a8 ?l8 ?c8 ?k8 ?a9 ?l9 ?c9 ?k9 ?a10 ?l10 ?c10 ?k10 ?a11 ?l11 ?c11 ?k11 ?a12 ?l12 ?c12 ?k12 ?a13 ?l13 ?c13 ?k13 ?a14 ?l14 ?c14 ?k14 ?a15 ?l15 ?c15 ?k15 ?a16 ?l16 ?c16 ?k16 ?a17 ?l17 ?c17 ?k17 ?a18 ?l18 ?c18 ?k18 ?a19 ?l19 ?c19 ?k19 ?a20 ?l20 ?c20 ?k20 ?a21 ?l21 ?c21 ?k21 ?a22 ?l22 ?c22 ?k22 ?a23 ?l23 ?c23 ?k23 ?a24 ?l24 ?c24 ?k24 ?a25 ?l25 ?c25 ?k25 ?a26 ?l26 ?c26 ?k26 ?a27 ?l27 ?c27 ?k27 ?a28 ?l28 ?c28 ?k28 ?a29 ?l29 ?c29 ?k29 ?a30 ?l30 ?c30 ?k30 ?a31 ?l31 ?c31 ?k31 ?a32 ?l32 ?c32 ?k32 ?a33 ?l33 ?c33 ?k33 ?y_sum ?y_zip ?y_len ?y_tuple ?y_all ?y_max ?y_enumerate ?y_abs ?y_list ?y_range ?y_int ?y_isinstance ?y_bool
    (case a1 => k_is); (case l1 => k_is); (case c1 => k_is); (case k1 => k_is)
    (case a2 => k_is); (case l2 => k_is); (case c2 => k_is); (case k2 => k_is)
    (case a3 => k_is); (case l3 => k_is); (case c3 => k_is); (case k3 => k_is)
    (case a4 => k_is); (case l4 => k_is); (case c4 => k_is); (case k4 => k_is)
    (case a5 => k_is); (case l5 => k_is); (case c5 => k_is); (case k5 => k_is)
    (case a6 => k_is); (case l6 => k_is); (case c6 => k_is); (case k6 => k_is)
    (case a7 => k_is); (case l7 => k_is); (case c7 => k_is); (case k7 => k_is)
    (case a8 => k_is); (case l8 => k_is); (case c8 => k_is); (case k8 => k_is)
    (case a9 => k_is); (case l9 => k_is); (case c9 => k_is); (case k9 => k_is)
    (case a10 => k_is); (case l10 => k_is); (case c10 => k_is); (case k10 => k_is)
    (case a11 => k_is); (case l11 => k_is); (case c11 => k_is); (case k11 => k_is)
    (case a12 => k_is); (case l12 => k_is); (case c12 => k_is); (case k12 => k_is)
    (case a13 => k_is); (case l13 => k_is); (case c13 => k_is); (case k13 => k_is)
    (case a14 => k_is); (case l14 => k_is); (case c14 => k_is); (case k14 => k_is)
    (case a15 => k_is); (case l15 => k_is); (case c15 => k_is); (case k15 => k_is)
    (case a16 => k_is); (case l16 => k_is); (case c16 => k_is); (case k16 => k_is)
    (case a17 => k_is); (case l17 => k_is); (case c17 => k_is); (case k17 => k_is)
    (case a18 => k_is); (case l18 => k_is); (case c18 => k_is); (case k18 => k_is)
    (case a19 => k_is); (case l19 => k_is); (case c19 => k_is); (case k19 => k_is)
    (case a20 => k_is); (case l20 => k_is); (case c20 => k_is); (case k20 => k_is)
    (case a21 => k_is); (case l21 => k_is); (case c21 => k_is); (case k21 => k_is)
    (case a22 => k_is); (case l22 => k_is); (case c22 => k_is); (case k22 => k_is)
    (case a23 => k_is); (case l23 => k_is); (case c23 => k_is); (case k23 => k_is)
    (case a24 => k_is); (case l24 => k_is); (case c24 => k_is); (case k24 => k_is)
    (case a25 => k_is); (case l25 => k_is); (case c25 => k_is); (case k25 => k_is)
    (case a26 => k_is); (case l26 => k_is); (case c26 => k_is); (case k26 => k_is)
    (case a27 => k_is); (case l27 => k_is); (case c27 => k_is); (case k27 => k_is)
    (case a28 => k_is); (case l28 => k_is); (case c28 => k_is); (case k28 => k_is)
    (case a29 => k_is); (case l29 => k_is); (case c29 => k_is); (case k29 => k_is)
    (case a30 => k_is); (case l30 => k_is); (case c30 => k_is); (case k30 => k_is)
    (case a31 => k_is); (case l31 => k_is); (case c31 => k_is); (case k31 => k_is)
    (case a32 => k_is); (case l32 => k_is); (case c32 => k_is); (case k32 => k_is)
    (case a33 => k_is); (case l33 => k_is); (case c33 => k_is); (case k33 => k_is)
    (case y_sum => k_is)
    (case y_zip => k_is)
    (case y_len => k_is)
    (case y_tuple => k_is)
    (case y_all => k_is)
    (case y_max => k_is)
    (case y_enumerate => k_is)
    (case y_abs => k_is)
    (case y_list => k_is)
    (case y_range => k_is)
    (case y_int => k_is)
    (case y_isinstance => k_is)
    (case y_bool => k_is)

