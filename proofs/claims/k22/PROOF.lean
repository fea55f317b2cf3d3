import PyProof.Rows.All
import Wide.All
import OpenK.AllK
import Wide.FinOn
import Lean
import PyProof.EqAt
import PyProof.EqKinds
import PyProof.TupleCall
import PyProof.NeKinds
import PyProof.SetRoads
import PyProof.SetNew
import PySem.Challenge.RW_crosswright_k22_what_is_a_filling
set_option Elab.async false
set_option linter.all false
set_option maxRecDepth 100000
/-! THE HAND LAYER, for ints, bools, texts, own classes, LISTS and tuples (index, slices, in, append, pop ..), calls, loops. Paste it whole ahead of your own text; what your proof does not reach may be deleted. -/
namespace L2
open PySem PySem.Spec PyProof.Rows

/-- a key: an int or a str -/
abbrev Key := Sum Int Str
def keyIs : Key → Value → Bool
  | .inl k, v => Value.isInt k v
  | .inr x, v => Value.isStrOf x v
def keyH (w : World) : Key → Int
  | .inl k => hashInt k
  | .inr x => hashStr w x
theorem keyIs_shape : ∀ {k : Key} {v : Value}, keyIs k v = true → (∃ i t, k = Sum.inl i ∧ v = Value.int i t) ∨ (∃ x t, k = Sum.inr x ∧ v = Value.str x t)
  | .inl i, v, h => by
    obtain ⟨t, e⟩ := Value.isInt_shape (k := i) (v := v) h
    exact .inl ⟨i, t, rfl, e⟩
  | .inr x, v, h => by
    obtain ⟨t, e⟩ := Value.isStrOf_shape (x := x) (v := v) h
    exact .inr ⟨x, t, rfl, e⟩
theorem keyIs_int (i : Int) (t : Tok) : keyIs (.inl i) (.int i t) = true := by simp [keyIs, Value.isInt]
theorem keyIs_str (x : Str) (t : Tok) : keyIs (.inr x) (.str x t) = true := by simp [keyIs, Value.isStrOf]
theorem key_ll (a b : Int) : decide ((Sum.inl a : Key) = Sum.inl b) = (a == b) := by
  by_cases e : a = b
  · subst e; simp
  · have h : ¬ (Sum.inl a : Key) = Sum.inl b := fun q => e (Sum.inl.inj q)
    rw [decide_eq_false h]
    exact (beq_eq_false_iff_ne.mpr e).symm
theorem key_rr (a b : Str) : decide ((Sum.inr a : Key) = Sum.inr b) = decide (a = b) := by
  by_cases e : a = b
  · subst e; simp
  · have h : ¬ (Sum.inr a : Key) = Sum.inr b := fun q => e (Sum.inr.inj q)
    rw [decide_eq_false h, decide_eq_false e]
theorem key_lr (a : Int) (b : Str) : decide ((Sum.inl a : Key) = Sum.inr b) = false := decide_eq_false (fun q => nomatch q)
theorem key_rl (a : Str) (b : Int) : decide ((Sum.inr a : Key) = Sum.inl b) = false := decide_eq_false (fun q => nomatch q)

def mixKind (prog : Program) (w : World) : PySem.KeyKind prog w Key where
  is := keyIs
  hash := keyH w
  inj := fun v a b ha hb => by
    rcases keyIs_shape ha with ⟨i, t, rfl, rfl⟩ | ⟨x, t, rfl, rfl⟩
    · rcases keyIs_shape hb with ⟨j, u, rfl, e⟩ | ⟨y, u, rfl, e⟩
      · injection e with e1 _; rw [e1]
      · exact nomatch e
    · rcases keyIs_shape hb with ⟨j, u, rfl, e⟩ | ⟨y, u, rfl, e⟩
      · exact nomatch e
      · injection e with e1 _; rw [e1]
  byValue := fun k v h => by
    rcases keyIs_shape h with ⟨i, t, rfl, rfl⟩ | ⟨x, t, rfl, rfl⟩ <;> rfl
  pyHash := fun hv h => by
    rcases keyIs_shape hv with ⟨i, t, rfl, rfl⟩ | ⟨x, t, rfl, rfl⟩
    · exact wpAny_pyHash_int h
    · exact wpAny_pyHash_str h
  eqBool := fun hu hv h => by
    rcases keyIs_shape hu with ⟨i, t, rfl, rfl⟩ | ⟨x, t, rfl, rfl⟩
    · rcases keyIs_shape hv with ⟨j, u, rfl, rfl⟩ | ⟨y, u, rfl, rfl⟩
      · rw [key_ll] at h; exact wpAny_eqBool_int h
      · rw [key_lr] at h; exact SeqAt.EqAt.int_str i t y u _ _ _ _ h
    · rcases keyIs_shape hv with ⟨j, u, rfl, rfl⟩ | ⟨y, u, rfl, rfl⟩
      · rw [key_rl] at h; exact SeqAt.EqAt.str_int x t j u _ _ _ _ h
      · rw [key_rr] at h; exact wpAny_eqBool_str h
  «strs» := fun k x t v h => by
    rcases keyIs_shape h with ⟨i, u, rfl, e⟩ | ⟨y, u, rfl, e⟩
    · exact nomatch e
    · injection e with e1 _
      subst e1
      cases v <;> rfl

theorem mixKind_int (prog : Program) (w : World) (i : Int) (t : Tok) : (mixKind prog w).is (.inl i) (.int i t) = true := keyIs_int i t
theorem mixKind_str (prog : Program) (w : World) (x : Str) (t : Tok) : (mixKind prog w).is (.inr x) (.str x t) = true := keyIs_str x t
end L2

namespace L2
open PySem PySem.Spec PyProof.Rows

/-- a value, without the heap -/
inductive V where
  | non | bl (b : Bool) | int (i : Int) | str (x : Str) | byt (b : Array UInt8) | flt (b : UInt64) | ref (a : Addr) | ty (n : String)
  deriving DecidableEq

def RelV : V → Value → Prop
  | .non, u => u = Value.none
  | .bl b, u => u = Value.bool b
  | .int i, u => ∃ t, u = Value.int i t
  | .str x, u => ∃ t, u = Value.str x t
  | .byt b, u => ∃ t, u = Value.bytes b t
  | .flt b, u => ∃ t, u = Value.float b t
  | .ref a, u => u = Value.ref a
  | .ty n, u => u = Value.type n

abbrev Vals : List V → List Value → Prop := Paired RelV
theorem Vals.length {xs : List V} {us : List Value} (r : Vals xs us) : xs.length = us.length := Paired.length r
theorem Vals.get : ∀ {xs : List V} {us : List Value} {i : Nat} {x : V}, Vals xs us → xs[i]? = some x → ∃ u, us[i]? = some u ∧ RelV x u
  | _, _, _, _, .nil, e => by simp at e
  | _, _, 0, _, .cons r _, e => by simp at e; subst e; exact ⟨_, rfl, r⟩
  | _, _, i + 1, x, .cons _ t, e => by
    obtain ⟨u, h1, h2⟩ := Vals.get (i := i) (x := x) t (by simpa using e)
    exact ⟨u, by simpa using h1, h2⟩
theorem Vals.set {x : V} {u : Value} (r : RelV x u) : ∀ {xs : List V} {us : List Value} (i : Nat), Vals xs us → Vals (xs.set i x) (us.set i u)
  | _, _, _, .nil => .nil
  | _, _, 0, .cons _ t => .cons r t
  | _, _, i + 1, .cons q t => .cons q (Vals.set r i t)
theorem Vals.append : ∀ {xs ys : List V} {us ws : List Value}, Vals xs us → Vals ys ws → Vals (xs ++ ys) (us ++ ws)
  | _, _, _, _, .nil, s => s
  | _, _, _, _, .cons r t, s => .cons r (Vals.append t s)
theorem Vals.take : ∀ {xs : List V} {us : List Value} (n : Nat), Vals xs us → Vals (xs.take n) (us.take n)
  | _, _, 0, _ => .nil
  | _, _, _ + 1, .nil => .nil
  | _, _, n + 1, .cons r t => .cons r (Vals.take n t)
theorem Vals.drop : ∀ {xs : List V} {us : List Value} (n : Nat), Vals xs us → Vals (xs.drop n) (us.drop n)
  | _, _, 0, r => r
  | _, _, _ + 1, .nil => .nil
  | _, _, n + 1, .cons _ t => Vals.drop n t
theorem Vals.none_of : ∀ {xs : List V} {us : List Value} {i : Nat}, Vals xs us → xs[i]? = none → us[i]? = none := fun {xs us i} r e => by
  have h1 := r.length
  have h2 : xs.length ≤ i := List.getElem?_eq_none_iff.mp e
  exact List.getElem?_eq_none_iff.mpr (by omega)

def RelO : Option V → Option Value → Prop
  | some v, some u => RelV v u
  | none, none => True
  | _, _ => False
def KV {κ : Type} : List (κ × V) → List (κ × Value) → Prop := Paired fun (p : κ × V) (q : κ × Value) => p.1 = q.1 ∧ RelV p.2 q.2

/-- a key of a dict (00_mix): an int or a text -/
def kV : Key → V
  | .inl i => .int i
  | .inr x => .str x

/-- what stands at a tracked address -/
inductive HO where
  /-- a list -/
  | lst (xs : List V)
  /-- a tuple (never changes) -/
  | tup (xs : List V)
  /-- a dict whose keys are ints and texts; one whose keys are tuples of ints and texts (the empty one is both) -/
  | dK (kvs : List (Key × V)) | dT (kvs : List (List Key × V))
  /-- a set of ints: its members, its size -/
  | set (S : Int → Bool) (n : Nat)
  /-- an instance of the class at C, its dict at dx, its attributes -/
  | ins (C dx : Addr) (fs : List (Str × V))
  /-- the dict of the instance at x -/
  | own (x : Addr)
  /-- the dict of an exception -/
  | xd (fs : List (Str × V))
  /-- a bound method, f of x -/
  | met (f x : Addr)
  /-- a range object lo, lo + 1, .. below hi -/
  | rng (lo hi : Int)
  /-- a thing that is known to the object (the script; a dict while a loop walks it): read, never written while it is so -/
  | frz (o : Obj) (u : HO)
  /-- a code object's table -/
  | tbl (ps : Array Value)
  /-- any other thing, by what is true of its one object (a def of one's own: SetO a S n := HO.ext fun h => ..) -/
  | ext (φ : Heap → Prop)

abbrev Hp := Addr → Option HO
def upd (H : Hp) (a : Addr) (o : HO) : Hp := fun b => if b = a then some o else H b
theorem upd_same {H : Hp} {a : Addr} {o : HO} : upd H a o a = some o := by unfold upd; rw [if_pos rfl]
theorem upd_ne {H : Hp} {a b : Addr} {o : HO} (h : b ≠ a) : upd H a o b = H b := by unfold upd; rw [if_neg h]
theorem upd_upd {H : Hp} {a : Addr} {o u : HO} : upd (upd H a o) a u = upd H a u := by
  funext b; unfold upd; split <;> rfl
/-- two objects of different content stand apart -/
theorem ne_of {H : Hp} {a b : Addr} {o u : HO} (h : H a = some o) (h' : H b = some u) (d : o ≠ u) : a ≠ b := by
  intro e; subst e; rw [h] at h'; exact d (Option.some.inj h')
theorem ne_of_none {H : Hp} {a b : Addr} {o : HO} (h : H a = some o) (h' : H b = none) : a ≠ b := by
  intro e; subst e; rw [h] at h'; cases h'

section
variable (P : Program) (w : World)
def ObjOk (H : Hp) (h : Heap) (a : Addr) : HO → Prop
  | .lst xs => xs.length ≤ sizeLine ∧ ∃ (its : List Value) (n : Nat), Vals xs its ∧ h.get? a = some { cls := .type "list", data := .seq its.toArray n }
  | .tup xs => xs.length ≤ sizeLine ∧ ∃ its : List Value, Vals xs its ∧ IsTup h a its.toArray
  | .dK kvs => kvs.length ≤ sizeLine ∧ (a == sysModules) = false ∧ ∃ vs, KV kvs vs ∧ h.DictOf (mixKind P w) a vs
  | .dT kvs => kvs.length ≤ sizeLine ∧ (a == sysModules) = false ∧ ∃ xs : List (List Key × Addr × Value),
      Paired (fun (p : List Key × V) (q : List Key × Addr × Value) => p.1 = q.1 ∧ H q.2.1 = some (.tup (p.1.map kV)) ∧ RelV p.2 q.2.2) kvs xs ∧
      ∃ o es ep, h.get? a = some o ∧ o.ExactDict ∧ o.data = .dict es ep ∧ es.toList = xs.map (entryOfKey (tupleKind (mixKind P w))) ∧ (xs.map (·.1)).Nodup
  | .set S n => h.SetOf (intKind P w) a S n
  | .ins C dx fs => H dx = some (.own a) ∧ fs.length ≤ 1000 ∧ dx ≠ a ∧ h.get? a = some (PySem.W.instObj C dx) ∧
      ∃ mA, h.Ns1 dx mA ∧ (∀ f, RelO (fs.lookup f) (mA f)) ∧ PySem.Within mA (fs.map (·.1))
  | .own _ => ∃ o, h.get? a = some o
  | .xd fs => ∃ mA, h.Ns1 a mA ∧ ∀ f, RelO (fs.lookup f) (mA f)
  | .rng lo hi => ∃ t u v, h.get? a = some { cls := .type "range", data := .fields #[.int lo t, .int hi u, .int 1 v] }
  | .frz o u => h.get? a = some o ∧ ObjOk H h a u
  | .tbl ps => h.get? a = some { cls := .none, data := .fields ps }
  | .met f x => h.get? a = some (PySem.W.methodObj (.ref f) (.ref x))
  | .ext φ => φ h ∧ (∃ o, h.get? a = some o) ∧ ∀ h1 h2 : Heap, φ h1 → (∀ o, h1.get? a = some o → h2.get? a = some o) → φ h2
/-- the abstract heap is held -/
def HOk (H : Hp) (h : Heap) : Prop := ∀ a o, H a = some o → ObjOk P w H h a o
end

section
variable {P : Program} {w : World} {H H' : Hp} {h h' : Heap} {a : Addr} {o : HO}
theorem ObjOk.lt (x : ObjOk P w H h a o) : a < h.objs.size := by
  cases o with
  | lst xs => obtain ⟨_, _, _, _, e⟩ := x; exact Heap.lt_size e
  | tup xs => obtain ⟨_, _, _, p⟩ := x; exact p.lt
  | dK kvs => obtain ⟨_, _, _, _, o, _, _, e, _⟩ := x; exact Heap.lt_size e
  | dT kvs => obtain ⟨_, _, _, _, o, _, _, e, _⟩ := x; exact Heap.lt_size e
  | set S n => obtain ⟨o, _, _, _, e, _⟩ := x; exact Heap.lt_size e
  | ins C dx fs => obtain ⟨_, _, _, e, _⟩ := x; exact Heap.lt_size e
  | own y => obtain ⟨_, e⟩ := x; exact Heap.lt_size e
  | xd fs => obtain ⟨_, ⟨_, _, _, e, _⟩, _⟩ := x; exact Heap.lt_size e
  | rng lo hi => obtain ⟨_, _, _, e⟩ := x; exact Heap.lt_size e
  | frz ob u => obtain ⟨e, _⟩ := x; exact Heap.lt_size e
  | tbl ps => exact Heap.lt_size (show h.get? a = some _ from x)
  | met f y => exact Heap.lt_size (show h.get? a = some _ from x)
  | ext φ => obtain ⟨_, ⟨_, e⟩, _⟩ := x; exact Heap.lt_size e
theorem Paired.mapP {α β : Type} {F G : α → β → Prop} : ∀ {l₁ : List α} {l₂ : List β}, Paired F l₁ l₂ → (∀ a b, F a b → G a b) → Paired G l₁ l₂
  | _, _, .nil, _ => .nil
  | _, _, .cons r t, f => .cons (f _ _ r) (Paired.mapP t f)
/-- what an object's description leans on: its own object, its own dict, the tuples -/
theorem ObjOk.stay (x : ObjOk P w H h a o) (k : ∀ b u, (b = a ∨ H b = some (.own a)) → h.get? b = some u → h'.get? b = some u)
    (ho : ∀ b, H b = some (.own a) → H' b = some (.own a)) (ht : ∀ b xs, H b = some (.tup xs) → H' b = some (.tup xs)) : ObjOk P w H' h' a o := by
  induction o with
  | lst xs => obtain ⟨z, its, n, r, e⟩ := x; exact ⟨z, its, n, r, k _ _ (.inl rfl) e⟩
  | tup xs => obtain ⟨z, its, r, ob, e, c⟩ := x; exact ⟨z, its, r, ob, k _ _ (.inl rfl) e, c⟩
  | dK kvs => obtain ⟨z, y, vs, r, ob, es, ep, e, c⟩ := x; exact ⟨z, y, vs, r, ob, es, ep, k _ _ (.inl rfl) e, c⟩
  | dT kvs =>
    obtain ⟨z, y, xs, r, ob, es, ep, e, c⟩ := x
    exact ⟨z, y, xs, Paired.mapP r fun p q z => ⟨z.1, ht _ _ z.2.1, z.2.2⟩, ob, es, ep, k _ _ (.inl rfl) e, c⟩
  | set S n => obtain ⟨ob, es, ep, t, e, c⟩ := x; exact ⟨ob, es, ep, t, k _ _ (.inl rfl) e, c⟩
  | ins C dx fs =>
    obtain ⟨d, z, ne, e, mA, ⟨od, es, ep, e2, c⟩, r⟩ := x
    exact ⟨ho _ d, z, ne, k _ _ (.inl rfl) e, mA, ⟨od, es, ep, k _ _ (.inr d) e2, c⟩, r⟩
  | own y => obtain ⟨ob, e⟩ := x; exact ⟨ob, k _ _ (.inl rfl) e⟩
  | xd fs => obtain ⟨mA, ⟨od, es, ep, e, c⟩, r⟩ := x; exact ⟨mA, ⟨od, es, ep, k _ _ (.inl rfl) e, c⟩, r⟩
  | rng lo hi => obtain ⟨t, u, v, e⟩ := x; exact ⟨t, u, v, k _ _ (.inl rfl) e⟩
  | frz ob u ih => obtain ⟨e, q⟩ := x; exact ⟨k _ _ (.inl rfl) e, ih q⟩
  | tbl ps =>
    have e : h.get? a = some { cls := .none, data := .fields ps } := x
    show h'.get? a = some { cls := .none, data := .fields ps }
    exact k a _ (.inl rfl) e
  | met f y =>
    have e : h.get? a = some (PySem.W.methodObj (.ref f) (.ref y)) := x
    show h'.get? a = some (PySem.W.methodObj (.ref f) (.ref y))
    exact k a _ (.inl rfl) e
  | ext φ => obtain ⟨p, ⟨o, e⟩, st⟩ := x; exact ⟨st _ _ p fun o q => k _ _ (.inl rfl) q, ⟨o, k _ _ (.inl rfl) e⟩, st⟩
theorem HOk.lt (x : HOk P w H h) (e : H a = some o) : a < h.objs.size := (x a o e).lt
theorem HOk.fresh (x : HOk P w H h) (e : h.objs.size ≤ a) : H a = none := by
  cases q : H a with
  | none => rfl
  | some u => exact absurd (Nat.lt_of_lt_of_le (x.lt q) e) (Nat.lt_irrefl _)
/-- every object of the heap is kept -/
theorem HOk.kept (x : HOk P w H h) (k : ∀ b u, h.get? b = some u → h'.get? b = some u) : HOk P w H h' := fun a o e =>
  (x a o e).stay (fun b u _ q => k b u q) (fun _ q => q) fun _ _ q => q
/-- a new object is laid and tracked -/
theorem HOk.laid (x : HOk P w H h) (k : ∀ b u, h.get? b = some u → h'.get? b = some u) (hp : h.objs.size ≤ a) (new : ObjOk P w (upd H a o) h' a o) : HOk P w (upd H a o) h' := fun b u e => by
  have hn := x.fresh hp
  by_cases hb : b = a
  · subst hb; rw [upd_same] at e; cases e; exact new
  · rw [upd_ne hb] at e
    exact (x b u e).stay (fun c v _ q => k c v q) (fun c q => by rw [upd_ne (ne_of_none q hn)]; exact q) fun c xs q => by rw [upd_ne (ne_of_none q hn)]; exact q
end

/-- what may be read as u: it is u, or a known u -/
def Rd (H : Hp) (a : Addr) (u : HO) : Prop := H a = some u ∨ ∃ o, H a = some (.frz o u)
theorem Rd.of {H : Hp} {a : Addr} {u : HO} (h : H a = some u) : Rd H a u := .inl h
theorem Rd.ok {P : Program} {w : World} {H : Hp} {h : Heap} {a : Addr} {u : HO} (r : Rd H a u) (x : HOk P w H h) : ObjOk P w H h a u := by
  rcases r with r | ⟨o, r⟩
  · exact x a u r
  · obtain ⟨_, q⟩ := x a _ r
    exact q
/-- what may be written -/
def Mut : Option HO → Prop
  | some (.lst _) => True
  | some (.dK _) => True
  | some (.dT _) => True
  | some (.set _ _) => True
  | some (.ins _ _ _) => True
  | some (.ext _) => True
  | _ => False
section
variable {P : Program} {w : World} {H : Hp} {h h' : Heap} {x e : Addr} {o' : HO}
/-- the object at e is changed: x itself, or the dict of the instance x -/
theorem HOk.write (ok : HOk P w H h) (mu : Mut (H x)) (he : e = x ∨ H e = some (.own x)) (k : ∀ b u, b ≠ e → h.get? b = some u → h'.get? b = some u) (heo : ∃ u, h'.get? e = some u)
    (new : ObjOk P w (upd H x o') h' x o') : HOk P w (upd H x o') h' := fun b u q => by
  have nown : ∀ c y, H c = some (.own y) → c ≠ x := fun c y r z => by subst z; rw [r] at mu; exact mu
  have ntup : ∀ c xs, H c = some (.tup xs) → c ≠ x := fun c xs r z => by subst z; rw [r] at mu; exact mu
  by_cases hb : b = x
  · subst hb; rw [upd_same] at q; cases q; exact new
  · rw [upd_ne hb] at q
    by_cases hbe : b = e
    · have q' : H b = some (.own x) := by
        rcases he with z | z
        · exact absurd (hbe.trans z) hb
        · rw [hbe]; exact z
      rw [q] at q'; cases q'
      obtain ⟨v, hv⟩ := heo
      exact ⟨v, by rw [hbe]; exact hv⟩
    · refine (ok b u q).stay (fun c v hc r => k c v ?_ r) (fun c r => by rw [upd_ne (nown c b r)]; exact r) fun c xs r => by rw [upd_ne (ntup c xs r)]; exact r
      rcases hc with rfl | hc
      · exact hbe
      · rintro rfl
        rcases he with z | z
        · exact nown c b hc z
        · rw [hc] at z; cases z; exact hb rfl
end

/-! ### kept unless tracked; of the frames at fs (the callers') the slots may change (an exception that passes writes there); of the records at ex (iterators) nothing is said -/
structure Un (fs ex : List Addr) (H H' : Hp) (h h' : Heap) : Prop where
  keep : ∀ b o, h.get? b = some o → H b = none → b ∉ fs → b ∉ ex → h'.get? b = some o
  slot : ∀ b o, h.get? b = some o → H b = none → b ∈ fs → b ∉ ex → ∃ sl, h'.get? b = some { o with slots := sl }
  free : ∀ b o, h.get? b = some o → H b = none → b ∉ ex → H' b = none
  there : ∀ b o, h.get? b = some o → b ∉ ex → ∃ o', h'.get? b = some o'
  tups : ∀ b xs, H b = some (.tup xs) → H' b = some (.tup xs)
  frzs : ∀ b o u, H b = some (.frz o u) → H' b = some (.frz o u)
  tbls : ∀ b ps, H b = some (.tbl ps) → ∃ more, H' b = some (.tbl (ps ++ more))
section
variable {fs fs' ex ex' : List Addr} {H H1 H2 : Hp} {h h1 h2 h' : Heap} {a x e : Addr} {o : HO}
theorem Un.any (u : Un fs ex H H1 h h1) {b : Addr} {ob : Obj} (q : h.get? b = some ob) (n : H b = none) (hx : b ∉ ex) : ∃ sl, h1.get? b = some { ob with slots := sl } := by
  by_cases hb : b ∈ fs
  · exact u.slot b ob q n hb hx
  · exact ⟨ob.slots, u.keep b ob q n hb hx⟩
theorem Un.trans (a : Un fs ex H H1 h h1) (b : Un fs ex H1 H2 h1 h2) : Un fs ex H H2 h h2 where
  keep := fun c ob q n hc hx => b.keep c ob (a.keep c ob q n hc hx) (a.free c ob q n hx) hc hx
  slot := fun c ob q n hc hx => by
    obtain ⟨sl, e1⟩ := a.slot c ob q n hc hx
    obtain ⟨sl', e2⟩ := b.slot c _ e1 (a.free c ob q n hx) hc hx
    exact ⟨sl', e2⟩
  free := fun c ob q n hx => by
    obtain ⟨o', e1⟩ := a.there c ob q hx
    exact b.free c o' e1 (a.free c ob q n hx) hx
  there := fun c ob q hx => by
    obtain ⟨o', e1⟩ := a.there c ob q hx
    exact b.there c o' e1 hx
  tups := fun c xs q => b.tups c xs (a.tups c xs q)
  frzs := fun c ob xs q => b.frzs c ob xs (a.frzs c ob xs q)
  tbls := fun c ps q => by
    obtain ⟨m1, e1⟩ := a.tbls c ps q
    obtain ⟨m2, e2⟩ := b.tbls c _ e1
    exact ⟨m1 ++ m2, by rw [e2, Array.append_assoc]⟩
theorem Un.kept (k : ∀ b u, h.get? b = some u → h'.get? b = some u) : Un fs ex H H h h' :=
  ⟨fun b ob q _ _ _ => k b ob q, fun b ob q _ _ _ => ⟨ob.slots, k b ob q⟩, fun _ _ _ n _ => n, fun b ob q _ => ⟨ob, k b ob q⟩, fun _ _ q => q, fun _ _ _ q => q, fun _ ps q => ⟨#[], by rw [q]; simp⟩⟩
theorem Un.refl : Un fs ex H H h h := Un.kept fun _ _ q => q
theorem Un.laid (k : ∀ b u, h.get? b = some u → h'.get? b = some u) (hp : h.objs.size ≤ a) (hn : H a = none) : Un fs ex H (upd H a o) h h' where
  keep := fun b u q _ _ _ => k b u q
  slot := fun b u q _ _ _ => ⟨u.slots, k b u q⟩
  free := fun b u q n _ => by rw [upd_ne (Nat.ne_of_lt (Nat.lt_of_lt_of_le (Heap.lt_size q) hp))]; exact n
  there := fun b u q _ => ⟨u, k b u q⟩
  tups := fun b xs q => by rw [upd_ne (ne_of_none q hn)]; exact q
  frzs := fun b u xs q => by rw [upd_ne (ne_of_none q hn)]; exact q
  tbls := fun b ps q => ⟨#[], by rw [upd_ne (ne_of_none q hn), q]; simp⟩
theorem Un.write (mu : Mut (H x)) (he : e = x ∨ H e = some (.own x)) (k : ∀ b u, b ≠ e → h.get? b = some u → h'.get? b = some u) (heo : ∃ u, h'.get? e = some u) : Un fs ex H (upd H x o) h h' := by
  have hx : ∀ b, H b = none → b ≠ x := fun b n z => by subst z; rw [n] at mu; exact mu
  have hb : ∀ b, H b = none → b ≠ e := fun b n z => by
    subst z
    rcases he with r | r
    · exact hx b n r
    · rw [n] at r; cases r
  have hm : ∀ b u, H b = some u → ¬ Mut (some u) → b ≠ x := fun b u q nm z => by subst z; rw [q] at mu; exact nm mu
  refine ⟨fun b u q n _ _ => k b u (hb b n) q, fun b u q n _ _ => ⟨u.slots, k b u (hb b n) q⟩, fun b u q n _ => by rw [upd_ne (hx b n)]; exact n, fun b u q _ => ?_,
    fun b xs q => by rw [upd_ne (hm b _ q fun z => z)]; exact q, fun b u xs q => by rw [upd_ne (hm b _ q fun z => z)]; exact q, fun b ps q => ⟨#[], by rw [upd_ne (hm b _ q fun z => z), q]; simp⟩⟩
  by_cases hbe : b = e
  · subst hbe; exact heo
  · exact ⟨u, k b u hbe q⟩
theorem Un.mono (u : Un fs ex H H1 h h1) (hs : ∀ b ∈ fs, b ∈ fs') (hx : ∀ b ∈ ex, b ∈ ex') : Un fs' ex' H H1 h h1 :=
  ⟨fun b ob q n hb he => u.keep b ob q n (fun z => hb (hs b z)) fun z => he (hx b z), fun _ _ q n _ he => u.any q n fun z => he (hx _ z), fun b ob q n he => u.free b ob q n fun z => he (hx b z), fun b ob q he => u.there b ob q fun z => he (hx b z), u.tups, u.frzs, u.tbls⟩
end

/-! ### the heap without what is tracked -/
def trk (h : Heap) (H : Hp) : List Addr := (List.range h.objs.size).filter fun a => (H a).isSome
def hidT (h : Heap) (H : Hp) : Heap := PySem.W.hideAll h (trk h H)
theorem hidT_size (h : Heap) (H : Hp) : (hidT h H).objs.size = h.objs.size := PySem.W.hideAll_size _ _
theorem hidT_get {h : Heap} {H : Hp} {b : Addr} {o : Obj} (e : h.get? b = some o) (n : H b = none) : (hidT h H).get? b = some o :=
  PySem.W.hideAll_get _ e fun hm => by
    have q : (H b).isSome = true := (List.mem_filter.mp hm).2
    rw [n] at q; simp at q
theorem of_hidT {h : Heap} {H : Hp} {b : Addr} {o : Obj} (e : (hidT h H).get? b = some o) : h.get? b = some o ∧ H b = none := by
  have e' : h.get? b = some o := PySem.W.of_hideAll (trk h H) e
  refine ⟨e', ?_⟩
  cases q : H b with
  | none => rfl
  | some x =>
    have hm : b ∈ trk h H := List.mem_filter.mpr ⟨List.mem_range.mpr (Heap.lt_size e'), by simp [q]⟩
    have z : (hidT h H).get? b = none := PySem.W.hideAll_none (trk h H) hm
    rw [z] at e; cases e

/-! ### OpenK's ledger, filled with every new object but one -/
def allNews (g h : Heap) (L : Addr) : List (Addr × Obj) := (List.range h.objs.size).filterMap fun a => if a = L ∨ (g.get? a).isSome = true then none else (h.get? a).map fun o => (a, o)
def rest (g h : Heap) (L d : Addr) : List (Addr × Obj) := (allNews g h L).filter fun p => decide (p.1 ≠ d)
end L2

namespace L2
open PySem PySem.Spec PyProof.Rows

/-- the module's facts, over the base: the heap at the law's entry without what is tracked there -/
structure Mod (K : PySem.W.Frag) (mg : Str → Option Value) (base : Heap) : Prop where
  kin : K.In base
  glob : base.Ns mainGlobals mg
  blt : ∃ mb, base.Ns builtinsNs mb ∧ ∀ x : Str, x ≠ "__name__" → mb x = bootBuiltins x
  nolimit : base.NoLimit

/-- the context: a def's body (or a comprehension's block) running. base: fixed through the whole law; s₀, H₀: the entry; outer: the frames whose slots others may change (a def's callers); stack: all frames that run;
   ex: iterators that were made ahead of the entry and are walked here (a comprehension's); fn: the names whose cells were made at the entry (a def: all; a comprehension's block: its own); calm: not within an except suite; pn: pins that every state bears; xe: what is wanted of an exception that leaves the code -/
structure Cx where
  prog : Program
  w : World
  K : PySem.W.Frag
  mg : Str → Option Value
  base : Heap
  A : Around
  N : List Str
  s₀ : Shared
  H₀ : Hp
  env : Env
  outer : List Env
  stack : List Env
  ex : List Addr
  fn : Str → Bool
  calm : Bool
  pn : List (Addr × Obj)
  xe : Value → Shared → Prop
/-- the callers' frames -/
def frs (l : List Env) : List Addr := l.filterMap (·.frame)
abbrev Cx.fs (X : Cx) : List Addr := frs X.outer

def Vis (sc : Scope) (x : Str) : Prop := sc.names.lookup x = some .local ∨ sc.names.lookup x = some .cell ∨ sc.names.lookup x = some .free
def Loc (sc : Scope) (x : Str) : Prop := sc.names.lookup x = some .local ∨ sc.names.lookup x = some .cell
def Look (env : Env) (h : Heap) (m : Str → Option Value) (x : Str) (u : Value) : Prop :=
  (env.kindOf x = some .local ∧ m x = some u) ∨ ((env.kindOf x = some .cell ∨ env.kindOf x = some .free) ∧ ∃ c, env.cells.lookup x = some c ∧ h.IsCell c (some u))

structure Cx.Ok (X : Cx) : Prop where
  mod : Mod X.K X.mg X.base
  kind : X.env.scope.kind = .function
  glob : X.env.globals = mainGlobals
  blt : X.env.builtins = builtinsNs
  above : X.s₀.heap.objs.size ≤ X.env.locals
  inj : ∀ x y c, X.env.cells.lookup x = some c → X.env.cells.lookup y = some c → x = y
  has : ∀ x, (X.env.kindOf x = some .cell ∨ X.env.kindOf x = some .free) → ∃ c, X.env.cells.lookup x = some c
  cab : ∀ x c, X.fn x = true → X.env.cells.lookup x = some c → X.s₀.heap.objs.size ≤ c
  hd : X.calm = true → X.A.handled = none
  frames : X.A.frames = some X.stack
  stk : X.stack = X.outer ∨ (X.stack = X.env :: X.outer ∧ X.env.frame = some X.env.locals)
  exf : ∀ b ∈ X.ex, b ≠ X.env.locals ∧ ∀ x c, X.env.cells.lookup x = some c → c ≠ b
  bs : ∀ b o, X.base.get? b = some o → X.s₀.heap.get? b = some o ∧ X.H₀ b = none
  bsz : X.base.objs.size ≤ X.s₀.heap.objs.size
  noex : ∀ b o, X.base.get? b = some o → b ∉ X.ex
  exfs : ∀ b ∈ X.ex, b ∉ X.fs
  funs : X.s₀.heap.FunFrames X.base X.outer
  frf : ∀ b ∈ X.fs, X.H₀ b = none

structure Inv (X : Cx) (pins : List (Addr × Obj)) (σ : List (Option V)) (H : Hp) (s : Shared) : Prop where
  ok : X.Ok
  os : s.os = X.s₀.os
  bare : AllBare s.gens
  base : Un X.fs X.ex X.H₀ H X.s₀.heap s.heap
  loc : ∃ m, s.heap.Ns X.env.locals m ∧ ∀ (i : Nat) (x : Str) (v : V), X.N[i]? = some x → σ[i]? = some (some v) → Vis X.env.scope x → ∃ u, RelV v u ∧ Look X.env s.heap m x u
  cell : ∀ x c, X.env.cells.lookup x = some c → ∃ v, s.heap.IsCell c v
  free : H X.env.locals = none
  freeC : ∀ x c, X.env.cells.lookup x = some c → H c = none
  pin : ∀ p ∈ X.pn ++ pins, s.heap.get? p.1 = some p.2 ∧ H p.1 = none ∧ p.1 ≠ X.env.locals ∧ p.1 ∉ X.fs ∧ ∀ v, p.2.data ≠ .cell v
  hok : HOk X.prog X.w H s.heap
  len : σ.length = X.N.length

section
variable {X : Cx} {pins : List (Addr × Obj)} {σ : List (Option V)} {H H' : Hp} {s : Shared} {h' : Heap}

theorem Cx.Ok.nofr (ok : X.Ok) {b : Addr} {o : Obj} (e : X.base.get? b = some o) : b ∉ X.fs := fun hb => by
  have := (ok.funs.mem hb).1
  rw [e] at this; cases this
theorem Inv.bs (I : Inv X pins σ H s) : ∀ b o, X.base.get? b = some o → s.heap.get? b = some o ∧ H b = none := fun b o e =>
  ⟨I.base.keep b o (I.ok.bs b o e).1 (I.ok.bs b o e).2 (I.ok.nofr e) (I.ok.noex b o e), I.base.free b o (I.ok.bs b o e).1 (I.ok.bs b o e).2 (I.ok.noex b o e)⟩
theorem Inv.bk (I : Inv X pins σ H s) : ∀ b o, X.base.get? b = some o → s.heap.get? b = some o := fun b o e => (I.bs b o e).1
theorem Inv.mod (I : Inv X pins σ H s) : Mod X.K X.mg X.base := I.ok.mod
theorem Inv.kIn (I : Inv X pins σ H s) : X.K.In s.heap := I.ok.mod.kin.keeps I.bk
theorem Inv.nolimit (I : Inv X pins σ H s) : s.heap.NoLimit := I.ok.mod.nolimit.keeps I.bk
/-- the frame over the base: for OpenK's rules (K.In X.base is I.mod.kin) -/
theorem Inv.fr (I : Inv X pins σ H s) : ∃ m, Fr X.base X.env.locals s.heap m :=
  let ⟨m, hn, _⟩ := I.loc
  ⟨m, hn, I.bk, Nat.le_trans I.ok.bsz I.ok.above⟩
theorem Inv.lt (I : Inv X pins σ H s) : X.env.locals < s.heap.objs.size := let ⟨_, hn, _⟩ := I.loc; hn.lt
theorem Inv.sz (I : Inv X pins σ H s) : X.s₀.heap.objs.size ≤ s.heap.objs.size := Nat.le_trans I.ok.above (Nat.le_of_lt I.lt)
theorem Inv.nofs (I : Inv X pins σ H s) {a : Addr} (h : s.heap.objs.size ≤ a) : a ∉ X.fs := fun hb => by
  obtain ⟨_, o, ho, _⟩ := I.ok.funs.mem hb
  exact absurd (Nat.lt_of_lt_of_le (Heap.lt_size ho) (Nat.le_trans I.sz h)) (Nat.lt_irrefl _)
theorem Inv.cne (I : Inv X pins σ H s) : ∀ x c, X.env.cells.lookup x = some c → c ≠ X.env.locals := fun x c e z => by
  obtain ⟨v, o, ho, hd⟩ := I.cell x c e
  obtain ⟨m, ⟨o', es, ep, ho', hd', _⟩, _⟩ := I.loc
  rw [z, ho'] at ho; cases ho; rw [hd'] at hd; cases hd
theorem Inv.funs (I : Inv X pins σ H s) : s.heap.FunFrames X.base X.outer := by
  have all : ∀ (l : List Env), (∀ b ∈ frs l, b ∈ X.fs) → X.s₀.heap.FunFrames X.base l → s.heap.FunFrames X.base l := by
    intro l
    induction l with
    | nil => intro _ _; trivial
    | cons env r ih =>
      intro hs hl
      obtain ⟨hk, ⟨L, o, hf, hn, ho, hd⟩, hr⟩ := hl
      have hL : L ∈ X.fs := hs L (by unfold frs; rw [List.filterMap_cons, hf]; exact List.mem_cons_self)
      obtain ⟨sl, e⟩ := I.base.slot L o ho (I.ok.frf L hL) hL fun z => I.ok.exfs L z hL
      exact ⟨hk, ⟨L, _, hf, hn, e, hd⟩, ih (fun b hb => hs b (by unfold frs; rw [List.filterMap_cons, hf]; exact List.mem_cons_of_mem _ hb)) hr⟩
  exact all X.outer (fun _ hb => hb) I.ok.funs

/-- the frames that run, for a call -/
theorem Inv.stack (I : Inv X pins σ H s) : s.heap.FunFrames X.base X.stack := by
  rcases I.ok.stk with e | ⟨e, hf⟩
  · rw [e]; exact I.funs
  · rw [e]
    obtain ⟨m, hn, _⟩ := I.loc
    refine .cons (by rw [I.ok.kind]; decide) hf hn ?_ I.funs
    exact Heap.get?_none_of_le (Nat.le_trans I.ok.bsz I.ok.above)
theorem Inv.stkSub (I : Inv X pins σ H s) : ∀ b ∈ frs X.stack, b ∈ X.env.locals :: X.fs := fun b hb => by
  rcases I.ok.stk with e | ⟨e, hf⟩
  · rw [e] at hb; exact List.mem_cons_of_mem _ hb
  · rw [e] at hb
    unfold frs at hb
    rw [List.filterMap_cons, hf] at hb
    exact hb
theorem Inv.stkFree (I : Inv X pins σ H s) : ∀ b ∈ frs X.stack, H b = none := fun b hb => by
  rcases List.mem_cons.mp (I.stkSub b hb) with e | hb
  · rw [e]; exact I.free
  · obtain ⟨_, o, ho, _⟩ := I.ok.funs.mem hb
    exact I.base.free b o ho (I.ok.frf b hb) fun z => I.ok.exfs b z hb

/-- THE STEP: the untracked objects but the frame and the records at ch are kept (the callers' frames up to slots), the frame's map is kept, the new abstract heap is held -/
theorem Inv.step {g' : Array GenState} {t' : Nat} {d' : Drawn} {ch : List Addr} (I : Inv X pins σ H s)
    (hch : ∀ b ∈ ch, (b ∈ X.ex ∨ X.s₀.heap.objs.size ≤ b) ∧ b ≠ X.env.locals ∧ (∀ x c, X.env.cells.lookup x = some c → c ≠ b) ∧ ∀ p ∈ X.pn ++ pins, p.1 ≠ b)
    (keep : ∀ b o, b ≠ X.env.locals → b ∉ X.fs → b ∉ ch → s.heap.get? b = some o → H b = none → h'.get? b = some o)
    (slot : ∀ b o, b ≠ X.env.locals → b ∈ X.fs → b ∉ ch → s.heap.get? b = some o → H b = none → ∃ sl, h'.get? b = some { o with slots := sl }) (free : ∀ b o, b ∉ ch → s.heap.get? b = some o → H b = none → H' b = none)
    (there : ∀ b o, b ∉ ch → s.heap.get? b = some o → ∃ o', h'.get? b = some o')
    (tups : ∀ b xs, H b = some (.tup xs) → H' b = some (.tup xs)) (frzs : ∀ b o u, H b = some (.frz o u) → H' b = some (.frz o u)) (tbls : ∀ b ps, H b = some (.tbl ps) → ∃ more, H' b = some (.tbl (ps ++ more)))
    (ns : ∀ m, s.heap.Ns X.env.locals m → h'.Ns X.env.locals m) (hok : HOk X.prog X.w H' h') (hg : AllBare g') :
    Inv X pins σ H' { s with heap := h', gens := g', drawn := d', toks := t' } := by
  have neL : ∀ b o, X.s₀.heap.get? b = some o → b ≠ X.env.locals := fun b o e => Nat.ne_of_lt (Nat.lt_of_lt_of_le (Heap.lt_size e) I.ok.above)
  have neC : ∀ b o, X.s₀.heap.get? b = some o → b ∉ X.ex → b ∉ ch := fun b o e hx hb => by
    rcases (hch b hb).1 with z | z
    · exact hx z
    · exact absurd (Nat.lt_of_lt_of_le (Heap.lt_size e) z) (Nat.lt_irrefl _)
  have cellK : ∀ x c, X.env.cells.lookup x = some c → ∀ v, s.heap.IsCell c v → h'.IsCell c v := fun x c e v ⟨o, ho, hd⟩ => by
    have nch : c ∉ ch := fun z => (hch c z).2.2.1 x c e rfl
    by_cases hc : c ∈ X.fs
    · obtain ⟨sl, q⟩ := slot c o (I.cne x c e) hc nch ho (I.freeC x c e)
      exact ⟨_, q, hd⟩
    · exact ⟨o, keep c o (I.cne x c e) hc nch ho (I.freeC x c e), hd⟩
  refine ⟨I.ok, I.os, hg, ⟨fun b o e n hb hx => ?_, fun b o e n hb hx => ?_, fun b o e n hx => ?_, fun b o e hx => ?_, fun b xs e => tups b xs (I.base.tups b xs e), fun b o xs e => frzs b o xs (I.base.frzs b o xs e), fun b ps e => ?_⟩, ?_, fun x c e => ?_, ?_, fun x c e => ?_, fun p hp => ?_, hok, I.len⟩
  · exact keep b o (neL b o e) hb (neC b o e hx) (I.base.keep b o e n hb hx) (I.base.free b o e n hx)
  · obtain ⟨sl, e1⟩ := I.base.slot b o e n hb hx
    obtain ⟨sl', e2⟩ := slot b _ (neL b o e) hb (neC b o e hx) e1 (I.base.free b o e n hx)
    exact ⟨sl', e2⟩
  · obtain ⟨o', e1⟩ := I.base.there b o e hx
    exact free b o' (neC b o e hx) e1 (I.base.free b o e n hx)
  · obtain ⟨o', e1⟩ := I.base.there b o e hx
    exact there b o' (neC b o e hx) e1
  · obtain ⟨m1, e1⟩ := I.base.tbls b ps e
    obtain ⟨m2, e2⟩ := tbls b _ e1
    exact ⟨m1 ++ m2, by rw [e2, Array.append_assoc]⟩
  · obtain ⟨m, hn, hl⟩ := I.loc
    refine ⟨m, ns m hn, fun i x v e1 e2 e3 => ?_⟩
    obtain ⟨u, r, l⟩ := hl i x v e1 e2 e3
    refine ⟨u, r, ?_⟩
    rcases l with l | ⟨k, c, e, z⟩
    · exact .inl l
    · exact .inr ⟨k, c, e, cellK x c e _ z⟩
  · obtain ⟨v, z⟩ := I.cell x c e
    exact ⟨v, cellK x c e v z⟩
  · obtain ⟨m, ⟨o, _, _, ho, _⟩, _⟩ := I.loc
    exact free _ o (fun z => (hch _ z).2.1 rfl) ho I.free
  · obtain ⟨v, o, ho, hd⟩ := I.cell x c e
    exact free c o (fun z => (hch c z).2.2.1 x c e rfl) ho (I.freeC x c e)
  · obtain ⟨e, n, ne, nf, d⟩ := I.pin p hp
    have nch : p.1 ∉ ch := fun z => (hch p.1 z).2.2.2 p hp rfl
    exact ⟨keep p.1 p.2 ne nf nch e n, free p.1 p.2 nch e n, ne, nf, d⟩
/-- .. where the frame's own object is kept too -/
theorem Inv.un {t' : Nat} (I : Inv X pins σ H s) (u : Un X.fs [] H H' s.heap h') (hok : HOk X.prog X.w H' h') : Inv X pins σ H' { s with heap := h', toks := t' } := by
  obtain ⟨m, ⟨o, es, ep, ho, r⟩, _⟩ := id I.loc
  obtain ⟨sl, hL⟩ := u.any ho I.free (by simp)
  exact I.step (g' := s.gens) (d' := s.drawn) (ch := []) (fun _ z => nomatch z) (fun b o _ hb _ e n => u.keep b o e n hb (by simp)) (fun b o _ hb _ e n => u.slot b o e n hb (by simp)) (fun b o _ e n => u.free b o e n (by simp)) (fun b o _ e => u.there b o e (by simp)) u.tups u.frzs u.tbls (fun m' hm => by
    obtain ⟨o', es', ep', ho', r'⟩ := hm
    rw [ho] at ho'; cases ho'
    exact ⟨_, es', ep', hL, r'⟩) hok I.bare
/-- behind a call (or a comprehension's block): the slots of this frame may have changed too, the records at ch may have turned -/
theorem Inv.call {g' : Array GenState} {t' : Nat} {d' : Drawn} {ch : List Addr} (I : Inv X pins σ H s) (u : Un (frs X.stack) ch H H' s.heap h') (hok : HOk X.prog X.w H' h') (hg : AllBare g')
    (hch : ∀ b ∈ ch, (b ∈ X.ex ∨ X.s₀.heap.objs.size ≤ b) ∧ b ≠ X.env.locals ∧ (∀ x c, X.env.cells.lookup x = some c → c ≠ b) ∧ ∀ p ∈ X.pn ++ pins, p.1 ≠ b) :
    Inv X pins σ H' { s with heap := h', gens := g', drawn := d', toks := t' } := by
  obtain ⟨m, ⟨o, es, ep, ho, r⟩, _⟩ := id I.loc
  obtain ⟨sl, hL⟩ := u.any ho I.free fun z => (hch _ z).2.1 rfl
  exact I.step (ch := ch) hch (fun b o hL hb hc e n => u.keep b o e n (fun z => (List.mem_cons.mp (I.stkSub b z)).elim hL hb) hc) (fun b o _ _ hc e n => u.any e n hc) (fun b o hc e n => u.free b o e n hc) (fun b o hc e => u.there b o e hc) u.tups u.frzs u.tbls (fun m' hm => by
    obtain ⟨o', es', ep', ho', r'⟩ := hm
    rw [ho] at ho'; cases ho'
    exact ⟨_, es', ep', hL, r'⟩) hok hg
/-- an untracked record of ours (an iterator) has turned -/
theorem Inv.turned {t' : Nat} {it : Addr} (I : Inv X pins σ H s) (k : ∀ b o, b ≠ it → s.heap.get? b = some o → h'.get? b = some o) (hn : H it = none) (hL : it ≠ X.env.locals)
    (h1 : it ∈ X.ex ∨ X.s₀.heap.objs.size ≤ it) (h2 : ∀ x c, X.env.cells.lookup x = some c → c ≠ it) (h3 : ∀ p ∈ X.pn ++ pins, p.1 ≠ it) : Inv X pins σ H { s with heap := h', toks := t' } := by
  have nit : ∀ b u, H b = some u → b ≠ it := fun b u e z => by rw [z, hn] at e; cases e
  refine I.step (g' := s.gens) (d' := s.drawn) (ch := [it]) (fun b hb => ?_) (fun b o _ _ hc e _ => k b o (fun z => hc (by simp [z])) e) (fun b o _ _ hc e _ => ⟨o.slots, k b o (fun z => hc (by simp [z])) e⟩) (fun _ _ _ _ n => n)
    (fun b o hc e => ⟨o, k b o (fun z => hc (by simp [z])) e⟩) (fun _ _ e => e) (fun _ _ _ e => e) (fun b ps e => ⟨#[], by rw [e]; simp⟩) (fun m hm => ?_) (fun b u e => ?_) I.bare
  · have e : b = it := by simpa using hb
    subst e
    exact ⟨h1, hL, h2, h3⟩
  · obtain ⟨o, es, ep, ho, r⟩ := hm
    exact ⟨o, es, ep, k _ o (Ne.symm hL) ho, r⟩
  · refine (I.hok b u e).stay (fun c v hc q => k c v ?_ q) (fun _ q => q) fun _ _ q => q
    rcases hc with z | z
    · rw [z]; exact nit b u e
    · exact nit c _ z
theorem Inv.tok (I : Inv X pins σ H s) (t : Nat) : Inv X pins σ H { s with toks := t } := I.un (h' := s.heap) (t' := t) Un.refl I.hok
/-- all objects kept -/
theorem Inv.kept {t' : Nat} (I : Inv X pins σ H s) (k : ∀ b u, s.heap.get? b = some u → h'.get? b = some u) : Inv X pins σ H { s with heap := h', toks := t' } := I.un (Un.kept k) (I.hok.kept k)
/-- a new object laid and tracked -/
theorem Inv.laid {a : Addr} {o : HO} {t' : Nat} (I : Inv X pins σ H s) (k : ∀ b u, s.heap.get? b = some u → h'.get? b = some u) (hp : s.heap.objs.size ≤ a) (new : ObjOk X.prog X.w (upd H a o) h' a o) :
    Inv X pins σ (upd H a o) { s with heap := h', toks := t' } := I.un (Un.laid k hp (I.hok.fresh hp)) (I.hok.laid k hp new)
/-- an object written -/
theorem Inv.write {x e : Addr} {o : HO} {t' : Nat} (I : Inv X pins σ H s) (mu : Mut (H x)) (he : e = x ∨ H e = some (.own x)) (k : ∀ b u, b ≠ e → s.heap.get? b = some u → h'.get? b = some u) (heo : ∃ u, h'.get? e = some u)
    (new : ObjOk X.prog X.w (upd H x o) h' x o) : Inv X pins σ (upd H x o) { s with heap := h', toks := t' } := I.un (Un.write mu he k heo) (I.hok.write mu he k heo new)
theorem Inv.pins_of {pins' : List (Addr × Obj)} (I : Inv X pins σ H s) (h : ∀ p ∈ pins', s.heap.get? p.1 = some p.2 ∧ H p.1 = none ∧ p.1 ≠ X.env.locals ∧ p.1 ∉ X.fs ∧ ∀ v, p.2.data ≠ .cell v) : Inv X pins' σ H s :=
  ⟨I.ok, I.os, I.bare, I.base, I.loc, I.cell, I.free, I.freeC, fun p hp => (List.mem_append.mp hp).elim (fun z => I.pin p (List.mem_append_left _ z)) (h p), I.hok, I.len⟩

theorem nodup_ix {N : List Str} (hN : N.Nodup) {i j : Nat} {x : Str} (a : N[i]? = some x) (b : N[j]? = some x) : i = j := by
  obtain ⟨h1, e1⟩ := List.getElem?_eq_some_iff.mp a
  obtain ⟨h2, e2⟩ := List.getElem?_eq_some_iff.mp b
  exact (List.getElem_inj hN).mp (e1.trans e2.symm)

/-- a name is stored; what changed -/
theorem store_ok2 {M : Model} {A : Around} {E : Value → Shared → Prop} {i : Nat} {x : Str} {v : V} {u : Value} {Q : Unit → Shared → Prop} (I : Inv X pins σ H s) (hN : X.N.Nodup) (hi : X.N[i]? = some x) (hx : Loc X.env.scope x) (r : RelV v u)
    (h : ∀ s', Inv X pins (σ.set i (some v)) H s' → (∃ a, Heap.SameBut a s.heap s'.heap ∧ (a = X.env.locals ∨ X.env.cells.lookup x = some a)) → Q () s') (hf : X.fn x = true ∨ X.env.scope.names.lookup x = some .local := by first | exact .inl rfl | exact .inr rfl | assumption) : wpAny M A (storeName X.env x u) Q E s := by
  obtain ⟨m, hn, hl⟩ := id I.loc
  have hcls : (X.env.scope.kind == .class || (X.env.scope.kind == .module && X.env.locals != X.env.globals)) = false := by rw [I.ok.kind]; rfl
  have hiσ : i < σ.length := by rw [I.len]; exact (List.getElem?_eq_some_iff.mp hi).1
  have cne := I.cne
  have tracked : ∀ {a : Addr} {h' : Heap}, (∃ o, s.heap.get? a = some o ∧ H a = none) → Heap.SameBut a s.heap h' → HOk X.prog X.w H h' := fun {a h'} ha hs b ob e => by
    obtain ⟨_, _, hfree⟩ := ha
    refine (I.hok b ob e).stay (fun c w' hc q => (hs.2 c ?_).trans q) (fun _ q => q) fun _ _ q => q
    rintro rfl
    rcases hc with rfl | hc
    · rw [hfree] at e; cases e
    · rw [hfree] at hc; cases hc
  rcases hx with hk | hk
  · refine wpAny_storeName_local hk hn (fun h' hn' hs => ?_) hcls
    obtain ⟨oL, _, _, hoL, _⟩ := id hn
    refine h _ ⟨I.ok, I.os, I.bare, ⟨fun b o e n hb hx => ?_, fun b o e n hb hx => ?_, I.base.free, fun b o e hx => ?_, I.base.tups, I.base.frzs, I.base.tbls⟩, ⟨_, hn', fun j y v' e1 e2 e3 => ?_⟩, fun y c e => ?_, I.free, I.freeC, fun p hp => ?_, tracked ⟨oL, hoL, I.free⟩ hs, by simpa using I.len⟩ ⟨_, hs, .inl rfl⟩
    · exact (hs.2 b (Nat.ne_of_lt (Nat.lt_of_lt_of_le (Heap.lt_size e) I.ok.above))).trans (I.base.keep b o e n hb hx)
    · obtain ⟨sl, e1⟩ := I.base.slot b o e n hb hx
      exact ⟨sl, (hs.2 b (Nat.ne_of_lt (Nat.lt_of_lt_of_le (Heap.lt_size e) I.ok.above))).trans e1⟩
    · obtain ⟨o', e1⟩ := I.base.there b o e hx
      exact ⟨o', (hs.2 b (Nat.ne_of_lt (Nat.lt_of_lt_of_le (Heap.lt_size e) I.ok.above))).trans e1⟩
    · by_cases hj : j = i
      · subst hj
        rw [hi] at e1; cases e1
        rw [List.getElem?_set_self hiσ] at e2
        cases e2
        exact ⟨u, r, .inl ⟨hk, by simp⟩⟩
      · rw [List.getElem?_set_ne (Ne.symm hj)] at e2
        obtain ⟨u', r', q⟩ := hl j y v' e1 e2 e3
        refine ⟨u', r', ?_⟩
        rcases q with ⟨k, e⟩ | ⟨k, c, e, z⟩
        · refine .inl ⟨k, ?_⟩
          have : y ≠ x := fun e => hj (nodup_ix hN e1 (e ▸ hi))
          simp [this, e]
        · exact .inr ⟨k, c, e, z.sameBut hs (cne y c e)⟩
    · obtain ⟨w', z⟩ := I.cell y c e
      exact ⟨w', z.sameBut hs (cne y c e)⟩
    · obtain ⟨e, n, ne, nf, d⟩ := I.pin p hp
      exact ⟨(hs.2 p.1 ne).trans e, n, ne, nf, d⟩
  · have hfn : X.fn x = true := by
      rcases hf with z | z
      · exact z
      · rw [z] at hk; cases hk
    obtain ⟨c, hc⟩ := I.ok.has x (.inl hk)
    obtain ⟨w', z⟩ := I.cell x c hc
    refine wpAny_storeName_cell I.ok.kind hk hc z (fun h' hc' hs => ?_)
    obtain ⟨oc, hoc, hocd⟩ := id z
    refine h { s with heap := h' } ⟨I.ok, I.os, I.bare, ⟨fun b o e n hb hx => ?_, fun b o e n hb hx => ?_, I.base.free, fun b o e hx => ?_, I.base.tups, I.base.frzs, I.base.tbls⟩, ⟨m, hn.sameBut hs (Ne.symm (cne x c hc)), fun j y v' e1 e2 e3 => ?_⟩, fun y c' e => ?_, I.free, I.freeC, fun p hp => ?_, tracked ⟨oc, hoc, I.freeC x c hc⟩ hs, by simpa using I.len⟩ ⟨c, hs, .inr hc⟩
    · exact (hs.2 b (Nat.ne_of_lt (Nat.lt_of_lt_of_le (Heap.lt_size e) (I.ok.cab x c hfn hc)))).trans (I.base.keep b o e n hb hx)
    · obtain ⟨sl, e1⟩ := I.base.slot b o e n hb hx
      exact ⟨sl, (hs.2 b (Nat.ne_of_lt (Nat.lt_of_lt_of_le (Heap.lt_size e) (I.ok.cab x c hfn hc)))).trans e1⟩
    · obtain ⟨o', e1⟩ := I.base.there b o e hx
      exact ⟨o', (hs.2 b (Nat.ne_of_lt (Nat.lt_of_lt_of_le (Heap.lt_size e) (I.ok.cab x c hfn hc)))).trans e1⟩
    · by_cases hj : j = i
      · subst hj
        rw [hi] at e1; cases e1
        rw [List.getElem?_set_self hiσ] at e2
        cases e2
        exact ⟨u, r, .inr ⟨.inl hk, c, hc, hc'⟩⟩
      · rw [List.getElem?_set_ne (Ne.symm hj)] at e2
        obtain ⟨u', r', q⟩ := hl j y v' e1 e2 e3
        refine ⟨u', r', ?_⟩
        rcases q with q | ⟨k, c', e, z'⟩
        · exact .inl q
        · refine .inr ⟨k, c', e, z'.sameBut hs ?_⟩
          rintro rfl
          exact hj (nodup_ix hN e1 (I.ok.inj _ _ _ e hc ▸ hi))
    · by_cases hcc : c' = c
      · subst hcc; exact ⟨_, hc'⟩
      · obtain ⟨w2, z2⟩ := I.cell y c' e
        exact ⟨w2, z2.sameBut hs hcc⟩
    · obtain ⟨e, n, ne, nf, d⟩ := I.pin p hp
      refine ⟨(hs.2 p.1 ?_).trans e, n, ne, nf, d⟩
      intro q
      rw [q, hoc] at e
      have q' : oc = p.2 := Option.some.inj e
      exact d w' (by rw [← q']; exact hocd)
theorem store_ok {M : Model} {A : Around} {E : Value → Shared → Prop} {i : Nat} {x : Str} {v : V} {u : Value} {Q : Unit → Shared → Prop} (I : Inv X pins σ H s) (hN : X.N.Nodup) (hi : X.N[i]? = some x) (hx : Loc X.env.scope x) (r : RelV v u)
    (h : ∀ s', Inv X pins (σ.set i (some v)) H s' → Q () s') (hf : X.fn x = true ∨ X.env.scope.names.lookup x = some .local := by first | exact .inl rfl | exact .inr rfl | assumption) : wpAny M A (storeName X.env x u) Q E s :=
  store_ok2 I hN hi hx r (fun s' I' _ => h s' I') hf
/-- behind a call or a block, the state as it is -/
theorem Inv.call' {s' : Shared} {ch : List Addr} (I : Inv X pins σ H s) (ho : s'.os = s.os) (u : Un (frs X.stack) ch H H' s.heap s'.heap) (hok : HOk X.prog X.w H' s'.heap) (hg : AllBare s'.gens)
    (hch : ∀ b ∈ ch, (b ∈ X.ex ∨ X.s₀.heap.objs.size ≤ b) ∧ b ≠ X.env.locals ∧ (∀ x c, X.env.cells.lookup x = some c → c ≠ b) ∧ ∀ p ∈ X.pn ++ pins, p.1 ≠ b) : Inv X pins σ H' s' := by
  obtain ⟨h', g', d', t', o'⟩ := s'
  have e : o' = s.os := ho
  subst e
  exact I.call (g' := g') (t' := t') (d' := d') u hok hg hch
end

/-! ### the judgements -/
/-- an exception: its class, its own dict's address (where it has one), the abstract heap behind it -/
abbrev XK := Value → Option Addr → Hp → Prop
abbrev St := List (Option V)
abbrev VK := V → Hp → Prop
/-- an expression's reading; a test's; an argument list's -/
abbrev TE := St → Hp → VK → Prop
abbrev TT := St → Hp → (Bool → Hp → Prop) → Prop
abbrev TA := St → Hp → (List V → Hp → Prop) → Prop
/-- what is wanted behind a statement -/
structure Ends where
  nx : St → Hp → Prop
  rt : VK
  bk : St → Hp → Prop := fun _ _ => False
  ct : St → Hp → Prop := fun _ _ => False
abbrev TS := Ends → St → Hp → Prop

def EP (X : Cx) (pins : List (Addr × Obj)) (σ : St) (Q : VK) (u : Value) (s' : Shared) : Prop := ∃ v H', Inv X pins σ H' s' ∧ RelV v u ∧ Q v H'
def TP (X : Cx) (pins : List (Addr × Obj)) (σ : St) (Q : Bool → Hp → Prop) (b : Bool) (s' : Shared) : Prop := ∃ H', Inv X pins σ H' s' ∧ Q b H'
def AP (X : Cx) (pins : List (Addr × Obj)) (σ : St) (Q : List V → Hp → Prop) (us : List Value) (s' : Shared) : Prop := ∃ vs H', Inv X pins σ H' s' ∧ Vals vs us ∧ Q vs H'
def SP (X : Cx) (pins : List (Addr × Obj)) (D : Ends) (f : Flow) (s' : Shared) : Prop :=
  match f with
  | .next => ∃ σ' H', Inv X pins σ' H' s' ∧ D.nx σ' H'
  | .brk => ∃ σ' H', Inv X pins σ' H' s' ∧ D.bk σ' H'
  | .cont => ∃ σ' H', Inv X pins σ' H' s' ∧ D.ct σ' H'
  | .ret u => ∃ v σ' H', Inv X pins σ' H' s' ∧ RelV v u ∧ D.rt v H'

def PE (X : Cx) (e : Expr) (t : TE) : Prop :=
  ∀ (pins : List (Addr × Obj)) (s : Shared) (σ : St) (H : Hp) (Q : VK), Inv X pins σ H s → t σ H Q → wpAny (model X.prog X.w) X.A (eval e X.env) (EP X pins σ Q) X.xe s
def PT (X : Cx) (e : Expr) (t : TT) : Prop :=
  ∀ (pins : List (Addr × Obj)) (s : Shared) (σ : St) (H : Hp) (Q : Bool → Hp → Prop), Inv X pins σ H s → t σ H Q → wpAny (model X.prog X.w) X.A (isTrue e X.env (eval e X.env)) (TP X pins σ Q) X.xe s
/-- a test whatever its 'whole' is (and, or) -/
def PW (X : Cx) (e : Expr) (t : TT) : Prop :=
  ∀ (whole : Sem Value) (pins : List (Addr × Obj)) (s : Shared) (σ : St) (H : Hp) (Q : Bool → Hp → Prop), Inv X pins σ H s → t σ H Q → wpAny (model X.prog X.w) X.A (isTrue e X.env whole) (TP X pins σ Q) X.xe s
theorem PW.pt {X : Cx} {e : Expr} {t : TT} (h : PW X e t) : PT X e t := h _
/-- an argument list (no star), from the left -/
def PA (X : Cx) (es : List Expr) (t : TA) : Prop :=
  ∀ (pos : Pos) (pins : List (Addr × Obj)) (s : Shared) (σ : St) (H : Hp) (Q : List V → Hp → Prop), Inv X pins σ H s → t σ H Q → wpAny (model X.prog X.w) X.A (spliced (backTo pos (starEach es X.env))) (AP X pins σ Q) X.xe s
def PS (X : Cx) (st : Stmt) (t : TS) : Prop :=
  ∀ (pins : List (Addr × Obj)) (s : Shared) (σ : St) (H : Hp) (D : Ends), Inv X pins σ H s → t D σ H → wpAny (model X.prog X.w) X.A (exec st X.env) (SP X pins D) X.xe s
def PSs (X : Cx) (st : List Stmt) (t : TS) : Prop :=
  ∀ (pins : List (Addr × Obj)) (s : Shared) (σ : St) (H : Hp) (D : Ends), Inv X pins σ H s → t D σ H → wpAny (model X.prog X.w) X.A (execs st X.env) (SP X pins D) X.xe s
/-- weaken the end -/
theorem thn {α : Type} {t : Sem α} {Q Q' : α → Shared → Prop} {M : Model} {A : Around} {E : Value → Shared → Prop} {s : Shared} (h : wpAny M A t Q E s) (hQ : ∀ a s, Q a s → Q' a s) : wpAny M A t Q' E s := wpAny_mono h hQ fun _ _ x => x
end L2

namespace L2
open PySem PySem.Spec PyProof.Rows
section
variable {X : Cx}

/-! ### names and constants -/
def tVar (i : Nat) : TE := fun σ H Q => ∃ v, σ[i]? = some (some v) ∧ Q v H
def tC (v : V) : TE := fun _ H Q => Q v H
theorem pe_var {i : Nat} {x : Str} {pos : Pos} (hN : X.N[i]? = some x) (hv : Vis X.env.scope x) (hd : (x == ("__debug__" : Str)) = false := by decide) (hcd : (x == ("__classdict__" : Str)) = false := by decide) : PE X (.Name x pos) (tVar i) := by
  intro pins s σ H Q I h
  obtain ⟨v, e, h⟩ := h
  obtain ⟨m, hn, hl⟩ := I.loc
  obtain ⟨u, r, l⟩ := hl i x v hN e hv
  have fin : EP X pins σ Q u s := ⟨v, H, I, r, h⟩
  rcases l with ⟨hk, hm⟩ | ⟨hk, c, hc, hcell⟩
  · exact wpAny_Name (wpAny_loadName_local I.ok.kind hk hn hm fin) hd
  · rcases hk with hk | hk
    · exact wpAny_Name (wpAny_loadName_cell I.ok.kind hk hc hcell fin) hd
    · exact wpAny_Name (wpAny_loadName_free I.ok.kind hk hc hcell fin hcd) hd
theorem pe_int {i j pos} : PE X (.Constant (.int i) j pos) (tC (.int i)) := fun _ _ _ H _ I h => wpAny_Constant_int ⟨.int i, H, I.tok _, ⟨_, rfl⟩, h⟩
theorem pe_bl {b j pos} : PE X (.Constant (.bool b) j pos) (tC (.bl b)) := fun _ _ _ H _ I h => Constant_bool ⟨.bl b, H, I, rfl, h⟩
theorem pe_str {x j pos} : PE X (.Constant (.str x) j pos) (tC (.str x)) := fun _ _ _ H _ I h => Calls.Constant_str ⟨.str x, H, I.tok _, ⟨_, rfl⟩, h⟩

/-- a global name of the def -/
def Gl (X : Cx) (x : Str) : Prop := X.env.kindOf x = some .globalImplicit
theorem ld_glob {E : Value → Shared → Prop} {pins : List (Addr × Obj)} {s : Shared} {σ : St} {H : Hp} {x : Str} {u : Value} {pos : Pos} {Q : Value → Shared → Prop} (I : Inv X pins σ H s) (hg : Gl X x) (hm : X.mg x = some u) (h : Q u s)
    (hd : (x == ("__debug__" : Str)) = false := by decide) : wpAny (model X.prog X.w) X.A (eval (.Name x pos) X.env) Q E s :=
  Calls.Name_function_global I.ok.kind hg (Calls.loadGlobal_global (by rw [I.ok.glob]; exact I.mod.glob.keeps I.bk) hm h) hd
theorem ld_blt {E : Value → Shared → Prop} {pins : List (Addr × Obj)} {s : Shared} {σ : St} {H : Hp} {x : Str} {u : Value} {pos : Pos} {Q : Value → Shared → Prop} (I : Inv X pins σ H s) (hg : Gl X x) (hm : X.mg x = none) (hv : bootBuiltins x = some u) (h : Q u s)
    (hn : x ≠ "__name__" := by decide) (hd : (x == ("__debug__" : Str)) = false := by decide) : wpAny (model X.prog X.w) X.A (eval (.Name x pos) X.env) Q E s := by
  obtain ⟨mb, h1, h2⟩ := I.mod.blt
  exact Calls.Name_function_global I.ok.kind hg (Calls.loadGlobal_builtin (by rw [I.ok.glob]; exact I.mod.glob.keeps I.bk) hm (by rw [I.ok.blt]; exact h1.keeps I.bk) ((h2 x hn).trans hv) h) hd
/-- a module's constant, a class, a function, as a value -/
theorem pe_glob {x : Str} {v : V} {u : Value} {pos : Pos} (hg : Gl X x) (hm : X.mg x = some u) (r : RelV v u) (hd : (x == ("__debug__" : Str)) = false := by decide) : PE X (.Name x pos) (tC v) :=
  fun _ _ _ H _ I h => ld_glob I hg hm ⟨v, H, I, r, h⟩ hd
theorem pe_bltn {x : Str} {v : V} {u : Value} {pos : Pos} (hg : Gl X x) (hm : X.mg x = none) (hv : bootBuiltins x = some u) (r : RelV v u) (hn : x ≠ "__name__" := by decide) (hd : (x == ("__debug__" : Str)) = false := by decide) : PE X (.Name x pos) (tC v) :=
  fun _ _ _ H _ I h => ld_blt I hg hm hv ⟨v, H, I, r, h⟩ hn hd

/-! ### arithmetic -/
variable {a b : Expr} {ta tb : TE} {pos : Pos}
/-! ### comparisons -/
def PC (X : Cx) (op : CmpOp) (a b : Expr) (t : TE) : Prop :=
  ∀ (pins : List (Addr × Obj)) (s : Shared) (σ : St) (H : Hp) (Q : VK), Inv X pins σ H s → t σ H Q →
    wpAny (model X.prog X.w) X.A (eval a X.env) (fun v s₁ => wpAny (model X.prog X.w) X.A (eval b X.env) (fun u s₂ => wpAny (model X.prog X.w) X.A (compareOp op v u) (EP X pins σ Q) X.xe s₂) X.xe s₁) X.xe s
theorem nobehind (b : Expr) {op : CmpOp} (h : op ≠ .In) (h2 : op ≠ .NotIn) : behindInMarks op b = false := by
  have e1 : (op == CmpOp.In) = false := by cases op <;> first | rfl | exact absurd rfl h
  have e2 : (op == CmpOp.NotIn) = false := by cases op <;> first | rfl | exact absurd rfl h2
  cases b <;> simp [behindInMarks, e1, e2]
/-- a comparison as a value, as a test -/
def tB (t : TE) : TT := fun σ H Q => t σ H fun x H1 => ∃ c, x = .bl c ∧ Q c H1
theorem pe_cmp {op : CmpOp} {t : TE} (h : PC X op a b t) (h1 : behindInMarks op b = false := by first | exact nobehind _ (by decide) (by decide) | rfl) : PE X (.Compare a [op] [b] pos) t := fun pins s σ H Q I hw => wpAny_Compare1 (h pins s σ H Q I hw) h1
theorem pt_cmp {op : CmpOp} {t : TE} (h : PC X op a b t) (h1 : behindInMarks op b = false := by first | exact nobehind _ (by decide) (by decide) | rfl) : PT X (.Compare a [op] [b] pos) (tB t) := by
  intro pins s σ H Q I hw
  refine wpAny_isTrue_Compare1 (thn (h pins s σ H _ I hw) fun v s1 h1 => thn h1 fun u s2 h2 => thn h2 fun c s3 ⟨x, H1, I1, r1, q1⟩ => ?_) h1
  obtain ⟨d, rfl, q⟩ := q1
  cases r1
  exact wpAny_truthy_bool ⟨H1, I1, q⟩
/-- an expression whose value is a bool, as a test -/
theorem pt_val {e : Expr} {t : TE} (h : PE X e t) (he : ∀ whole, isTrue e X.env whole = (do let v ← whole; standAt e.pos; holding [v] (truthy v)) := by intro _; rfl) : PT X e (tB t) := by
  intro pins s σ H Q I hw
  refine isTrue_plain (thn (h pins s σ H _ I hw) fun v s1 ⟨x, H1, I1, r1, q1⟩ => ?_) (he _)
  obtain ⟨d, rfl, q⟩ := q1
  cases r1
  exact wpAny_truthy_bool ⟨H1, I1, q⟩

/-! ### and, or, not -/
variable {tA tB' : TT} {rest : List Expr}
def tAnd (t u : TT) : TT := fun σ H Q => t σ H fun c H1 => if c = true then u σ H1 Q else Q false H1
def tOr (t u : TT) : TT := fun σ H Q => t σ H fun c H1 => if c = true then Q true H1 else u σ H1 Q
def tNot (t : TT) : TT := fun σ H Q => t σ H fun c H1 => Q (!c) H1
theorem pw_and1 (ha : PT X a tA) : PW X (.BoolOp .And [a] pos) tA := by
  intro wh pins s σ H Q I h
  refine isTrue_and (thn (ha pins s σ H Q I h) fun c s1 e => ?_)
  cases c with
  | true => exact isTrue_and_nil e
  | false => exact e
theorem pw_or1 (ha : PT X a tA) : PW X (.BoolOp .Or [a] pos) tA := by
  intro wh pins s σ H Q I h
  refine isTrue_or (thn (ha pins s σ H Q I h) fun c s1 e => ?_)
  cases c with
  | false => exact isTrue_or_nil e
  | true => exact e
theorem pw_and (ha : PT X a tA) (hb : PW X (.BoolOp .And (b :: rest) pos) tB') : PW X (.BoolOp .And (a :: b :: rest) pos) (tAnd tA tB') := by
  intro wh pins s σ H Q I h
  refine isTrue_and (thn (ha pins s σ H _ I h) fun c s1 ⟨H1, I1, q1⟩ => ?_)
  cases c with
  | true => exact hb wh pins s1 σ H1 Q I1 q1
  | false => exact ⟨H1, I1, q1⟩
theorem pw_or (ha : PT X a tA) (hb : PW X (.BoolOp .Or (b :: rest) pos) tB') : PW X (.BoolOp .Or (a :: b :: rest) pos) (tOr tA tB') := by
  intro wh pins s σ H Q I h
  refine isTrue_or (thn (ha pins s σ H _ I h) fun c s1 ⟨H1, I1, q1⟩ => ?_)
  cases c with
  | true => exact ⟨H1, I1, q1⟩
  | false => exact hb wh pins s1 σ H1 Q I1 q1
theorem pt_not (ha : PT X a tA) : PT X (.UnaryOp .Not a pos) (tNot tA) := by
  intro pins s σ H Q I h
  exact isTrue_not (ha pins s σ H (fun c H1 => Q (!c) H1) I h)
/-- .. as values (bools) -/
def tAndV (ta tb : TE) : TE := fun σ H Q => ta σ H fun x H1 => ∃ c, x = .bl c ∧ if c = true then tb σ H1 Q else Q (.bl false) H1
def tNotV (ta : TE) : TE := fun σ H Q => ta σ H fun x H1 => ∃ c, x = .bl c ∧ Q (.bl (!c)) H1
theorem pe_one {op} {t : TE} (h : PE X a t) : PE X (.BoolOp op [a] pos) t := fun pins s σ H Q I hw => BoolOp_one (h pins s σ H Q I hw)
theorem pe_and (ha : PE X a ta) (hb : PE X (.BoolOp .And (b :: rest) pos) tb) : PE X (.BoolOp .And (a :: b :: rest) pos) (tAndV ta tb) := by
  intro pins s σ H Q I h
  refine BoolOp_and (thn (ha pins s σ H _ I h) fun v s1 ⟨x, H1, I1, r1, q1⟩ => ?_)
  obtain ⟨c, rfl, q1⟩ := q1
  cases r1
  refine wpAny_truthy_bool ?_
  cases c with
  | true => exact hb pins s1 σ H1 Q I1 q1
  | false => exact ⟨.bl false, H1, I1, rfl, q1⟩
theorem pe_not (ha : PE X a ta) : PE X (.UnaryOp .Not a pos) (tNotV ta) := by
  intro pins s σ H Q I h
  refine UnaryOp_ (thn (ha pins s σ H _ I h) fun v s1 ⟨x, H1, I1, r1, q1⟩ => ?_)
  obtain ⟨c, rfl, q1⟩ := q1
  cases r1
  exact not_of (wpAny_truthy_bool ⟨.bl (!c), H1, I1, rfl, q1⟩)
end
end L2

namespace L2
open PySem PySem.Spec PyProof.Rows

/-! ### a list, a tuple that is read: tracked, frozen, or an object of the module -/
def SqL (K : PySem.W.Frag) (H : Hp) (a : Addr) (xs : List V) : Prop :=
  Rd H a (.lst xs) ∨
    ∃ (o : Obj) (its : Array Value) (n : Nat), K.lookup a = some o ∧ o.cls = .type "list" ∧ o.dict = none ∧ o.data = .seq its n ∧ its.size ≤ sizeLine ∧ Vals xs its.toList
def SqT (K : PySem.W.Frag) (H : Hp) (a : Addr) (xs : List V) : Prop :=
  Rd H a (.tup xs) ∨
    ∃ (o : Obj) (its : Array Value) (n : Nat), K.lookup a = some o ∧ o.cls = .type "tuple" ∧ o.data = .seq its n ∧ its.size ≤ sizeLine ∧ Vals xs its.toList
def absV : Value → Option V
  | .none => some .non
  | .bool b => some (.bl b)
  | .int i _ => some (.int i)
  | .str x _ => some (.str x)
  | .bytes b _ => some (.byt b)
  | .float b _ => some (.flt b)
  | .ref a => some (.ref a)
  | .type n => some (.ty n)
  | _ => none
theorem RelV.abs {x : V} {u : Value} (r : RelV x u) : absV u = some x := by
  cases x with
  | non => cases r; rfl
  | bl _ => cases r; rfl
  | int _ => obtain ⟨t, rfl⟩ := r; rfl
  | str _ => obtain ⟨t, rfl⟩ := r; rfl
  | byt _ => obtain ⟨t, rfl⟩ := r; rfl
  | flt _ => obtain ⟨t, rfl⟩ := r; rfl
  | ref _ => cases r; rfl
  | ty _ => cases r; rfl
theorem RelV.inj {x y : V} {u : Value} (r : RelV x u) (q : RelV y u) : x = y := Option.some.inj (r.abs.symm.trans q.abs)
theorem Vals.inj : ∀ {xs ys : List V} {us : List Value}, Vals xs us → Vals ys us → xs = ys
  | _, _, _, .nil, .nil => rfl
  | _, _, _, .cons r t, .cons r' t' => by rw [r.inj r', Vals.inj t t']
section
variable {X : Cx} {pins : List (Addr × Obj)} {σ : St} {H : Hp} {s : Shared} {a : Addr} {xs ys : List V}
theorem SqL.of {K : PySem.W.Frag} (h : H a = some (.lst xs)) : SqL K H a xs := .inl (.inl h)
theorem SqT.of {K : PySem.W.Frag} (h : H a = some (.tup xs)) : SqT K H a xs := .inl (.inl h)
theorem Inv.list (I : Inv X pins σ H s) (h : SqL X.K H a xs) : ∃ its : List Value, Vals xs its ∧ PlainL s.heap a its.toArray ∧ xs.length ≤ sizeLine := by
  rcases h with h | ⟨o, its, n, hk, hc, hd, hs, hz, r⟩
  · obtain ⟨z, its, n, r, e⟩ := h.ok I.hok
    exact ⟨its, r, ⟨_, n, e, rfl, rfl, rfl⟩, z⟩
  · refine ⟨its.toList, r, ⟨o, n, I.kIn a o hk, hc, hd, by simpa using hs⟩, ?_⟩
    have e := r.length
    simp only [Array.length_toList] at e
    omega
theorem Inv.tuple (I : Inv X pins σ H s) (h : SqT X.K H a xs) : ∃ its : List Value, Vals xs its ∧ IsTup s.heap a its.toArray ∧ xs.length ≤ sizeLine := by
  rcases h with h | ⟨o, its, n, hk, hc, hs, hz, r⟩
  · obtain ⟨z, its, r, p⟩ := h.ok I.hok
    exact ⟨its, r, p, z⟩
  · refine ⟨its.toList, r, ⟨o, I.kIn a o hk, hc, n, by simpa using hs⟩, ?_⟩
    have e := r.length
    simp only [Array.length_toList] at e
    omega
theorem Inv.list_inj (I : Inv X pins σ H s) (h : SqL X.K H a xs) (h' : SqL X.K H a ys) : xs = ys := by
  obtain ⟨its, r, ⟨o, n, e, _, _, d⟩, _⟩ := I.list h
  obtain ⟨its', r', ⟨o', n', e', _, _, d'⟩, _⟩ := I.list h'
  rw [e] at e'; cases e'
  rw [d] at d'
  injection d' with d1 _
  have : its = its' := by simpa using congrArg Array.toList d1
  subst this
  exact r.inj r'
theorem Inv.tuple_inj (I : Inv X pins σ H s) (h : SqT X.K H a xs) (h' : SqT X.K H a ys) : xs = ys := by
  obtain ⟨its, r, ⟨o, e, _, n, d⟩, _⟩ := I.tuple h
  obtain ⟨its', r', ⟨o', e', _, n', d'⟩, _⟩ := I.tuple h'
  rw [e] at e'; cases e'
  rw [d] at d'
  injection d' with d1 _
  have : its = its' := by simpa using congrArg Array.toList d1
  subst this
  exact r.inj r'
end

/-! ### another wish about exceptions -/
abbrev Cx.wish (X : Cx) (E : Value → Shared → Prop) : Cx := { X with xe := E }
/-- no exception leaves -/
abbrev Cx.nox (X : Cx) : Cx := X.wish fun _ _ => False
theorem Cx.Ok.wish {X : Cx} (ok : X.Ok) (E : Value → Shared → Prop) : (X.wish E).Ok :=
  ⟨ok.mod, ok.kind, ok.glob, ok.blt, ok.above, ok.inj, ok.has, ok.cab, ok.hd, ok.frames, ok.stk, ok.exf, ok.bs, ok.bsz, ok.noex, ok.exfs, ok.funs, ok.frf⟩
theorem Cx.Ok.unwish {X : Cx} {E : Value → Shared → Prop} (ok : (X.wish E).Ok) : X.Ok :=
  ⟨ok.mod, ok.kind, ok.glob, ok.blt, ok.above, ok.inj, ok.has, ok.cab, ok.hd, ok.frames, ok.stk, ok.exf, ok.bs, ok.bsz, ok.noex, ok.exfs, ok.funs, ok.frf⟩
section
variable {X : Cx} {pins : List (Addr × Obj)} {σ : St} {H : Hp} {s : Shared} {E : Value → Shared → Prop}
theorem Inv.wish (I : Inv X pins σ H s) (E : Value → Shared → Prop) : Inv (X.wish E) pins σ H s := ⟨I.ok.wish E, I.os, I.bare, I.base, I.loc, I.cell, I.free, I.freeC, I.pin, I.hok, I.len⟩
theorem Inv.unwish (I : Inv (X.wish E) pins σ H s) : Inv X pins σ H s := ⟨I.ok.unwish, I.os, I.bare, I.base, I.loc, I.cell, I.free, I.freeC, I.pin, I.hok, I.len⟩
theorem SP.unwish {D : Ends} {f : Flow} {s' : Shared} (h : SP (X.wish E) pins D f s') : SP X pins D f s' := by
  cases f with
  | next => obtain ⟨σ', H', I, q⟩ := h; exact ⟨σ', H', I.unwish, q⟩
  | brk => obtain ⟨σ', H', I, q⟩ := h; exact ⟨σ', H', I.unwish, q⟩
  | cont => obtain ⟨σ', H', I, q⟩ := h; exact ⟨σ', H', I.unwish, q⟩
  | ret u => obtain ⟨v, σ', H', I, r, q⟩ := h; exact ⟨v, σ', H', I.unwish, r, q⟩
theorem PE.nox {e : Expr} {t : TE} (h : PE X.nox e t) : PE X e t := fun pins s σ H Q I hw =>
  wpAny_mono (h pins s σ H Q (I.wish _) hw) (fun _ _ ⟨v, H', I', r, q⟩ => ⟨v, H', I'.unwish, r, q⟩) fun _ _ z => False.elim z
theorem PT.nox {e : Expr} {t : TT} (h : PT X.nox e t) : PT X e t := fun pins s σ H Q I hw =>
  wpAny_mono (h pins s σ H Q (I.wish _) hw) (fun _ _ ⟨H', I', q⟩ => ⟨H', I'.unwish, q⟩) fun _ _ z => False.elim z
theorem PSs.nox {st : List Stmt} {t : TS} (h : PSs X.nox st t) : PSs X st t := fun pins s σ H D I hw =>
  wpAny_mono (h pins s σ H D (I.wish _) hw) (fun _ _ q => q.unwish) fun _ _ z => False.elim z
end

/-! ### blocks and small statements -/
section
variable {X : Cx} {st : Stmt} {rest : List Stmt} {t u : TS} {e : Expr} {te : TE} {pos : Pos}
def tNext : TS := fun D σ H => D.nx σ H
def tSeq (t u : TS) : TS := fun D σ H => t { D with nx := u D } σ H
theorem pss_nil : PSs X [] tNext := fun _ _ σ H _ I h => wpAny_execs_nil ⟨σ, H, I, h⟩
theorem pss_cons (h1 : PS X st t) (h2 : PSs X rest u) : PSs X (st :: rest) (tSeq t u) := by
  intro pins s σ H D I h
  refine wpAny_execs_cons (thn (h1 pins s σ H { D with nx := u D } I h) fun f s1 q => ?_)
  cases f with
  | next =>
    obtain ⟨σ', H', I', q⟩ := q
    exact h2 pins s1 σ' H' D I' q
  | ret v => exact q
  | brk => exact q
  | cont => exact q
theorem pss_one (h1 : PS X st t) : PSs X [st] t := by
  intro pins s σ H D I h
  refine wpAny_execs_cons (thn (h1 pins s σ H D I h) fun f s1 q => ?_)
  cases f with
  | next => exact wpAny_execs_nil q
  | ret v => exact q
  | brk => exact q
  | cont => exact q
/-- in a def's body nothing is shown -/
theorem Inv.quiet {pins : List (Addr × Obj)} {σ : St} {H : Hp} {s : Shared} (I : Inv X pins σ H s) : interactive X.env = false := by simp [interactive, I.ok.kind]
/-- an expression whose value is dropped -/
def tDrop (te : TE) : TS := fun D σ H => te σ H fun _ H1 => D.nx σ H1
theorem ps_expr (he : PE X e te) (hs : swapsWith e none pos.line X.env = pure false := by rfl) : PS X (.Expr e pos) (tDrop te) := by
  intro pins s σ H D I h
  exact wpAny_Expr_any (thn (he pins s σ H _ I h) fun v s1 ⟨x, H1, I1, r1, q1⟩ => ⟨σ, H1, I1, q1⟩) I.quiet hs
def tRet (te : TE) : TS := fun D σ H => te σ H D.rt
theorem ps_ret (he : PE X e te) : PS X (.Return (some e) pos) (tRet te) := by
  intro pins s σ H D I h
  exact wpAny_Return_some (thn (he pins s σ H _ I h) fun v s1 ⟨x, H1, I1, r1, q1⟩ => ⟨x, σ, H1, I1, r1, q1⟩)
def tIfS (c : TT) (t u : TS) : TS := fun D σ H => c σ H fun b H1 => if b = true then t D σ H1 else u D σ H1
theorem ps_if {c : Expr} {a b : List Stmt} {tc : TT} (hc : PT X c tc) (ha : PSs X a t) (hb : PSs X b u) : PS X (.If c a b pos) (tIfS tc t u) := by
  intro pins s σ H D I h
  refine wpAny_If (thn (hc pins s σ H _ I h) fun d s1 ⟨H1, I1, q1⟩ => ?_)
  cases d with
  | true => exact ha pins s1 σ H1 D I1 q1
  | false => exact hb pins s1 σ H1 D I1 q1
/-- code that the proof never comes to -/
def tNever : TS := fun _ _ _ => False
theorem ps_never : PS X st tNever := fun _ _ _ _ _ _ h => h.elim
end

/-! ### targets -/
abbrev TG := V → St → Hp → (St → Hp → Prop) → Prop
abbrev TGs := List V → St → Hp → (St → Hp → Prop) → Prop
def PG (X : Cx) (target : Expr) (t : TG) : Prop :=
  ∀ (pins : List (Addr × Obj)) (s : Shared) (σ : St) (H : Hp) (v : V) (u : Value) (Q : St → Hp → Prop), Inv X pins σ H s → RelV v u → t v σ H Q →
    wpAny (model X.prog X.w) X.A (assign target X.env u) (fun _ s' => ∃ σ' H', Inv X pins σ' H' s' ∧ Q σ' H') X.xe s
/-- several targets, one after another -/
def PGs (X : Cx) (ts : List Expr) (t : TGs) : Prop :=
  ∀ (pins : List (Addr × Obj)) (s : Shared) (σ : St) (H : Hp) (vs : List V) (us : List Value) (Q : St → Hp → Prop), Inv X pins σ H s → Vals vs us → t vs σ H Q →
    wpAny (model X.prog X.w) X.A (assignInOrder ((assignEach ts X.env).map (·.2)) us) (fun _ s' => ∃ σ' H', Inv X pins σ' H' s' ∧ Q σ' H') X.xe s
/-- o[i] = v, by values -/
abbrev TSet := V → V → V → Hp → (Hp → Prop) → Prop
def PSet (X : Cx) (t : TSet) : Prop :=
  ∀ (pins : List (Addr × Obj)) (s : Shared) (σ : St) (H : Hp) (o i v : V) (ov iv u : Value) (Q : Hp → Prop), Inv X pins σ H s → RelV o ov → RelV i iv → RelV v u → t o i v H Q →
    wpAny (model X.prog X.w) X.A (setItem ov iv u) (fun _ s' => ∃ H', Inv X pins σ H' s' ∧ Q H') X.xe s
section
variable {X : Cx} {pos : Pos}
def gName (i : Nat) : TG := fun v σ H Q => Q (σ.set i (some v)) H
theorem pg_name {i : Nat} {x : Str} (hN : X.N.Nodup) (hi : X.N[i]? = some x) (hx : Loc X.env.scope x) (hf : X.fn x = true ∨ X.env.scope.names.lookup x = some .local := by first | exact .inl rfl | exact .inr rfl | assumption) : PG X (.Name x pos) (gName i) := by
  intro pins s σ H v u Q I r h
  exact wpAny_assign_Name (store_ok I hN hi hx r (fun s' I' => ⟨_, H, I', h⟩) hf)
def gNil : TGs := fun vs σ H Q => vs = [] ∧ Q σ H
def gCons (t : TG) (u : TGs) : TGs := fun vs σ H Q => ∃ v r, vs = v :: r ∧ t v σ H fun σ' H' => u r σ' H' Q
theorem pgs_nil : PGs X [] gNil := by
  intro pins s σ H vs us Q I r h
  obtain ⟨e, h⟩ := h
  subst e
  cases r
  exact assignInOrder_nil ⟨σ, H, I, h⟩
theorem pgs_cons {e : Expr} {es : List Expr} {t : TG} {u : TGs} (h1 : PG X e t) (h2 : PGs X es u)
    (hs : (assignEach (e :: es) X.env).map (·.2) = assign e X.env :: (assignEach es X.env).map (·.2) := by rfl) : PGs X (e :: es) (gCons t u) := by
  intro pins s σ H vs us Q I r h
  obtain ⟨v, vr, e1, h⟩ := h
  subst e1
  cases r with
  | cons r rr =>
    rw [hs]
    refine assignInOrder_cons (thn (h1 pins s σ H _ _ _ I r h) fun _ s1 ⟨σ1, H1, I1, q1⟩ => ?_)
    exact h2 pins s1 σ1 H1 _ _ Q I1 rr q1
/-- (a, b, ..) = a tuple of that length -/
def gTup (K : PySem.W.Frag) (n : Nat) (t : TGs) : TG := fun v σ H Q => ∃ a xs, v = .ref a ∧ SqT K H a xs ∧ xs.length = n ∧ t xs σ H Q
theorem pg_tup {es : List Expr} {k : Nat} {t : TGs} {n : Nat} (hc : X.calm = true) (h : PGs X es t)
    (hn : (assignEach es X.env).length = n := by rfl) (hst : (assignEach es X.env).findIdx? (·.1) = none := by rfl) : PG X (.Tuple es k pos) (gTup X.K n t) := by
  intro pins s σ H v u Q I r hw
  obtain ⟨a, xs, e1, hq, hl, hw⟩ := hw
  subst e1
  cases r
  obtain ⟨its, rv, ht, hz⟩ := I.tuple hq
  refine assign_Tuple_tuple (I.ok.hd hc) ht (by simp [hn, ← hl, rv.length]) hst fun h' hx => ?_
  have I1 : Inv X pins σ H { s with heap := h' } := I.kept (t' := s.toks) fun b o e => hx b o (Nat.ne_of_lt (Heap.lt_size e)) e
  exact h pins _ σ H xs _ Q I1 (by simpa using rv) hw
/-- o[i] = .. -/
def gSub (to ti : TE) (t : TSet) : TG := fun v σ H Q => to σ H fun o H1 => ti σ H1 fun i H2 => t o i v H2 fun H3 => Q σ H3
theorem pg_sub {o i : Expr} {to ti : TE} {t : TSet} (ho : PE X o to) (hi : PE X i ti) (hs : PSet X t)
    (ha : ∀ v, assign (.Subscript o i pos) X.env v = (do
      let ov ← holding [v] (eval o X.env)
      let iv ← holding [v, ov] (eval i X.env)
      standAt pos
      holding [v, ov, iv] (setItem ov iv v)
      release [v, ov, iv] []) := by intro _; rfl) : PG X (.Subscript o i pos) (gSub to ti t) := by
  intro pins s σ H v u Q I r h
  rw [ha]
  refine wpAny_bind (wpAny_holding (thn (ho pins s σ H _ I h) fun ov s1 ⟨x, H1, I1, r1, q1⟩ => ?_))
  refine wpAny_bind (wpAny_holding (thn (hi pins s1 σ H1 _ I1 q1) fun iv s2 ⟨y, H2, I2, r2, q2⟩ => ?_))
  refine wpAny_bind (wpAny_standAt (wpAny_bind (wpAny_holding (thn (hs pins s2 σ H2 x y v ov iv u _ I2 r1 r2 r q2) fun _ s3 ⟨H3, I3, q3⟩ => ?_))))
  exact wpAny_release ⟨σ, H3, I3, q3⟩
/-- target = value -/
def tAsg (te : TE) (g : TG) : TS := fun D σ H => te σ H fun x H1 => g x σ H1 D.nx
theorem ps_asg {tg e : Expr} {te : TE} {g : TG} (he : PE X e te) (hg : PG X tg g) (hs : swapsWithSole [tg] e pos.line X.env = pure false := by rfl) (hw : swappedStores [tg] e X.env = pure none := by rfl)
    (h1 : (assignEach [tg] X.env).map (·.2) = [assign tg X.env] := by rfl) : PS X (.Assign [tg] e pos) (tAsg te g) := by
  intro pins s σ H D I h
  refine wpAny_Assign_stores (thn (he pins s σ H _ I h) fun v s1 ⟨x, H1, I1, r1, q1⟩ => ?_) hs hw
  rw [h1]
  exact thn (hg pins s1 σ H1 x v _ I1 r1 q1) fun _ s2 q => q
/-- name = value -/
theorem ps_set {i : Nat} {x : Str} {e : Expr} {te : TE} {pos' : Pos} (hN : X.N.Nodup) (hi : X.N[i]? = some x) (hx : Loc X.env.scope x) (he : PE X e te) (hs : swapsWith e (some (.Name x pos')) pos.line X.env = pure false := by rfl) (hf : X.fn x = true ∨ X.env.scope.names.lookup x = some .local := by first | exact .inl rfl | exact .inr rfl | assumption) :
    PS X (.Assign [.Name x pos'] e pos) (tAsg te (gName i)) := by
  intro pins s σ H D I h
  refine wpAny_Assign_Name (thn (he pins s σ H _ I h) fun v s1 ⟨y, H1, I1, r1, q1⟩ => ?_) hs
  exact store_ok I1 hN hi hx r1 (fun s2 I2 => ⟨_, H1, I2, q1⟩) hf
end

/-! ### while -/
section
variable {X : Cx} {pos : Pos}
/-- the invariant W with its measure -/
def tWhile (c : TT) (tb : TS) : TS := fun D σ H => ∃ W : Nat → St → Hp → Prop, (∃ m, W m σ H) ∧ ∀ m σ H, W m σ H →
  c σ H fun b H1 => if b = true then ∃ N : St → Hp → Prop, (∀ σ' H', N σ' H' → ∃ m', m' < m ∧ W m' σ' H') ∧ tb { D with nx := N, ct := N, bk := D.nx } σ H1 else D.nx σ H1
theorem ps_while {c : Expr} {body : List Stmt} {tc : TT} {tb : TS} (hp : PassesOwn (model X.prog X.w) X.A X.env X.xe) (hc : PT X c tc) (hb : PSs X body tb) : PS X (.While c body [] pos) (tWhile tc tb) := by
  intro pins s σ H D I h
  obtain ⟨W, ⟨m0, w0⟩, turn⟩ := h
  refine wpAny_While (codeAny_whileLoop (fun n s' => ∃ σ' H', Inv X pins σ' H' s' ∧ W n σ' H') ?_ m0 ⟨σ, H, I, w0⟩)
  rintro n s1 ⟨σ1, H1, I1, w1⟩
  refine wpAny_passesOwn hp (thn (hc pins s1 σ1 H1 _ I1 (turn n σ1 H1 w1)) fun b s2 ⟨H2, I2, q2⟩ => ?_)
  cases b with
  | true =>
    obtain ⟨N, hN, q2⟩ := q2
    rw [if_pos rfl]
    refine wpAny_passesOwn hp (thn (hb pins s2 σ1 H2 _ I2 q2) fun f s3 q3 => ?_)
    cases f with
    | next =>
      obtain ⟨σ3, H3, I3, n3⟩ := q3
      obtain ⟨m', hm, w3⟩ := hN σ3 H3 n3
      exact ⟨m', hm, σ3, H3, I3, w3⟩
    | cont =>
      obtain ⟨σ3, H3, I3, n3⟩ := q3
      obtain ⟨m', hm, w3⟩ := hN σ3 H3 n3
      exact ⟨m', hm, σ3, H3, I3, w3⟩
    | brk => exact q3
    | ret v => exact q3
  | false =>
    rw [if_neg Bool.false_ne_true]
    exact wpAny_execs_nil ⟨σ1, H2, I2, q2⟩
end

/-! ### what a loop or a comprehension walks -/
/-- at turn i: it yields x (the heap may grow), or it stops -/
structure It where
  go : Nat → Hp → Prop
  yld : Nat → Hp → V → Hp → Prop
  stop : Nat → Hp → Prop
/-- the iterator's own objects may turn: they are not the frame's, not pinned, younger than the entry (or a comprehension's own) -/
def FpOk (X : Cx) (pins : List (Addr × Obj)) (H : Hp) (b : Addr) : Prop :=
  H b = none ∧ b ≠ X.env.locals ∧ b ∉ X.fs ∧ (b ∈ X.ex ∨ X.s₀.heap.objs.size ≤ b) ∧ (∀ x c, X.env.cells.lookup x = some c → c ≠ b) ∧ ∀ p ∈ X.pn ++ pins, p.1 ≠ b
theorem Inv.fpOk {X : Cx} {pins : List (Addr × Obj)} {σ : St} {H H' : Hp} {s : Shared} {b : Addr} (I : Inv X pins σ H s) (hb : s.heap.objs.size ≤ b) (hn : H' b = none) : FpOk X pins H' b := by
  refine ⟨hn, Nat.ne_of_gt (Nat.lt_of_lt_of_le I.lt hb), I.nofs hb, .inr (Nat.le_trans I.sz hb), fun x c e z => ?_, fun p hp z => ?_⟩
  · obtain ⟨v, q⟩ := I.cell x c e
    exact absurd (Nat.lt_of_lt_of_le q.lt (by rw [z]; exact hb)) (Nat.lt_irrefl _)
  · exact absurd (Nat.lt_of_lt_of_le (Heap.lt_size (I.pin p hp).1) (by rw [z]; exact hb)) (Nat.lt_irrefl _)
structure Turn (P : Program) (w : World) (K : PySem.W.Frag) (tg : Expr) (J : It) (fp : List Addr) (it : Addr) (tn : Nat → Heap → Prop) : Prop where
  mem : it ∈ fp
  obj : ∀ i h, tn i h → ∀ b ∈ fp, ∃ o, h.get? b = some o ∧ ∀ v, o.data ≠ .cell v
  keep : ∀ i h h', tn i h → (∀ b ∈ fp, ∀ o, h.get? b = some o → h'.get? b = some o) → tn i h'
  item : ∀ (X : Cx), X.prog = P → X.w = w → X.K = K → X.calm = true → ∀ (i : Nat) (pins : List (Addr × Obj)) (s : Shared) (σ : St) (H : Hp) (E : Value → Shared → Prop), Inv X pins σ H s → (∀ b ∈ fp, FpOk X pins H b) → tn i s.heap → J.go i H →
    wpAny (model P w) X.A (pyNext (.ref it)) (fun r s1 => ∃ u, r = some u ∧
      wpAny (model P w) X.A (letOwnedTupleGo tg (.ref it) u) (fun _ s2 => ∃ x H', Inv X pins σ H' s2 ∧ RelV x u ∧ J.yld i H x H' ∧ tn (i + 1) s2.heap ∧ ∀ b ∈ fp, H' b = none) E s1) E s
  done : ∀ (X : Cx), X.prog = P → X.w = w → X.K = K → X.calm = true → ∀ (i : Nat) (pins : List (Addr × Obj)) (s : Shared) (σ : St) (H : Hp) (E : Value → Shared → Prop), Inv X pins σ H s → (∀ b ∈ fp, FpOk X pins H b) → tn i s.heap → J.stop i H →
    wpAny (model P w) X.A (pyNext (.ref it)) (fun r s1 => r = none ∧ Inv X pins σ H s1) E s
  self : ∀ (A : Around) (i : Nat) (s : Shared) (Q : Value → Shared → Prop) (E : Value → Shared → Prop), tn i s.heap → Q (.ref it) s → wpAny (model P w) A (pyIter (.ref it)) Q E s
abbrev TI := St → Hp → (It → Hp → Prop) → Prop
/-- an iterator has come -/
def PIE (X : Cx) (pins : List (Addr × Obj)) (σ : St) (tg : Expr) (R : It → Hp → Prop) (itv : Value) (s2 : Shared) : Prop :=
  ∃ (it : Addr) (fp : List Addr) (tn : Nat → Heap → Prop) (J : It) (H' : Hp), itv = .ref it ∧ Inv X pins σ H' s2 ∧ Turn X.prog X.w X.K tg J fp it tn ∧ tn 0 s2.heap ∧ (∀ b ∈ fp, FpOk X pins H' b) ∧ R J H'
def PI (X : Cx) (tg iter : Expr) (wi : TI) : Prop :=
  ∀ (pins : List (Addr × Obj)) (s : Shared) (σ : St) (H : Hp) (R : It → Hp → Prop), Inv X pins σ H s → wi σ H R →
    wpAny (model X.prog X.w) X.A (eval iter X.env) (fun v s1 => wpAny (model X.prog X.w) X.A (pyIter v) (PIE X pins σ tg R) X.xe s1) X.xe s

/-- the step ahead of the store is nothing for an iterator that keeps no tuple -/
theorem go_of {M : Model} {A : Around} {E : Value → Shared → Prop} {s : Shared} {tg : Expr} {it : Addr} {u : Value} {o : Obj} {n : String} {vs : Array Value} {Q : Unit → Shared → Prop} (ho : s.heap.get? it = some o) (hc : o.cls = .type n) (hd : o.data = .fields vs)
    (hn : ["enumerate", "zip", "dict_itemiterator", "dict_reverseitemiterator", "odict_iterator", "itertools.zip_longest", "itertools.pairwise"].contains n = false) (hQ : Q () s) : wpAny M A (letOwnedTupleGo tg (.ref it) u) Q E s := by
  unfold letOwnedTupleGo
  cases tg <;> first
    | exact wpAny_pure hQ
    | (cases u <;> first
        | exact wpAny_pure hQ
        | (refine wpAny_bind (wpAny_load ho ?_)
           rw [hc, hd]
           show wpAny M A (if (["enumerate", "zip", "dict_itemiterator", "dict_reverseitemiterator", "odict_iterator", "itertools.zip_longest", "itertools.pairwise"].contains n && vs[0]? == some (rawInt _)) = true then _ else _) Q E s
           rw [if_neg (by intro h; rw [hn, Bool.false_and] at h; cases h)]
           exact wpAny_pure hQ))

/-- the list at a, as it stands at each turn (a loop may append to it) -/
def Itl (K : PySem.W.Frag) (a : Addr) : It :=
  ⟨fun i H => ∃ xs x, SqL K H a xs ∧ xs[i]? = some x, fun i H x H' => H' = H ∧ ∀ xs, SqL K H a xs → xs[i]? = some x, fun i H => ∃ xs, SqL K H a xs ∧ xs.length ≤ i⟩
def Itt (K : PySem.W.Frag) (a : Addr) : It :=
  ⟨fun i H => ∃ xs x, SqT K H a xs ∧ xs[i]? = some x, fun i H x H' => H' = H ∧ ∀ xs, SqT K H a xs → xs[i]? = some x, fun i H => ∃ xs, SqT K H a xs ∧ xs.length ≤ i⟩
/-- lo, lo + 1, .. (n of them) -/
def Itr (lo : Int) (n : Nat) : It := ⟨fun i _ => i < n, fun i H x H' => H' = H ∧ x = .int (lo + i), fun i _ => n ≤ i⟩
theorem turn_list {P : Program} {w : World} {K : PySem.W.Frag} {tg : Expr} (a it : Addr) : Turn P w K tg (Itl K a) [it] it (fun i h => h.IsListIter it a i) where
  mem := by simp
  obj := fun i h st b hb => by
    have e : b = it := by simpa using hb
    subst e
    obtain ⟨o, e, c, d⟩ := st
    exact ⟨o, e, fun v z => by rw [d] at z; cases z⟩
  keep := fun i h h' st k => st.at fun o e => k it (by simp) o e
  item := by
    intro X hP hw hK hc i pins s σ H E I hf st hg
    subst hP hw hK
    obtain ⟨xs, x, hq, hx⟩ := hg
    obtain ⟨its, rv, p, hz⟩ := I.list hq
    obtain ⟨u, hu, ru⟩ := rv.get hx
    obtain ⟨f0, f1, f2, f3, f4, f5⟩ := hf it (by simp)
    refine wpAny_pyNext_list_item st p.isList (x := u) (by simpa using hu) fun h' st' sb => ?_
    have I1 : Inv X pins σ H { s with heap := h' } := I.turned (t' := s.toks) (fun b o hb e => (sb.2 b hb).trans e) f0 f1 f3 f4 f5
    obtain ⟨o, e, c, d⟩ := id st'
    exact ⟨u, rfl, go_of (s := { s with heap := h' }) e c d (by decide) ⟨x, H, I1, ru, ⟨rfl, fun ys hy => by rw [I.list_inj hy hq]; exact hx⟩, st', fun b hb => (hf b hb).1⟩⟩
  done := by
    intro X hP hw hK hc i pins s σ H E I hf st hg
    subst hP hw hK
    obtain ⟨xs, hq, hx⟩ := hg
    obtain ⟨its, rv, p, hz⟩ := I.list hq
    obtain ⟨f0, f1, f2, f3, f4, f5⟩ := hf it (by simp)
    have hl := rv.length
    exact wpAny_pyNext_list_end (I.ok.hd hc) st p.isList (by simp; omega) fun h' eb => ⟨rfl, I.turned (t' := s.toks) (fun b o hb e => eb b o hb e) f0 f1 f3 f4 f5⟩
  self := fun _ _ _ _ _ st h => wpAny_pyIter_listiter st h
theorem turn_tuple {P : Program} {w : World} {K : PySem.W.Frag} {tg : Expr} (a it : Addr) : Turn P w K tg (Itt K a) [it] it (fun i h => h.IsTupleIter it a i) where
  mem := by simp
  obj := fun i h st b hb => by
    have e : b = it := by simpa using hb
    subst e
    obtain ⟨o, e, c, d⟩ := st
    exact ⟨o, e, fun v z => by rw [d] at z; cases z⟩
  keep := fun i h h' st k => st.at fun o e => k it (by simp) o e
  item := by
    intro X hP hw hK hc i pins s σ H E I hf st hg
    subst hP hw hK
    obtain ⟨xs, x, hq, hx⟩ := hg
    obtain ⟨its, rv, p, hz⟩ := I.tuple hq
    obtain ⟨u, hu, ru⟩ := rv.get hx
    obtain ⟨f0, f1, f2, f3, f4, f5⟩ := hf it (by simp)
    refine wpAny_pyNext_tuple_item st (show s.heap.IsTuple a its.toArray from p) (x := u) (by simpa using hu) fun h' st' sb => ?_
    have I1 : Inv X pins σ H { s with heap := h' } := I.turned (t' := s.toks) (fun b o hb e => (sb.2 b hb).trans e) f0 f1 f3 f4 f5
    obtain ⟨o, e, c, d⟩ := id st'
    exact ⟨u, rfl, go_of (s := { s with heap := h' }) e c d (by decide) ⟨x, H, I1, ru, ⟨rfl, fun ys hy => by rw [I.tuple_inj hy hq]; exact hx⟩, st', fun b hb => (hf b hb).1⟩⟩
  done := by
    intro X hP hw hK hc i pins s σ H E I hf st hg
    subst hP hw hK
    obtain ⟨xs, hq, hx⟩ := hg
    obtain ⟨its, rv, p, hz⟩ := I.tuple hq
    obtain ⟨f0, f1, f2, f3, f4, f5⟩ := hf it (by simp)
    have hl := rv.length
    exact wpAny_pyNext_tuple_end (I.ok.hd hc) st (show s.heap.IsTuple a its.toArray from p) (by simp; omega) fun h' eb => ⟨rfl, I.turned (t' := s.toks) (fun b o hb e => eb b o hb e) f0 f1 f3 f4 f5⟩
  self := fun _ _ _ _ _ st h => wpAny_pyIter_tupleiter st h
theorem turn_range {P : Program} {w : World} {K : PySem.W.Frag} {tg : Expr} (it : Addr) (lo : Int) (n : Nat) : Turn P w K tg (Itr lo n) [it] it (fun i h => IsRangeIter h it (lo + (i : Nat) * 1) ((n : Int) - (i : Nat)) 1) where
  mem := by simp
  obj := fun i h st b hb => by
    have e : b = it := by simpa using hb
    subst e
    exact ⟨_, st, fun v z => by
      have z' : Data.fields _ = Data.cell v := z
      cases z'⟩
  keep := fun i h h' st k => k it (by simp) _ st
  item := by
    intro X hP hw hK hc i pins s σ H E I hf st hg
    subst hP hw hK
    obtain ⟨f0, f1, f2, f3, f4, f5⟩ := hf it (by simp)
    have W := Walks.range (prog := X.prog) (w := X.w) (I.ok.hd hc) it lo 1 n
    refine W.item i s _ _ hg st fun v h' tk hv st' kk => ?_
    obtain ⟨t, rfl⟩ := hv
    have I1 : Inv X pins σ H { s with heap := h', toks := tk } := I.turned (fun b o hb e => kk b o (by simpa using hb) e) f0 f1 f3 f4 f5
    refine ⟨_, rfl, go_of (s := { s with heap := h', toks := tk }) (n := "range_iterator") st' rfl rfl (by decide) ⟨.int (lo + i), H, I1, ⟨t, ?_⟩, ⟨rfl, rfl⟩, st', fun b hb => (hf b hb).1⟩⟩
    rw [Int.mul_one]
  done := by
    intro X hP hw hK hc i pins s σ H E I hf st hg
    subst hP hw hK
    obtain ⟨f0, f1, f2, f3, f4, f5⟩ := hf it (by simp)
    exact wpAny_pyNext_range_end (I.ok.hd hc) st (by have : n ≤ i := hg; omega) fun h' eb => ⟨rfl, I.turned (t' := s.toks) (fun b o hb e => eb b o hb e) f0 f1 f3 f4 f5⟩
  self := fun _ _ _ _ _ st h => wpAny_pyIter_rangeiter st h
end L2

namespace L2
open PySem PySem.Spec PyProof.Rows
section
variable {X : Cx} {tg : Expr}
def iList (K : PySem.W.Frag) (tl : TE) : TI := fun σ H R => tl σ H fun x H1 => ∃ a, x = .ref a ∧ (∃ xs, SqL K H1 a xs) ∧ R (Itl K a) H1
def iTup (K : PySem.W.Frag) (tl : TE) : TI := fun σ H R => tl σ H fun x H1 => ∃ a, x = .ref a ∧ (∃ xs, SqT K H1 a xs) ∧ R (Itt K a) H1
theorem pi_list {l : Expr} {tl : TE} (hl : PE X l tl) : PI X tg l (iList X.K tl) := by
  intro pins s σ H R I h
  refine thn (hl pins s σ H _ I h) fun v s1 ⟨x, H1, I1, r1, q1⟩ => ?_
  obtain ⟨a, e, ⟨xs, hq⟩, q⟩ := q1
  subst e
  cases r1
  obtain ⟨its, rv, p, hz⟩ := I1.list hq
  refine wpAny_pyIter_list p.isList ?_
  refine ⟨s1.heap.objs.size, [s1.heap.objs.size], _, _, H1, rfl, I1.kept (t' := s1.toks) fun b o e => Heap.get?_push_of_some _ e, turn_list a _, ⟨_, Heap.get?_push_size _ rfl, rfl, rfl⟩, fun b hb => ?_, q⟩
  have e : b = s1.heap.objs.size := by simpa using hb
  subst e
  exact I1.fpOk (Nat.le_refl _) (I1.hok.fresh (Nat.le_refl _))
theorem pi_tup {l : Expr} {tl : TE} (hl : PE X l tl) : PI X tg l (iTup X.K tl) := by
  intro pins s σ H R I h
  refine thn (hl pins s σ H _ I h) fun v s1 ⟨x, H1, I1, r1, q1⟩ => ?_
  obtain ⟨a, e, ⟨xs, hq⟩, q⟩ := q1
  subst e
  cases r1
  obtain ⟨its, rv, p, hz⟩ := I1.tuple hq
  refine wpAny_pyIter_tuple (show s1.heap.IsTuple a its.toArray from p) ?_
  refine ⟨s1.heap.objs.size, [s1.heap.objs.size], _, _, H1, rfl, I1.kept (t' := s1.toks) fun b o e => Heap.get?_push_of_some _ e, turn_tuple a _, ⟨_, Heap.get?_push_size _ rfl, rfl, rfl⟩, fun b hb => ?_, q⟩
  have e : b = s1.heap.objs.size := by simpa using hb
  subst e
  exact I1.fpOk (Nat.le_refl _) (I1.hok.fresh (Nat.le_refl _))
/-- a range object just made, walked -/
theorem range_it {pins : List (Addr × Obj)} {σ : St} {H : Hp} {s : Shared} {R : It → Hp → Prop} {E : Value → Shared → Prop} {lo hi : Int} {t u v : Tok} {tk : Nat} (I : Inv X pins σ H s) (h1 : -(2 ^ 62) ≤ lo) (h2 : lo < 2 ^ 62) (h3 : -(2 ^ 62) ≤ hi) (h4 : hi < 2 ^ 62)
    (q : R (Itr lo (hi - lo).toNat) H) : wpAny (model X.prog X.w) X.A (pyIter (.ref s.heap.objs.size)) (PIE X pins σ tg R) E { s with heap := s.heap.push { cls := .type "range", data := .fields #[.int lo t, .int hi u, .int 1 v] }, toks := tk } := by
  refine wpAny_pyIter_range (IsRange.new ..) (small_one h1 h2 h3 h4) ?_
  have I1 : Inv X pins σ H { s with heap := s.heap.push { cls := .type "range", data := .fields #[.int lo t, .int hi u, .int 1 v] }, toks := tk } := I.kept fun b o e => Heap.get?_push_of_some _ e
  refine ⟨(s.heap.push { cls := .type "range", data := .fields #[.int lo t, .int hi u, .int 1 v] }).objs.size, [(s.heap.push { cls := .type "range", data := .fields #[.int lo t, .int hi u, .int 1 v] }).objs.size], _, _, H, rfl,
    I1.kept (t' := tk) fun b o e => Heap.get?_push_of_some _ e, turn_range _ lo (hi - lo).toNat, ?_, fun b hb => ?_, q⟩
  · have e1 : lo + ((0 : Nat) : Int) * 1 = lo := by simp
    have e2 : (((hi - lo).toNat : Nat) : Int) - ((0 : Nat) : Int) = Builtin.Range.rangeSize lo hi 1 := by rw [rangeSize_one]; split <;> omega
    show IsRangeIter _ _ (lo + ((0 : Nat) : Int) * 1) ((((hi - lo).toNat : Nat) : Int) - ((0 : Nat) : Int)) 1
    rw [e1, e2]
    exact Heap.get?_push_size _ rfl
  · have e : b = (s.heap.push { cls := .type "range", data := .fields #[.int lo t, .int hi u, .int 1 v] }).objs.size := by simpa using hb
    subst e
    exact I1.fpOk (Nat.le_refl _) (I1.hok.fresh (Nat.le_refl _))
def iRng1 (ta : TA) : TI := fun σ H R => ta σ H fun vs H1 => ∃ j : Int, vs = [.int j] ∧ -(2 ^ 62) ≤ j ∧ j < 2 ^ 62 ∧ R (Itr 0 j.toNat) H1
theorem pi_range1 {a : Expr} {ta : TA} {p pos : Pos} (hg : Gl X "range") (hm : X.mg "range" = none) (ha : PA X [a] ta) (hs : starEach [a] X.env = [(false, eval a X.env)] := by rfl) : PI X tg (.Call (.Name "range" p) [a] [] pos) (iRng1 ta) := by
  intro pins s σ H R I h
  refine Call_ (ld_blt I hg hm boot_range (PyProof.Rows.callWith_type1 (thn (ha pos pins s σ H _ I h) fun us s1 ⟨vs, H1, I1, r1, q1⟩ => ?_) hs rfl))
  obtain ⟨j, e, q1, q2, q⟩ := q1
  subst e
  cases r1 with
  | cons r rr =>
    cases rr
    obtain ⟨t, rfl⟩ := r
    exact call_range_1 (range_it I1 (by omega) (by omega) q1 q2 (by simpa using q))
/-! ### for -/
/-- W: the invariant by the turn and a measure; N: what the body is to reach -/
def tFor (wi : TI) (g : TG) (tb : TS) : TS := fun D σ H => wi σ H fun J H1 => ∃ W : Nat → Nat → St → Hp → Prop, (∃ m, W 0 m σ H1) ∧ ∀ i m σ H, W i m σ H →
  (J.stop i H ∧ D.nx σ H) ∨ (J.go i H ∧ ∃ N : St → Hp → Prop, (∀ σ' H', N σ' H' → ∃ m', m' < m ∧ W (i + 1) m' σ' H') ∧ ∀ x H', J.yld i H x H' → g x σ H' fun σ2 H2 => tb { D with nx := N, ct := N, bk := D.nx } σ2 H2)
/-- the records at fp as they stand -/
def pinsAt (fp : List Addr) (h : Heap) : List (Addr × Obj) := fp.filterMap fun b => (h.get? b).map fun o => (b, o)
theorem mem_pinsAt {fp : List Addr} {h : Heap} {b : Addr} {o : Obj} (hb : b ∈ fp) (e : h.get? b = some o) : (b, o) ∈ pinsAt fp h := List.mem_filterMap.mpr ⟨b, hb, by rw [e]; rfl⟩
theorem of_pinsAt {fp : List Addr} {h : Heap} {p : Addr × Obj} (hp : p ∈ pinsAt fp h) : p.1 ∈ fp ∧ h.get? p.1 = some p.2 := by
  obtain ⟨b, hb, e⟩ := List.mem_filterMap.mp hp
  cases q : h.get? b with
  | none => rw [q] at e; cases e
  | some o =>
    rw [q] at e
    have e' : (b, o) = p := Option.some.inj e
    subst e'
    exact ⟨hb, q⟩
theorem Inv.pinned {pins : List (Addr × Obj)} {σ : St} {H : Hp} {s : Shared} {fp : List Addr} (I : Inv X pins σ H s) (hf : ∀ b ∈ fp, FpOk X pins H b) (ho : ∀ b ∈ fp, ∃ o, s.heap.get? b = some o ∧ ∀ v, o.data ≠ .cell v) : Inv X (pins ++ pinsAt fp s.heap) σ H s :=
  I.pins_of fun p hp => (List.mem_append.mp hp).elim (fun z => I.pin p (List.mem_append_right _ z)) fun z => by
    obtain ⟨hb, e⟩ := of_pinsAt z
    obtain ⟨f0, f1, f2, _⟩ := hf p.1 hb
    obtain ⟨o, e', d⟩ := ho p.1 hb
    rw [e] at e'; cases e'
    exact ⟨e, f0, f1, f2, d⟩
theorem Inv.unpinned {pins pl : List (Addr × Obj)} {σ : St} {H : Hp} {s : Shared} (I : Inv X (pins ++ pl) σ H s) : Inv X pins σ H s := I.pins_of fun p hp => I.pin p (List.mem_append_right _ (List.mem_append_left _ hp))
theorem ps_for {iter : Expr} {body : List Stmt} {wi : TI} {g : TG} {tb : TS} {pos : Pos} (hp : PassesOwn (model X.prog X.w) X.A X.env X.xe) (hc : X.calm = true) (hi : PI X tg iter wi) (hg : PG X tg g) (hb : PSs X body tb)
    (hs : ∀ x, foldedSetIterable iter X.env x = pure x := by intro _; rfl) : PS X (.For tg iter body [] pos) (tFor wi g tb) := by
  intro pins s σ H D I h
  refine wpAny_For (thn (hi pins s σ H _ I h) fun v s1 h1 => thn h1 fun itv s2 h2 => ?_) hs
  obtain ⟨it, fp, tn, J, H2, e, I2, T, st2, f2, W, ⟨m0, w0⟩, turn⟩ := h2
  subst e
  -- what stays true of the iterator's objects through the loop
  have stat : ∀ {H' : Hp}, (∀ b ∈ fp, H' b = none) → ∀ b ∈ fp, FpOk X pins H' b := fun hn b hb => ⟨hn b hb, (f2 b hb).2⟩
  refine codeAny_forLoop_any (fun n s' => ∃ i σ' H', Inv X pins σ' H' s' ∧ tn i s'.heap ∧ (∀ b ∈ fp, H' b = none) ∧ W i n σ' H') ?_ m0 ⟨0, σ, H2, I2, st2, fun b hb => (f2 b hb).1, w0⟩
  rintro n s3 ⟨i, σ3, H3, I3, st3, fr3, w3⟩
  rcases turn i n σ3 H3 w3 with ⟨stop, qn⟩ | ⟨go, N, hN, step⟩
  · refine wpAny_passesOwn hp (thn (T.done X rfl rfl rfl hc i pins s3 σ3 H3 X.xe I3 (stat fr3) st3 stop) fun r s4 ⟨hr, I4⟩ => ?_)
    subst hr
    exact wpAny_execs_nil ⟨σ3, H3, I4, qn⟩
  · refine wpAny_passesOwn hp (thn (T.item X rfl rfl rfl hc i pins s3 σ3 H3 X.xe I3 (stat fr3) st3 go) fun r s4 ⟨u, hr, h4⟩ => ?_)
    subst hr
    refine wpAny_passesOwn hp (thn h4 fun _ s5 ⟨x, H5, I5, r5, y5, st5, fr5⟩ => ?_)
    have I5' := I5.pinned (stat fr5) (T.obj _ _ st5)
    refine wpAny_passesOwn hp (thn (hg _ s5 σ3 H5 x u _ I5' r5 (step x H5 y5)) fun _ s6 ⟨σ6, H6, I6, q6⟩ => ?_)
    refine wpAny_passesOwn hp (thn (hb _ s6 σ6 H6 _ I6 q6) fun f s7 q7 => ?_)
    have again : ∀ {σ7 : St} {H7 : Hp}, Inv X (pins ++ pinsAt fp s5.heap) σ7 H7 s7 → N σ7 H7 → ∃ m, m < n ∧ ∃ i σ' H', Inv X pins σ' H' s7 ∧ tn i s7.heap ∧ (∀ b ∈ fp, H' b = none) ∧ W i m σ' H' := fun {σ7 H7} I7 n7 => by
      obtain ⟨m', hm, w7⟩ := hN σ7 H7 n7
      refine ⟨m', hm, i + 1, σ7, H7, I7.unpinned, T.keep _ _ _ st5 fun b hb o e => (I7.pin (b, o) (List.mem_append_right _ (List.mem_append_right _ (mem_pinsAt hb e)))).1, fun b hb => ?_, w7⟩
      obtain ⟨o, e, d⟩ := T.obj _ _ st5 b hb
      exact (I7.pin (b, o) (List.mem_append_right _ (List.mem_append_right _ (mem_pinsAt hb e)))).2.1
    cases f with
    | next => obtain ⟨σ7, H7, I7, n7⟩ := q7; exact again I7 n7
    | cont => obtain ⟨σ7, H7, I7, n7⟩ := q7; exact again I7 n7
    | brk => obtain ⟨σ7, H7, I7, q7⟩ := q7; exact ⟨σ7, H7, I7.unpinned, q7⟩
    | ret v => obtain ⟨x7, σ7, H7, I7, r7, q7⟩ := q7; exact ⟨x7, σ7, H7, I7.unpinned, r7, q7⟩
end

/-! ### the forms one uses -/
/-- over a list that the body leaves as it is -/
theorem for_list {K : PySem.W.Frag} {a : Addr} {xs : List V} {g : TG} {tb : TS} {D : Ends} {σ : St} {H : Hp} (Pv : Nat → St → Hp → Prop) (h0 : Pv 0 σ H) (hl : ∀ i σ H, i ≤ xs.length → Pv i σ H → SqL K H a xs)
    (hs : ∀ i x σ H, xs[i]? = some x → Pv i σ H → g x σ H fun σ2 H2 => tb { D with nx := Pv (i + 1), ct := Pv (i + 1), bk := D.nx } σ2 H2) (hd : ∀ σ H, Pv xs.length σ H → D.nx σ H) :
    ∃ W : Nat → Nat → St → Hp → Prop, (∃ m, W 0 m σ H) ∧ ∀ i m σ H, W i m σ H →
      ((Itl K a).stop i H ∧ D.nx σ H) ∨ ((Itl K a).go i H ∧ ∃ N : St → Hp → Prop, (∀ σ' H', N σ' H' → ∃ m', m' < m ∧ W (i + 1) m' σ' H') ∧ ∀ x H', (Itl K a).yld i H x H' → g x σ H' fun σ2 H2 => tb { D with nx := N, ct := N, bk := D.nx } σ2 H2) := by
  refine ⟨fun i m σ H => m = xs.length - i ∧ i ≤ xs.length ∧ Pv i σ H, ⟨xs.length, by simp, Nat.zero_le _, h0⟩, ?_⟩
  rintro i m σ H ⟨rfl, hi, p⟩
  have q := hl i σ H hi p
  by_cases hlt : i < xs.length
  · refine .inr ⟨⟨xs, xs[i], q, by simp [hlt]⟩, Pv (i + 1), fun σ' H' p' => ⟨xs.length - (i + 1), by omega, rfl, hlt, p'⟩, fun x H' y => ?_⟩
    obtain ⟨e, y⟩ := y
    subst e
    exact hs i x σ _ (y xs q) p
  · have e : i = xs.length := by omega
    subst e
    exact .inl ⟨⟨xs, q, Nat.le_refl _⟩, hd σ H p⟩
theorem for_range {lo : Int} {n : Nat} {g : TG} {tb : TS} {D : Ends} {σ : St} {H : Hp} (Pv : Nat → St → Hp → Prop) (h0 : Pv 0 σ H)
    (hs : ∀ i σ H, i < n → Pv i σ H → g (.int (lo + i)) σ H fun σ2 H2 => tb { D with nx := Pv (i + 1), ct := Pv (i + 1), bk := D.nx } σ2 H2) (hd : ∀ σ H, Pv n σ H → D.nx σ H) :
    ∃ W : Nat → Nat → St → Hp → Prop, (∃ m, W 0 m σ H) ∧ ∀ i m σ H, W i m σ H →
      ((Itr lo n).stop i H ∧ D.nx σ H) ∨ ((Itr lo n).go i H ∧ ∃ N : St → Hp → Prop, (∀ σ' H', N σ' H' → ∃ m', m' < m ∧ W (i + 1) m' σ' H') ∧ ∀ x H', (Itr lo n).yld i H x H' → g x σ H' fun σ2 H2 => tb { D with nx := N, ct := N, bk := D.nx } σ2 H2) := by
  refine ⟨fun i m σ H => m = n - i ∧ i ≤ n ∧ Pv i σ H, ⟨n, by simp, Nat.zero_le _, h0⟩, ?_⟩
  rintro i m σ H ⟨rfl, hi, p⟩
  by_cases hlt : i < n
  · refine .inr ⟨hlt, Pv (i + 1), fun σ' H' p' => ⟨n - (i + 1), by omega, rfl, hlt, p'⟩, fun x H' y => ?_⟩
    obtain ⟨e, y⟩ := y
    subst e y
    exact hs i σ _ hlt p
  · have e : i = n := by omega
    subst e
    exact .inl ⟨Nat.le_refl _, hd σ H p⟩
end L2

namespace L2
open PySem PySem.Spec PyProof.Rows

abbrev R2 := V → V → Hp → VK → Prop
/-- a two-place operation on values: f is binaryOp op, inplaceOp op or compareOp op -/
def OpR (X : Cx) (f : Value → Value → Sem Value) (r : R2) : Prop :=
  ∀ (pins : List (Addr × Obj)) (s : Shared) (σ : St) (H : Hp) (x y : V) (v u : Value) (Q : VK), Inv X pins σ H s → RelV x v → RelV y u → r x y H Q →
    wpAny (model X.prog X.w) X.A (f v u) (EP X pins σ Q) X.xe s
/-- a call of a value that is known (a builtin, a type) with values -/
def CallR (X : Cx) (f : Value) (r : List V → Hp → VK → Prop) : Prop :=
  ∀ (pins : List (Addr × Obj)) (s : Shared) (σ : St) (H : Hp) (xs : List V) (us : List Value) (Q : VK), Inv X pins σ H s → Vals xs us → r xs H Q →
    wpAny (model X.prog X.w) X.A (call f us) (EP X pins σ Q) X.xe s
/-- a value's truth -/
def TruR (X : Cx) (r : V → Hp → (Bool → Hp → Prop) → Prop) : Prop :=
  ∀ (pins : List (Addr × Obj)) (s : Shared) (σ : St) (H : Hp) (x : V) (v : Value) (Q : Bool → Hp → Prop), Inv X pins σ H s → RelV x v → r x H Q →
    wpAny (model X.prog X.w) X.A (truthy v) (TP X pins σ Q) X.xe s

def tOp (r : R2) (ta tb : TE) : TE := fun σ H Q => ta σ H fun x H1 => tb σ H1 fun y H2 => r x y H2 Q
/-- ints in, under C, and a value out -/
def rI (C : Int → Int → Prop) (g : Int → Int → V) : R2 := fun x y H Q => ∃ i j, x = .int i ∧ y = .int j ∧ C i j ∧ Q (g i j) H
def rI0 (g : Int → Int → V) : R2 := fun x y H Q => ∃ i j, x = .int i ∧ y = .int j ∧ Q (g i j) H
section
variable {X : Cx} {a b c : Expr} {ta tb tc : TE} {pos : Pos}

theorem binT (ha : PE X a ta) (hb : PE X b tb) {pins : List (Addr × Obj)} {s : Shared} {σ : St} {H : Hp} {R : V → V → Hp → Prop} (I : Inv X pins σ H s)
    (h : ta σ H fun x H1 => tb σ H1 fun y H2 => R x y H2) {Q : Value → Shared → Prop} {f : Value → Value → Sem Value}
    (hf : ∀ v u s2 x y H2, Inv X pins σ H2 s2 → RelV x v → RelV y u → R x y H2 → wpAny (model X.prog X.w) X.A (f v u) Q X.xe s2) :
    wpAny (model X.prog X.w) X.A (eval a X.env) (fun v s₁ => wpAny (model X.prog X.w) X.A (eval b X.env) (fun u s₂ => wpAny (model X.prog X.w) X.A (f v u) Q X.xe s₂) X.xe s₁) X.xe s := by
  refine thn (ha pins s σ H _ I h) fun v s1 ⟨x, H1, I1, r1, q1⟩ => ?_
  refine thn (hb pins s1 σ H1 _ I1 q1) fun u s2 ⟨y, H2, I2, r2, q2⟩ => ?_
  exact hf v u s2 x y H2 I2 r1 r2 q2

theorem pe_op {op : Operator} {r : R2} (ho : OpR X (binaryOp op) r) (ha : PE X a ta) (hb : PE X b tb) : PE X (.BinOp a op b pos) (tOp r ta tb) := by
  intro pins s σ H Q I h
  exact wpAny_BinOp (binT ha hb I h fun v u s2 x y H2 I2 rx ry q => ho pins s2 σ H2 x y v u Q I2 rx ry q)
/-! ### ints -/
theorem opI {f : Value → Value → Sem Value} {C : Int → Int → Prop} {g : Int → Int → Int}
    (rule : ∀ (i j : Int) (t u : Tok) (s : Shared) (Q : Value → Shared → Prop) (E : Value → Shared → Prop), C i j → Q (.int (g i j) s.toks) { s with toks := s.toks + 1 } → wpAny (model X.prog X.w) X.A (f (.int i t) (.int j u)) Q E s) :
    OpR X f (rI C fun i j => .int (g i j)) := by
  intro pins s σ H x y v u Q I rx ry h
  obtain ⟨i, j, rfl, rfl, hc, q⟩ := h
  obtain ⟨t, rfl⟩ := rx
  obtain ⟨t', rfl⟩ := ry
  exact rule i j t t' s _ _ hc ⟨.int (g i j), H, I.tok _, ⟨_, rfl⟩, q⟩
theorem opI0 {f : Value → Value → Sem Value} {g : Int → Int → Int}
    (rule : ∀ (i j : Int) (t u : Tok) (s : Shared) (Q : Value → Shared → Prop) (E : Value → Shared → Prop), Q (.int (g i j) s.toks) { s with toks := s.toks + 1 } → wpAny (model X.prog X.w) X.A (f (.int i t) (.int j u)) Q E s) :
    OpR X f (rI0 fun i j => .int (g i j)) := by
  intro pins s σ H x y v u Q I rx ry h
  obtain ⟨i, j, rfl, rfl, q⟩ := h
  obtain ⟨t, rfl⟩ := rx
  obtain ⟨t', rfl⟩ := ry
  exact rule i j t t' s _ _ ⟨.int (g i j), H, I.tok _, ⟨_, rfl⟩, q⟩
theorem opB0 {f : Value → Value → Sem Value} {g : Int → Int → Bool}
    (rule : ∀ (i j : Int) (t u : Tok) (s : Shared) (Q : Value → Shared → Prop) (E : Value → Shared → Prop), Q (.bool (g i j)) s → wpAny (model X.prog X.w) X.A (f (.int i t) (.int j u)) Q E s) :
    OpR X f (rI0 fun i j => .bl (g i j)) := by
  intro pins s σ H x y v u Q I rx ry h
  obtain ⟨i, j, rfl, rfl, q⟩ := h
  obtain ⟨t, rfl⟩ := rx
  obtain ⟨t', rfl⟩ := ry
  exact rule i j t t' s _ _ ⟨.bl (g i j), H, I, rfl, q⟩

def CDiv (i j : Int) : Prop := 0 < j ∧ j < 1073741824
def CPow (i j : Int) : Prop := 0 ≤ j ∧ j ≤ 1000000 ∧ i.natAbs < 2 ^ 64
def CMul (i j : Int) : Prop := (-(2 ^ 64) < i ∧ i < 2 ^ 64) ∨ (-(2 ^ 64) < j ∧ j < 2 ^ 64)
theorem CMul.ok {i j : Int} (h : CMul i j) : IntMulOk i j := by
  rcases h with ⟨h1, h2⟩ | ⟨h1, h2⟩
  · exact .of_left (intBits_le_64 h1 h2)
  · exact .of_right (intBits_le_64 h1 h2)
theorem op_add : OpR X (binaryOp .Add) (rI0 fun i j => .int (i + j)) := opI0 fun _ _ _ _ _ _ _ q => add_int q
theorem op_sub : OpR X (binaryOp .Sub) (rI0 fun i j => .int (i - j)) := opI0 fun _ _ _ _ _ _ _ q => sub_int q
theorem op_mul : OpR X (binaryOp .Mult) (rI CMul fun i j => .int (i * j)) := opI fun _ _ _ _ _ _ _ hc q => mul_int q hc.ok
/-- // by a positive divisor -/
theorem op_fdiv : OpR X (binaryOp .FloorDiv) (rI CDiv fun i j => .int (i / j)) := opI fun i j _ _ _ _ _ hc q => by
  have h1 : (0 : Int) < j := hc.1
  have h2 : j < 1073741824 := hc.2
  exact floordiv_int (by omega) (by rw [Int.fdiv_eq_ediv_of_nonneg i (by omega)]; exact q) (.inl (PyProof.noPylong_small (by omega)))
/-- % by a positive divisor of any size -/
theorem op_mod : OpR X (binaryOp .Mod) (rI (fun _ j => 0 < j) fun i j => .int (i % j)) := opI fun i j _ _ _ _ _ hc q => by
  have h1 : (0 : Int) < j := hc
  exact mod_int' (by omega) (by rw [Int.fmod_eq_emod_of_nonneg i (by omega)]; exact q)
theorem op_pow : OpR X (binaryOp .Pow) (rI CPow fun i j => .int (i ^ j.toNat)) := opI fun _ _ _ _ _ _ _ hc q => pow_int_small hc.1 hc.2.1 hc.2.2 q
/-! ### bools among ints: n += (a < b) -/
end

/-! ### comparisons -/
/-- the scalars that == tells apart as data does -/
def scal : V → V → Bool
  | .non, .non => true | .non, .int _ => true | .int _, .non => true | .non, .bl _ => true | .bl _, .non => true | .non, .str _ => true | .str _, .non => true
  | .int _, .int _ => true | .bl _, .bl _ => true | .str _, .str _ => true | .byt _, .byt _ => true
  | .int _, .str _ => true | .str _, .int _ => true | .bl _, .str _ => true | .str _, .bl _ => true
  | _, _ => false
def rEq : R2 := fun x y H Q => scal x y = true ∧ Q (.bl (decide (x = y))) H
def rNe : R2 := fun x y H Q => scal x y = true ∧ Q (.bl (!decide (x = y))) H

theorem dec_int {i j : Int} : decide (V.int i = V.int j) = (i == j) := by
  rw [Bool.eq_iff_iff]
  simp
theorem dec_bl {i j : Bool} : decide (V.bl i = V.bl j) = (i == j) := by
  rw [Bool.eq_iff_iff]
  simp
theorem dec_str {i j : Str} : decide (V.str i = V.str j) = (i == j) := by
  rw [Bool.eq_iff_iff]
  simp
theorem dec_byt {i j : Array UInt8} : decide (V.byt i = V.byt j) = (i.toList == j.toList) := by
  rw [Bool.eq_iff_iff]
  cases i
  cases j
  simp

section
variable {X : Cx} {a b c : Expr} {ta tb tc : TE} {pos : Pos}
theorem fin_bl {pins : List (Addr × Obj)} {σ : St} {H : Hp} {s : Shared} {Q : VK} {k k' : Bool} (I : Inv X pins σ H s) (q : Q (.bl k) H) (e : k = k') : EP X pins σ Q (.bool k') s := by
  subst e
  exact ⟨.bl k, H, I, rfl, q⟩
theorem op_eq : OpR X (compareOp .Eq) rEq := by
  intro pins s σ H x y v u Q I rx ry h
  obtain ⟨hs, q⟩ := h
  cases x with
  | non =>
    cases rx
    cases y with
    | non => cases ry; exact PySem.EqNone.eq_none_none (fin_bl I q (by simp))
    | bl j => cases ry; exact PySem.EqNone.eq_none_bool (fin_bl I q (by simp))
    | int j => obtain ⟨t', rfl⟩ := ry; exact PySem.EqNone.eq_none_int (fin_bl I q (by simp))
    | str j => obtain ⟨t', rfl⟩ := ry; exact PySem.EqNone.eq_none_str (fin_bl I q (by simp))
    | _ => exact absurd (show false = true from hs) Bool.false_ne_true
  | bl i =>
    cases rx
    cases y with
    | non => cases ry; exact PySem.EqNone.eq_bool_none (fin_bl I q (by simp))
    | bl j => cases ry; exact eq_bool (fin_bl I q dec_bl)
    | str j => obtain ⟨t', rfl⟩ := ry; exact PySem.EqMixed.eq_bool_str (fin_bl I q (by simp))
    | _ => exact absurd (show false = true from hs) Bool.false_ne_true
  | int i =>
    obtain ⟨t, rfl⟩ := rx
    cases y with
    | non => cases ry; exact PySem.EqNone.eq_int_none (fin_bl I q (by simp))
    | int j => obtain ⟨t', rfl⟩ := ry; exact eq_int (fin_bl I q dec_int)
    | str j => obtain ⟨t', rfl⟩ := ry; exact PySem.EqMixed.eq_int_str (fin_bl I q (by simp))
    | _ => exact absurd (show false = true from hs) Bool.false_ne_true
  | str i =>
    obtain ⟨t, rfl⟩ := rx
    cases y with
    | non => cases ry; exact PySem.EqNone.eq_str_none (fin_bl I q (by simp))
    | bl j => cases ry; exact PySem.EqMixed.eq_str_bool (fin_bl I q (by simp))
    | int j => obtain ⟨t', rfl⟩ := ry; exact PySem.EqMixed.eq_str_int (fin_bl I q (by simp))
    | str j => obtain ⟨t', rfl⟩ := ry; exact eq_str (fin_bl I q dec_str)
    | _ => exact absurd (show false = true from hs) Bool.false_ne_true
  | byt i =>
    obtain ⟨t, rfl⟩ := rx
    cases y with
    | byt j => obtain ⟨t', rfl⟩ := ry; exact PySem.W.eq_bytes (fin_bl I q dec_byt)
    | _ => exact absurd (show false = true from hs) Bool.false_ne_true
  | _ => cases y <;> exact absurd (show false = true from hs) Bool.false_ne_true
theorem op_ne : OpR X (compareOp .NotEq) rNe := by
  intro pins s σ H x y v u Q I rx ry h
  obtain ⟨hs, q⟩ := h
  cases x with
  | non =>
    cases rx
    cases y with
    | non => cases ry; exact PySem.EqNone.ne_none_none (fin_bl I q (by simp))
    | bl j => cases ry; exact PySem.EqNone.ne_none_bool (fin_bl I q (by simp))
    | int j => obtain ⟨t', rfl⟩ := ry; exact PySem.EqNone.ne_none_int (fin_bl I q (by simp))
    | str j => obtain ⟨t', rfl⟩ := ry; exact PySem.EqNone.ne_none_str (fin_bl I q (by simp))
    | _ => exact absurd (show false = true from hs) Bool.false_ne_true
  | bl i =>
    cases rx
    cases y with
    | non => cases ry; exact PySem.EqNone.ne_bool_none (fin_bl I q (by simp))
    | bl j => cases ry; exact ne_bool (fin_bl I q (congrArg not dec_bl))
    | str j => obtain ⟨t', rfl⟩ := ry; exact PySem.EqMixed.ne_bool_str (fin_bl I q (by simp))
    | _ => exact absurd (show false = true from hs) Bool.false_ne_true
  | int i =>
    obtain ⟨t, rfl⟩ := rx
    cases y with
    | non => cases ry; exact PySem.EqNone.ne_int_none (fin_bl I q (by simp))
    | int j => obtain ⟨t', rfl⟩ := ry; exact ne_int (fin_bl I q (congrArg not dec_int))
    | str j => obtain ⟨t', rfl⟩ := ry; exact PySem.EqMixed.ne_int_str (fin_bl I q (by simp))
    | _ => exact absurd (show false = true from hs) Bool.false_ne_true
  | str i =>
    obtain ⟨t, rfl⟩ := rx
    cases y with
    | non => cases ry; exact PySem.EqNone.ne_str_none (fin_bl I q (by simp))
    | bl j => cases ry; exact PySem.EqMixed.ne_str_bool (fin_bl I q (by simp))
    | int j => obtain ⟨t', rfl⟩ := ry; exact PySem.EqMixed.ne_str_int (fin_bl I q (by simp))
    | str j => obtain ⟨t', rfl⟩ := ry; exact ne_str (fin_bl I q (congrArg not dec_str))
    | _ => exact absurd (show false = true from hs) Bool.false_ne_true
  | byt i =>
    obtain ⟨t, rfl⟩ := rx
    cases y with
    | byt j => obtain ⟨t', rfl⟩ := ry; exact PySem.W.ne_bytes (fin_bl I q (congrArg not dec_byt))
    | _ => exact absurd (show false = true from hs) Bool.false_ne_true
  | _ => cases y <;> exact absurd (show false = true from hs) Bool.false_ne_true

theorem op_lt : OpR X (compareOp .Lt) (rI0 fun i j => .bl (decide (i < j))) := opB0 fun _ _ _ _ _ _ _ q => lt_int q
theorem op_le : OpR X (compareOp .LtE) (rI0 fun i j => .bl (decide (i ≤ j))) := opB0 fun _ _ _ _ _ _ _ q => le_int q
theorem op_gt : OpR X (compareOp .Gt) (rI0 fun i j => .bl (decide (j < i))) := opB0 fun _ _ _ _ _ _ _ q => gt_int q
/-- the one string within the other -/
theorem op_in_str : OpR X (compareOp .In) (fun x y H Q => ∃ i j, x = .str i ∧ y = .str j ∧ Q (.bl (!(Builtin.Str.occurrences j i 0 j.length 1).isEmpty)) H) := by
  intro pins s σ H x y v u Q I rx ry h
  obtain ⟨i, j, rfl, rfl, q⟩ := h
  obtain ⟨t, rfl⟩ := rx
  obtain ⟨t', rfl⟩ := ry
  exact in_str (fin_bl I q rfl)

/-- two rules for one operation: by cases -/
theorem OpR.or {f : Value → Value → Sem Value} {r r' : R2} (h : OpR X f r) (h' : OpR X f r') : OpR X f (fun x y H Q => r x y H Q ∨ r' x y H Q) := by
  intro pins s σ H x y v u Q I rx ry q
  rcases q with q | q
  · exact h pins s σ H x y v u Q I rx ry q
  · exact h' pins s σ H x y v u Q I rx ry q

theorem nomark (b : Expr) {op : CmpOp} (h : op ≠ .In := by decide) (h2 : op ≠ .NotIn := by decide) : behindInMarks op b = false := by
  have e1 : (op == CmpOp.In) = false := by cases op <;> first | rfl | exact absurd rfl h
  have e2 : (op == CmpOp.NotIn) = false := by cases op <;> first | rfl | exact absurd rfl h2
  cases b <;> simp [behindInMarks, e1, e2]
/-- a comparison as a value; hm: nomark b, or (for in, not in) by with_unfolding_all rfl -/
theorem pe_cmpR {op : CmpOp} {r : R2} (ho : OpR X (compareOp op) r) (ha : PE X a ta) (hb : PE X b tb) (hm : behindInMarks op b = false) : PE X (.Compare a [op] [b] pos) (tOp r ta tb) := by
  intro pins s σ H Q I h
  exact wpAny_Compare1 (binT ha hb I h fun v u s2 x y H2 I2 rx ry q => ho pins s2 σ H2 x y v u Q I2 rx ry q) hm
/-- a reading of a value as a test -/
def tTest (t : TE) : TT := fun σ H Q => t σ H fun x H' => ∃ k, x = .bl k ∧ Q k H'
theorem pt_cmpR {op : CmpOp} {r : R2} (ho : OpR X (compareOp op) r) (ha : PE X a ta) (hb : PE X b tb) (hm : behindInMarks op b = false) : PT X (.Compare a [op] [b] pos) (tTest (tOp r ta tb)) := by
  intro pins s σ H Q I h
  refine wpAny_isTrue_Compare1 (thn (ha pins s σ H _ I h) fun v s1 ⟨x, H1, I1, r1, q1⟩ => thn (hb pins s1 σ H1 _ I1 q1) fun u s2 ⟨y, H2, I2, r2, q2⟩ =>
    thn (ho pins s2 σ H2 x y v u _ I2 r1 r2 q2) fun c s3 ⟨z, H3, I3, r3, k, e, q3⟩ => ?_) hm
  subst e
  cases r3
  exact wpAny_truthy_bool ⟨H3, I3, q3⟩
/-- a op1 b op2 c -/
def tChain (r r' : R2) (ta tb tc : TE) : TE := fun σ H Q => ta σ H fun x H1 => tb σ H1 fun y H2 => r x y H2 fun z H3 => ∃ k, z = .bl k ∧
  (if k = true then tc σ H3 fun w' H4 => r' y w' H4 Q else Q (.bl false) H3)
theorem pe_chain {op op' : CmpOp} {r r' : R2} (ho : OpR X (compareOp op) r) (ho' : OpR X (compareOp op') r') (ha : PE X a ta) (hb : PE X b tb) (hc : PE X c tc)
    (hm : lastMarks [op, op'] [b, c] = false := by with_unfolding_all rfl) : PE X (.Compare a [op, op'] [b, c] pos) (tChain r r' ta tb tc) := by
  intro pins s σ H Q I h
  refine Compare_chain (thn (ha pins s σ H _ I h) fun v s1 ⟨x, H1, I1, r1, q1⟩ => chain_link (thn (hb pins s1 σ H1 _ I1 q1) fun u s2 ⟨y, H2, I2, r2, q2⟩ =>
    thn (ho pins s2 σ H2 x y v u _ I2 r1 r2 q2) fun d s3 ⟨z, H3, I3, r3, k, e, q3⟩ => ?_)) hm
  subst e
  cases r3
  refine wpAny_truthy_bool ?_
  cases k with
  | false => exact ite_ff ⟨.bl false, H3, I3, rfl, q3⟩
  | true => exact ite_tt (chain_last (thn (hc pins s3 σ H3 _ I3 q3) fun w' s4 ⟨z', H4, I4, r4, q4⟩ => ho' pins s4 σ H4 y z' u w' Q I4 r2 r4 q4))
theorem pt_chain {op op' : CmpOp} {r r' : R2} (ho : OpR X (compareOp op) r) (ho' : OpR X (compareOp op') r') (ha : PE X a ta) (hb : PE X b tb) (hc : PE X c tc)
    (hm : lastMarks [op, op'] [b, c] = false := by with_unfolding_all rfl) : PT X (.Compare a [op, op'] [b, c] pos) (tTest (tChain r r' ta tb tc)) := by
  intro pins s σ H Q I h
  refine isTrue_chain (thn (ha pins s σ H _ I h) fun v s1 ⟨x, H1, I1, r1, q1⟩ => test_link (thn (hb pins s1 σ H1 _ I1 q1) fun u s2 ⟨y, H2, I2, r2, q2⟩ =>
    thn (ho pins s2 σ H2 x y v u _ I2 r1 r2 q2) fun d s3 ⟨z, H3, I3, r3, k, e, q3⟩ => ?_)) hm
  subst e
  cases r3
  refine wpAny_truthy_bool ?_
  cases k with
  | false =>
    obtain ⟨k', e', q'⟩ := q3
    cases e'
    exact ite_ff ⟨H3, I3, q'⟩
  | true =>
    refine ite_tt (test_last (thn (hc pins s3 σ H3 _ I3 q3) fun w' s4 ⟨z', H4, I4, r4, q4⟩ => thn (ho' pins s4 σ H4 y z' u w' _ I4 r2 r4 q4) fun d' s5 ⟨z2, H5, I5, r5, k2, e2, q5⟩ => ?_))
    subst e2
    cases r5
    exact wpAny_truthy_bool ⟨H5, I5, q5⟩

/-! ### truth -/
/-- a value's truth by the abstract heap -/
def TruV (K : PySem.W.Frag) (x : V) (H : Hp) (k : Bool) : Prop :=
  match x with
  | .non => k = false
  | .bl b => k = b
  | .int i => k = (i != 0)
  | .str y => y.length ≤ sizeLine ∧ k = ((y.length : Int) != 0)
  | .byt y => y.size ≤ sizeLine ∧ k = ((y.size : Int) != 0)
  | .ref p => (∃ xs, SqL K H p xs ∧ k = !xs.isEmpty) ∨ (∃ xs, SqT K H p xs ∧ k = !xs.isEmpty) ∨ ∃ kvs, H p = some (.dK kvs) ∧ k = !kvs.isEmpty
  | _ => False
theorem isEmpty_kv {κ : Type} {kvs : List (κ × V)} {vs : List (κ × Value)} (r : KV kvs vs) : (!vs.isEmpty) = !kvs.isEmpty := by
  cases r <;> rfl
theorem isEmpty_of {xs : List V} {its : List Value} (r : Vals xs its) : (!its.toArray.isEmpty) = !xs.isEmpty := by
  cases r <;> simp
theorem line63 : (sizeLine : Nat) < 2 ^ 63 := by rw [sizeLine_eq]; decide
theorem tru_ok : TruR X (fun x H Q => ∃ k, TruV X.K x H k ∧ Q k H) := by
  intro pins s σ H x v Q I rx h
  obtain ⟨k, e, q⟩ := h
  have hl := line63
  have hs : sizeLine = 16777216 := sizeLine_eq
  cases x with
  | non =>
    cases rx
    have e' : k = false := e
    subst e'
    exact truthy_none ⟨H, I, q⟩
  | bl b =>
    cases rx
    have e' : k = b := e
    subst e'
    exact wpAny_truthy_bool ⟨H, I, q⟩
  | int i =>
    obtain ⟨t, rfl⟩ := rx
    have e' : k = (i != 0) := e
    subst e'
    exact PySem.P.truthy_int ⟨H, I, q⟩
  | str y =>
    obtain ⟨t, rfl⟩ := rx
    obtain ⟨hy, e'⟩ : y.length ≤ sizeLine ∧ k = ((y.length : Int) != 0) := e
    subst e'
    exact PySem.P.truthy_str (by omega) ⟨H, I.tok _, q⟩
  | byt y =>
    obtain ⟨t, rfl⟩ := rx
    obtain ⟨hy, e'⟩ : y.size ≤ sizeLine ∧ k = ((y.size : Int) != 0) := e
    subst e'
    exact PySem.W.truthy_bytes (by omega) ⟨H, I.tok _, q⟩
  | ref p =>
    cases rx
    have e' : (∃ xs, SqL X.K H p xs ∧ k = !xs.isEmpty) ∨ (∃ xs, SqT X.K H p xs ∧ k = !xs.isEmpty) ∨ ∃ kvs, H p = some (.dK kvs) ∧ k = !kvs.isEmpty := e
    rcases e' with ⟨xs, hx, e'⟩ | ⟨xs, hx, e'⟩ | ⟨kvs, hx, e'⟩
    · subst e'
      obtain ⟨its, r, pl, hz⟩ := I.list hx
      have hlen := r.length
      exact wpAny_truthy_list pl.isList (by simp only [List.size_toArray]; omega) ⟨H, I.tok _, by rw [isEmpty_of r]; exact q⟩
    · subst e'
      obtain ⟨its, r, pl, hz⟩ := I.tuple hx
      have hlen := r.length
      exact truthy_tuple pl (by simp only [List.size_toArray]; omega) ⟨H, I.tok _, by rw [isEmpty_of r]; exact q⟩
    · subst e'
      obtain ⟨hz, hS, vs, r, m⟩ : kvs.length ≤ sizeLine ∧ (p == sysModules) = false ∧ ∃ vs, KV kvs vs ∧ s.heap.DictOf (mixKind X.prog X.w) p vs := I.hok p _ hx
      have hlen : kvs.length = vs.length := Paired.length r
      exact wpAny_truthy_dict hS m (by omega) ⟨H, I.tok _, by rw [isEmpty_kv r]; exact q⟩
  | _ => exact (show False from e).elim
/-- any expression whose test is its value's truth (a name, a call, a subscript, a field ..: he by fun _ => rfl) -/
theorem pt_truth (ha : PE X a ta) (he : ∀ whole, isTrue a X.env whole = (do let v ← whole; standAt a.pos; holding [v] (truthy v))) :
    PT X a (fun σ H Q => ta σ H fun x H' => ∃ k, TruV X.K x H' k ∧ Q k H') := by
  intro pins s σ H Q I h
  exact isTrue_plain (thn (ha pins s σ H _ I h) fun v s1 ⟨x, H1, I1, r1, q1⟩ => tru_ok pins s1 σ H1 x v Q I1 r1 q1) (he _)

/-! ### strs and bytes -/
theorem op_add_str : OpR X (binaryOp .Add) (fun x y H Q => ∃ i j, x = .str i ∧ y = .str j ∧ i.length + j.length ≤ sizeLine ∧ Q (.str (i ++ j)) H) := by
  intro pins s σ H x y v u Q I rx ry h
  obtain ⟨i, j, rfl, rfl, hz, q⟩ := h
  obtain ⟨t, rfl⟩ := rx
  obtain ⟨t', rfl⟩ := ry
  exact add_str (fun t' tk => ⟨.str (i ++ j), H, I.tok _, ⟨_, rfl⟩, q⟩) hz
/-! ### scalar builtins, by CallR -/
theorem vals1 {x : V} {us : List Value} (r : Vals [x] us) : ∃ u, us = [u] ∧ RelV x u := by
  cases r with
  | cons r1 r2 => cases r2; exact ⟨_, rfl, r1⟩
theorem vals2 {x y : V} {us : List Value} (r : Vals [x, y] us) : ∃ u w', us = [u, w'] ∧ RelV x u ∧ RelV y w' := by
  cases r with
  | cons r1 r2 =>
    cases r2 with
    | cons r3 r4 => cases r4; exact ⟨_, _, rfl, r1, r3⟩
end
end L2

namespace L2
open PySem PySem.Spec PyProof.Rows

/-! ### an instance, its attributes a map -/
structure ObjM (h : Heap) (x dx C : Addr) (mA : Str → Option Value) : Prop where
  obj : h.get? x = some (PySem.W.instObj C dx)
  ns : h.Ns1 dx mA
  ne : dx ≠ x

theorem lookIn_ns {h : Heap} {dx : Addr} {mA : Str → Option Value} (n : h.Ns1 dx mA) : ∃ od, h.get? dx = some od ∧ ∀ name, PySem.W.lookIn name od = some (mA name) := by
  obtain ⟨o, es, ep, ho, hd, hk, _, hm⟩ := n
  refine ⟨o, ho, fun name => ?_⟩
  have e := hm name
  unfold nsFind findBy at e
  rw [← Array.find?_toList] at e
  unfold PySem.W.lookIn
  rw [hd]
  dsimp only
  split
  · rename_i y q
    rw [q] at e
    exact congrArg some e
  · rename_i q
    rw [q] at e
    have a : es.toList.any (·.refKey) = false := by
      rw [List.any_eq_false]
      intro y hy
      obtain ⟨z, t, hkey⟩ := hk y (Array.mem_toList_iff.mp hy)
      simp [DictEntry.refKey, hkey]
    have a' : ¬ es.toList.any (·.refKey) = true := by rw [a]; exact Bool.false_ne_true
    rw [if_neg a']
    exact congrArg some e

theorem ObjM.look {h : Heap} {x dx C : Addr} {mA : Str → Option Value} (I : ObjM h x dx C mA) : ∃ od, PySem.W.InstAt h x (PySem.W.instObj C dx) C (some od) ∧ ∀ name, PySem.W.lookIn name od = some (mA name) :=
  let ⟨od, ho, hl⟩ := lookIn_ns I.ns
  ⟨od, ⟨I.obj, rfl, rfl, ho⟩, hl⟩

section
variable {prog : Program} {w : World} {A : Around} {E : Value → Shared → Prop} {s : Shared} {K : PySem.W.Frag} {x dx C f : Addr} {mA : Str → Option Value} {name : Str} {v : Value}

theorem get_map {expr : Bool} {Q : Value → Shared → Prop} (X : K.In s.heap) (I : ObjM s.heap x dx C mA) (hg : PySem.W.plainGet K C name = true) (hh : PySem.W.hasDictIn K C = true)
    (ha : PySem.W.findIn K (.ref C) name = some none) (hv : mA name = some v) (hv' : PySem.W.handedIn v = true) (h : Q v { s with toks := s.toks + 1 }) :
    wpAny (model prog w) A (getAttr (.ref x) name expr) Q E s := by
  obtain ⟨od, J, hl⟩ := I.look
  exact PySem.W.get_value X J (PySem.W.plainGet_of hg).1 (PySem.W.findObj_own hh ha rfl (by rw [hl, hv])) hv' h

theorem get_meth {pl : Sem Bool} {Q : Value × List Value → Shared → Prop} (X : K.In s.heap) (I : ObjM s.heap x dx C mA) (hg : PySem.W.plainGet K C name = true)
    (hf : PySem.W.findIn K (.ref C) name = some (some (.ref f))) (ht : PySem.W.isFn K (.ref f) = true) (hv : mA name = none) (h : Q (.ref f, [.ref x]) s) :
    wpAny (model prog w) A (getMethod (.ref x) name pl) Q E s := by
  obtain ⟨od, J, hl⟩ := I.look
  exact PySem.W.method_fn X J (PySem.W.plainGet_of hg).1 (PySem.W.plainGet_of hg).2 hf (beq_iff_eq.mp ht) (by show (PySem.W.lookIn name od).map (·.isSome) = some false; rw [hl, hv]; rfl) h

theorem set_map {ns : List Str} {Q : Unit → Shared → Prop} (X : K.In s.heap) (I : ObjM s.heap x dx C mA)
    (hs : PySem.W.findIn K (.ref C) "__setattr__" = some (some (.builtin "object.__setattr__"))) (hp : PySem.W.plainOver K C = true) (ht : PySem.W.takerIn K C name = some none) (hh : PySem.W.hasDictIn K C = true)
    (hw : PySem.Within mA ns) (hsz : ns.length ≤ sizeLine)
    (h : ∀ h', ObjM h' x dx C (fun y => if y = name then some v else mA y) → Heap.SameBut dx s.heap h' → Q () { s with heap := h', toks := s.toks + 2 }) :
    wpAny (model prog w) A (setAttr (.ref x) name v) Q E s := by
  obtain ⟨od, J, hl⟩ := I.look
  refine PySem.W.set_plain X J hs (PySem.W.osa_open (s := { s with toks := s.toks + 1 }) (r := none) X J hp ht fun b => ?_)
  obtain ⟨cd, hc, hd'⟩ := PySem.W.any_some hh
  have hx : s.heap.get? x = some ⟨.ref C, some dx, .plain, #[]⟩ := I.obj
  refine wpAny_bind (wpAny_pure (wpAny_bind (wpAny_bind (wpAny_loadPart hx (wpAny_bind (PySem.W.Looks.here (s := { s with toks := s.toks + 1 }) (PySem.W.looks_clsIn X hc) ?_))))))
  rw [hd']
  refine wpAny_pure (a := some dx) (wpAny_bind (wpAny_pure (wpAny_bind ?_)))
  refine wpAny_nsSet1 (s := { s with toks := s.toks + 1 }) I.ns fun h' hn2 hs2 => ?_
  obtain ⟨oD, esD, epD, hoD, hdD, hcD⟩ := hn2.count (PySem.Within.cons name v hw)
  refine wpAny_bind (wpAny_lookBehind hoD (by rw [hdD]; exact pastItsLine_dict (Nat.le_trans hcD (by rw [List.length_cons]; omega))) ?_)
  exact wpAny_pure (h _ ⟨(hs2.2 _ (Ne.symm I.ne)).trans I.obj, hn2, I.ne⟩ hs2)

/-- C(..): the dict at the heap's end, the instance behind it; then its __init__ -/
theorem make_map {R : Result → Shared → Prop} {vs : List Value} {kw : List (Str × Value)} (X : K.In s.heap) (hm : PySem.W.makesIn K C = true)
    (hi : PySem.W.findIn K (.ref C) "__init__" = some (some (.ref f))) (hf : PySem.W.typeIn K (.ref f) = some (.type "function"))
    (h : codeAny (model prog w) (A.under (.builtin "type.__call__" ⟨.ref C :: vs, kw⟩)) (.call (.ref f) ⟨.ref (s.heap.objs.size + 1) :: vs, kw⟩) (PySem.W.InitBack (s.heap.objs.size + 1) R)
      { s with heap := (s.heap.push PySem.W.emptyDict).push (PySem.W.instObj C s.heap.objs.size) }) :
    codeAny (model prog w) A (.call (.ref C) ⟨vs, kw⟩) R s := by
  obtain ⟨hh, g, d, t, os⟩ := s
  exact PySem.W.make_core (PySem.W.makes_of X hm) (PySem.W.looks_findIn X hi) (fun self => PySem.W.bind_fn X self hf) (.inl rfl) h
end

/-! ### the attributes as a list of pairs -/
def putF (f : Str) (v : V) : List (Str × V) → List (Str × V)
  | [] => [(f, v)]
  | (g, x) :: r => if g = f then (g, v) :: r else (g, x) :: putF f v r
theorem lookup_putF (f g : Str) (v : V) : ∀ fs : List (Str × V), (putF f v fs).lookup g = if g = f then some v else fs.lookup g
  | [] => by
    show List.lookup g [(f, v)] = _
    by_cases h : g = f
    · have hb : (g == f) = true := beq_iff_eq.mpr h
      simp only [List.lookup, hb, if_pos h]
    · have hb : (g == f) = false := beq_eq_false_iff_ne.mpr h
      simp only [List.lookup, hb, if_neg h]
  | (k, x) :: r => by
    have ih := lookup_putF f g v r
    rw [show putF f v ((k, x) :: r) = (if k = f then (k, v) :: r else (k, x) :: putF f v r) from rfl]
    by_cases hk : k = f
    · rw [if_pos hk]
      by_cases h : g = k
      · have hb : (g == k) = true := beq_iff_eq.mpr h
        simp only [List.lookup, hb, if_pos (h.trans hk)]
      · have hb : (g == k) = false := beq_eq_false_iff_ne.mpr h
        simp only [List.lookup, hb, if_neg (fun e : g = f => h (e.trans hk.symm))]
    · rw [if_neg hk]
      by_cases h : g = k
      · have hb : (g == k) = true := beq_iff_eq.mpr h
        simp only [List.lookup, hb, if_neg (fun e : g = f => hk (h.symm.trans e))]
      · have hb : (g == k) = false := beq_eq_false_iff_ne.mpr h
        simp only [List.lookup, hb]
        exact ih
theorem keys_putF (f : Str) (v : V) : ∀ fs : List (Str × V), f ∈ (putF f v fs).map (·.1) ∧ ∀ g, g ∈ fs.map (·.1) → g ∈ (putF f v fs).map (·.1)
  | [] => ⟨by simp [putF], fun g h => by simp at h⟩
  | (k, x) :: r => by
    obtain ⟨i1, i2⟩ := keys_putF f v r
    rw [show putF f v ((k, x) :: r) = (if k = f then (k, v) :: r else (k, x) :: putF f v r) from rfl]
    by_cases hk : k = f
    · rw [if_pos hk]
      subst hk
      exact ⟨by simp, fun g h => by simpa using h⟩
    · rw [if_neg hk]
      refine ⟨?_, fun g h => ?_⟩
      · rw [List.map_cons]
        exact List.mem_cons_of_mem _ i1
      · rw [List.map_cons] at h ⊢
        rcases List.mem_cons.mp h with e | e
        · exact List.mem_cons.mpr (.inl e)
        · exact List.mem_cons_of_mem _ (i2 g e)
theorem length_putF (f : Str) (v : V) : ∀ fs : List (Str × V), (putF f v fs).length ≤ fs.length + 1
  | [] => by simp [putF]
  | (k, x) :: r => by
    have ih := length_putF f v r
    rw [show putF f v ((k, x) :: r) = (if k = f then (k, v) :: r else (k, x) :: putF f v r) from rfl]
    by_cases hk : k = f
    · rw [if_pos hk, List.length_cons, List.length_cons]; omega
    · rw [if_neg hk, List.length_cons, List.length_cons]; omega

theorem RelO.some_of {v : V} {o : Option Value} (r : RelO (some v) o) : ∃ u, o = some u ∧ RelV v u := by
  cases o with
  | none => exact (show False from r).elim
  | some u => exact ⟨u, rfl, r⟩
theorem RelO.none_of {o : Option Value} (r : RelO none o) : o = none := by
  cases o with
  | none => rfl
  | some u => exact (show False from r).elim
theorem handed_of {v : V} {u : Value} (r : RelV v u) : PySem.W.handedIn u = true := by
  cases v with
  | non => cases (show u = Value.none from r); rfl
  | bl b => cases (show u = Value.bool b from r); rfl
  | int i => obtain ⟨t, e⟩ := (show ∃ t, u = Value.int i t from r); cases e; rfl
  | str x => obtain ⟨t, e⟩ := (show ∃ t, u = Value.str x t from r); cases e; rfl
  | byt b => obtain ⟨t, e⟩ := (show ∃ t, u = Value.bytes b t from r); cases e; rfl
  | flt b => obtain ⟨t, e⟩ := (show ∃ t, u = Value.float b t from r); cases e; rfl
  | ref a => cases (show u = Value.ref a from r); rfl
  | ty n => cases (show u = Value.type n from r); rfl

section
variable {P : Program} {w : World} {H H' : Hp} {h h' : Heap} {a C dx : Addr} {fs fs' : List (Str × V)}
theorem ins_get (hok : HOk P w H h) (e : H a = some (.ins C dx fs)) : ∃ mA, ObjM h a dx C mA ∧ (∀ f, RelO (fs.lookup f) (mA f)) ∧ PySem.Within mA (fs.map (·.1)) ∧ fs.length ≤ 1000 ∧ H dx = some (.own a) := by
  obtain ⟨d, z, ne, ob, mA, n, r, q⟩ := (show ObjOk P w H h a (.ins C dx fs) from hok a _ e)
  exact ⟨mA, ⟨ob, n, ne⟩, r, q, z, d⟩
end

/-! ### what of the text a class must have -/
structure Cls (K : PySem.W.Frag) (C : Addr) : Prop where
  pg : PySem.W.plainGet K C Str.empty = true
  hd : PySem.W.hasDictIn K C = true
  po : PySem.W.plainOver K C = true
  sa : PySem.W.findIn K (.ref C) "__setattr__" = some (some (.builtin "object.__setattr__"))
theorem Cls.get {K : PySem.W.Frag} {C : Addr} (c : Cls K C) (f : Str) : PySem.W.plainGet K C f = true := c.pg
/-- no class of it has the name -/
def NoAttr (K : PySem.W.Frag) (C : Addr) (f : Str) : Prop := PySem.W.findIn K (.ref C) f = some none
theorem NoAttr.taker {K : PySem.W.Frag} {C : Addr} {f : Str} (n : NoAttr K C f) : PySem.W.takerIn K C f = some none := by
  unfold PySem.W.takerIn
  rw [show PySem.W.findIn K (.ref C) f = some none from n]
  rfl
/-- a constant of the class -/
structure Con (K : PySem.W.Frag) (C : Addr) (f : Str) (v : V) (u : Value) : Prop where
  at_ : PySem.W.findIn K (.ref C) f = some (some u)
  rel : RelV v u
  get : PySem.W.specialIn K u "__get__" = some none
  cp : PySem.W.copiedNames.contains f = false
/-- a method: a plain def of the class or of one above it -/
structure Meth (K : PySem.W.Frag) (C : Addr) (m : Str) (f : Addr) : Prop where
  at_ : PySem.W.findIn K (.ref C) m = some (some (.ref f))
  fn : PySem.W.isFn K (.ref f) = true
  kp : PySem.W.keepIn K (.ref f) = true

section
variable {X : Cx} {pins : List (Addr × Obj)} {σ : St} {H : Hp} {s : Shared} {a C dx : Addr} {fs : List (Str × V)} {f : Str} {v : V} {A : Around} {E : Value → Shared → Prop}

theorem getattr_ok {b : Bool} {Q : Value → Shared → Prop} (I : Inv X pins σ H s) (e : H a = some (.ins C dx fs)) (c : Cls X.K C) (n : NoAttr X.K C f) (l : fs.lookup f = some v)
    (h : ∀ u s', Inv X pins σ H s' → RelV v u → Q u s') : wpAny (model X.prog X.w) A (getAttr (.ref a) f b) Q E s := by
  obtain ⟨mA, O, r, _, _, _⟩ := ins_get I.hok e
  obtain ⟨u, hu, ru⟩ := RelO.some_of (v := v) (o := mA f) (by rw [← l]; exact r f)
  exact get_map I.kIn O (c.get f) c.hd n hu (handed_of ru) (h u _ (I.tok _) ru)

theorem getmeth_ok {m : Str} {g : Addr} {pl : Sem Bool} {Q : Value × List Value → Shared → Prop} (I : Inv X pins σ H s) (e : H a = some (.ins C dx fs)) (c : Cls X.K C) (k : Meth X.K C m g) (l : fs.lookup m = none)
    (h : Q (.ref g, [.ref a]) s) : wpAny (model X.prog X.w) A (getMethod (.ref a) m pl) Q E s := by
  obtain ⟨mA, O, r, _, _, _⟩ := ins_get I.hok e
  have hn : mA m = none := RelO.none_of (by rw [← l]; exact r m)
  exact get_meth I.kIn O (c.get m) k.at_ k.fn hn h

theorem setattr_ok {y : V} {u : Value} {Q : Unit → Shared → Prop} (I : Inv X pins σ H s) (e : H a = some (.ins C dx fs)) (c : Cls X.K C) (n : NoAttr X.K C f) (hl : fs.length < 1000) (ry : RelV y u)
    (h : ∀ s', Inv X pins σ (upd H a (.ins C dx (putF f y fs))) s' → Q () s') : wpAny (model X.prog X.w) A (setAttr (.ref a) f u) Q E s := by
  obtain ⟨mA, O, r, wi, _, ho⟩ := ins_get I.hok e
  have hz : (fs.map (·.1)).length ≤ sizeLine := by rw [List.length_map, sizeLine_eq]; omega
  refine set_map I.kIn O c.sa c.po n.taker c.hd wi hz fun h' O' sb => h _ ?_
  have hd : ∃ o, h'.get? dx = some o := let ⟨o, _, _, e', _⟩ := O'.ns; ⟨o, e'⟩
  refine I.write (x := a) (e := dx) (by rw [e]; exact True.intro) (.inr ho) (fun b q hb z => (sb.2 b hb).trans z) hd ?_
  refine ⟨by rw [upd_ne O.ne]; exact ho, ?_, O.ne, O'.obj, _, O'.ns, fun g => ?_, fun g hg => ?_⟩
  · have := length_putF f y fs; omega
  · show RelO ((putF f y fs).lookup g) (if g = f then some u else mA g)
    rw [lookup_putF]
    by_cases q : g = f
    · rw [if_pos q, if_pos q]; exact ry
    · rw [if_neg q, if_neg q]; exact r g
  · by_cases q : g = f
    · rw [q]; exact (keys_putF f y fs).1
    · refine (keys_putF f y fs).2 g (wi g fun z => hg ?_)
      show (if g = f then some u else mA g) = none
      rw [if_neg q]; exact z

/-- a new instance, tracked, without attributes -/
theorem Inv.made (I : Inv X pins σ H s) : Inv X pins σ (upd (upd H s.heap.objs.size (.own (s.heap.objs.size + 1))) (s.heap.objs.size + 1) (.ins C s.heap.objs.size []))
    { s with heap := (s.heap.push PySem.W.emptyDict).push (PySem.W.instObj C s.heap.objs.size) } := by
  have e1 : (s.heap.push PySem.W.emptyDict).get? s.heap.objs.size = some PySem.W.emptyDict := Heap.get?_push_size s.heap rfl
  have e2 : ((s.heap.push PySem.W.emptyDict).push (PySem.W.instObj C s.heap.objs.size)).get? (s.heap.objs.size + 1) = some (PySem.W.instObj C s.heap.objs.size) := by
    have := Heap.get?_push_size (s.heap.push PySem.W.emptyDict) (o := PySem.W.instObj C s.heap.objs.size) rfl
    rwa [Heap.size_push] at this
  have e3 : (s.heap.push PySem.W.emptyDict).Ns s.heap.objs.size (fun _ => none) := ⟨PySem.W.emptyDict, #[], _, e1, rfl, (fun e he => absurd he (by simp)), fun _ => rfl⟩
  have I1 := I.laid (a := s.heap.objs.size) (o := .own (s.heap.objs.size + 1)) (h' := s.heap.push PySem.W.emptyDict) (t' := s.toks) (fun b u q => Heap.get?_push_of_some _ q) (Nat.le_refl _) ⟨_, e1⟩
  refine I1.laid (a := s.heap.objs.size + 1) (o := .ins C s.heap.objs.size []) (t' := s.toks) (fun b u q => Heap.get?_push_of_some _ q) (Nat.le_of_eq (Heap.size_push _ _)) ?_
  have ne : s.heap.objs.size ≠ s.heap.objs.size + 1 := Nat.ne_of_lt (Nat.lt_succ_self _)
  refine ⟨by rw [upd_ne ne, upd_same], Nat.zero_le _, ne, e2, fun _ => none, (Heap.Ns1.of_empty e3).at fun o q => Heap.get?_push_of_some _ q, fun _ => True.intro, fun y hy => absurd rfl hy⟩

/-- e.f where nothing but the object is asked: through attributeBase (super) and the last hold -/
theorem attr_of {prog : Program} {w : World} {env : Env} {e : Expr} {f : Str} {pos : Pos} {s : Shared} {Q : Value → Shared → Prop} (hb : attributeBase e f env (eval e env) = eval e env)
    (h : wpAny (model prog w) A (eval e env) (fun o s₁ => wpAny (model prog w) A (getAttr o f true) Q E s₁) E s) : wpAny (model prog w) A (eval (.Attribute e f pos) env) Q E s :=
  Attribute_any_ h (by rw [arm_eval_Attribute, hb])
end

/-! ### readings and rules -/
/-- e.f, an attribute of the instance -/
def tFld (K : PySem.W.Frag) (ta : TE) (f : Str) : TE := fun σ H Q => ta σ H fun x H1 => ∃ a C dx fs v, x = .ref a ∧ H1 a = some (.ins C dx fs) ∧ Cls K C ∧ NoAttr K C f ∧ fs.lookup f = some v ∧ Q v H1
/-- e.f = value -/
def sFld (K : PySem.W.Frag) (ta tv : TE) (f : Str) : TS := fun D σ H => tv σ H fun y H1 => ta σ H1 fun x H2 => ∃ a C dx fs, x = .ref a ∧ H2 a = some (.ins C dx fs) ∧ Cls K C ∧ NoAttr K C f ∧ fs.length < 1000 ∧
  D.nx σ (upd H2 a (.ins C dx (putF f y fs)))
section
variable {X : Cx} {o e value : Expr} {f : Str} {pos pos' tpos : Pos} {ta tv : TE}
theorem pe_fld (he : PE X e ta) (hb : attributeBase e f X.env (eval e X.env) = eval e X.env) : PE X (.Attribute e f pos) (tFld X.K ta f) := by
  intro pins s σ H Q I h
  refine attr_of hb (thn (he pins s σ H _ I h) fun u s1 ⟨x, H1, I1, rx, a, C, dx, fs, v, ex, ea, c, n, l, q⟩ => ?_)
  subst ex
  obtain rfl : u = Value.ref a := rx
  exact getattr_ok I1 ea c n l fun u' s2 I2 ru => ⟨v, H1, I2, ru, q⟩
theorem ps_fld (ha : PE X o ta) (hv : PE X value tv) (hs : swapsWith value (some (.Attribute o f pos')) pos.line X.env = pure false) : PS X (.Assign [.Attribute o f pos'] value pos) (sFld X.K ta tv f) := by
  intro pins s σ H D I h
  refine plainObj_wpAny_Assign_Attribute (thn (hv pins s σ H _ I h) fun u s1 ⟨y, H1, I1, ry, q⟩ => thn (ha pins s1 σ H1 _ I1 q) fun ov s2 ⟨x, H2, I2, rx, a, C, dx, fs, ex, ea, c, n, l, q2⟩ => ?_) hs
  subst ex
  obtain rfl : ov = Value.ref a := rx
  exact setattr_ok I2 ea c n l ry fun s3 I3 => ⟨σ, _, I3, q2⟩
end

/-! ### isinstance -/
section
variable {X : Cx} {pins : List (Addr × Obj)} {σ : St} {H : Hp} {s : Shared} {A : Around} {E : Value → Shared → Prop} {Q : Value → Shared → Prop} {c : Value} {b : Bool}
/-- the type of a value, as the fragment's deciders take it; for an instance its class -/
inductive TyOf (K : PySem.W.Frag) (H : Hp) : V → Value → Prop where
  | non : TyOf K H .non (.type "NoneType")
  | bl (x : Bool) : TyOf K H (.bl x) (.type "bool")
  | int (i : Int) : TyOf K H (.int i) (.type "int")
  | str (x : Str) : TyOf K H (.str x) (.type "str")
  | flt (x : UInt64) : TyOf K H (.flt x) (.type "float")
  | lst {a : Addr} {xs : List V} (e : H a = some (.lst xs)) : TyOf K H (.ref a) (.type "list")
  | frz {a : Addr} {o : Obj} {xs : List V} (e : H a = some (.frz o (.lst xs))) : TyOf K H (.ref a) (.type "list")
  | tup {a : Addr} {xs : List V} (e : H a = some (.tup xs)) : TyOf K H (.ref a) (.type "tuple")
  | dK {a : Addr} {kvs : List (Key × V)} (e : H a = some (.dK kvs)) : TyOf K H (.ref a) (.type "dict")
  | dT {a : Addr} {kvs : List (List Key × V)} (e : H a = some (.dT kvs)) : TyOf K H (.ref a) (.type "dict")
  | ins {a C dx : Addr} {fs : List (Str × V)} (e : H a = some (.ins C dx fs)) (cl : Cls K C) (ha : PySem.W.findIn K (.ref C) "__class__" = some (some (.builtin "object.__class__")))
      (hn : PySem.W.specialIn K (.builtin "object.__class__") "__get__" = some (some (.builtin "getset_descriptor.__get__"))) (htk : PySem.W.takesIn K (.builtin "object.__class__") = some true)
      (hm : PySem.W.mroIn K C (.type "object") = some true) : TyOf K H (.ref a) (.ref C)
/-- isinstance(x, c) for one class c, a built-in or an own one: kitOne's answer -/
theorem isinst_ok {x : V} {u t : Value} (I : Inv X pins σ H s) (rx : RelV x u) (ty : TyOf X.K H x t) (e : PySem.W.kitOne X.K t c = some b) (h : ∀ tk, Q (.bool b) { s with toks := tk }) :
    wpAny (model X.prog X.w) A (call (.builtin "isinstance") [u, c]) Q E s := by
  cases ty with
  | non => cases (show u = Value.none from rx); exact PySem.W.kia_one PySem.W.kitx_none I.kIn True.intro e (fun z => nomatch z) h
  | bl y => cases (show u = Value.bool y from rx); exact PySem.W.kia_one PySem.W.kitx_bool I.kIn True.intro e (fun z => nomatch z) h
  | int i => obtain ⟨t, q⟩ := (show ∃ t, u = Value.int i t from rx); cases q; exact PySem.W.kia_one PySem.W.kitx_int I.kIn True.intro e (fun z => nomatch z) h
  | str y => obtain ⟨t, q⟩ := (show ∃ t, u = Value.str y t from rx); cases q; exact PySem.W.kia_one PySem.W.kitx_str I.kIn True.intro e (fun z => nomatch z) h
  | flt y => obtain ⟨t, q⟩ := (show ∃ t, u = Value.float y t from rx); cases q; exact PySem.W.kia_one PySem.W.kitx_float I.kIn True.intro e (fun z => nomatch z) h
  | @lst a xs ea =>
    cases (show u = Value.ref a from rx)
    obtain ⟨_, _, n, _, h1⟩ := (show ObjOk X.prog X.w H s.heap a (.lst xs) from I.hok a _ ea)
    exact PySem.W.kia_one PySem.W.kitx_list I.kIn ⟨_, h1, rfl⟩ e (fun z => nomatch z) h
  | @frz a ob xs ea =>
    cases (show u = Value.ref a from rx)
    obtain ⟨_, _, _, n, _, h1⟩ := (show ObjOk X.prog X.w H s.heap a (.frz ob (.lst xs)) from I.hok a _ ea)
    exact PySem.W.kia_one PySem.W.kitx_list I.kIn ⟨_, h1, rfl⟩ e (fun z => nomatch z) h
  | @tup a xs ea =>
    cases (show u = Value.ref a from rx)
    obtain ⟨_, _, _, p⟩ := (show ObjOk X.prog X.w H s.heap a (.tup xs) from I.hok a _ ea)
    obtain ⟨o, h1, h2, _⟩ := p
    exact PySem.W.kia_one PySem.W.kitx_tuple I.kIn ⟨o, h1, h2⟩ e (fun z => nomatch z) h
  | @dK a kvs ea =>
    cases (show u = Value.ref a from rx)
    obtain ⟨_, _, vs, _, p⟩ := (show ObjOk X.prog X.w H s.heap a (.dK kvs) from I.hok a _ ea)
    obtain ⟨o, es, ep, h1, h2, _⟩ := p
    exact PySem.W.kia_one PySem.W.kitx_dict I.kIn ⟨o, h1, h2.1⟩ e (fun z => nomatch z) h
  | @dT a kvs ea =>
    cases (show u = Value.ref a from rx)
    obtain ⟨_, _, xs, _, o, es, ep, h1, h2, _⟩ := (show ObjOk X.prog X.w H s.heap a (.dT kvs) from I.hok a _ ea)
    exact PySem.W.kia_one PySem.W.kitx_dict I.kIn ⟨o, h1, h2.1⟩ e (fun z => nomatch z) h
  | @ins a C dx fs ea cl ha hn htk hm =>
    cases (show u = Value.ref a from rx)
    obtain ⟨mA, O, _⟩ := ins_get I.hok ea
    obtain ⟨od, J, _⟩ := O.look
    exact PySem.W.kia_one (PySem.W.kitx_own (cl.get _) cl.hd ha hn htk hm) I.kIn J e (fun z => nomatch z) h
end
end L2

namespace L2
open PySem PySem.Spec PyProof.Rows

/-! ### room -/
structure Room (k : Nat) (A : Around) : Prop where
  hd : A.handled = none
  dp : A.depth + 3 * k + 5 < recursionLimit
  un : A.units + 16 * k + 200 < cLine
  gd : A.guards = some []
theorem Room.mono {j k : Nat} {A : Around} (r : Room k A) (h : j ≤ k) : Room j A := ⟨r.hd, by have := r.dp; omega, by have := r.un; omega, r.gd⟩
theorem Room.deeper {k : Nat} {A : Around} (r : Room (k + 1) A) (env : Env) : Room k (A.deeper env) :=
  ⟨r.hd, by have := r.dp; show A.depth + 1 + 3 * k + 5 < _; omega, by have := r.un; show A.units + 3 + 16 * k + 200 < _; omega, r.gd⟩
theorem Room.in1 {k : Nat} {A : Around} (r : Room (k + 1) A) : Room k A.in1 :=
  ⟨r.hd, by have := r.dp; show A.depth + 3 * k + 5 < _; omega, by have := r.un; show A.units + 1 + 16 * k + 200 < _; omega, r.gd⟩
theorem make_depth {A : Around} {C : Addr} {us : List Value} {kw : List (Str × Value)} : (A.under (.builtin "type.__call__" ⟨.ref C :: us, kw⟩)).depth = A.depth + 1 := by
  first | rfl | simp [Around.under, Code.weight, Code.isCreation, Code.isGuard, Code.isCaller, Code.frames, Code.isFrame, guardIds]
theorem make_units {A : Around} {C : Addr} {us : List Value} {kw : List (Str × Value)} : (A.under (.builtin "type.__call__" ⟨.ref C :: us, kw⟩)).units = A.units + 1 := by
  first | rfl | simp [Around.under, Code.cUnits, Code.frames, Code.isFrame]
theorem Room.make {k : Nat} {A : Around} (r : Room (k + 1) A) (C : Addr) (us : List Value) (kw : List (Str × Value)) : Room k (A.under (.builtin "type.__call__" ⟨.ref C :: us, kw⟩)) :=
  ⟨r.hd, by have := r.dp; rw [make_depth]; omega, by have := r.un; rw [make_units]; omega, r.gd⟩
theorem Room.depth {k : Nat} {A : Around} (r : Room k A) : A.depth < recursionLimit := by have := r.dp; omega
theorem Room.units {k : Nat} {A : Around} (r : Room k A) : A.units + 64 < cLine := by have := r.un; omega
/-! ### argument lists and displays -/
def tNil : TA := fun _ H Q => Q [] H
def tCons (ta : TE) (tr : TA) : TA := fun σ H Q => ta σ H fun x H1 => tr σ H1 fun xs H2 => Q (x :: xs) H2
section
variable {X : Cx} {e : Expr} {es : List Expr} {te : TE} {t : TA} {pos : Pos}
theorem pa_nil : PA X [] tNil := fun _ _ _ _ H Q I h => Calls.spliced_nil ⟨[], H, I, .nil, h⟩
theorem pa_cons (ha : PE X e te) (hr : PA X es t) (hs : starEach (e :: es) X.env = (false, eval e X.env) :: starEach es X.env := by rfl) : PA X (e :: es) (tCons te t) := by
  intro pos pins s σ H Q I h
  rw [hs]
  show wpAny _ _ (spliced ((false, eval e X.env) :: backTo pos (starEach es X.env))) _ _ s
  refine Calls.spliced_cons (thn (ha pins s σ H _ I h) fun u s1 ⟨x, H1, I1, r1, q1⟩ => ?_)
  exact thn (hr pos pins s1 σ H1 _ I1 q1) fun us s2 ⟨xs, H2, I2, r2, q2⟩ => ⟨x :: xs, H2, I2, .cons r1 r2, q2⟩

/-- a tuple, a list of written items -/
def tTup (t : TA) : TE := fun σ H Q => t σ H fun xs H1 => xs.length ≤ sizeLine ∧ ∀ p, H1 p = none → Q (.ref p) (upd H1 p (.tup xs))
def tLst (t : TA) : TE := fun σ H Q => t σ H fun xs H1 => xs.length ≤ sizeLine ∧ ∀ p, H1 p = none → Q (.ref p) (upd H1 p (.lst xs))
theorem pe_tup {x1} (h : PA X es t) : PE X (.Tuple es x1 pos) (tTup t) := by
  intro pins s σ H Q I hq
  refine wpAny_Tuple_spliced (thn (h pos pins s σ H _ I hq) fun us s1 ⟨xs, H1, I1, r, z, q⟩ => ⟨by rw [← r.length]; exact z, ?_⟩)
  have hf : H1 s1.heap.objs.size = none := I1.hok.fresh (Nat.le_refl _)
  refine ⟨.ref s1.heap.objs.size, upd H1 s1.heap.objs.size (.tup xs), I1.laid (t' := s1.toks) (fun b u e => Heap.get?_push_of_some _ e) (Nat.le_refl _) ?_, rfl, q _ hf⟩
  exact ⟨z, us, r, ⟨_, Heap.get?_push_size _ rfl, rfl, _, rfl⟩⟩
theorem pe_lst (h : PA X es t) : PE X (.List es pos) (tLst t) := by
  intro pins s σ H Q I hq
  refine wpAny_List_spliced (thn (h pos pins s σ H _ I hq) fun us s1 ⟨xs, H1, I1, r, z, q⟩ => ⟨by rw [← r.length]; exact z, ?_⟩)
  have hf : H1 s1.heap.objs.size = none := I1.hok.fresh (Nat.le_refl _)
  refine ⟨.ref s1.heap.objs.size, upd H1 s1.heap.objs.size (.lst xs), I1.laid (t' := s1.toks) (fun b u e => Heap.get?_push_of_some _ e) (Nat.le_refl _) ?_, rfl, q _ hf⟩
  exact ⟨z, us, 0, r, Heap.get?_push_size _ rfl⟩
end

/-! ### what a def promises -/
/-- a def's promise: the bound arguments in the parameters' order, the heap, the wanted end, the wanted exception -/
abbrev Sp := List V → Hp → VK → XK → Prop
/-- how an exception lies behind a call (file 08 gives it): the callers' frames, abstract heap and state ahead of the call, the wish, the exception, the state -/
abbrev CXT := List Env → Hp → Shared → XK → Value → Shared → Prop

/-- the state at a call -/
structure Env0 (P : Program) (w : World) (K : PySem.W.Frag) (mg : Str → Option Value) (base : Heap) (A : Around) (outer : List Env) (s : Shared) (H : Hp) : Prop where
  frames : A.frames = some outer
  mod : Mod K mg base
  bs : ∀ b o, base.get? b = some o → s.heap.get? b = some o ∧ H b = none
  bsz : base.objs.size ≤ s.heap.objs.size
  funs : s.heap.FunFrames base outer
  frf : ∀ b ∈ frs outer, H b = none
  hok : HOk P w H s.heap
  bare : AllBare s.gens
/-- a call's end -/
def CE (outer : List Env) (P : Program) (w : World) (H : Hp) (s : Shared) (Q : VK) (u : Value) (s' : Shared) : Prop :=
  ∃ v H', s'.os = s.os ∧ AllBare s'.gens ∧ Un (frs outer) [] H H' s.heap s'.heap ∧ HOk P w H' s'.heap ∧ RelV v u ∧ Q v H'
def CR (CX : CXT) (outer : List Env) (P : Program) (w : World) (H : Hp) (s : Shared) (Q : VK) (E : XK) (r : Result) (s' : Shared) : Prop :=
  match r with
  | .ok (.ret u) => CE outer P w H s Q u s'
  | .ok _ => False
  | .error e => CX outer H s E e s'
structure FnOk (P : Program) (w : World) (K : PySem.W.Frag) (mg : Str → Option Value) (base : Heap) (CX : CXT) (k : Nat) (f : Addr) (fd : FuncData) (ps : List Str) (sp : Sp) : Prop where
  len : ∀ vs H Q E, sp vs H Q E → vs.length = ps.length
  run : ∀ (A : Around) (outer : List Env) (s : Shared) (H : Hp) (args : Args) (us : List Value) (vs : List V) (Q : VK) (E : XK), Room k A → Env0 P w K mg base A outer s H → BindsTo s fd args (ps.zip us) → Vals vs us → sp vs H Q E →
    codeAny (model P w) A (.call (.ref f) args) (CR CX outer P w H s Q E) s
theorem FnOk.mono {P : Program} {w : World} {K : PySem.W.Frag} {mg : Str → Option Value} {base : Heap} {CX : CXT} {j k : Nat} {f : Addr} {fd : FuncData} {ps : List Str} {sp : Sp} (F : FnOk P w K mg base CX j f fd ps sp) (h : j ≤ k) :
    FnOk P w K mg base CX k f fd ps sp := ⟨F.len, fun A outer s H args us vs Q E hr => F.run A outer s H args us vs Q E (hr.mono h)⟩
theorem Env0.make {P : Program} {w : World} {K : PySem.W.Frag} {mg : Str → Option Value} {base : Heap} {A : Around} {outer : List Env} {s : Shared} {H : Hp} (e : Env0 P w K mg base A outer s H) (C : Addr) (us : List Value) (kw : List (Str × Value)) :
    Env0 P w K mg base (A.under (.builtin "type.__call__" ⟨.ref C :: us, kw⟩)) outer s H := ⟨by first | exact e.frames | (simpa [Around.under, Code.envs, Code.isFrame, pushEnvs] using e.frames), e.mod, e.bs, e.bsz, e.funs, e.frf, e.hok, e.bare⟩
theorem Env0.in1 {P : Program} {w : World} {K : PySem.W.Frag} {mg : Str → Option Value} {base : Heap} {A : Around} {outer : List Env} {s : Shared} {H : Hp} (e : Env0 P w K mg base A outer s H) :
    Env0 P w K mg base A.in1 outer s H := ⟨e.frames, e.mod, e.bs, e.bsz, e.funs, e.frf, e.hok, e.bare⟩

section
variable {X : Cx} {pins : List (Addr × Obj)} {σ : St} {H : Hp} {s s' : Shared}
/-- from a body: what a callee wants -/
theorem Inv.env0 (I : Inv X pins σ H s) : Env0 X.prog X.w X.K X.mg X.base X.A X.stack s H :=
  ⟨I.ok.frames, I.ok.mod, I.bs, Nat.le_trans I.ok.bsz I.sz, I.stack, I.stkFree, I.hok, I.bare⟩
/-- behind a call -/
theorem Inv.after {Q : VK} {u : Value} (I : Inv X pins σ H s) (h : CE X.stack X.prog X.w H s Q u s') : EP X pins σ Q u s' := by
  obtain ⟨v, H', os, bare, un, hok, r, q⟩ := h
  obtain ⟨hh, g, d, t, os'⟩ := s'
  obtain rfl : os' = s.os := os
  exact ⟨v, H', I.call (h' := hh) (g' := g) (d' := d) (t' := t) (ch := []) un hok bare (fun b z => absurd z (by simp)), r, q⟩
end

/-! ### calls -/
/-- f(..): the written arguments, then the defaults dvs; E: what is wanted of an exception -/
def tCall (sp : Sp) (dvs : List V) (E : XK) (t : TA) : TE := fun σ H Q => t σ H fun vs H1 => sp (vs ++ dvs) H1 Q E
/-- o.m(..) of an instance of the class at C -/
def tMeth (C : Addr) (m : Str) (sp : Sp) (dvs : List V) (E : XK) (ta : TE) (t : TA) : TE := fun σ H Q => ta σ H fun x H1 => ∃ a dx fs, x = .ref a ∧ H1 a = some (.ins C dx fs) ∧ fs.lookup m = none ∧
  t σ H1 fun vs H2 => sp (x :: (vs ++ dvs)) H2 Q E
/-- C(..): a new instance and its dict, then __init__ -/
def tMake (C : Addr) (sp : Sp) (dvs : List V) (E : XK) (t : TA) : TE := fun σ H Q => t σ H fun vs H1 => ∀ x dx, H1 x = none → H1 dx = none → dx ≠ x →
  sp (.ref x :: (vs ++ dvs)) (upd (upd H1 dx (.own x)) x (.ins C dx [])) (fun v H2 => v = .non ∧ Q (.ref x) H2) E

/-- how the parameters are bound: us the positional arguments, kw the keywords' values by name, ds the defaults that fill up -/
def Binds (K : PySem.W.Frag) (fd : FuncData) (ps : List Str) (ds : List Value) : Prop :=
  ∀ (s : Shared) (us : List Value), K.In s.heap → (us ++ ds).length = ps.length → BindsTo s fd ⟨us, []⟩ (ps.zip (us ++ ds))
/-- every parameter is given -/
theorem Binds.all {K : PySem.W.Frag} {fd : FuncData} {ps : List Str} (h : ∀ us : List Value, us.length = ps.length → bindArgs fd ⟨us, []⟩ = pure (ps.zip us)) : Binds K fd ps [] := fun s us _ hl => by
  rw [List.append_nil] at hl ⊢
  exact .of_eq (h us hl)

/-- an exception of a callee reaches what this body wants of exceptions -/
def Passes (CX : CXT) (X : Cx) (E : XK) : Prop := ∀ (pins : List (Addr × Obj)) (σ : St) (H : Hp) (s : Shared) (e : Value) (s' : Shared), Inv X pins σ H s → CX X.stack H s E e s' → X.xe e s'

section
variable {X : Cx} {CX : CXT} {k : Nat} {f C : Addr} {fd : FuncData} {ps : List Str} {sp : Sp} {dvs : List V} {ds : List Value} {E : XK} {x m : Str} {p pos apos : Pos} {e o : Expr} {es : List Expr} {ta : TE} {t : TA}

/-- the callee runs -/
theorem run_fn {pins : List (Addr × Obj)} {σ : St} {H : Hp} {s : Shared} {Q : VK} {us : List Value} {vs : List V} (F : FnOk X.prog X.w X.K X.mg X.base CX k f fd ps sp) (hr : Room k X.A) (hb : Binds X.K fd ps ds) (hd : Vals dvs ds) (hx : Passes CX X E)
    (I : Inv X pins σ H s) (r : Vals vs us) (h : sp (vs ++ dvs) H Q E) : wpAny (model X.prog X.w) X.A (call (.ref f) us) (EP X pins σ Q) X.xe s := by
  have r2 : Vals (vs ++ dvs) (us ++ ds) := r.append hd
  have hl : (us ++ ds).length = ps.length := by rw [← r2.length]; exact F.len _ _ _ _ h
  refine wpAny_call (codeAny_mono (F.run X.A X.stack s H ⟨us, []⟩ (us ++ ds) (vs ++ dvs) Q E hr I.env0 (hb s us I.kIn hl) r2 h) fun r s' hq => ?_)
  cases r with
  | error e => exact hx pins σ H s e s' I hq
  | ok fl =>
    cases fl with
    | ret u => exact I.after hq
    | next => exact False.elim hq
    | brk => exact False.elim hq
    | cont => exact False.elim hq

theorem pe_call (F : FnOk X.prog X.w X.K X.mg X.base CX k f fd ps sp) (hr : Room k X.A) (hg : Gl X x) (hm : X.mg x = some (.ref f)) (hk : PySem.W.keepIn X.K (.ref f) = true) (hb : Binds X.K fd ps ds) (hd : Vals dvs ds) (hx : Passes CX X E)
    (ha : PA X (e :: es) t) (hdb : (x == ("__debug__" : Str)) = false := by decide) (he : starEach (e :: es) X.env = (false, eval e X.env) :: starEach es X.env := by rfl) (hpl : (backTo pos (starEach es X.env)).any (·.1) = false := by rfl) :
    PE X (.Call (.Name x p) (e :: es) [] pos) (tCall sp dvs E t) := by
  intro pins s σ H Q I h
  refine wpAny_Call_Name_kw (ld_glob I hg hm ?_ hdb)
  refine PySem.W.callWith_K (h₀ := X.base) I.ok.mod.kin hk (thn (ha pos pins s σ H _ I h) fun us s1 ⟨vs, H1, I1, r, q⟩ => ⟨I1.kIn, ?_⟩) he hpl
  exact run_fn F hr hb hd hx I1 r q
/-- o.m(e, ..) -/
theorem pe_meth {pl : Sem Bool} (he : PE X o ta) (c : Cls X.K C) (hm : Meth X.K C m f) (F : FnOk X.prog X.w X.K X.mg X.base CX k f fd ps sp) (hr : Room k X.A) (hb : Binds X.K fd ps ds) (hd : Vals dvs ds) (hx : Passes CX X E) (ha : PA X (e :: es) t)
    (hst : starEach (e :: es) X.env = (false, eval e X.env) :: starEach es X.env := by rfl) (hpl : (backTo pos (starEach es X.env)).any (·.1) = false := by rfl)
    (ht : eval (.Call (.Attribute o m apos) (e :: es) [] pos) X.env = (do
      let ov ← eval o X.env
      standAt apos.atName
      let (f, first) ← holding [ov] (getMethod ov m pl)
      callWith pos f first (backTo pos (starEach (e :: es) X.env)) (backToKw pos (keywordEach [] X.env))) := by rfl) :
    PE X (.Call (.Attribute o m apos) (e :: es) [] pos) (tMeth C m sp dvs E ta t) := by
  intro pins s σ H Q I h
  refine PySem.W.methodCall_KW (pl := pl) (thn (he pins s σ H _ I h) fun u s1 ⟨x, H1, I1, rx, a, dx, fs, ex, ea, l, q⟩ => ?_) ht
  subst ex
  obtain rfl : u = Value.ref a := rx
  refine getmeth_ok I1 ea c hm l ?_
  refine PySem.W.callWith_K (first := [.ref a]) (h₀ := X.base) I.ok.mod.kin hm.kp (thn (ha pos pins s1 σ H1 _ I1 q) fun us s2 ⟨vs, H2, I2, r, q2⟩ => ⟨I2.kIn, ?_⟩) hst hpl
  exact run_fn (us := .ref a :: us) (vs := .ref a :: vs) F hr hb hd hx I2 (.cons rfl r) q2
/-- what a class must have to be made -/
structure Mk (K : PySem.W.Frag) (C f : Addr) : Prop where
  makes : PySem.W.makesIn K C = true
  init : PySem.W.findIn K (.ref C) "__init__" = some (some (.ref f))
  fn : PySem.W.isFn K (.ref f) = true
  kp : PySem.W.keepIn K (.ref C) = true

theorem run_make {pins : List (Addr × Obj)} {σ : St} {H : Hp} {s : Shared} {Q : VK} {us : List Value} {vs : List V} (M : Mk X.K C f) (F : FnOk X.prog X.w X.K X.mg X.base CX k f fd ps sp) (hr : Room (k + 1) X.A) (hb : Binds X.K fd ps ds) (hd : Vals dvs ds)
    (hx : Passes CX X E) (I : Inv X pins σ H s) (r : Vals vs us)
    (h : ∀ x dx, H x = none → H dx = none → dx ≠ x → sp (.ref x :: (vs ++ dvs)) (upd (upd H dx (.own x)) x (.ins C dx [])) (fun v H2 => v = .non ∧ Q (.ref x) H2) E) :
    wpAny (model X.prog X.w) X.A (call (.ref C) us) (EP X pins σ Q) X.xe s := by
  have hq := h (s.heap.objs.size + 1) s.heap.objs.size (I.hok.fresh (Nat.le_succ _)) (I.hok.fresh (Nat.le_refl _)) (Nat.ne_of_lt (Nat.lt_succ_self _))
  have I2 := Inv.made (C := C) I
  have r2 : Vals (V.ref (s.heap.objs.size + 1) :: (vs ++ dvs)) (Value.ref (s.heap.objs.size + 1) :: (us ++ ds)) := .cons rfl (r.append hd)
  have hl : (Value.ref (s.heap.objs.size + 1) :: us ++ ds).length = ps.length := by
    have e := r2.length
    rw [F.len _ _ _ _ hq] at e
    exact e.symm
  refine wpAny_call (make_map (f := f) I.kIn M.makes M.init (beq_iff_eq.mp M.fn) (codeAny_mono (F.run _ X.stack _ _ ⟨Value.ref (s.heap.objs.size + 1) :: us, []⟩ (Value.ref (s.heap.objs.size + 1) :: (us ++ ds)) _ _ E (hr.make C us [])
    (I2.env0.make C us []) (hb _ (Value.ref (s.heap.objs.size + 1) :: us) I2.kIn hl) r2 hq) fun r s' hq' => ?_))
  cases r with
  | error e => exact hx pins σ _ _ e s' I2 hq'
  | ok fl =>
    cases fl with
    | ret u =>
      obtain ⟨v, H', I3, rv, ev, q3⟩ := I2.after hq'
      subst ev
      exact ⟨rv, ⟨V.ref (s.heap.objs.size + 1), H', I3, rfl, q3⟩⟩
    | next => exact False.elim hq'
    | brk => exact False.elim hq'
    | cont => exact False.elim hq'
theorem pe_make0 (M : Mk X.K C f) (F : FnOk X.prog X.w X.K X.mg X.base CX k f fd ps sp) (hr : Room (k + 1) X.A) (hg : Gl X x) (hm : X.mg x = some (.ref C)) (hb : Binds X.K fd ps ds) (hd : Vals dvs ds) (hx : Passes CX X E)
    (hdb : (x == ("__debug__" : Str)) = false := by decide) : PE X (.Call (.Name x p) [] [] pos) (tMake C sp dvs E tNil) := by
  intro pins s σ H Q I h
  refine wpAny_Call_Name_kw (ld_glob I hg hm ?_ hdb)
  exact PySem.W.callWith_K0 I.kIn M.kp (run_make (us := []) M F hr hb hd hx I .nil h)
end

/-! ### keywords -/
section
variable {X : Cx} {CX : CXT} {k : Nat} {f C : Addr} {fd : FuncData} {ps ks : List Str} {sp : Sp} {E : XK} {x m : Str} {p pos apos kpos : Pos} {e o : Expr} {es : List Expr} {kws : List Keyword} {te ta : TE} {t tk : TA} {nm : Option Str}
/-- how a call with keywords binds: g puts the positional values us and the keywords' values ws (names ks) in the parameters' order, defaults among them -/
structure KBinds (K : PySem.W.Frag) (fd : FuncData) (ps ks : List Str) (g : List Value → List Value → List Value) (gV : List V → List V → List V) : Prop where
  to : ∀ (s : Shared) (us ws : List Value), K.In s.heap → (g us ws).length = ps.length → BindsTo s fd ⟨us, ks.zip ws⟩ (ps.zip (g us ws))
  rel : ∀ {vs : List V} {us : List Value} {zs : List V} {ws : List Value}, Vals vs us → Vals zs ws → Vals (gV vs zs) (g us ws)
variable {g : List Value → List Value → List Value} {gV : List V → List V → List V}
end

/-! ### a def's body keeps its promise -/
/-- names: the parameters first -/
structure FnScope (N P : List Str) (sc : Scope) : Prop where
  kind : sc.kind = .function
  co : sc.isCoroutine = false
  gen : sc.isGenerator = false
  nd : N.Nodup
  pre : N.take P.length = P
  par : ∀ x ∈ P, sc.names.lookup x = some .local ∨ sc.names.lookup x = some .cell
  nofree : ∀ y ∈ sc.names, y.2 ≠ .free

theorem bindL_out {kindOf : Str → Option NameKind} {x : Str} : ∀ {binds : List (Str × Value)} {m : Str → Option Value}, (∀ v, (x, v) ∉ binds) → bindL kindOf binds m x = m x
  | [], _, _ => rfl
  | (n, v) :: r, m, h => by
    unfold bindL
    rw [bindL_out fun w hw => h w (List.mem_cons_of_mem _ hw)]
    split
    · have : x ≠ n := by rintro rfl; exact h v List.mem_cons_self
      simp [this]
    · rfl
theorem bindC_out {kindOf : Str → Option NameKind} {x : Str} : ∀ {binds : List (Str × Value)} {m : Str → Option Value}, (∀ v, (x, v) ∉ binds) → bindC kindOf binds m x = m x
  | [], _, _ => rfl
  | (n, v) :: r, m, h => by
    unfold bindC
    rw [bindC_out fun w hw => h w (List.mem_cons_of_mem _ hw)]
    split
    · rfl
    · have : x ≠ n := by rintro rfl; exact h v List.mem_cons_self
      simp [this]
theorem bindL_get {kindOf : Str → Option NameKind} {x : Str} {v : Value} : ∀ {P : List Str} {vs : List Value} {i : Nat} {m : Str → Option Value}, P.Nodup → P[i]? = some x → vs[i]? = some v → kindOf x = some .local →
    bindL kindOf (P.zip vs) m x = some v
  | [], _, _, _, _, h, _, _ => by simp at h
  | _ :: _, [], _, _, _, _, h, _ => by simp at h
  | p :: P, w :: vs, 0, m, nd, h1, h2, hk => by
    simp at h1 h2; subst h1; subst h2
    show bindL kindOf ((p, w) :: P.zip vs) m p = _
    unfold bindL
    rw [bindL_out fun v hv => (List.nodup_cons.mp nd).1 (List.of_mem_zip hv).1, if_pos hk]
    simp
  | p :: P, w :: vs, i + 1, m, nd, h1, h2, hk => by
    show bindL kindOf ((p, w) :: P.zip vs) m x = _
    unfold bindL
    exact bindL_get (i := i) (List.nodup_cons.mp nd).2 (by simpa using h1) (by simpa using h2) hk
theorem bindC_get {kindOf : Str → Option NameKind} {x : Str} {v : Value} : ∀ {P : List Str} {vs : List Value} {i : Nat} {m : Str → Option Value}, P.Nodup → P[i]? = some x → vs[i]? = some v → kindOf x ≠ some .local →
    bindC kindOf (P.zip vs) m x = some v
  | [], _, _, _, _, h, _, _ => by simp at h
  | _ :: _, [], _, _, _, _, h, _ => by simp at h
  | p :: P, w :: vs, 0, m, nd, h1, h2, hk => by
    simp at h1 h2; subst h1; subst h2
    show bindC kindOf ((p, w) :: P.zip vs) m p = _
    unfold bindC
    rw [bindC_out fun v hv => (List.nodup_cons.mp nd).1 (List.of_mem_zip hv).1, if_neg hk]
    simp
  | p :: P, w :: vs, i + 1, m, nd, h1, h2, hk => by
    show bindC kindOf ((p, w) :: P.zip vs) m x = _
    unfold bindC
    exact bindC_get (i := i) (List.nodup_cons.mp nd).2 (by simpa using h1) (by simpa using h2) hk

/-- the names' values at the entry -/
def start (N : List Str) (vs : List V) : St := vs.map some ++ List.replicate (N.length - vs.length) none

/-- the context of a def's body, at its entry; an exception leaves the frame, then lies as CX says -/
def cxOf (CX : CXT) (P : Program) (w : World) (K : PySem.W.Frag) (mg : Str → Option Value) (base : Heap) (N : List Str) (qual : Str) (scope : Scope) (f : Addr) (cd : Value) (A : Around) (outer : List Env) (s : Shared) (H : Hp) (E : XK) : Cx where
  prog := P
  w := w
  K := K
  mg := mg
  base := base
  A := A.deeper (envOfC qual scope s.heap.objs.size f cd)
  N := N
  s₀ := s
  H₀ := H
  env := envOfC qual scope s.heap.objs.size f cd
  outer := outer
  stack := envOfC qual scope s.heap.objs.size f cd :: outer
  ex := []
  calm := true
  fn := fun _ => true
  pn := []
  xe := fun e s' => wpAny (model P w) (A.deeper (envOfC qual scope s.heap.objs.size f cd)) (leaving (envOfC qual scope s.heap.objs.size f cd) e) (fun _ s'' => CX outer H s E e s'') (fun e' s'' => CX outer H s E e' s'') s'

theorem cell_has {sc : Scope} {n : Nat} {x : Str} (h : sc.names.lookup x = some .cell) : ∃ c, (cellsFrom n sc.names []).lookup x = some c := by
  have q := PySem.W.cellsFrom_some sc.names n [] (.inl h)
  exact Option.isSome_iff_exists.mp q

theorem inv_start {CX : CXT} {P : Program} {w : World} {K : PySem.W.Frag} {mg : Str → Option Value} {base : Heap} {N ps : List Str} {qual : Str} {scope : Scope} {f : Addr} {cd : Value} {A : Around} {outer : List Env} {s s1 : Shared} {H : Hp} {E : XK} {us : List Value} {vs : List V}
    (S : FnScope N ps scope) (hd : A.handled = none) (e0 : Env0 P w K mg base A outer s H) (hl : vs.length = ps.length) (r : Vals vs us)
    (x : InCallC s s.heap.objs.size (bindL (envOfC qual scope s.heap.objs.size f cd).kindOf (ps.zip us) fun _ => none) (cellsFrom (s.heap.objs.size + 1) scope.names []) (bindC (envOfC qual scope s.heap.objs.size f cd).kindOf (ps.zip us) fun _ => none) s1) :
    Inv (cxOf CX P w K mg base N qual scope f cd A outer s H E) [] (start N vs) H s1 := by
  have hpl : ps.length ≤ N.length := by have := congrArg List.length S.pre; rw [List.length_take] at this; omega
  obtain ⟨h1, tk, rfl, hk⟩ := x.done
  have noA : ∀ b : Addr, b ∉ (cxOf CX P w K mg base N qual scope f cd A outer s H E).ex := fun b z => absurd (show b ∈ ([] : List Addr) from z) (by simp)
  refine ⟨⟨e0.mod, S.kind, rfl, rfl, Nat.le_refl _, fun y z c h1 h2 => ?_, fun y hy => ?_, fun y c _ h => ?_, fun _ => hd, Around.frames_deeper e0.frames, .inr ⟨rfl, rfl⟩, fun b z => absurd z (noA b), e0.bs, e0.bsz, fun b _ _ => noA b, fun b z => absurd z (noA b), e0.funs, e0.frf⟩,
    rfl, e0.bare, Un.kept hk, ⟨_, x.toInCall.ns, fun i y v h1 h2 h3 => ?_⟩, fun y c h => ⟨_, x.cell y c h⟩, e0.hok.fresh (Nat.le_refl _), fun y c h => ?_, fun p hp => absurd (show p ∈ ([] : List (Addr × Obj)) from hp) (by simp), e0.hok.kept hk, ?_⟩
  · exact name_of_addr x.apart (PySem.mem_of_lookup h1) (PySem.mem_of_lookup h2)
  · have hy : scope.names.lookup y = some .cell ∨ scope.names.lookup y = some .free := hy
    rcases hy with hy | hy
    · exact cell_has hy
    · exact absurd rfl (S.nofree _ (PySem.mem_of_lookup hy))
  · exact Nat.le_of_lt (x.above y c (PySem.mem_of_lookup h))
  · have hi : i < vs.length := by
      unfold start at h2
      by_cases hi : i < vs.length
      · exact hi
      · rw [List.getElem?_append_right (by simpa using hi)] at h2
        rw [List.getElem?_replicate] at h2
        split at h2 <;> cases h2
    have ha : vs[i]? = some v := by
      unfold start at h2
      rw [List.getElem?_append_left (by simpa using hi), List.getElem?_map] at h2
      cases e : vs[i]? with
      | none => rw [e] at h2; cases h2
      | some a => rw [e] at h2; cases h2; rfl
    obtain ⟨u, hu, rv⟩ := r.get ha
    have hp : ps[i]? = some y := by
      rw [← S.pre, List.getElem?_take_of_lt (by omega)]; exact h1
    have ndP : ps.Nodup := by rw [← S.pre]; exact S.nd.sublist (List.take_sublist _ _)
    refine ⟨u, rv, ?_⟩
    rcases S.par y (List.mem_of_getElem? hp) with k | k
    · exact .inl ⟨k, bindL_get ndP hp hu k⟩
    · obtain ⟨c, e⟩ := cell_has (n := s.heap.objs.size + 1) k
      refine .inr ⟨.inl k, c, e, ?_⟩
      have q := x.cell y c e
      rw [bindC_get ndP hp hu (by show scope.names.lookup y ≠ _; rw [k]; decide)] at q
      exact q
  · exact e0.hok.fresh (Nat.le_of_lt (x.above y c (PySem.mem_of_lookup h)))
  · unfold start
    show _ = N.length
    rw [List.length_append, List.length_map, List.length_replicate]
    omega

/-- THE RULE: a def (or a method) of the text, by its body. The body's reading t is chosen for each entry; it is run at the parameters' values -/
theorem fn_of {CX : CXT} {P : Program} {w : World} {K : PySem.W.Frag} {mg : Str → Option Value} {base : Heap} {k : Nat} {f : Addr} {name qual : Str} {params : Arguments} {body : List Stmt} {scope : Scope} {dV kV doc pm cdv ct oc : Value} {an od : Option Addr}
    {osl : Array (Option Value)} {N ps : List Str} {sp : Sp} (lk : K.lookup f = some ⟨oc, od, .func (PySem.W.fnOf name qual params body scope dV kV doc pm an cdv ct), osl⟩) (hcd : PySem.W.codeIn K cdv qual = true) (S : FnScope N ps scope)
    (len : ∀ vs H Q E, sp vs H Q E → vs.length = ps.length)
    (hbody : ∀ (A : Around) (outer : List Env) (s : Shared) (H : Hp) (vs : List V) (Q : VK) (E : XK), Room k (A.deeper (envOfC qual scope s.heap.objs.size f cdv)) → sp vs H Q E →
      ∃ t, PSs (cxOf CX P w K mg base N qual scope f cdv A outer s H E) body t ∧ t { nx := fun _ H' => Q .non H', rt := Q } (start N vs) H) :
    FnOk P w K mg base CX (k + 1) f (PySem.W.fnOf name qual params body scope dV kV doc pm an cdv ct) ps sp := by
  refine ⟨len, fun A outer s H args us vs Q E hr e0 hb r hsp => ?_⟩
  have hl := len _ _ _ _ hsp
  have KX : K.In s.heap := e0.mod.kin.keeps fun b o e => (e0.bs b o e).1
  have lim : s.heap.NoLimit := e0.mod.nolimit.keeps fun b o e => (e0.bs b o e).1
  have hkind : ∀ y ∈ ps.zip us, scope.names.lookup y.1 = some .local ∨ (scope.names.lookup y.1 = some .cell ∧ ((cellsFrom (s.heap.objs.size + 1) scope.names []).lookup y.1).isSome = true) := fun ⟨n, v⟩ hy => by
    rcases S.par n (List.of_mem_zip hy).1 with q | q
    · exact .inl q
    · exact .inr ⟨q, PySem.W.cellsFrom_some _ _ _ (.inl q)⟩
  refine codeAny_call_function hr.depth (KX _ _ lk) rfl S.co S.gen rfl (PySem.W.codeRec_of KX hcd) (hb _ _ _ _ ?_)
  refine wpAny_newFunctionEnv_cells S.kind hkind fun env he s1 x => ?_
  subst he
  refine ⟨lim.keeps x.toInCall.keep, codeAny_func ?_⟩
  obtain ⟨t, ht, hq⟩ := hbody A outer s H vs Q E (hr.deeper _) hsp
  have I : Inv (cxOf CX P w K mg base N qual scope f cdv A outer s H E) [] (start N vs) H s1 := inv_start S hr.hd e0 hl r x
  refine wpAny_mono (ht [] s1 (start N vs) H _ I hq) (fun fl s' hs => ?_) fun e s' hs => hs
  have fin : ∀ {σ' : St} {H' : Hp} {v : V} {u : Value}, Inv (cxOf CX P w K mg base N qual scope f cdv A outer s H E) [] σ' H' s' → RelV v u → Q v H' → CE outer P w H s Q u s' :=
    fun {σ' H' v u} J rv q => ⟨v, H', J.os, J.bare, J.base, J.hok, rv, q⟩
  cases fl with
  | ret u =>
    obtain ⟨v, σ', H', J, rv, q⟩ := hs
    exact fin J rv q
  | next =>
    obtain ⟨σ', H', J, q⟩ := hs
    exact fin (v := V.non) (u := Value.none) J rfl q
  | brk =>
    obtain ⟨_, _, _, q⟩ := hs
    exact False.elim q
  | cont =>
    obtain ⟨_, _, _, q⟩ := hs
    exact False.elim q
end L2

namespace L2
open PySem PySem.Spec PyProof.Rows
section
variable {X : Cx} {x : Str} {p pos : Pos} {e : Expr} {es : List Expr} {t : TA} {id T : String} {r : List V → Hp → VK → Prop}

def tCB (r : List V → Hp → VK → Prop) (t : TA) : TE := fun σ H Q => t σ H fun vs H1 => r vs H1 Q
/-- f(e, ..), f a built-in function -/
theorem pe_callB (hc : CallR X (.builtin id) r) (hg : Gl X x) (hm : X.mg x = none) (hv : bootBuiltins x = some (.builtin id)) (ha : PA X (e :: es) t) (hn : x ≠ "__name__" := by decide) (hdb : (x == ("__debug__" : Str)) = false := by decide)
    (he : starEach (e :: es) X.env = (false, eval e X.env) :: starEach es X.env := by rfl) (hpl : (backTo pos (starEach es X.env)).any (·.1) = false := by rfl) : PE X (.Call (.Name x p) (e :: es) [] pos) (tCB r t) := by
  intro pins s σ H Q I h
  refine wpAny_Call_Name_kw (ld_blt I hg hm hv ?_ hn hdb)
  exact PyProof.Rows.callWith_builtin1 (thn (ha pos pins s σ H _ I h) fun us s1 ⟨vs, H1, I1, r1, q1⟩ => hc pins s1 σ H1 vs us Q I1 r1 q1) he hpl
/-- T(e, ..), T a built-in type -/
theorem pe_callTy (hc : CallR X (.type T) r) (hg : Gl X x) (hm : X.mg x = none) (hv : bootBuiltins x = some (.type T)) (ha : PA X (e :: es) t) (hn : x ≠ "__name__" := by decide) (hdb : (x == ("__debug__" : Str)) = false := by decide)
    (he : starEach (e :: es) X.env = (false, eval e X.env) :: starEach es X.env := by rfl) (hpl : (backTo pos (starEach es X.env)).any (·.1) = false := by rfl) : PE X (.Call (.Name x p) (e :: es) [] pos) (tCB r t) := by
  intro pins s σ H Q I h
  refine wpAny_Call_Name_kw (ld_blt I hg hm hv ?_ hn hdb)
  exact PyProof.Rows.callWith_type1 (thn (ha pos pins s σ H _ I h) fun us s1 ⟨vs, H1, I1, r1, q1⟩ => hc pins s1 σ H1 vs us Q I1 r1 q1) he hpl
end
end L2

namespace HT
open PySem PyProof.Rows

section
open PySem.SeqAt
open PySem.AutoSeq1 (wpAny_loadPart')
open PySem.MeetsSeq PySem.MeetsSeq2 PySem.MeetsSeq3

end

section
variable {prog : Program} {w : World} {A : Around} {E : Value → Shared → Prop} {s : Shared}

/-! ### t[a:b], not the whole -/
/-- a slice's bound as a place among n (d where it is left out) -/
def sIx (n d : Nat) : Option Int → Nat
  | none => d
  | some v => if v < 0 then (v + (n : Int)).toNat else min v.toNat n
end
end HT

namespace L2
open PySem PySem.Spec PyProof.Rows

/-! ### the parts of a slice -/
abbrev TO := St → Hp → (Option Int → Hp → Prop) → Prop
/-- a slice's part (left out, or an int) -/
def PO (X : Cx) (e : Option Expr) (t : TO) : Prop :=
  ∀ (pins : List (Addr × Obj)) (s : Shared) (σ : St) (H : Hp) (Q : Option Int → Hp → Prop), Inv X pins σ H s → t σ H Q →
    wpAny (model X.prog X.w) X.A (evalPart e X.env) (fun u s' => ∃ o H', Inv X pins σ H' s' ∧ IsPart u o ∧ Q o H') X.xe s
def tNoPart : TO := fun _ H Q => Q none H
def tPart (t : TE) : TO := fun σ H Q => t σ H fun x H1 => ∃ i, x = .int i ∧ Q (some i) H1

section
variable {X : Cx} {e : Expr} {te : TE} {lo hi : Option Expr} {tl th : TO} {pos p2 : Pos}

theorem po_none : PO X none tNoPart := by
  intro pins s σ H Q I h
  rw [evalPart_none]
  exact wpAny_pure ⟨none, H, I, .none, h⟩
theorem po_some (h : PE X e te) : PO X (some e) (tPart te) := by
  intro pins s σ H Q I hw
  rw [evalPart_some]
  refine thn (h pins s σ H _ I hw) fun u s1 ⟨x, H1, I1, r1, q1⟩ => ?_
  obtain ⟨i, rfl, q⟩ := q1
  obtain ⟨t, rfl⟩ := r1
  exact ⟨some i, H1, I1, .int i t, q⟩

/-- what a slice of a value is, by values: the slice object stands at sl -/
def SlR (X : Cx) (r : V → Option Int → Option Int → Hp → VK → Prop) : Prop :=
  ∀ (pins : List (Addr × Obj)) (s : Shared) (σ : St) (H : Hp) (x : V) (v vl vu : Value) (lo hi : Option Int) (sl : Addr) (Q : VK), Inv X pins σ H s → RelV x v → s.heap.IsSliceOf sl vl vu .none → IsPart vl lo → IsPart vu hi → r x lo hi H Q →
    ∃ T id, typeLookup (.type T) "__getitem__" = pure (some (.builtin id)) ∧ s.TypeIs v T ∧ wpAny (model X.prog X.w) X.A (getItem v (.ref sl)) (EP X pins σ Q) X.xe s
theorem SlR.or {r r' : V → Option Int → Option Int → Hp → VK → Prop} (h : SlR X r) (h' : SlR X r') : SlR X (fun x lo hi H Q => r x lo hi H Q ∨ r' x lo hi H Q) := by
  intro pins s σ H x v vl vu lo hi sl Q I rx hs pl pu q
  rcases q with q | q
  · exact h pins s σ H x v vl vu lo hi sl Q I rx hs pl pu q
  · exact h' pins s σ H x v vl vu lo hi sl Q I rx hs pl pu q
def tSl (r : V → Option Int → Option Int → Hp → VK → Prop) (te : TE) (tl th : TO) : TE := fun σ H Q => te σ H fun x H1 => tl σ H1 fun l H2 => th σ H2 fun u H3 => r x l u H3 Q
/-- a[lo:hi], any a -/
theorem pe_slice {r : V → Option Int → Option Int → Hp → VK → Prop} (hr : SlR X r) (he : PE X e te) (hl : PO X lo tl) (hu : PO X hi th) : PE X (.Subscript e (.Slice lo hi none p2) pos) (tSl r te tl th) := by
  intro pins s σ H Q I h
  refine Subscript_ (thn (he pins s σ H _ I h) fun v s1 ⟨x, H1, I1, r1, q1⟩ => ?_)
  refine wpAny_Slice (thn (hl pins s1 σ H1 _ I1 q1) fun vl s2 ⟨l, H2, I2, pl, q2⟩ => thn (hu pins s2 σ H2 _ I2 q2) fun vu s3 ⟨u, H3, I3, pu, q3⟩ => ?_)
  rw [evalPart_none]
  refine wpAny_pure ?_
  have I4 : Inv X pins σ H3 { s3 with heap := s3.heap.push { cls := .type "slice", data := .fields #[vl, vu, .none] } } := I3.kept (t' := s3.toks) fun b ob q => Heap.get?_push_of_some _ q
  obtain ⟨T, id, hT, ht, hg⟩ := hr pins { s3 with heap := s3.heap.push { cls := .type "slice", data := .fields #[vl, vu, .none] } } σ H3 x v vl vu l u s3.heap.objs.size Q I4 r1 (Heap.IsSliceOf.new ..) pl pu q3
  show wpAny (model X.prog X.w) X.A (subscriptTail e (.Slice lo hi none p2) v (.ref s3.heap.objs.size)) (EP X pins σ Q) X.xe { s3 with heap := s3.heap.push { cls := .type "slice", data := .fields #[vl, vu, .none] } }
  exact tail_any (ops := [.ref s3.heap.objs.size, v]) ht hT hg (by with_unfolding_all rfl)

/-- the items of xs[lo:hi] -/
def cutV (xs : List V) (lo hi : Option Int) : List V := (xs.drop (HT.sIx xs.length 0 lo)).take (HT.sIx xs.length xs.length hi - HT.sIx xs.length 0 lo)
theorem cutV_length (xs : List V) (lo hi : Option Int) : (cutV xs lo hi).length ≤ xs.length := by
  unfold cutV
  rw [List.length_take, List.length_drop]
  omega
/-! ### t < u, t + u -/
end
end L2

namespace L2
open PySem PySem.Spec PyProof.Rows

/-! ### places -/
/-- the place that an index of any sign means -/
def ixN (n : Nat) (i : Int) : Option Nat := if 0 ≤ i then (if i < n then some i.toNat else none) else if -(n : Int) ≤ i then some (i + n).toNat else none
def atI {α : Type} (xs : List α) (i : Int) : Option α := (ixN xs.length i).bind fun j => xs[j]?
theorem ixN_seq {n : Nat} {i : Int} {j : Nat} (h : ixN n i = some j) : seqIndex? i n = some j ∧ j < n ∧ -(n : Int) ≤ i ∧ i < n := by
  unfold ixN at h
  by_cases h0 : 0 ≤ i
  · rw [if_pos h0] at h
    by_cases h1 : i < n
    · rw [if_pos h1] at h
      have e : i.toNat = j := Option.some.inj h
      exact ⟨by rw [seqIndex_of h0 h1, e], by omega, by omega, h1⟩
    · rw [if_neg h1] at h; cases h
  · rw [if_neg h0] at h
    by_cases h1 : -(n : Int) ≤ i
    · rw [if_pos h1] at h
      have e : (i + n).toNat = j := Option.some.inj h
      exact ⟨by rw [seqIndex_neg (by omega) h1, e], by omega, h1, by omega⟩
    · rw [if_neg h1] at h; cases h
theorem atI_get {α : Type} {xs : List α} {i : Int} {v : α} (h : atI xs i = some v) : ∃ j, seqIndex? i xs.length = some j ∧ xs[j]? = some v ∧ j < xs.length ∧ -(xs.length : Int) ≤ i ∧ i < xs.length := by
  unfold atI at h
  cases e : ixN xs.length i with
  | none => rw [e] at h; cases h
  | some j =>
    rw [e] at h
    obtain ⟨h1, h2, h3, h4⟩ := ixN_seq e
    exact ⟨j, h1, h, h2, h3, h4⟩
theorem atI_nat {α : Type} {xs : List α} {j : Nat} {v : α} (h : xs[j]? = some v) : atI xs (j : Int) = some v := by
  have hj : j < xs.length := (List.getElem?_eq_some_iff.mp h).1
  have e : ixN xs.length (j : Int) = some j := by
    unfold ixN
    rw [if_pos (by omega), if_pos (by omega)]; simp
  unfold atI; rw [e]; exact h
/-! ### what may be subscripted -/
/-- what stands as an index of a plain subscript -/
def PlainIx (b : Expr) : Prop := ∀ o i, subscripted b false o i = operate [o, i] (getItem o i)
/-- a subscript by values -/
def IxR (X : Cx) (r : R2) : Prop :=
  ∀ (value slice : Expr) (pins : List (Addr × Obj)) (s : Shared) (σ : St) (H : Hp) (x y : V) (v u : Value) (Q : VK), Inv X pins σ H s → RelV x v → RelV y u → r x y H Q →
    subscripted slice false v u = operate [v, u] (getItem v u) → wpAny (model X.prog X.w) X.A (subscriptTail value slice v u) (EP X pins σ Q) X.xe s
/-- a call of a builtin's method by values: the receiver, the arguments -/
def MtR (X : Cx) (id : String) (r : V → List V → Hp → VK → Prop) : Prop :=
  ∀ (pins : List (Addr × Obj)) (s : Shared) (σ : St) (H : Hp) (x : V) (xs : List V) (v : Value) (us : List Value) (Q : VK), Inv X pins σ H s → RelV x v → Vals xs us → r x xs H Q →
    wpAny (model X.prog X.w) X.A (call (.builtin id) (v :: us)) (EP X pins σ Q) X.xe s
section
variable {X : Cx} {a b : Expr} {ta tb : TE} {pos : Pos}
theorem IxR.or {r r' : R2} (h : IxR X r) (h' : IxR X r') : IxR X (fun x y H Q => r x y H Q ∨ r' x y H Q) := by
  intro value slice pins s σ H x y v u Q I rx ry q hs
  rcases q with q | q
  · exact h value slice pins s σ H x y v u Q I rx ry q hs
  · exact h' value slice pins s σ H x y v u Q I rx ry q hs
theorem MtR.or {id : String} {r r' : V → List V → Hp → VK → Prop} (h : MtR X id r) (h' : MtR X id r') : MtR X id (fun x xs H Q => r x xs H Q ∨ r' x xs H Q) := by
  intro pins s σ H x xs v us Q I rx rs q
  rcases q with q | q
  · exact h pins s σ H x xs v us Q I rx rs q
  · exact h' pins s σ H x xs v us Q I rx rs q
/-- a[b] -/
theorem pe_ix {r : R2} (hr : IxR X r) (ha : PE X a ta) (hb : PE X b tb) (hs : PlainIx b) : PE X (.Subscript a b pos) (tOp r ta tb) := by
  intro pins s σ H Q I h
  exact Subscript_ (binT ha hb I h fun v u s2 x y H2 I2 rx ry q => hr a b pins s2 σ H2 x y v u Q I2 rx ry q (hs _ _))

def rIxL (K : PySem.W.Frag) : R2 := fun x y H Q => ∃ p xs i v, x = .ref p ∧ y = .int i ∧ SqL K H p xs ∧ atI xs i = some v ∧ Q v H
def rIxT (K : PySem.W.Frag) : R2 := fun x y H Q => ∃ p xs i v, x = .ref p ∧ y = .int i ∧ SqT K H p xs ∧ atI xs i = some v ∧ Q v H
def rIxS : R2 := fun x y H Q => ∃ z i c, x = .str z ∧ y = .int i ∧ z.length ≤ sizeLine ∧ atI z.cps.toList i = some c ∧ Q (.str ⟨#[c]⟩) H
theorem ix_list : IxR X (rIxL X.K) := by
  intro value slice pins s σ H x y v u Q I rx ry h hs
  obtain ⟨p, xs, i, z, rfl, rfl, hq, he, q⟩ := h
  cases rx
  obtain ⟨t, rfl⟩ := ry
  obtain ⟨its, r, pl, hz⟩ := I.list hq
  obtain ⟨j, h1, h2, h3, h4, h5⟩ := atI_get he
  obtain ⟨w, ew, rw'⟩ := r.get h2
  have hl := r.length
  have hn := line63
  have fin : EP X pins σ Q w s := ⟨z, H, I, rw', q⟩
  by_cases h0 : 0 ≤ i
  · have hj : i.toNat = j := by
      rw [seqIndex_of h0 h5] at h1
      exact Option.some.inj h1
    exact item_listR pl.isList h0 (by omega) (by rw [hj]; simpa using ew) fin hs
  · have hj : (i + (its.toArray.size : Int)).toNat = j := by
      rw [seqIndex_neg (by omega) h4] at h1
      rw [List.size_toArray, ← hl]
      exact Option.some.inj h1
    exact subscriptTail_builtinR (x := w) pl.isList.typeIs slot_list_getitem.lookup
      (wpAny_getItem_list_neg (Q := fun r s' => r = w ∧ EP X pins σ Q r s') pl.isList (by omega) (by rw [List.size_toArray] <;> omega) (by omega) (by rw [hj]; simpa using ew) ⟨rfl, fin⟩) hs
theorem ix_tup : IxR X (rIxT X.K) := by
  intro value slice pins s σ H x y v u Q I rx ry h hs
  obtain ⟨p, xs, i, z, rfl, rfl, hq, he, q⟩ := h
  cases rx
  obtain ⟨t, rfl⟩ := ry
  obtain ⟨its, r, pl, hz⟩ := I.tuple hq
  obtain ⟨j, h1, h2, h3, h4, h5⟩ := atI_get he
  obtain ⟨w, ew, rw'⟩ := r.get h2
  have hl := r.length
  have hn := line63
  have fin : EP X pins σ Q w s := ⟨z, H, I, rw', q⟩
  exact subscriptTail_builtinR (x := w) pl.typeIs slot_tuple_getitem.lookup
    (getItem_tuple (j := j) (Q := fun r s' => r = w ∧ EP X pins σ Q r s') pl (by omega) (by omega) (by rw [List.size_toArray, ← hl]; exact h1) (by simpa using ew) ⟨rfl, fin⟩) hs
theorem ix_str : IxR X rIxS := by
  intro value slice pins s σ H x y v u Q I rx ry h hs
  obtain ⟨z, i, c, rfl, rfl, hz, he, q⟩ := h
  obtain ⟨t, rfl⟩ := rx
  obtain ⟨t', rfl⟩ := ry
  obtain ⟨j, h1, h2, h3, h4, h5⟩ := atI_get he
  have hl : z.cps.toList.length = z.length := by simp [Str.length]
  rw [hl] at h1 h4 h5
  have hn := line63
  exact tail_any (typeIs_str s z t) slot_str_getitem.lookup (getItem_str (c := c) (by
    have e1 : decide (i < -(2 ^ 63 : Int)) = false := decide_eq_false (by omega)
    have e2 : decide (i ≥ 2 ^ 63) = false := decide_eq_false (by omega)
    rw [e1, e2, Bool.or_false]) (by rw [h1]; simpa using h2) ⟨.str ⟨#[c]⟩, H, I.tok _, ⟨_, rfl⟩, q⟩) hs
/-! ### xs[i] = v, any sign -/
/-- the list's object behind a store -/
theorem mapSeq_set (its : List Value) (n j : Nat) (u : Value) : Obj.mapSeq (·.setIfInBounds j u) { cls := .type "list", data := .seq its.toArray n } = { cls := .type "list", data := .seq (its.set j u).toArray n } := by
  simp [Obj.mapSeq]
theorem Inv.lst {pins : List (Addr × Obj)} {σ : St} {H : Hp} {s : Shared} {p : Addr} {xs : List V} (I : Inv X pins σ H s) (h : H p = some (.lst xs)) :
    ∃ (its : List Value) (n : Nat), Vals xs its ∧ s.heap.get? p = some { cls := .type "list", data := .seq its.toArray n } ∧ xs.length ≤ sizeLine := by
  obtain ⟨z, its, n, r, e⟩ := I.hok p _ h
  exact ⟨its, n, r, e, z⟩
/-- the list at p is written by an update of its object -/
theorem Inv.lstUpd {pins : List (Addr × Obj)} {σ : St} {H : Hp} {s : Shared} {p : Addr} {xs ys : List V} {its its' : List Value} {n n' : Nat} {f : Obj → Obj} (I : Inv X pins σ H s) (h : H p = some (.lst xs))
    (ho : s.heap.get? p = some { cls := .type "list", data := .seq its.toArray n }) (hf : f { cls := .type "list", data := .seq its.toArray n } = { cls := .type "list", data := .seq its'.toArray n' }) (r : Vals ys its') (hz : ys.length ≤ sizeLine) (t : Nat) :
    Inv X pins σ (upd H p (.lst ys)) { s with heap := s.heap.update p f, toks := t } := by
  have e : (s.heap.update p f).get? p = some { cls := .type "list", data := .seq its'.toArray n' } := by
    rw [Heap.get?_update_self f ho (by rw [hf] <;> rfl), hf]
  refine I.write (x := p) (e := p) (by rw [h]; trivial) (.inl rfl) (fun b u hb q => (Heap.get?_update_other _ _ (Ne.symm hb)).trans q) ⟨_, e⟩ ?_
  exact ⟨hz, its', n', r, e⟩
def rSetL : V → V → V → Hp → (Hp → Prop) → Prop := fun o i v H Q => ∃ p xs k j, o = .ref p ∧ i = .int k ∧ H p = some (.lst xs) ∧ ixN xs.length k = some j ∧ Q (upd H p (.lst (xs.set j v)))
theorem set_list : PSet X rSetL := by
  intro pins s σ H o i v ov iv u Q I ro ri rv h
  obtain ⟨p, xs, k, j, rfl, rfl, hp, hj, q⟩ := h
  cases ro
  obtain ⟨t, rfl⟩ := ri
  obtain ⟨its, n, r, ho, hz⟩ := I.lst hp
  obtain ⟨h1, h2, h3, h4⟩ := ixN_seq hj
  have hl := r.length
  have hn := line63
  have I' : Inv X pins σ (upd H p (.lst (xs.set j v))) { s with heap := s.heap.update p (Obj.mapSeq (·.setIfInBounds j u)) } :=
    I.lstUpd hp ho (mapSeq_set its n j u) (r.set rv j) (by rw [List.length_set]; exact hz) s.toks
  by_cases h0 : 0 ≤ k
  · have hk : k.toNat = j := by
      rw [seqIndex_of h0 h4] at h1
      exact Option.some.inj h1
    exact PySem.W.ki_setAt ho h0 (by omega) (by rw [List.size_toArray, ← hl]; exact h4) (by rw [hk]; exact ⟨_, I', q⟩)
  · have hk : (k + (its.toArray.size : Int)).toNat = j := by
      rw [seqIndex_neg (by omega) h3] at h1
      rw [List.size_toArray, ← hl]
      exact Option.some.inj h1
    exact PySem.W.ki_setBack ho (by omega) (by rw [List.size_toArray, ← hl]; exact h3) (by omega) (by rw [hk]; exact ⟨_, I', q⟩)

/-! ### slices -/
theorem slice_bounds (lo hi : Option Int) (n : Nat) : (sliceBounds lo hi none n).1 = ((HT.sIx n 0 lo : Nat) : Int) ∧ (sliceBounds lo hi none n).2.1 = ((HT.sIx n n hi : Nat) : Int) ∧ (sliceBounds lo hi none n).2.2 = 1 := by
  refine ⟨?_, ?_, rfl⟩
  · cases lo with
    | none => simp [sliceBounds, HT.sIx]
    | some i =>
      simp only [sliceBounds, HT.sIx, Option.getD_none, show (1 : Int) > 0 by decide, if_true]
      by_cases h : i < 0
      · simp only [h, if_true] <;> omega
      · simp only [h, if_false] <;> omega
  · cases hi with
    | none => simp [sliceBounds, HT.sIx]
    | some i =>
      simp only [sliceBounds, HT.sIx, Option.getD_none, show (1 : Int) > 0 by decide, if_true]
      by_cases h : i < 0
      · simp only [h, if_true] <;> omega
      · simp only [h, if_false] <;> omega
theorem slicePick_cut (its : List Value) (lo hi : Option Int) : slicePick its.toArray lo hi none = ((its.drop (HT.sIx its.length 0 lo)).take (HT.sIx its.length its.length hi - HT.sIx its.length 0 lo)).toArray := by
  obtain ⟨h1, h2, h3⟩ := slice_bounds lo hi its.toArray.size
  unfold slicePick
  rw [h1, h2, h3]
  simp only [sliceRange_one, pick_run, List.size_toArray] <;> rfl
/-- xs[lo:hi] of a list: a new list -/
def rSlL (K : PySem.W.Frag) : V → Option Int → Option Int → Hp → VK → Prop := fun x lo hi H Q => ∃ a xs, x = .ref a ∧ SqL K H a xs ∧ ∀ p, H p = none → Q (.ref p) (upd H p (.lst (cutV xs lo hi)))
theorem sl_list : SlR X (rSlL X.K) := by
  intro pins s σ H x v vl vu lo hi sl Q I rx hs pl pu h
  obtain ⟨a, xs, rfl, hx, q⟩ := h
  cases rx
  obtain ⟨its, r, ht, hz⟩ := I.list hx
  have hlen := r.length
  refine ⟨"list", _, slot_list_getitem.lookup, ht.isList.typeIs, ?_⟩
  refine wpAny_getItem_list_slice ht.isList hs pl pu .none (by simp) ?_ (by rw [List.size_toArray] <;> omega)
  rw [slicePick_cut, ← hlen]
  refine ⟨.ref s.heap.objs.size, _, I.laid (t' := s.toks) (o := .lst (cutV xs lo hi)) (fun b ob q => Heap.get?_push_of_some _ q) (Nat.le_refl _) ?_, rfl, q _ (I.hok.fresh (Nat.le_refl _))⟩
  exact ⟨Nat.le_trans (cutV_length xs lo hi) hz, _, 0, (r.drop (HT.sIx xs.length 0 lo)).take (HT.sIx xs.length xs.length hi - HT.sIx xs.length 0 lo), Heap.get?_push_size _ rfl⟩

/-! ### in, not in: flat items -/
def flatV : V → Bool
  | .non => true
  | .bl _ => true
  | .int _ => true
  | .str _ => true
  | _ => false
/-- == of flat values -/
def eqV : V → V → Bool
  | .non, .non => true
  | .bl a, .bl b => a == b
  | .bl a, .int b => (if a then 1 else 0) == b
  | .int a, .bl b => a == (if b then 1 else 0)
  | .int a, .int b => a == b
  | .str a, .str b => a == b
  | _, _ => false
theorem eqAt_V {A : Around} {s : Shared} {y x : V} {u v : Value} (ry : RelV y u) (rx : RelV x v) (fy : flatV y = true) (fx : flatV x = true) : SeqAt.EqAt A s u v (eqV y x) := by
  cases y with
  | non =>
    cases ry
    cases x with
    | non => cases rx; exact SeqAt.EqAt.same _
    | bl b => cases rx; exact SeqAt.EqAt.none_bool b
    | int b => obtain ⟨t, rfl⟩ := rx; exact SeqAt.EqAt.none_int b t
    | str b => obtain ⟨t, rfl⟩ := rx; exact SeqAt.EqAt.none_str b t
    | _ => exact absurd (show false = true from fx) Bool.false_ne_true
  | bl a =>
    cases ry
    cases x with
    | non => cases rx; exact SeqAt.EqAt.bool_none a
    | bl b => cases rx; exact SeqAt.EqAt.bool_bool a b
    | int b => obtain ⟨t, rfl⟩ := rx; exact SeqAt.EqAt.bool_int a b t
    | str b => obtain ⟨t, rfl⟩ := rx; exact SeqAt.EqAt.bool_str a b t
    | _ => exact absurd (show false = true from fx) Bool.false_ne_true
  | int a =>
    obtain ⟨t', rfl⟩ := ry
    cases x with
    | non => cases rx; exact SeqAt.EqAt.int_none a t'
    | bl b => cases rx; exact SeqAt.EqAt.int_bool a t' b
    | int b => obtain ⟨t, rfl⟩ := rx; exact SeqAt.EqAt.int_int a t' b t
    | str b => obtain ⟨t, rfl⟩ := rx; exact SeqAt.EqAt.int_str a t' b t
    | _ => exact absurd (show false = true from fx) Bool.false_ne_true
  | str a =>
    obtain ⟨t', rfl⟩ := ry
    cases x with
    | non => cases rx; exact SeqAt.EqAt.str_none a t'
    | bl b => cases rx; exact SeqAt.EqAt.str_bool a t' b
    | int b => obtain ⟨t, rfl⟩ := rx; exact SeqAt.EqAt.str_int a t' b t
    | str b => obtain ⟨t, rfl⟩ := rx; exact SeqAt.EqAt.str_str a t' b t
    | _ => exact absurd (show false = true from fx) Bool.false_ne_true
  | _ => exact absurd (show false = true from fy) Bool.false_ne_true
/-- the items' answers, read off the values (a value's own answer does not lean on its token) -/
def eqU (x : V) (u : Value) : Bool := match u with
  | .none => eqV .non x
  | .bool b => eqV (.bl b) x
  | .int i _ => eqV (.int i) x
  | .str z _ => eqV (.str z) x
  | _ => false
theorem eqU_of {x y : V} {u : Value} (r : RelV y u) (f : flatV y = true) : eqU x u = eqV y x := by
  cases y with
  | non => cases r; rfl
  | bl b => cases r; rfl
  | int i => obtain ⟨t, rfl⟩ := r; rfl
  | str z => obtain ⟨t, rfl⟩ := r; rfl
  | _ => exact absurd (show false = true from f) Bool.false_ne_true
theorem any_eqU {x : V} : ∀ {xs : List V} {us : List Value}, Vals xs us → xs.all flatV = true → us.any (eqU x) = xs.any fun y => eqV y x
  | _, _, .nil, _ => rfl
  | y :: xs, u :: us, .cons r t, f => by
    rw [List.all_cons, Bool.and_eq_true] at f
    rw [List.any_cons, List.any_cons, eqU_of r f.1, any_eqU t f.2]
theorem mem_eqAt {A : Around} {s : Shared} {x : V} {v : Value} (rx : RelV x v) (fx : flatV x = true) : ∀ {xs : List V} {us : List Value}, Vals xs us → xs.all flatV = true → ∀ u ∈ us, SeqAt.EqAt A s u v (eqU x u)
  | _, _, .nil, _ => fun u hu => by cases hu
  | y :: xs, u :: us, .cons r t, f => fun u' hu => by
    rw [List.all_cons, Bool.and_eq_true] at f
    rcases List.mem_cons.mp hu with rfl | hu
    · rw [eqU_of r f.1]; exact eqAt_V r rx f.1 fx
    · exact mem_eqAt rx fx t f.2 u' hu
def inV (x : V) (xs : List V) : Bool := xs.any fun y => eqV y x
/-- x in a list or tuple of flat items -/
def rIn (K : PySem.W.Frag) (neg : Bool) : R2 := fun x y H Q => ∃ p xs, y = .ref p ∧ (SqL K H p xs ∨ SqT K H p xs) ∧ flatV x = true ∧ xs.all flatV = true ∧ Q (.bl (if neg then !inV x xs else inV x xs)) H
theorem op_notIn_seq : OpR X (compareOp .NotIn) (rIn X.K true) := by
  intro pins s σ H x y v u Q I rx ry h
  obtain ⟨p, xs, rfl, hq, fx, fs, q⟩ := h
  cases ry
  rcases hq with hq | hq
  · obtain ⟨its, r, pl, hz⟩ := I.list hq
    refine SeqAt.notIn_listAt (eqU x) pl.isList (fun w hw => mem_eqAt rx fx r fs w (by simpa using hw)) ⟨.bl _, H, I, rfl, ?_⟩
    rw [show its.toArray.any (eqU x) = its.any (eqU x) by simp, any_eqU r fs]
    exact q
  · obtain ⟨its, r, pl, hz⟩ := I.tuple hq
    refine SeqAt.notIn_tupleAt (eqU x) pl (fun w hw => mem_eqAt rx fx r fs w (by simpa using hw)) ⟨.bl _, H, I, rfl, ?_⟩
    rw [show its.toArray.any (eqU x) = its.any (eqU x) by simp, any_eqU r fs]
    exact q
/-! ### len, list(x), tuple(x) of any list or tuple that is read -/
theorem call_len_seq : CallR X (.builtin "len") (fun xs H Q => ∃ p ys, xs = [.ref p] ∧ (SqL X.K H p ys ∨ SqT X.K H p ys) ∧ Q (.int ys.length) H) := by
  intro pins s σ H xs us Q I r h
  obtain ⟨p, ys, rfl, hq, q⟩ := h
  obtain ⟨u, rfl, rx⟩ := vals1 r
  cases rx
  have hn := line63
  rcases hq with hq | hq
  · obtain ⟨its, r', pl, hz⟩ := I.list hq
    have hlen := r'.length
    exact Calls.call_len_list pl.isList (by simp only [List.size_toArray] <;> omega) ⟨.int ys.length, H, I.tok _, ⟨s.toks + 1, by rw [List.size_toArray, hlen]⟩, q⟩
  · obtain ⟨its, r', pl, hz⟩ := I.tuple hq
    have hlen := r'.length
    exact len_tuple pl (by simp only [List.size_toArray] <;> omega) ⟨.int ys.length, H, I.tok _, ⟨s.toks + 1, by rw [List.size_toArray, hlen]⟩, q⟩
theorem call_len_str : CallR X (.builtin "len") (fun xs H Q => ∃ z, xs = [.str z] ∧ z.length ≤ sizeLine ∧ Q (.int z.length) H) := by
  intro pins s σ H xs us Q I r h
  obtain ⟨z, rfl, hz, q⟩ := h
  obtain ⟨u, rfl, t, rfl⟩ := vals1 r
  have hn := line63
  exact len_str (by omega) ⟨.int z.length, H, I.tok _, ⟨_, rfl⟩, q⟩
theorem CallR.or {f : Value} {r r' : List V → Hp → VK → Prop} (h : CallR X f r) (h' : CallR X f r') : CallR X f (fun xs H Q => r xs H Q ∨ r' xs H Q) := by
  intro pins s σ H xs us Q I rs q
  rcases q with q | q
  · exact h pins s σ H xs us Q I rs q
  · exact h' pins s σ H xs us Q I rs q
theorem call_list_of : CallR X (.type "list") (fun xs H Q => ∃ p ys, xs = [.ref p] ∧ (SqL X.K H p ys ∨ SqT X.K H p ys) ∧ ∀ l, H l = none → Q (.ref l) (upd H l (.lst ys))) := by
  intro pins s σ H xs us Q I r h
  obtain ⟨p, ys, rfl, hq, q⟩ := h
  obtain ⟨u, rfl, rx⟩ := vals1 r
  cases rx
  have fin : ∀ (its : List Value), Vals ys its → ys.length ≤ sizeLine → ∀ (h' : Heap) (c' : Nat), (∀ b o', s.heap.get? b = some o' → h'.get? b = some o') →
      h'.get? s.heap.objs.size = some { cls := .type "list", dict := none, data := .seq its.toArray c', slots := #[] } → EP X pins σ Q (.ref s.heap.objs.size) { s with heap := h' } := fun its r' hz h' c' kp e =>
    ⟨.ref s.heap.objs.size, _, I.laid (t' := s.toks) kp (Nat.le_refl _) (show ObjOk X.prog X.w _ h' _ (.lst ys) from ⟨hz, its, c', r', e⟩), rfl, q _ (I.hok.fresh (Nat.le_refl _))⟩
  rcases hq with hq | hq
  · obtain ⟨its, r', pl, hz⟩ := I.list hq
    have hlen := r'.length
    obtain ⟨o, ho, hc, n, hd⟩ := pl.isList
    exact call_list_seq p (.inl rfl) ho hc hd (fun h' c' kp e => fin its r' hz h' c' kp e) (by simp only [List.size_toArray] <;> omega)
  · obtain ⟨its, r', pl, hz⟩ := I.tuple hq
    have hlen := r'.length
    obtain ⟨o, ho, hc, n, hd⟩ := pl
    exact call_list_seq p (.inr rfl) ho hc hd (fun h' c' kp e => fin its r' hz h' c' kp e) (by simp only [List.size_toArray] <;> omega)
theorem call_tuple_of : CallR X (.type "tuple") (fun xs H Q => ∃ p ys, xs = [.ref p] ∧ ((SqL X.K H p ys ∧ ∀ l, H l = none → Q (.ref l) (upd H l (.tup ys))) ∨ (SqT X.K H p ys ∧ Q (.ref p) H))) := by
  intro pins s σ H xs us Q I r h
  obtain ⟨p, ys, rfl, h⟩ := h
  obtain ⟨u, rfl, rx⟩ := vals1 r
  cases rx
  rcases h with ⟨hq, q⟩ | ⟨hq, q⟩
  · obtain ⟨its, r', pl, hz⟩ := I.list hq
    have hlen := r'.length
    refine call_tuple_list pl.isList (fun h' kp => ?_) (by simp only [List.size_toArray] <;> omega)
    have I1 : Inv X pins σ H { s with heap := h' } := I.kept (t' := s.toks) kp
    have I2 : Inv X pins σ (upd H h'.objs.size (.tup ys)) { s with heap := h'.push { cls := .type "tuple", data := .seq its.toArray } } :=
      I1.laid (t' := s.toks) (fun b o e => Heap.get?_push_of_some _ e) (Nat.le_refl _) (show ObjOk X.prog X.w _ _ _ (.tup ys) from ⟨hz, its, r', IsTup.new _ _⟩)
    exact ⟨.ref h'.objs.size, _, I2, rfl, q _ (I1.hok.fresh (Nat.le_refl _))⟩
  · obtain ⟨its, r', pl, hz⟩ := I.tuple hq
    exact call_tuple_same pl ⟨.ref p, H, I, rfl, q⟩

/-! ### the call of a builtin's method: o.m(..) -/
/-- the value is of that builtin type -/
def tyV (K : PySem.W.Frag) (T : String) (x : V) (H : Hp) : Prop := match x with
  | .str _ => T = "str"
  | .int _ => T = "int"
  | .ref p => (T = "list" ∧ ∃ xs, SqL K H p xs) ∨ (T = "tuple" ∧ ∃ o, K.lookup p = some o ∧ o.cls = .type "tuple" ∧ o.dict = none) ∨
      (T = "dict" ∧ ((∃ kvs, H p = some (.dK kvs)) ∨ ∃ kvs, H p = some (.dT kvs))) ∨ (T = "set" ∧ ∃ S n, H p = some (.set S n))
  | _ => False
theorem tyV_is {pins : List (Addr × Obj)} {σ : St} {H : Hp} {s : Shared} {T : String} {x : V} {v : Value} (I : Inv X pins σ H s) (r : RelV x v) (ty : tyV X.K T x H) :
    s.TypeIs v T ∧ ∀ a, v = .ref a → ∃ ob, s.heap.get? a = some ob ∧ ob.dict = none := by
  cases x with
  | str z =>
    obtain ⟨t, rfl⟩ := r
    cases (show T = "str" from ty)
    exact ⟨typeIs_str s z t, fun _ e => nomatch e⟩
  | int i =>
    obtain ⟨t, rfl⟩ := r
    cases (show T = "int" from ty)
    exact ⟨typeIs_int s i t, fun _ e => nomatch e⟩
  | ref p =>
    cases r
    rcases ty with ⟨rfl, xs, hq⟩ | ⟨rfl, o, hk, hc, hd⟩ | ⟨rfl, hk⟩ | ⟨rfl, S, n, hk⟩
    · obtain ⟨its, _, pl, _⟩ := I.list hq
      refine ⟨pl.isList.typeIs, fun a e => ?_⟩
      cases e
      obtain ⟨o, n, e, c, hd, _⟩ := pl
      exact ⟨o, e, hd⟩
    · refine ⟨⟨o, I.kIn p o hk, hc⟩, fun a e => ?_⟩
      cases e
      exact ⟨o, I.kIn _ o hk, hd⟩
    · have z : ∃ o, s.heap.get? p = some o ∧ o.ExactDict := by
        rcases hk with ⟨kvs, hk⟩ | ⟨kvs, hk⟩
        · obtain ⟨_, _, _, _, o, _, _, e, ex, _⟩ := I.hok p _ hk
          exact ⟨o, e, ex⟩
        · obtain ⟨_, _, _, _, o, _, _, e, ex, _⟩ := I.hok p _ hk
          exact ⟨o, e, ex⟩
      obtain ⟨o, e, ex⟩ := z
      refine ⟨⟨o, e, ex.1⟩, fun a e2 => ?_⟩
      cases e2
      exact ⟨o, e, ex.2.1⟩
    · obtain ⟨o, _, _, _, e, ex, _⟩ := I.hok p _ hk
      refine ⟨⟨o, e, ex.1⟩, fun a e2 => ?_⟩
      cases e2
      exact ⟨o, e, ex.2.1⟩
  | _ => exact False.elim ty
def tBM (K : PySem.W.Frag) (T : String) (r : V → List V → Hp → VK → Prop) (to : TE) (t : TA) : TE := fun σ H Q => to σ H fun x H1 => tyV K T x H1 ∧ t σ H1 fun xs H2 => r x xs H2 Q
variable {o e : Expr} {es : List Expr} {to : TE} {t : TA} {name : Str} {apos cpos : Pos} {T id : String} {r : V → List V → Hp → VK → Prop}
theorem pe_bm (pa : PlainAttrs T) (slot : Slot T name id) (hty : typeOf (.builtin id) = pure (.type "method_descriptor")) (hm : MtR X id r) (ho : PE X o to) (ha : PA X (e :: es) t)
    (hbase : attributeBase o name X.env (eval o X.env) = eval o X.env := by rfl)
    (hfew : ((backTo cpos (starEach (e :: es) X.env)).all (fun x => !x.1) && (backToKw cpos (keywordEach [] X.env)).all (fun x => x.1.isSome)
      && decide ((e :: es).length + ([] : List Keyword).length + (if ([] : List Keyword).isEmpty then 0 else 1) < 30)) = true := by rfl)
    (hline : (apos.endLine == cpos.line) = true := by rfl) (hs : starEach (e :: es) X.env = (false, eval e X.env) :: starEach es X.env := by rfl) (hplain : (backTo cpos (starEach es X.env)).any (·.1) = false := by rfl) :
    PE X (.Call (.Attribute o name apos) (e :: es) [] cpos) (tBM X.K T r to t) := by
  intro pins s σ H Q I h
  refine wpAny_Call_method_late hbase hfew hline rfl (thn (ho pins s σ H _ I h) fun v s1 ⟨x, H1, I1, r1, ty, q1⟩ => ?_)
  obtain ⟨h1, h2⟩ := tyV_is I1 r1 ty
  refine ⟨T, id, pa, slot, hty, h1, h2, ?_⟩
  have hA := ha cpos pins s1 σ H1 _ I1 q1
  rw [hs] at hA ⊢
  refine Calls.callWith_builtin (by show (false || (backTo cpos (starEach es X.env)).any (·.1)) = false; rw [hplain] <;> rfl) (Calls.evalArgs_plain ?_)
  exact thn hA fun us s2 ⟨vs, H2, I2, r2, q2⟩ => hm pins s2 σ H2 x vs v us Q I2 r1 r2 q2
/- xs.append(e), list.index on a module's tuple .. are MtR facts of 06m -/
end
end L2

namespace L2
open PySem PySem.Spec PyProof.Rows

def MtM (X : Cx) (id : String) (r : V → List V → Hp → VK → Prop) : Prop :=
  ∀ (pins : List (Addr × Obj)) (s : Shared) (σ : St) (H : Hp) (x : V) (xs : List V) (v : Value) (us : List Value) (Q : VK), Inv X pins σ H s → RelV x v → Vals xs us → r x xs H Q →
    wpAny (model X.prog X.w) X.A (call (.builtin id) (v :: us)) (EP X pins σ Q) X.xe s

/-! ### lists of values -/
theorem Vals.one : ∀ {x : V} {us : List Value}, Vals [x] us → ∃ u, us = [u] ∧ RelV x u
  | _, _, .cons r .nil => ⟨_, rfl, r⟩
theorem Vals.two : ∀ {x y : V} {us : List Value}, Vals [x, y] us → ∃ u v, us = [u, v] ∧ RelV x u ∧ RelV y v
  | _, _, _, .cons r (.cons q .nil) => ⟨_, _, rfl, r, q⟩
theorem Vals.zero : ∀ {us : List Value}, Vals [] us → us = []
  | _, .nil => rfl
theorem Vals.rep {xs : List V} {us : List Value} (h : Vals xs us) : ∀ k : Nat, Vals (List.replicate k xs).flatten (List.replicate k us).flatten
  | 0 => .nil
  | k + 1 => by
    rw [List.replicate_succ, List.replicate_succ, List.flatten_cons, List.flatten_cons]
    exact Vals.append h (Vals.rep h k)
theorem foldl_rep (its : List Value) : ∀ (k : Nat) (acc : List Value),
    List.foldl (fun x1 x2 => x1 ++ x2) acc.toArray (List.replicate k its.toArray) = (acc ++ (List.replicate k its).flatten).toArray
  | 0, acc => by simp
  | k + 1, acc => by
    have e : acc.toArray ++ its.toArray = (acc ++ its).toArray := by simp
    have e2 : (acc ++ its) ++ (List.replicate k its).flatten = acc ++ (List.replicate (k + 1) its).flatten := by
      rw [List.replicate_succ, List.flatten_cons, List.append_assoc]
    rw [← e2, ← foldl_rep its k (acc ++ its), ← e, List.replicate_succ, List.foldl_cons]

section
variable {X : Cx} {pins : List (Addr × Obj)} {σ : St} {H : Hp} {s : Shared} {l b : Addr} {xs ys zs : List V}

/-! ### the two steps: a tracked list is rewritten, a new list is laid -/
theorem Inv.lset {its its' : List Value} {n : Nat} {f : Array Value → Array Value} {t' : Nat} (I : Inv X pins σ H s) (hH : H l = some (.lst xs))
    (e : s.heap.get? l = some { cls := .type "list", data := .seq its.toArray n }) (hf : f its.toArray = its'.toArray) (hv : Vals ys its') (hz : ys.length ≤ sizeLine) :
    Inv X pins σ (upd H l (.lst ys)) { s with heap := s.heap.update l (Obj.mapSeq f), toks := t' } := by
  have q := PySem.IsL.update e f
  rw [hf] at q
  refine I.write (x := l) (e := l) (by rw [hH]; exact trivial) (.inl rfl) (fun b' u hb hu => (Heap.get?_update_other s.heap (Obj.mapSeq f) (Ne.symm hb)).trans hu) ⟨_, q⟩ ?_
  exact ⟨hz, its', _, hv, q⟩
theorem Inv.lnew {its : List Value} {t' : Nat} (I : Inv X pins σ H s) (hv : Vals ys its) (hz : ys.length ≤ sizeLine) :
    Inv X pins σ (upd H s.heap.objs.size (.lst ys)) { s with heap := s.heap.push { cls := .type "list", data := .seq its.toArray }, toks := t' } :=
  I.laid (fun _ _ q => Heap.get?_push_of_some _ q) (Nat.le_refl _) ⟨hz, its, 0, hv, Heap.get?_push_size _ rfl⟩
theorem Inv.fresh (I : Inv X pins σ H s) : H s.heap.objs.size = none := I.hok.fresh (Nat.le_refl _)
theorem Inv.lstM (I : Inv X pins σ H s) (hH : H l = some (.lst xs)) : xs.length ≤ sizeLine ∧ ∃ (its : List Value) (n : Nat), Vals xs its ∧ xs.length = its.length ∧ s.heap.get? l = some { cls := .type "list", data := .seq its.toArray n } := by
  obtain ⟨z, its, n, r, e⟩ := I.hok l _ hH
  exact ⟨z, its, n, r, r.length, e⟩

theorem notLongL {n : Nat} (h : n ≤ sizeLine) : Builtin.List.listTooLong n = false := by
  unfold Builtin.List.listTooLong
  exact decide_eq_false (by omega)
end

section
variable {X : Cx}

/-! ### methods -/
def rAppend : V → List V → Hp → VK → Prop := fun x vs H Q => ∃ l xs y, x = .ref l ∧ vs = [y] ∧ H l = some (.lst xs) ∧ xs.length < sizeLine ∧ Q .non (upd H l (.lst (xs ++ [y])))
theorem mt_append : MtM X "list.append" rAppend := by
  intro pins s σ H x vs v us Q I rx rv h
  obtain ⟨l, xs, y, rfl, rfl, hH, hz, q⟩ := h
  cases rx
  obtain ⟨u, rfl, ru⟩ := rv.one
  obtain ⟨z, its, n, r, hl, e⟩ := I.lstM hH
  refine call_meets F.slot_list_append ⟨_, e, rfl⟩ F.entry_list_append (F.args_list_append_2 _ _) (PySem.list_append l its.toArray n u (by rw [List.size_toArray]; omega)) ⟨e, ?_⟩
  refine ⟨.non, _, I.lset (its' := its ++ [u]) hH e (by simp) (r.append (.cons ru .nil)) ?_, rfl, q⟩
  rw [List.length_append, List.length_singleton]
  omega

/-! ### list + list, list += list, list * int -/
def rCat : R2 := fun x y H Q => ∃ l b xs zs, x = .ref l ∧ y = .ref b ∧ H l = some (.lst xs) ∧ H b = some (.lst zs) ∧ xs.length + zs.length ≤ sizeLine ∧ ∀ p, H p = none → Q (.ref p) (upd H p (.lst (xs ++ zs)))
theorem op_cat : OpR X (binaryOp .Add) rCat := by
  intro pins s σ H x y v u Q I rx ry h
  obtain ⟨l, b, xs, zs, rfl, rfl, hH, hB, hz, q⟩ := h
  cases rx
  cases ry
  obtain ⟨z, its, n, r, hl, e⟩ := I.lstM hH
  obtain ⟨z2, its2, n2, r2, hl2, e2⟩ := I.lstM hB
  refine PySem.P.add_list e e2 ?_ (by rw [List.size_toArray, List.size_toArray]; omega)
  have ea : its.toArray ++ its2.toArray = (its ++ its2).toArray := by simp
  rw [ea]
  exact ⟨.ref _, _, I.lnew (t' := s.toks) (r.append r2) (by rw [List.length_append]; omega), rfl, q _ I.fresh⟩
/-- a list times an int (a negative one is nothing) -/
def rRep : R2 := fun x y H Q => ∃ l k xs, x = .ref l ∧ y = .int k ∧ H l = some (.lst xs) ∧ -(2 ^ 63) ≤ k ∧ k < 2 ^ 63 ∧ xs.length * k.toNat ≤ sizeLine ∧
  ∀ p, H p = none → Q (.ref p) (upd H p (.lst (List.replicate k.toNat xs).flatten))
theorem len_rep {α : Type} (xs : List α) (k : Nat) : (List.replicate k xs).flatten.length = k * xs.length := by
  induction k with
  | zero => simp
  | succ k ih => rw [List.replicate_succ, List.flatten_cons, List.length_append, ih, Nat.succ_mul, Nat.add_comm]
theorem op_rep : OpR X (binaryOp .Mult) rRep := by
  intro pins s σ H x y v u Q I rx ry h
  obtain ⟨l, k, xs, rfl, rfl, hH, h1, h2, hz, q⟩ := h
  cases rx
  obtain ⟨t, rfl⟩ := ry
  obtain ⟨z, its, n, r, hl, e⟩ := I.lstM hH
  have hlen : its.toArray.size * k.toNat ≤ sizeLine := by rw [List.size_toArray, ← hl]; exact hz
  have hcap : ¬ its.toArray.size * k.toNat > (2 ^ 63 - 1) / 8 := by
    have : (sizeLine : Nat) ≤ (2 ^ 63 - 1) / 8 := by decide
    omega
  have hfit : ¬ (!Builtin.List.listFitsIndex k) = true := by
    rw [fitsIndex_both h1 h2]
    exact Bool.false_ne_true
  have hlong : ¬ Builtin.List.listTooLong (its.toArray.size * k.toNat) = true := by
    rw [notLongL hlen]
    exact Bool.false_ne_true
  have hnew : List.foldl (fun x1 x2 => x1 ++ x2) #[] (List.replicate (if its.toArray.isEmpty = true then 0 else k.toNat) its.toArray) = (List.replicate k.toNat its).flatten.toArray := by
    have f0 : ∀ m : Nat, List.foldl (fun x1 x2 => x1 ++ x2) #[] (List.replicate m its.toArray) = (List.replicate m its).flatten.toArray := fun m => by
      have := foldl_rep its m []
      rw [List.nil_append] at this
      exact this
    rw [f0]
    cases its with
    | nil => simp
    | cons a r' => rw [if_neg (by simp)]
  refine wpAny_binaryOp_repeat_ref (T := "list") (U := "int") (by decide) ⟨_, e, rfl⟩ (fun s' => typeIs_int s' k t) noFill_list_mul F.fills_int_mul F.slot_int_rmul repeat_list F.slot_int_index.lookup
    (call_meets F.slot_int_rmul (typeIs_int s k t) F.entry_int_rmul (F.args_int_rmul_2 _ _) (int___rmul___int_list k t l its.toArray n)
      ⟨e, rfl, ⟨_, e, rfl⟩, call_meets F.slot_list_mul ⟨_, e, rfl⟩ F.entry_list_mul (F.args_list_mul_2 _ _) (AutoListH.list___mul___list_int_3 l its.toArray n k t hfit hcap hlong) ⟨e, ?_⟩⟩)
  rw [hnew]
  exact ⟨.ref _, _, I.lnew (t' := s.toks) (r.rep k.toNat) (by rw [len_rep, Nat.mul_comm]; exact hz), rfl, q _ I.fresh⟩

/-! ### del xs[i] -/
end

/-! ### xs[a:b] = ys -/
section
variable {prog : Program} {w : World} {A : Around} {E : Value → Shared → Prop} {s : Shared}
set_option maxRecDepth 100000 in
end

section
variable {X : Cx}
end
end L2

namespace L2
open PySem PySem.Spec PyProof.Rows

/-! ### lists of pairs as tables -/
section
variable {κ : Type} [DecidableEq κ]
def valV (kvs : List (κ × V)) (k : κ) : Option V := (kvs.find? fun kv => decide (kv.1 = k)).map (·.2)
/-- in its place, or at the end -/
def putK (kvs : List (κ × V)) (k : κ) (v : V) : List (κ × V) :=
  if (kvs.any fun kv => decide (kv.1 = k)) = true then kvs.map (fun kv => if kv.1 = k then (kv.1, v) else kv) else kvs ++ [(k, v)]
def dropK (kvs : List (κ × V)) (k : κ) : List (κ × V) := kvs.filter fun kv => decide (kv.1 ≠ k)

theorem valV_pos {p : κ × V} {r : List (κ × V)} {k : κ} (e : p.1 = k) : valV (p :: r) k = some p.2 := by simp [valV, List.find?_cons, e]
theorem valV_neg {p : κ × V} {r : List (κ × V)} {k : κ} (e : ¬ p.1 = k) : valV (p :: r) k = valV r k := by simp [valV, List.find?_cons, e]
theorem valV_any (k : κ) : ∀ kvs : List (κ × V), (kvs.any fun kv => decide (kv.1 = k)) = (valV kvs k).isSome
  | [] => rfl
  | p :: r => by
    rw [List.any_cons]
    by_cases e : p.1 = k
    · simp only [valV_pos e, decide_eq_true e, Bool.true_or, Option.isSome_some]
    · rw [valV_neg e, decide_eq_false e, Bool.false_or]; exact valV_any k r
theorem length_putK (kvs : List (κ × V)) (k : κ) (v : V) : (putK kvs k v).length ≤ kvs.length + 1 := by
  unfold putK
  split
  · rw [List.length_map]; omega
  · rw [List.length_append, List.length_cons, List.length_nil]; omega
theorem putK_new {kvs : List (κ × V)} {k : κ} (v : V) (h : valV kvs k = none) : putK kvs k v = kvs ++ [(k, v)] := by
  unfold putK
  rw [valV_any, h]
  exact if_neg (by decide)

theorem RelO.isSome_eq {o : Option V} {u : Option Value} (r : RelO o u) : o.isSome = u.isSome := by
  cases o with
  | none => cases u with
    | none => rfl
    | some _ => exact (show False from r).elim
  | some _ => cases u with
    | none => exact (show False from r).elim
    | some _ => rfl
theorem RelO.getD {o : Option V} {u : Option Value} {d : V} {d' : Value} (r : RelO o u) (rd : RelV d d') : RelV (o.getD d) (u.getD d') := by
  cases o with
  | none => cases u with
    | none => exact rd
    | some _ => exact (show False from r).elim
  | some _ => cases u with
    | none => exact (show False from r).elim
    | some _ => exact r

/-- raw tables of the same keys -/
theorem KV.val {kvs : List (κ × V)} {vs : List (κ × Value)} (r : KV kvs vs) (k : κ) : RelO (valV kvs k) (valueAt vs k) := by
  unfold KV at r
  induction r with
  | nil => exact True.intro
  | @cons p q ps qs h t ih =>
    obtain ⟨h1, h2⟩ := h
    by_cases e : p.1 = k
    · have e' : q.1 = k := h1.symm.trans e
      have b : valueAt (q :: qs) k = some q.2 := by simp [valueAt, List.find?_cons, e']
      rw [valV_pos e, b]; exact h2
    · have e' : ¬ q.1 = k := fun z => e (h1.trans z)
      have b : valueAt (q :: qs) k = valueAt qs k := by simp [valueAt, List.find?_cons, e']
      rw [valV_neg e, b]; exact ih
theorem KV.any {kvs : List (κ × V)} {vs : List (κ × Value)} (r : KV kvs vs) (k : κ) : (kvs.any fun kv => decide (kv.1 = k)) = vs.any fun kv => decide (kv.1 = k) := by
  unfold KV at r
  induction r with
  | nil => rfl
  | cons h t ih => rw [List.any_cons, List.any_cons, ih, h.1]
theorem KV.repl {kvs : List (κ × V)} {vs : List (κ × Value)} (r : KV kvs vs) (k : κ) {y : V} {u : Value} (ry : RelV y u) :
    KV (kvs.map fun kv => if kv.1 = k then (kv.1, y) else kv) (vs.map fun kv => if kv.1 = k then (kv.1, u) else kv) := by
  unfold KV at r ⊢
  induction r with
  | nil => exact .nil
  | @cons p q ps qs h t ih =>
    rw [List.map_cons, List.map_cons]
    refine .cons ?_ ih
    obtain ⟨h1, h2⟩ := h
    by_cases e : p.1 = k
    · rw [if_pos e, if_pos (h1.symm.trans e)]; exact ⟨h1, ry⟩
    · rw [if_neg e, if_neg (fun z => e (h1.trans z))]; exact ⟨h1, h2⟩
theorem KV.put {kvs : List (κ × V)} {vs : List (κ × Value)} (r : KV kvs vs) (k : κ) {y : V} {u : Value} (ry : RelV y u) : KV (putK kvs k y) (stored vs k u) := by
  unfold putK stored
  rw [r.any k]
  by_cases e : (vs.any fun kv => decide (kv.1 = k)) = true
  · rw [if_pos e, if_pos e]; exact r.repl k ry
  · rw [if_neg e, if_neg e]; exact Paired.snoc r ⟨rfl, ry⟩
theorem KV.drop {kvs : List (κ × V)} {vs : List (κ × Value)} (r : KV kvs vs) (k : κ) : KV (dropK kvs k) (without vs k) := by
  unfold KV at r ⊢
  unfold dropK without
  induction r with
  | nil => exact .nil
  | @cons p q ps qs h t ih =>
    obtain ⟨h1, h2⟩ := h
    rw [List.filter_cons, List.filter_cons]
    by_cases e : p.1 = k
    · have a : ¬ decide (p.1 ≠ k) = true := by simp [e]
      have b : ¬ decide (q.1 ≠ k) = true := by simp [h1.symm.trans e]
      rw [if_neg a, if_neg b]; exact ih
    · have e' : ¬ q.1 = k := fun z => e (h1.trans z)
      have a : decide (p.1 ≠ k) = true := by simp [e]
      have b : decide (q.1 ≠ k) = true := by simp [e']
      rw [if_pos a, if_pos b]; exact .cons ⟨h1, h2⟩ ih
theorem KV.keys {kvs : List (κ × V)} {vs : List (κ × Value)} (r : KV kvs vs) : kvs.map (·.1) = vs.map (·.1) := by
  unfold KV at r
  induction r with
  | nil => rfl
  | cons h t ih => rw [List.map_cons, List.map_cons, ih, h.1]
theorem KV.length {kvs : List (κ × V)} {vs : List (κ × Value)} (r : KV kvs vs) : kvs.length = vs.length := Paired.length r
theorem dropK_le (kvs : List (κ × V)) (k : κ) : (dropK kvs k).length ≤ kvs.length := List.length_filter_le _ _
end


/-! ### a tracked dict, its keys ints and texts or tuples of these -/
theorem kV_is {P : Program} {w : World} {k : Key} {u : Value} (r : RelV (kV k) u) : (mixKind P w).is k u = true := by
  cases k with
  | inl i => obtain ⟨t, e⟩ := (show ∃ t, u = Value.int i t from r); subst e; exact mixKind_int P w i t
  | inr x => obtain ⟨t, e⟩ := (show ∃ t, u = Value.str x t from r); subst e; exact mixKind_str P w x t
theorem items_are {P : Program} {w : World} : ∀ {ks : List Key} {us : List Value}, Vals (ks.map kV) us → ItemsAre (mixKind P w) ks us
  | [], _, r => by rw [List.map_nil] at r; cases r; exact .nil
  | k :: ks, _, r => by
    rw [List.map_cons] at r
    cases r with
    | cons h t => exact .cons (kV_is h) (items_are t)

/-- raw entries of a dict with tuple keys -/
abbrev KT (H : Hp) : List (List Key × V) → List (List Key × Addr × Value) → Prop := Paired fun p q => p.1 = q.1 ∧ H q.2.1 = some (.tup (p.1.map kV)) ∧ RelV p.2 q.2.2
theorem KT.val {H : Hp} {kvs : List (List Key × V)} {xs : List (List Key × Addr × Value)} (r : KT H kvs xs) (k : List Key) : RelO (valV kvs k) ((atKey xs k).map (·.2)) := by
  induction r with
  | nil => exact True.intro
  | @cons p q ps qs h t ih =>
    obtain ⟨h1, _, h2⟩ := h
    by_cases e : p.1 = k
    · have e' : q.1 = k := h1.symm.trans e
      have b : atKey (q :: qs) k = some q.2 := by simp [atKey, List.find?_cons, e']
      rw [valV_pos e, b]; exact h2
    · have e' : ¬ q.1 = k := fun z => e (h1.trans z)
      have b : atKey (q :: qs) k = atKey qs k := by simp [atKey, List.find?_cons, e']
      rw [valV_neg e, b]; exact ih
theorem KT.repl {H : Hp} {kvs : List (List Key × V)} {xs : List (List Key × Addr × Value)} (r : KT H kvs xs) (k : List Key) {y : V} {u : Value} (ry : RelV y u) :
    KT H (kvs.map fun kv => if kv.1 = k then (kv.1, y) else kv) (xs.map (putAt k u)) := by
  induction r with
  | nil => exact .nil
  | @cons p q ps qs h t ih =>
    rw [List.map_cons, List.map_cons]
    refine .cons ?_ ih
    obtain ⟨h1, h2, h3⟩ := h
    unfold putAt
    by_cases e : p.1 = k
    · rw [if_pos e, if_pos (h1.symm.trans e)]; exact ⟨h1, h2, ry⟩
    · rw [if_neg e, if_neg (fun z => e (h1.trans z))]; exact ⟨h1, h2, h3⟩
theorem KT.put {H : Hp} {kvs : List (List Key × V)} {xs : List (List Key × Addr × Value)} (r : KT H kvs xs) (k : List Key) {b : Addr} {y : V} {u : Value} (hb : H b = some (.tup (k.map kV))) (ry : RelV y u) :
    KT H (putK kvs k y) (storedH xs k b u) := by
  have e : (kvs.any fun kv => decide (kv.1 = k)) = (atKey xs k).isSome := by
    rw [valV_any, (r.val k).isSome_eq, Option.isSome_map]
  unfold putK storedH
  rw [e]
  by_cases q : (atKey xs k).isSome = true
  · rw [if_pos q, if_pos q]; exact r.repl k ry
  · rw [if_neg q, if_neg q]; exact Paired.snoc r ⟨rfl, hb, ry⟩
theorem KT.keeps {H H' : Hp} {kvs : List (List Key × V)} {xs : List (List Key × Addr × Value)} (r : KT H kvs xs) (ht : ∀ b ys, H b = some (.tup ys) → H' b = some (.tup ys)) : KT H' kvs xs :=
  Paired.mapP r fun _ _ z => ⟨z.1, ht _ _ z.2.1, z.2.2⟩

section
variable {P : Program} {w : World} {H : Hp} {h : Heap} {a : Addr}
theorem rd_of {u : HO} (ok : HOk P w H h) (e : Rd H a u) : ObjOk P w H h a u := e.ok ok
theorem dk_rd {kvs : List (Key × V)} (ok : HOk P w H h) (e : Rd H a (.dK kvs)) : kvs.length ≤ sizeLine ∧ (a == sysModules) = false ∧ ∃ vs, KV kvs vs ∧ h.DictOf (mixKind P w) a vs :=
  show ObjOk P w H h a (.dK kvs) from rd_of ok e
theorem dk_of {kvs : List (Key × V)} (ok : HOk P w H h) (e : H a = some (.dK kvs)) : kvs.length ≤ sizeLine ∧ (a == sysModules) = false ∧ ∃ vs, KV kvs vs ∧ h.DictOf (mixKind P w) a vs := dk_rd ok (.inl e)
/-- a tracked tuple of ints and texts is a key -/
theorem key_of {ks : List Key} (ok : HOk P w H h) (e : H a = some (.tup (ks.map kV))) : (tupleKind (mixKind P w)).is h ks a := by
  obtain ⟨_, its, r, o, h1, h2, n, h3⟩ := (show ObjOk P w H h a (.tup (ks.map kV)) from ok a _ e)
  exact ⟨o, its.toArray, n, h1, h2, h3, by simpa using items_are r⟩
theorem dt_rd {kvs : List (List Key × V)} (ok : HOk P w H h) (e : Rd H a (.dT kvs)) : kvs.length ≤ sizeLine ∧ (a == sysModules) = false ∧
    ∃ xs, KT H kvs xs ∧ h.DictOfH (tupleKind (mixKind P w)) a xs := by
  obtain ⟨z, y, xs, r, o, es, ep, h1, h2, h3, h4, h5⟩ := (show ObjOk P w H h a (.dT kvs) from rd_of ok e)
  refine ⟨z, y, xs, r, o, es, ep, h1, h2, h3, h4, fun x hx => ?_, h5⟩
  have all : ∀ {l : List (List Key × V)} {m : List (List Key × Addr × Value)}, KT H l m → ∀ x ∈ m, (tupleKind (mixKind P w)).is h x.1 x.2.1 := by
    intro l m q
    induction q with
    | nil => intro x hx; exact nomatch hx
    | @cons p q ps qs hq t ih =>
      intro x hx
      rcases List.mem_cons.mp hx with e | hx
      · subst e
        exact key_of ok (by rw [← hq.1]; exact hq.2.1)
      · exact ih x hx
  exact all r x hx
theorem dt_of {kvs : List (List Key × V)} (ok : HOk P w H h) (e : H a = some (.dT kvs)) : kvs.length ≤ sizeLine ∧ (a == sysModules) = false ∧
    ∃ xs, KT H kvs xs ∧ h.DictOfH (tupleKind (mixKind P w)) a xs := dt_rd ok (.inl e)
end

/-- what the dict at a holds at the key y -/
def DGet (H : Hp) (a : Addr) (y : V) (r : Option V) : Prop :=
  (∃ kvs k, Rd H a (.dK kvs) ∧ y = kV k ∧ r = valV kvs k) ∨ ∃ kvs k b, Rd H a (.dT kvs) ∧ y = .ref b ∧ H b = some (.tup (k.map kV)) ∧ r = valV kvs k
/-- the heap behind a[y] = v -/
def DPut (H : Hp) (a : Addr) (y v : V) (H' : Hp) : Prop :=
  (∃ kvs k, H a = some (.dK kvs) ∧ y = kV k ∧ kvs.length < sizeLine ∧ H' = upd H a (.dK (putK kvs k v))) ∨
  ∃ kvs k b, H a = some (.dT kvs) ∧ y = .ref b ∧ H b = some (.tup (k.map kV)) ∧ kvs.length < sizeLine ∧ H' = upd H a (.dT (putK kvs k v))
theorem DGet.k {H : Hp} {a : Addr} {kvs : List (Key × V)} {k : Key} (e : H a = some (.dK kvs)) : DGet H a (kV k) (valV kvs k) := .inl ⟨kvs, k, .inl e, rfl, rfl⟩
theorem DGet.t {H : Hp} {a b : Addr} {kvs : List (List Key × V)} {k : List Key} (e : H a = some (.dT kvs)) (eb : H b = some (.tup (k.map kV))) : DGet H a (.ref b) (valV kvs k) := .inr ⟨kvs, k, b, .inl e, rfl, eb, rfl⟩
theorem DPut.k {H : Hp} {a : Addr} {kvs : List (Key × V)} {k : Key} {v : V} (e : H a = some (.dK kvs)) (hl : kvs.length < sizeLine) : DPut H a (kV k) v (upd H a (.dK (putK kvs k v))) := .inl ⟨kvs, k, e, rfl, hl, rfl⟩
theorem DPut.t {H : Hp} {a b : Addr} {kvs : List (List Key × V)} {k : List Key} {v : V} (e : H a = some (.dT kvs)) (eb : H b = some (.tup (k.map kV))) (hl : kvs.length < sizeLine) :
    DPut H a (.ref b) v (upd H a (.dT (putK kvs k v))) := .inr ⟨kvs, k, b, e, rfl, eb, hl, rfl⟩


section
variable {X : Cx} {pins : List (Addr × Obj)} {σ : St} {H : Hp} {s : Shared} {a : Addr} {y v : V} {u r : Value} {o : Option V} {A : Around} {E : Value → Shared → Prop}

theorem Inv.big (I : Inv X pins σ H s) : sysModules < s.heap.objs.size := by
  have h : mainGlobals < s.heap.objs.size := (I.mod.glob.keeps I.bk).lt
  exact Nat.lt_trans (by decide) h

/-- d[y], there -/
theorem d_getItem {Q : Value → Shared → Prop} (hu : A.units + 1 < cLine) (I : Inv X pins σ H s) (g : DGet H a y (some v)) (ry : RelV y u) (h : ∀ w' s', Inv X pins σ H s' → RelV v w' → Q w' s') :
    wpAny (model X.prog X.w) A (getItem (.ref a) u) Q E s := by
  rcases g with ⟨kvs, k, e, ey, l⟩ | ⟨kvs, k, b, e, ey, eb, l⟩
  · subst ey
    obtain ⟨z, hd, vs, rel, dd⟩ := dk_rd I.hok e
    obtain ⟨w', hw, rw'⟩ := RelO.some_of (v := v) (o := valueAt vs k) (by rw [l]; exact rel.val k)
    exact wpAny_getItem_of (kV_is ry) dd.mapOf hw (h w' _ (I.tok _) rw')
  · subst ey
    cases (show u = Value.ref b from ry)
    obtain ⟨z, hd, xs, rel, dd⟩ := dt_rd I.hok e
    obtain ⟨w', hw, rw'⟩ := RelO.some_of (v := v) (o := (atKey xs k).map (·.2)) (by rw [l]; exact rel.val k)
    obtain ⟨p, hp, hp2⟩ := Option.map_eq_some_iff.mp hw
    refine wpAny_getItem_heap (tupleKind_room_in1 hu) (key_of I.hok eb) dd hp ?_
    rw [hp2]
    exact h w' _ (I.tok _) rw'
/-- y in d -/
theorem d_in {Q : Value → Shared → Prop} (hu : A.units + 1 < cLine) (I : Inv X pins σ H s) (g : DGet H a y o) (ry : RelV y u) (h : ∀ s', Inv X pins σ H s' → Q (.bool o.isSome) s') :
    wpAny (model X.prog X.w) A (compareOp .In u (.ref a)) Q E s := by
  rcases g with ⟨kvs, k, e, ey, l⟩ | ⟨kvs, k, b, e, ey, eb, l⟩
  · subst ey
    obtain ⟨z, hd, vs, rel, dd⟩ := dk_rd I.hok e
    refine wpAny_in_of (kV_is ry) hd dd.mapOf ?_
    rw [← (rel.val k).isSome_eq, ← l]
    exact h _ (I.tok _)
  · subst ey
    cases (show u = Value.ref b from ry)
    obtain ⟨z, hd, xs, rel, dd⟩ := dt_rd I.hok e
    refine wpAny_in_heap (tupleKind_room_in1 hu) (key_of I.hok eb) hd dd ?_
    have q := (rel.val k).isSome_eq
    rw [Option.isSome_map] at q
    rw [← q, ← l]
    exact h _ (I.tok _)
theorem d_notIn {Q : Value → Shared → Prop} (hu : A.units + 1 < cLine) (I : Inv X pins σ H s) (g : DGet H a y o) (ry : RelV y u) (h : ∀ s', Inv X pins σ H s' → Q (.bool (!o.isSome)) s') :
    wpAny (model X.prog X.w) A (compareOp .NotIn u (.ref a)) Q E s := by
  rcases g with ⟨kvs, k, e, ey, l⟩ | ⟨kvs, k, b, e, ey, eb, l⟩
  · subst ey
    obtain ⟨z, hd, vs, rel, dd⟩ := dk_rd I.hok e
    refine wpAny_notIn_of (kV_is ry) hd dd.mapOf ?_
    rw [← (rel.val k).isSome_eq, ← l]
    exact h _ (I.tok _)
  · subst ey
    cases (show u = Value.ref b from ry)
    obtain ⟨z, hd, xs, rel, dd⟩ := dt_rd I.hok e
    refine wpAny_notIn_heap (tupleKind_room_in1 hu) (key_of I.hok eb) hd dd ?_
    have q := (rel.val k).isSome_eq
    rw [Option.isSome_map] at q
    rw [← q, ← l]
    exact h _ (I.tok _)
/-- a dict's object is replaced -/
theorem d_write {h' : Heap} {t' : Nat} {ob : HO} (I : Inv X pins σ H s) (mu : Mut (H a)) (hs : Heap.SameBut a s.heap h') (he : ∃ q, h'.get? a = some q) (new : ObjOk X.prog X.w (upd H a ob) h' a ob) :
    Inv X pins σ (upd H a ob) { s with heap := h', toks := t' } :=
  I.write (x := a) (e := a) mu (.inl rfl) (fun b q hb z => (hs.2 b hb).trans z) he new
theorem dk_new {P : Program} {w : World} {H' : Hp} {h' : Heap} {kvs : List (Key × V)} {vs : List (Key × Value)} (z : kvs.length ≤ sizeLine) (hd : (a == sysModules) = false) (rel : KV kvs vs) (dd : h'.DictOf (mixKind P w) a vs) :
    ObjOk P w H' h' a (.dK kvs) := ⟨z, hd, vs, rel, dd⟩
/-- d[y] = v -/
theorem d_setItem {H' : Hp} {Q : Unit → Shared → Prop} (hu : A.units + 1 < cLine) (I : Inv X pins σ H s) (g : DPut H a y v H') (ry : RelV y u) (rv : RelV v r) (h : ∀ s', Inv X pins σ H' s' → Q () s') :
    wpAny (model X.prog X.w) A (setItem (.ref a) u r) Q E s := by
  rcases g with ⟨kvs, k, e, ey, l, eH⟩ | ⟨kvs, k, b, e, ey, eb, l, eH⟩
  · subst ey eH
    obtain ⟨z, hd, vs, rel, dd⟩ := dk_of I.hok e
    have hz : vs.length ≤ sizeLine := by rw [← rel.length]; exact z
    have hl : (putK kvs k v).length ≤ sizeLine := by have := length_putK kvs k v; omega
    refine wpAny_setItem_pairs (hsz := hz) (kV_is ry) dd fun h' dd' hs => h _ ?_
    have he : ∃ q, h'.get? a = some q := let ⟨q, _, _, hq, _⟩ := dd'; ⟨q, hq⟩
    exact d_write I (by rw [e]; exact True.intro) hs he (dk_new hl hd (rel.put k rv) dd')
  · subst ey eH
    cases (show u = Value.ref b from ry)
    obtain ⟨z, hd, xs, rel, dd⟩ := dt_of I.hok e
    have hz : xs.length ≤ sizeLine := by rw [← Paired.length rel]; exact z
    have hl : (putK kvs k v).length ≤ sizeLine := by have := length_putK kvs k v; omega
    refine wpAny_setItem_heap (hsz := hz) (tupleKind_room_in1 hu) (key_of I.hok eb) dd fun h' dd' hs => h _ ?_
    obtain ⟨q, es, ep, hq, h2, h3, h4, _, h5⟩ := dd'
    refine d_write I (by rw [e]; exact True.intro) hs ⟨q, hq⟩ ⟨hl, hd, _, (rel.put k eb rv).keeps fun c ys ec => ?_, q, es, ep, hq, h2, h3, h4, h5⟩
    rw [upd_ne (ne_of ec e (fun z => nomatch z))]
    exact ec
end

section
variable {X : Cx} {pins : List (Addr × Obj)} {σ : St} {H : Hp} {s : Shared} {a : Addr} {kvs : List (Key × V)} {k : Key} {u : Value} {A : Around} {E : Value → Shared → Prop}
/-- d.pop(k[, x]), there -/
theorem d_pop {v : V} {more : List Value} {Q : Value → Shared → Prop} (I : Inv X pins σ H s) (e : H a = some (.dK kvs)) (ry : RelV (kV k) u) (l : valV kvs k = some v) (hm : more = [] ∨ ∃ x, more = [x])
    (h : ∀ w' s', Inv X pins σ (upd H a (.dK (dropK kvs k))) s' → RelV v w' → Q w' s') : wpAny (model X.prog X.w) A (call (.builtin "dict.pop") (.ref a :: u :: more)) Q E s := by
  obtain ⟨z, hd, vs, rel, dd⟩ := dk_of I.hok e
  obtain ⟨w', hw, rw'⟩ := RelO.some_of (v := v) (o := valueAt vs k) (by rw [← l]; exact rel.val k)
  have hp : (keyPart u).isSome = true := by
    cases k with
    | inl i => obtain ⟨t, q⟩ := (show ∃ t, u = Value.int i t from ry); subst q; rfl
    | inr x => obtain ⟨t, q⟩ := (show ∃ t, u = Value.str x t from ry); subst q; rfl
  have ha : argsOk "dict.pop" ⟨.ref a :: u :: more, []⟩ := by
    rcases hm with q | ⟨x, q⟩
    · subst q; exact PySem.F.args_dict_pop_2 _ _
    · subst q; exact PySem.F.args_dict_pop_3 _ _ _
  refine call_meetsIn PySem.F.slot_dict_pop dd.typeIs PySem.F.entry_dict_pop ha (meets_dict_pop_there (mixKind X.prog X.w) a (kV_is ry) more hm hp)
    ⟨vs, w', dd, by rw [← rel.length]; exact z, hw, fun h' dd' hs => h w' _ ?_ rw'⟩
  have he : ∃ q, h'.get? a = some q := let ⟨q, _, _, hq, _⟩ := dd'; ⟨q, hq⟩
  exact d_write I (by rw [e]; exact True.intro) hs he (dk_new (Nat.le_trans (dropK_le kvs k) z) hd (rel.drop k) dd')
/-- len(d) -/
theorem d_len {Q : Value → Shared → Prop} (I : Inv X pins σ H s) (e : Rd H a (.dK kvs)) (h : ∀ t s', Inv X pins σ H s' → Q (.int kvs.length t) s') : wpAny (model X.prog X.w) A (call (.builtin "len") [.ref a]) Q E s := by
  obtain ⟨z, hd, vs, rel, dd⟩ := dk_rd I.hok e
  refine call_len_dict hd dd (by rw [← rel.length]; rw [sizeLine_eq] at z; omega) ?_
  rw [← rel.length]
  exact h _ _ (I.tok _)
end


/-! ### readings and rules -/
/-- the element of a subscription, not a slice -/
def NoSl (i : Expr) : Prop := ∀ ov iv, subscripted i false ov iv = operate [ov, iv] (getItem ov iv)
theorem subD_of {prog : Program} {w : World} {A : Around} {E : Value → Shared → Prop} {s : Shared} {env : Env} {value slice : Expr} {pos : Pos} {T id : String} {Q : Value → Shared → Prop}
    (hl : typeLookup (.type T) "__getitem__" = pure (some (.builtin id))) (hs : NoSl slice)
    (h : wpAny (model prog w) A (eval value env) (fun o s₁ => wpAny (model prog w) A (eval slice env) (fun i s₂ => s₂.TypeIs o T ∧ wpAny (model prog w) A (getItem o i) Q E s₂) E s₁) E s) :
    wpAny (model prog w) A (eval (.Subscript value slice pos) env) Q E s := by
  refine Subscript_ (wpAny_mono h (fun o s₁ h₁ => wpAny_mono h₁ (fun i s₂ h₂ => ?_) fun _ _ x => x) fun _ _ x => x)
  obtain ⟨hT, h₂⟩ := h₂
  unfold subscriptTail
  refine wpAny_bind ?_
  rw [getitemInPython_of_ne hT.not_modules]
  refine wpAny_bind (wpAny_specialOf hT hl ?_)
  have fin : wpAny (model prog w) A (subscripted slice false o i) (fun r s₃ => wpAny (model prog w) A (letTemporaryGo value o r >>= fun _ => pure r) Q E s₃) E s₂ := by
    rw [hs o i]
    exact wpAny_operating (wpAny_mono h₂ (fun r s₃ h₃ => wpAny_bind (wpAny_letTemporaryGo (wpAny_pure h₃))) fun _ _ x => x)
  first
    | exact wpAny_pure (wpAny_bind fin)
    | exact wpAny_bind (wpAny_pure (wpAny_bind fin))
    | exact wpAny_bind fin

theorem dict_typeIs {X : Cx} {pins : List (Addr × Obj)} {σ : St} {H : Hp} {s : Shared} {a : Addr} {y : V} {o : Option V} (I : Inv X pins σ H s) (g : DGet H a y o) : s.TypeIs (.ref a) "dict" := by
  rcases g with ⟨kvs, k, e, _, _⟩ | ⟨kvs, k, b, e, _, _, _⟩
  · obtain ⟨_, _, vs, _, dd⟩ := dk_rd I.hok e
    exact dd.typeIs
  · obtain ⟨_, _, xs, _, dd⟩ := dt_rd I.hok e
    exact dd.typeIs
/-- d[y] -/
def tDGet (td ty : TE) : TE := fun σ H Q => td σ H fun x H1 => ty σ H1 fun y H2 => ∃ a v, x = .ref a ∧ DGet H2 a y (some v) ∧ Q v H2
/-- y in d, y not in d -/
def tDIn (ty td : TE) : TE := fun σ H Q => ty σ H fun y H1 => td σ H1 fun x H2 => ∃ a o, x = .ref a ∧ DGet H2 a y o ∧ Q (.bl o.isSome) H2
def tDNotIn (ty td : TE) : TE := fun σ H Q => ty σ H fun y H1 => td σ H1 fun x H2 => ∃ a o, x = .ref a ∧ DGet H2 a y o ∧ Q (.bl (!o.isSome)) H2
/-- d[y] = v -/
def sDPut (td ty tv : TE) : TS := fun D σ H => tv σ H fun v H1 => td σ H1 fun x H2 => ty σ H2 fun y H3 => ∃ a H4, x = .ref a ∧ DPut H3 a y v H4 ∧ D.nx σ H4
section
variable {X : Cx} {o i e value : Expr} {pos pos' tpos : Pos} {td ty tv : TE}
theorem pe_dget (hu : X.A.units + 1 < cLine) (ho : PE X o td) (hi : PE X i ty) (hs : NoSl i) : PE X (.Subscript o i pos) (tDGet td ty) := by
  intro pins s σ H Q I h
  refine subD_of PySem.F.slot_dict_getitem.lookup hs (thn (ho pins s σ H _ I h) fun u s1 ⟨x, H1, I1, rx, q1⟩ => thn (hi pins s1 σ H1 _ I1 q1) fun iv s2 ⟨y, H2, I2, ry, a, v, ex, g, q2⟩ => ?_)
  subst ex
  obtain rfl : u = Value.ref a := rx
  exact ⟨dict_typeIs I2 g, d_getItem hu I2 g ry fun w' s3 I3 rw' => ⟨v, H2, I3, rw', q2⟩⟩
theorem pc_din (hu : X.A.units + 1 < cLine) (hi : PE X i ty) (ho : PE X o td) : PC X .In i o (tDIn ty td) := by
  intro pins s σ H Q I h
  refine thn (hi pins s σ H _ I h) fun iv s1 ⟨y, H1, I1, ry, q1⟩ => thn (ho pins s1 σ H1 _ I1 q1) fun u s2 ⟨x, H2, I2, rx, a, ov, ex, g, q2⟩ => ?_
  subst ex
  obtain rfl : u = Value.ref a := rx
  exact d_in hu I2 g ry fun s3 I3 => ⟨.bl ov.isSome, H2, I3, rfl, q2⟩
theorem pc_dnotin (hu : X.A.units + 1 < cLine) (hi : PE X i ty) (ho : PE X o td) : PC X .NotIn i o (tDNotIn ty td) := by
  intro pins s σ H Q I h
  refine thn (hi pins s σ H _ I h) fun iv s1 ⟨y, H1, I1, ry, q1⟩ => thn (ho pins s1 σ H1 _ I1 q1) fun u s2 ⟨x, H2, I2, rx, a, ov, ex, g, q2⟩ => ?_
  subst ex
  obtain rfl : u = Value.ref a := rx
  exact d_notIn hu I2 g ry fun s3 I3 => ⟨.bl (!ov.isSome), H2, I3, rfl, q2⟩
theorem ps_dput (hu : X.A.units + 1 < cLine) (ho : PE X o td) (hi : PE X i ty) (hv : PE X value tv) (hs : swapsWith value (some (.Subscript o i pos')) pos.line X.env = pure false) :
    PS X (.Assign [.Subscript o i pos'] value pos) (sDPut td ty tv) := by
  intro pins s σ H D I h
  refine wpAny_Assign_Subscript (thn (hv pins s σ H _ I h) fun r s1 ⟨v, H1, I1, rv, q1⟩ => thn (ho pins s1 σ H1 _ I1 q1) fun u s2 ⟨x, H2, I2, rx, q2⟩ => thn (hi pins s2 σ H2 _ I2 q2) fun iv s3 ⟨y, H3, I3, ry, a, H4, ex, g, q3⟩ => ?_) hs
  subst ex
  obtain rfl : u = Value.ref a := rx
  exact d_setItem hu I3 g ry rv fun s4 I4 => ⟨σ, H4, I4, q3⟩
end


/-! ### displays -/
theorem dk_empty {P : Program} {w : World} {H : Hp} (h : Heap) (hb : sysModules < h.objs.size) : ObjOk P w H (h.push { cls := .type "dict", data := .dict #[] }) h.objs.size (.dK []) :=
  ⟨Nat.zero_le _, beq_eq_false_iff_ne.mpr (Ne.symm (Nat.ne_of_lt hb)), [], .nil, Heap.DictOf.new h⟩
/-- {}, to be a dict of the kind that is wanted -/
def tDNewK : TE := fun _ H Q => ∀ p, H p = none → Q (.ref p) (upd H p (.dK []))
section
variable {X : Cx} {pos : Pos}
theorem pe_dnewK : PE X (.Dict [] [] pos) tDNewK := fun pins s σ H Q I h =>
  wpAny_Dict_empty ⟨.ref s.heap.objs.size, _, I.laid (a := s.heap.objs.size) (o := .dK []) (t' := s.toks) (fun _ _ q => Heap.get?_push_of_some _ q) (Nat.le_refl _) (dk_empty s.heap I.big), rfl, h _ (I.hok.fresh (Nat.le_refl _))⟩
end

/-! ### methods -/
/-- a method call o.m(e) of a built-in, with one argument: what must be seen of the text -/
structure M1 (X : Cx) (o : Expr) (m : Str) (apos : Pos) (e : Expr) (cpos : Pos) : Prop where
  base : attributeBase o m X.env (eval o X.env) = eval o X.env
  few : ((backTo cpos (starEach [e] X.env)).all (fun x => !x.1) && (backToKw cpos (keywordEach [] X.env)).all (fun x => x.1.isSome)
    && decide (([e] : List Expr).length + ([] : List Keyword).length + (if ([] : List Keyword).isEmpty then 0 else 1) < 30)) = true
  line : (apos.endLine == cpos.line) = true
  trees : backTo cpos (starEach [e] X.env) = [(false, eval e X.env)]
structure M2 (X : Cx) (o : Expr) (m : Str) (apos : Pos) (e f : Expr) (cpos : Pos) : Prop where
  base : attributeBase o m X.env (eval o X.env) = eval o X.env
  few : ((backTo cpos (starEach [e, f] X.env)).all (fun x => !x.1) && (backToKw cpos (keywordEach [] X.env)).all (fun x => x.1.isSome)
    && decide (([e, f] : List Expr).length + ([] : List Keyword).length + (if ([] : List Keyword).isEmpty then 0 else 1) < 30)) = true
  line : (apos.endLine == cpos.line) = true
  trees : backTo cpos (starEach [e, f] X.env) = [(false, eval e X.env), (false, eval f X.env)]

/-- a is a dict, whatever its keys -/
def IsD (H : Hp) (a : Addr) : Prop := (∃ kvs, Rd H a (.dK kvs)) ∨ ∃ kvs, Rd H a (.dT kvs)
theorem isD_at {X : Cx} {pins : List (Addr × Obj)} {σ : St} {H : Hp} {s : Shared} {a : Addr} (I : Inv X pins σ H s) (d : IsD H a) :
    s.TypeIs (.ref a) "dict" ∧ (∀ b, Value.ref a = .ref b → ∃ ob, s.heap.get? b = some ob ∧ ob.dict = none) ∧ (a == sysModules) = false := by
  rcases d with ⟨kvs, e⟩ | ⟨kvs, e⟩
  · obtain ⟨_, hd, vs, _, dd⟩ := dk_rd I.hok e
    refine ⟨dd.typeIs, fun b q => ?_, hd⟩
    cases q
    obtain ⟨ob, _, _, h1, h2, _⟩ := dd
    exact ⟨ob, h1, h2.2.1⟩
  · obtain ⟨_, hd, xs, _, dd⟩ := dt_rd I.hok e
    refine ⟨dd.typeIs, fun b q => ?_, hd⟩
    cases q
    obtain ⟨ob, _, _, h1, h2, _⟩ := dd
    exact ⟨ob, h1, h2.2.1⟩

section
variable {X : Cx} {pins : List (Addr × Obj)} {σ : St} {H : Hp} {s : Shared} {a : Addr} {y d : V} {u r : Value} {o : Option V} {A : Around} {E : Value → Shared → Prop}
end

/-- d.pop(k): there; d.pop(k, x): there or not -/
def tDPop1 (td ty : TE) : TE := fun σ H Q => td σ H fun x H1 => ∃ a, x = .ref a ∧ IsD H1 a ∧ ty σ H1 fun y H2 => ∃ kvs k v, H2 a = some (.dK kvs) ∧ y = kV k ∧ valV kvs k = some v ∧ Q v (upd H2 a (.dK (dropK kvs k)))
section
variable {X : Cx} {o e f : Expr} {apos cpos : Pos} {td ty tx : TE}
theorem pe_dpop1 (ho : PE X o td) (he : PE X e ty) (m : M1 X o "pop" apos e cpos) : PE X (.Call (.Attribute o "pop" apos) [e] [] cpos) (tDPop1 td ty) := by
  intro pins s σ H Q I h
  refine wpAny_Call_method m.base m.few m.line PySem.F.plainAttrs_dict PySem.F.slot_dict_pop PySem.F.type_dict_pop (thn (ho pins s σ H _ I h) fun u s1 ⟨x, H1, I1, rx, a, ex, d, q1⟩ => ?_)
  subst ex
  obtain rfl : u = Value.ref a := rx
  obtain ⟨t1, t2, _⟩ := isD_at I1 d
  refine ⟨t1, t2, ?_⟩
  rw [m.trees]
  refine Calls.callWith_builtin rfl (Calls.evalArgs_plain (Calls.spliced_cons (thn (he pins s1 σ H1 _ I1 q1) fun iv s2 ⟨y, H2, I2, ry, kvs, k, v, ea, ey, l, q2⟩ => Calls.spliced_nil ?_)))
  subst ey
  exact d_pop I2 ea ry l (.inl rfl) fun w' s3 I3 rw' => ⟨v, _, I3, rw', q2⟩
end

/-! ### dict(d): a copy -/
section
variable {X : Cx} {pins : List (Addr × Obj)} {σ : St} {H : Hp} {s : Shared} {a : Addr} {kvs : List (Key × V)} {A : Around} {E : Value → Shared → Prop}
end


section
variable {X : Cx} {pins : List (Addr × Obj)} {σ : St} {H : Hp} {s : Shared} {a : Addr} {y : V} {u : Value} {A : Around} {E : Value → Shared → Prop}
end
end L2


namespace Att
open PySem PySem.W PySem.Calls PyProof.Rows

/-! ### the script -/
theorem ints_of_wellAll {P : Params} {h : Heap} : ∀ (ns : List Int) (vs : List Value), WellAll P h vs (ns.map WData.int) → IntsAre vs ns := by
  intro ns
  induction ns with
  | nil =>
    intro vs w
    rw [List.map_nil] at w
    cases w
    exact .nil
  | cons n ns ih =>
    intro vs w
    rw [List.map_cons] at w
    cases w with
    | cons a b =>
      cases a
      exact .cons _ _ (ih _ b)

theorem script_of {l : OpenLaw} {n : Nat} (hn : l.most = some n) {P : Params} {h : Heap} {args : List WData} {vals : List Value}
    (hpre : l.row.toRowW.claim.pre args = true) (hwl : WellAll P h vals args) :
    ∃ a vs ns, vals = [Value.ref a] ∧ args = [WData.list (ns.map WData.int)] ∧ h.get? a = some { cls := .type "list", data := .seq vs.toArray } ∧ IntsAre vs ns ∧ ns.length ≤ n := by
  have hsh : WShape.hasAll [] args [.list .int] = true := (pre_splitW hpre).1
  have hc : l.pre.holds [] { args := args } = true := (pre_splitW hpre).2
  obtain ⟨d, r, rfl, h1, h2⟩ := hasAllW_cons hsh
  obtain rfl := hasAllW_nil h2
  obtain ⟨xs, rfl, h3⟩ := hasW_list h1
  obtain ⟨ns, rfl⟩ := items_int h3
  have hlen : ns.length ≤ n := by
    unfold OpenLaw.pre at hc
    have h4 : (WTm.not (.lt (.lit (.int (n : Int))) (.len (.arg 0)))).holds [] { args := [.list (ns.map .int)] } = true := by
      have h4 := (holds_andW hc).1
      rw [hn] at h4
      exact h4
    have h5 := condW_of h4 (w_not (w_lt w_lit (w_len_list (w_arg rfl))))
    rw [List.length_map] at h5
    refine Nat.le_of_not_lt fun q => ?_
    have q' : (n : Int) < ((ns.length : Nat) : Int) := by omega
    first
      | (rw [decide_eq_true q'] at h5; exact absurd h5 (by decide))
      | (simp at h5; omega)
  cases hwl with
  | cons w1 w2 =>
    cases w2
    cases w1 with
    | list ho hall => exact ⟨_, _, ns, rfl, rfl, ho, ints_of_wellAll ns _ hall, hlen⟩

theorem post_true (l : OpenLaw) (args : List WData) : l.row.toRowW.claim.post args (.bool true) args = true :=
  postW_of (r := l.row.toRowW) (X := (true == true))
    (show WShape.has [] (.bool true) .bool = true by first | rfl | decide | simp [WShape.has, WShape.arms, WShape.armsAll])
    (show (WTm.eq .res (.lit (.bool true))).value [] { args := args, res := some (.bool true), after := args } = some (.bool (true == true)) from w_eq_bool (w_res rfl) w_lit) rfl

/-! ### the attachment: holds_open's last premise (the goal 'hc' behind k_head) from a wpAny of the law's body -/
/-- the same from a codeAny of the CALL (for a layer whose function contracts speak of calls) -/
theorem attach_call {l : OpenLaw} {n : Nat} {q : Program} {loose : List Str} {XP : (Str → Option Value) → Heap → Prop} {YP : World → Heap → Prop} {d : DefRec}
    (hn : l.most = some n) (hdf : d.params.defaults = [])
    (call : ∀ (w : World) (s₀ s₁ : Shared) (mg mb : Str → Option Value) (fa : Addr) (o : Obj) (pm cd doc : Value) (a : Addr) (vs : List Value) (ns : List Int),
      Ground q loose [] XP w s₀ mg mb s₁.heap → YP w s₁.heap →
      s₁.heap.get? fa = some o → o.data = .func (docDef d.name d.params d.body d.scope pm cd doc) → s₁.heap.CodeRec cd d.name → mg d.name = some (.ref fa) →
      s₁.heap.get? a = some { cls := .type "list", data := .seq vs.toArray } → IntsAre vs ns → ns.length ≤ n → s₁.gens = #[] →
      codeAny (model l.prog w) callerA (.call (.ref fa) ⟨[.ref a], []⟩) (fun r s' => r = .ok (.ret (.bool true)) ∧ OldK s₁.heap s'.heap ∧ s'.os = s₁.os ∧ AllBare s'.gens) s₁) :
    WalkO q loose XP YP l.row.toRowW d [] (fun f vs => PySem.call f vs) := by
  intro w s₀ s₁ mg mb G Y fa o pm cd doc dV kV ho hd hcd hD hmg hg args vals as hpre hlay hrd hwl hlo
  obtain rfl : dV = .none := Dflts.none hD hdf
  obtain rfl : kV = .none := Dflts.noKw hD
  obtain ⟨a, vs, ns, rfl, rfl, hobj, hints, hlen⟩ := script_of hn hpre hwl
  refine enter_call (codeAny_mono (call w s₀ s₁ mg mb fa o pm cd doc a vs ns G Y ho (fd_plain hd) hcd hmg hobj hints hlen hg) fun r s' hq => ?_)
  obtain ⟨rfl, h2, h3, h4⟩ := hq
  exact ⟨.inl ⟨.bool true, .bool true, [], rfl, fun _ => rfl, .bool true, post_true l _, fun _ => ⟨List.Pairwise.nil, fun _ hm => (nomatch hm)⟩⟩, h2, h3, h4⟩

/-! ### rules over ANY heap (no ledger) from facts about the written part K: the library's own take a ledger (News) for what they write -/
section
variable {prog : Program} {w : World} {A : Around} {E : Value → Shared → Prop} {s : Shared} {K : Frag}

/-! the whole heap as the ledger: makes every rule that writes through a ledger a rule over any heap -/
def ledger (h : Heap) (L d : Addr) : List (Addr × Obj) := (List.range h.objs.size).filterMap fun a => if a = L ∨ a = d then none else (h.get? a).map fun o => (a, o)
end
end Att

namespace L2
open PySem PySem.Spec PyProof.Rows

theorem vals_ints : ∀ {vs : List Value} {ns : List Int}, IntsAre vs ns → Vals (ns.map V.int) vs
  | _, _, .nil => .nil
  | _, _, .cons n t h => .cons ⟨t, rfl⟩ (vals_ints h)

/-- nothing is tracked but the script, known to the object (or it is an object of the module) -/
def Only (H : Hp) : Prop := ∀ b, H b = none ∨ ∃ o xs, H b = some (.frz o (.lst xs))

/-- THE HEAD: the law's promise, at the heap behind the top. F, the promise of the law's def, may use that base is part of the heap (so K.In base, base.Ns mainGlobals mg stand in Mod) -/
theorem law_call {P : Program} {w : World} {K : PySem.W.Frag} {mg mb : Str → Option Value} {CX : CXT} {k : Nat} {fa a : Addr} {fd : FuncData} {x : Str} {sp : Sp} {s₁ : Shared} {vs : List Value} {ns : List Int}
    (KX : K.In s₁.heap) (hns : s₁.heap.Ns mainGlobals mg) (hb : s₁.heap.Ns builtinsNs mb) (hbb : ∀ x : Str, x ≠ "__name__" → mb x = bootBuiltins x) (hlim : s₁.heap.NoLimit) (hg : s₁.gens = #[])
    (ha : s₁.heap.get? a = some { cls := .type "list", data := .seq vs.toArray }) (hi : IntsAre vs ns) (hl : ns.length ≤ sizeLine) (hr : Room k callerA)
    (F : ∀ base : Heap, K.In base → base.Ns mainGlobals mg → FnOk P w K mg base CX k fa fd [x] sp) (hbind : ∀ (s : Shared) (u : Value), BindsTo s fd ⟨[u], []⟩ [(x, u)])
    (hsp : ∀ H : Hp, Only H → SqL K H a (ns.map V.int) → sp [.ref a] H (fun v _ => v = .bl true) fun _ _ _ => False)
    (hCX : ∀ H e s', CX [] H s₁ (fun _ _ _ => False) e s' → False) :
    codeAny (model P w) callerA (.call (.ref fa) ⟨[.ref a], []⟩) (fun r s' => r = .ok (.ret (.bool true)) ∧ OldK s₁.heap s'.heap ∧ s'.os = s₁.os ∧ AllBare s'.gens) s₁ := by
  have rv := vals_ints hi
  have lenV := hi.length
  -- from an abstract heap in which nothing but the script may be tracked
  have core : ∀ H : Hp, Only H → SqL K H a (ns.map V.int) → HOk P w H s₁.heap → (∀ b, H b ≠ none → b = a) → (H a ≠ none → K.lookup a = none) →
      codeAny (model P w) callerA (.call (.ref fa) ⟨[.ref a], []⟩) (fun r s' => r = .ok (.ret (.bool true)) ∧ OldK s₁.heap s'.heap ∧ s'.os = s₁.os ∧ AllBare s'.gens) s₁ := by
    intro H hO hS hok hA hK
    have base_of : ∀ {b : Addr} {o : Obj}, s₁.heap.get? b = some o → H b = none → (hidT s₁.heap H).get? b = some o := fun e n => hidT_get e n
    have noA : ∀ {b : Addr} {o : Obj} {es : Array DictEntry} {ep : Nat}, s₁.heap.get? b = some o → o.data = .dict es ep → H b = none := fun {b o es ep} e d => by
      cases q : H b with
      | none => rfl
      | some u =>
        have e' : b = a := hA b (by rw [q]; simp)
        subst e'
        rw [ha] at e; cases e
        have d' : Data.seq vs.toArray _ = Data.dict es ep := d
        cases d'
    have nsK : ∀ {b : Addr} {m : Str → Option Value}, s₁.heap.Ns b m → (hidT s₁.heap H).Ns b m := fun {b m} ⟨o, es, ep, e, d, r⟩ => ⟨o, es, ep, base_of e (noA e d), d, r⟩
    have hKb : K.In (hidT s₁.heap H) := fun b o e => base_of (KX b o e) (by
      cases q : H b with
      | none => rfl
      | some u =>
        have e' : b = a := hA b (by rw [q]; simp)
        subst e'
        rw [hK (by rw [q]; simp)] at e; cases e)
    have hM : Mod K mg (hidT s₁.heap H) := ⟨hKb, nsK hns, ⟨mb, nsK hb, hbb⟩, let ⟨mc, h1, h2⟩ := hlim; ⟨mc, nsK h1, h2⟩⟩
    have e0 : Env0 P w K mg (hidT s₁.heap H) callerA [] s₁ H := ⟨rfl, hM, fun b o e => of_hidT e, Nat.le_of_eq (hidT_size _ _), trivial, fun b hb => absurd (show b ∈ ([] : List Addr) from hb) (by simp), hok, .of_eq hg⟩
    refine codeAny_mono ((F _ hKb (nsK hns)).run callerA [] s₁ H ⟨[.ref a], []⟩ [.ref a] [.ref a] _ _ hr e0 (hbind s₁ (.ref a)) (.cons rfl .nil) (hsp H hO hS)) fun r s' h => ?_
    cases r with
    | error e => exact (hCX H e s' h).elim
    | ok fl =>
      cases fl with
      | next => exact False.elim h
      | brk => exact False.elim h
      | cont => exact False.elim h
      | ret u =>
        obtain ⟨v, H', os, bare, un, hok', r', q⟩ := h
        have q' : v = .bl true := q
        subst q'
        obtain rfl : u = Value.bool true := r'
        refine ⟨rfl, OldK.of_keep fun b o e => ?_, os, bare⟩
        cases q : H b with
        | none => exact un.keep b o e q (by intro z; exact absurd (show b ∈ ([] : List Addr) from z) (by simp)) (by simp)
        | some u =>
          rcases hO b with z | ⟨ob, xs, z⟩
          · rw [q] at z; cases z
          · have z2 := un.frzs b ob _ z
            obtain ⟨e1, _⟩ := hok b _ z
            obtain ⟨e2, _⟩ := hok' b _ z2
            rw [e] at e1; cases e1
            exact e2
  cases hk : K.lookup a with
  | some o =>
    -- the script is one of the module's own objects
    have e := KX a o hk
    rw [ha] at e
    cases e
    refine core (fun _ => none) (fun _ => .inl rfl) (.inr ⟨_, vs.toArray, _, hk, rfl, rfl, rfl, by rw [List.size_toArray, lenV]; exact hl, by simpa using rv⟩) (fun b u z => by have z' : (none : Option HO) = some u := z; cases z') (fun b z => absurd rfl z) fun z => absurd rfl z
  | none =>
    refine core (fun b => if b = a then some (.frz { cls := .type "list", data := .seq vs.toArray } (.lst (ns.map V.int))) else none) (fun b => ?_) (.inl (.inr ⟨{ cls := .type "list", data := .seq vs.toArray }, if_pos rfl⟩)) (fun b u z => ?_) (fun b z => ?_) fun _ => hk
    · by_cases hb : b = a
      · exact .inr ⟨_, _, if_pos hb⟩
      · exact .inl (if_neg hb)
    · by_cases hb : b = a
      · have z' := (if_pos hb).symm.trans z
        cases z'
        subst hb
        exact ⟨ha, by rw [List.length_map]; exact hl, vs, _, rv, ha⟩
      · have z' := (if_neg hb).symm.trans z
        cases z'
    · by_cases hb : b = a
      · exact hb
      · exact absurd (if_neg hb) z
end L2

namespace L2
open PySem PySem.Spec PyProof.Rows

abbrev KOf {K : PySem.W.Frag} {h : Heap} (_ : K.In h) : PySem.W.Frag := K

/-- the goal that k_head leaves (case hc), from the law's promise. F gives the function object fd (K's own) once, then the promise over every base -/
theorem walk_of {l : PySem.W.OpenLaw} {n k : Nat} {q : Program} {loose : List Str} {XP : (Str → Option Value) → Heap → Prop} {YP : World → Heap → Prop} {d : DefRec} {K : Params → PySem.W.Frag} {CX : World → CXT} {sp : World → Sp} {x : Str}
    (hn : l.most = some n) (hn2 : n ≤ sizeLine) (hdf : d.params.defaults = []) (hr : Room k callerA)
    (hY : ∀ (w : World) (h : Heap), YP w h → (K w.params).In h)
    (F : ∀ (w : World) (mg : Str → Option Value) (fa : Addr) (h : Heap), (K w.params).In h → h.Ns mainGlobals mg → mg d.name = some (.ref fa) →
      ∃ fd : FuncData, (∀ (s : Shared) (u : Value), BindsTo s fd ⟨[u], []⟩ [(x, u)]) ∧
        ∀ base : Heap, (K w.params).In base → base.Ns mainGlobals mg → FnOk l.prog w (K w.params) mg base (CX w) k fa fd [x] (sp w))
    (hsp : ∀ (w : World) (H : Hp) (a : Addr) (ns : List Int), ns.length ≤ n → Only H → SqL (K w.params) H a (ns.map V.int) → sp w [.ref a] H (fun v _ => v = .bl true) fun _ _ _ => False)
    (hCX : ∀ (w : World) (H : Hp) (s : Shared) (e : Value) (s' : Shared), CX w [] H s (fun _ _ _ => False) e s' → False) :
    PySem.W.WalkO q loose XP YP l.row.toRowW d [] (fun f vs => PySem.call f vs) := by
  refine Att.attach_call hn hdf fun w s₀ s₁ mg mb fa o pm cd doc a vs ns G Y ho hd hcd hmg hobj hints hlen hg => ?_
  have KX := hY w _ Y
  obtain ⟨fd, hb, hF⟩ := F w mg fa _ KX G.T.g hmg
  exact law_call KX G.T.g G.T.b G.T.builtins G.T.nolimit hg hobj hints (Nat.le_trans hlen hn2) hr hF hb (fun H hO hS => hsp w H a ns hlen hO hS) fun H e s' => hCX w H s₁ e s'
end L2

/- THE LAST THEOREM (shape; LID, My.* are yours):
   My.Adr: a structure of the addresses that your layer names (classes, functions); My.Txt K t: a structure (Prop) of the equations over K;
   My.txt_mk : {K} {implicit addresses ..} (e1 : nsIn K mainGlobals "law" = some (some (.ref f))) (e2 : K.lookup f = some ⟨oc, od, .func (fnOf "law" "law" params body scope dV kV doc pm an cdv ct), sl⟩) (e3 : codeIn K cdv "law" = true) .. : ∃ t, My.Txt K t

set_option maxRecDepth 100000 in
set_option maxHeartbeats 0 in
theorem PySem.Challenge.cw_LID_holds : PySem.Challenge.rw_LID.Holds := by
  w_on; o_law; k_head; (case hw => w_witness2)
  k_fill
  refine L2.walk_of (l := PySem.Challenge.rw_LID) (n := 63) (k := 40) (x := "script") (CX := fun w => ..) (sp := fun _ => My.sp_law) rfl (by decide) rfl ⟨rfl, by decide, by decide⟩ (fun w h Y => PySem.W.kIn_of Y) ?F ?S ?C
  case F =>
    intro w mg fa h KX G hmg
    have T : ∃ t, My.Txt (L2.KOf KX) t := by
      dsimp only [L2.KOf]                          -- K must stand as «<heap const> w.params» for k_is
      refine' My.txt_mk ?e1 ?e2 ?e3 ..
      (case e1 => PySem.W.k_is)                    -- in the order: a name -> its address -> its object -> its parts
      (case e2 => PySem.W.k_is)
      ..
    obtain ⟨t, T⟩ := T
    have e0 := hmg.symm.trans (PySem.W.mg_of KX G T.law)
    cases e0                                       -- fa is the law's own address
    exact ⟨_, fun s u => .of_eq rfl, fun base kb nb => My.law_fn T kb nb⟩     -- if «.of_eq rfl» comes too early: refine' ⟨_, ?b, fun base kb nb => My.law_fn T kb nb⟩; exact fun s u => .of_eq rfl
  case S => exact fun w H a ns hl hO hS => ..
  case C => exact ..
(the tactic k_is has no namespace: write k_is) -/

/-! SHORT WORDS over the layer: a def of the text, its body, what a loop and a test want. -/
namespace L2
open PySem PySem.Spec PyProof.Rows

/-! ### the text by places -/
/-- the j-th statement of a class's body -/
def inClass (s : Stmt) (j : Nat) : Stmt := match s with
  | .ClassDef _ _ _ body _ _ _ _ _ _ _ => body.getD j (.Pass ⟨0, 0, 0, 0⟩)
  | _ => .Pass ⟨0, 0, 0, 0⟩
def defArgs (s : Stmt) : Arguments := match s with
  | .FunctionDef _ a _ _ _ _ _ _ _ _ => a
  | _ => { posonlyargs := [], args := [], vararg := none, kwonlyargs := [], kw_defaults := [], kwarg := none, defaults := [] }
def defBody (s : Stmt) : List Stmt := match s with
  | .FunctionDef _ _ b _ _ _ _ _ _ _ => b
  | _ => []
def defScope (s : Stmt) : Scope := match s with
  | .FunctionDef _ _ _ _ _ _ sc _ _ _ => sc
  | _ => { kind := .function, names := [], isGenerator := false, isCoroutine := false }

/-! ### no exception leaves a def -/
abbrev CX0 : CXT := fun _ _ _ _ _ _ => False
abbrev E0 : XK := fun _ _ _ => False
theorem pass0 {X : Cx} : Passes CX0 X E0 := fun _ _ _ _ _ _ _ h => h.elim

/-! ### a def (or method) of the text as it stands behind the top -/
structure Fun (K : PySem.W.Frag) (x qual : Str) (st : Stmt) (f : Addr) (fd : FuncData) : Prop where
  ex : ∃ (oc : Value) (od : Option Addr) (kV doc pm : Value) (an : Option Addr) (cdv ct : Value) (osl : Array (Option Value)),
    fd = PySem.W.fnOf x qual (defArgs st) (defBody st) (defScope st) .none kV doc pm an cdv ct ∧ K.lookup f = some ⟨oc, od, .func fd, osl⟩ ∧ PySem.W.codeIn K cdv qual = true
  kp : PySem.W.keepIn K (.ref f) = true
section
variable {P : Program} {w : World} {K : PySem.W.Frag} {mg : Str → Option Value} {base : Heap}
/-- THE RULE for a def: its body as a term of rules, and the reading of that term -/
theorem Fun.ok {x qual : Str} {st : Stmt} {f : Addr} {fd : FuncData} {N ps : List Str} {k : Nat} {sp : Sp} (F : Fun K x qual st f fd) (S : FnScope N ps (defScope st)) (len : ∀ vs H Q E, sp vs H Q E → vs.length = ps.length)
    (hbody : ∀ (cdv : Value) (A : Around) (outer : List Env) (s : Shared) (H : Hp) (vs : List V) (Q : VK) (E : XK), Room k (A.deeper (envOfC qual (defScope st) s.heap.objs.size f cdv)) → sp vs H Q E →
      ∃ t, PSs (cxOf CX0 P w K mg base N qual (defScope st) f cdv A outer s H E).nox (defBody st) t ∧ t { nx := fun _ H' => Q .non H', rt := Q } (start N vs) H) : FnOk P w K mg base CX0 (k + 1) f fd ps sp := by
  obtain ⟨oc, od, kV, doc, pm, an, cdv, ct, osl, rfl, lk, hcd⟩ := F.ex
  refine fn_of lk hcd S len fun A outer s H vs Q E hr hsp => ?_
  obtain ⟨t, h, q⟩ := hbody cdv A outer s H vs Q E hr hsp
  exact ⟨t, h.nox, q⟩
/-- how its arguments bind (no defaults): h is «fun _ _ _ _ _ _ us hl => match us, hl with | [_, _], _ => rfl», one _ a parameter -/
theorem Fun.binds {x qual : Str} {st : Stmt} {f : Addr} {fd : FuncData} {ps : List Str} (F : Fun K x qual st f fd)
    (h : ∀ (kV doc pm : Value) (an : Option Addr) (cdv ct : Value) (us : List Value), us.length = ps.length → bindArgs (PySem.W.fnOf x qual (defArgs st) (defBody st) (defScope st) .none kV doc pm an cdv ct) ⟨us, []⟩ = pure (ps.zip us)) : Binds K fd ps [] := by
  obtain ⟨oc, od, kV, doc, pm, an, cdv, ct, osl, rfl, lk, hcd⟩ := F.ex
  exact .all (h kV doc pm an cdv ct)
theorem fun_mk {x qual : Str} {st : Stmt} {f : Addr} {oc : Value} {od an : Option Addr} {osl : Array (Option Value)} {kV doc pm cdv ct : Value} (l : K.lookup f = some ⟨oc, od, .func (PySem.W.fnOf x qual (defArgs st) (defBody st) (defScope st) .none kV doc pm an cdv ct), osl⟩)
    (c : PySem.W.codeIn K cdv qual = true) (k : PySem.W.keepIn K (.ref f) = true) : Fun K x qual st f (PySem.W.fnOf x qual (defArgs st) (defBody st) (defScope st) .none kV doc pm an cdv ct) := ⟨⟨oc, od, kV, doc, pm, an, cdv, ct, osl, rfl, l, c⟩, k⟩
end
theorem hu_of {A : Around} {k : Nat} (hr : Room k A) : A.units + 1 < cLine := Nat.lt_of_le_of_lt (Nat.add_le_add_left (by decide : 1 ≤ 64) _) hr.units
theorem small1000 {n : Nat} (h : n ≤ 1000) : n < sizeLine := Nat.lt_of_le_of_lt h (by decide)

/-! ### expressions in short: the name that stands in the i-th slot -/
section
variable {X : Cx}
theorem pv (i : Nat) {x : Str} {pos : Pos} (hN : X.N[i]? = some x := by rfl) (hv : Vis X.env.scope x := by first | exact Or.inl rfl | exact Or.inr (Or.inl rfl) | exact Or.inr (Or.inr rfl)) (hd : (x == ("__debug__" : Str)) = false := by decide)
    (hcd : (x == ("__classdict__" : Str)) = false := by decide) : PE X (.Name x pos) (tVar i) := pe_var hN hv hd hcd
/-- len of a dict -/
theorem call_lenD : CallR X (.builtin "len") (fun xs H Q => ∃ a kvs, xs = [V.ref a] ∧ H a = some (.dK kvs) ∧ Q (.int kvs.length) H) := by
  intro pins s σ H xs us Q I r h
  obtain ⟨a, kvs, rfl, ha, q⟩ := h
  obtain ⟨u, rfl, ru⟩ := vals1 r
  cases ru
  exact d_len I (.inl ha) fun t s' I' => ⟨.int kvs.length, H, I', ⟨t, rfl⟩, q⟩
end

/-! ### tests -/
theorem iteF {A B : Prop} (h : B) : if false = true then A else B := by
  rw [if_neg Bool.false_ne_true]
  exact h
theorem iteT {A B : Prop} (h : A) : if true = true then A else B := by
  rw [if_pos rfl]
  exact h
theorem ite2 {c A B : Prop} [Decidable c] (h1 : c → A) (h2 : ¬ c → B) : if c then A else B := by
  by_cases h : c
  · rw [if_pos h]
    exact h1 h
  · rw [if_neg h]
    exact h2 h
/-! ### heaps -/
/-- all that was tracked is as it was -/
def Same (H H' : Hp) : Prop := ∀ b o, H b = some o → H' b = some o
theorem Same.refl (H : Hp) : Same H H := fun _ _ h => h
theorem Same.trans {H H1 H2 : Hp} (a : Same H H1) (b : Same H1 H2) : Same H H2 := fun c o h => b c o (a c o h)
theorem Same.free {H H' : Hp} (e : Same H H') {l : Addr} (h : H' l = Option.none) : H l = Option.none := by
  cases q : H l with
  | none => rfl
  | some o =>
    rw [e l o q] at h
    cases h
theorem Same.seq {K : PySem.W.Frag} {H H' : Hp} {a : Addr} {xs : List V} (e : Same H H') (h : SqL K H a xs) : SqL K H' a xs := by
  rcases h with (h | ⟨o, h⟩) | h
  · exact .inl (.inl (e _ _ h))
  · exact .inl (.inr ⟨o, e _ _ h⟩)
  · exact .inr h

/-! ### a dict's pairs: keys that differ -/
section
variable {κ : Type} [DecidableEq κ]
theorem valV_not {kvs : List (κ × V)} {k : κ} (h : valV kvs k = none) : ¬ k ∈ kvs.map (·.1) := by
  intro m
  obtain ⟨p, hp, e⟩ := List.mem_map.mp m
  have q : (kvs.any fun kv => decide (kv.1 = k)) = true := List.any_eq_true.mpr ⟨p, hp, decide_eq_true e⟩
  rw [valV_any, h] at q
  exact absurd q (by simp)
theorem valV_in {kvs : List (κ × V)} {k : κ} {v : V} (h : valV kvs k = some v) : k ∈ kvs.map (·.1) := by
  have q : (kvs.any fun kv => decide (kv.1 = k)) = true := by
    rw [valV_any, h]
    all_goals rfl
  obtain ⟨p, hp, e⟩ := List.any_eq_true.mp q
  exact List.mem_map.mpr ⟨p, hp, of_decide_eq_true e⟩
theorem nd_snoc : ∀ {l : List κ} {k : κ}, l.Nodup → ¬ k ∈ l → (l ++ [k]).Nodup
  | [], k, _, _ => by simp
  | a :: r, k, h, hk => by
    obtain ⟨h1, h2⟩ := List.nodup_cons.mp h
    show (a :: (r ++ [k])).Nodup
    refine List.nodup_cons.mpr ⟨fun m => ?_, nd_snoc h2 fun m => hk (List.mem_cons.mpr (Or.inr m))⟩
    rcases List.mem_append.mp m with q | q
    · exact h1 q
    · exact hk (List.mem_cons.mpr (Or.inl (List.mem_singleton.mp q).symm))
theorem nd_putK {kvs : List (κ × V)} {k : κ} (v : V) (hn : (kvs.map (·.1)).Nodup) (h : valV kvs k = none) : ((putK kvs k v).map (·.1)).Nodup := by
  rw [putK_new v h, List.map_append]
  exact nd_snoc hn (valV_not h)
theorem dropK_pos {p : κ × V} {r : List (κ × V)} {k : κ} (e : p.1 = k) : dropK (p :: r) k = dropK r k := by
  unfold dropK
  rw [List.filter_cons, if_neg (by simp [e])]
theorem dropK_neg {p : κ × V} {r : List (κ × V)} {k : κ} (e : ¬ p.1 = k) : dropK (p :: r) k = p :: dropK r k := by
  unfold dropK
  rw [List.filter_cons, if_pos (by simp [e])]
theorem dropK_mem {kvs : List (κ × V)} {k : κ} {p : κ × V} (h : p ∈ dropK kvs k) : p ∈ kvs := (List.mem_filter.mp h).1
theorem nd_dropK : ∀ {kvs : List (κ × V)} {k : κ}, (kvs.map (·.1)).Nodup → ((dropK kvs k).map (·.1)).Nodup
  | [], _, _ => List.nodup_nil
  | p :: r, k, h => by
    have h : (p.1 :: r.map (·.1)).Nodup := h
    obtain ⟨h1, h2⟩ := List.nodup_cons.mp h
    by_cases e : p.1 = k
    · rw [dropK_pos e]
      exact nd_dropK h2
    · rw [dropK_neg e]
      show (p.1 :: (dropK r k).map (·.1)).Nodup
      refine List.nodup_cons.mpr ⟨fun m => h1 ?_, nd_dropK h2⟩
      obtain ⟨q, hq, eq⟩ := List.mem_map.mp m
      exact List.mem_map.mpr ⟨q, dropK_mem hq, eq⟩
end
end L2

set_option maxHeartbeats 4000000
namespace L2
open PySem PySem.Spec PyProof.Rows

theorem Same.refl' (H : Hp) : Same H H := fun _ _ h => h
theorem Same.upd {H : Hp} {a : Addr} {o : HO} (h : H a = none) : Same H (upd H a o) := fun b u e => by rw [upd_ne (ne_of_none e h)]; exact e
theorem Same.upd2 {H H' : Hp} {a : Addr} {o : HO} (s : Same H H') (h : H a = none) : Same H (L2.upd H' a o) := fun b u e => by rw [upd_ne (ne_of_none e h)]; exact s b u e
theorem Same.tup {K : PySem.W.Frag} {H H' : Hp} {a : Addr} {xs : List V} (e : Same H H') (h : SqT K H a xs) : SqT K H' a xs := by
  rcases h with (h | ⟨o, h⟩) | h
  · exact .inl (.inl (e _ _ h))
  · exact .inl (.inr ⟨o, e _ _ h⟩)
  · exact .inr h

end L2

namespace L2
open PySem PySem.Spec PyProof.Rows

/-! ### a comprehension: its loop, the tuple of an iterator let go, no exception leaving -/
theorem comp_loop_go {prog : Program} {w : World} {A : Around} {R : Result → Shared → Prop} {s : Shared} {elt target iter : Expr} {ifs : List Expr} {scope : Scope} {pos : Pos} {it acc : Value} {env : Env} (I : Nat → Shared → Prop)
    (turn : ∀ n s, I n s → wpAny (model prog w) A (pyNext it) (fun r s₁ => match r with
      | none => R (.ok .next) s₁
      | some v => wpAny (model prog w) A (letOwnedTupleGo target it v) (fun _ s₂ => wpAny (model prog w) A (assign target env v) (fun _ s₃ =>
          wpAny (model prog w) A (forIn ifs true fun c r => if r = true then do let ok ← isTrue c env (eval c env); pure (ForInStep.yield ok) else pure (ForInStep.yield r)) (fun ok s₄ =>
            if ok = true then wpAny (model prog w) A (eval elt env) (fun x s₅ =>
              wpAny (model prog w) A (call (.builtin "list.append") [acc, x]) (fun _ s₆ => ∃ m, m < n ∧ I m s₆) (fun _ _ => False) s₅) (fun _ _ => False) s₄
            else ∃ m, m < n ∧ I m s₄) (fun _ _ => False) s₃) (fun _ _ => False) s₂) (fun _ _ => False) s₁) (fun _ _ => False) s)
    (n : Nat) (h : I n s) :
    codeAny (model prog w) A (.compLoop (.ListComp elt [⟨target, iter, ifs, 0⟩] scope pos) 0 it acc env) R s := by
  refine codeAny_loop rfl I (fun n s hI => ?_) n h
  show wpAny _ A ((compTurn (.ListComp elt [⟨target, iter, ifs, 0⟩] scope pos) 0 it acc env).onRaise (fun x => do noteFrame x env; theTreesLotGoes x)) _ _ s
  refine wpAny_noted ?_
  rw [compTurn_list]
  refine wpAny_bind (wpAny_standAt (wpAny_bind (wpAny_mono (turn n s hI) (fun r s₁ h₁ => ?_) fun _ _ f => f.elim)))
  cases r with
  | none => exact wpAny_pure h₁
  | some v =>
    refine wpAny_bind (wpAny_mono h₁ (fun _ s₂ h₂ => wpAny_bind (wpAny_mono h₂ (fun _ s₃ h₃ => wpAny_bind (wpAny_mono h₃ (fun ok s₄ h₄ => ?_) fun _ _ f => f.elim)) fun _ _ f => f.elim)) fun _ _ f => f.elim)
    cases ok with
    | false => exact wpAny_pure ⟨rfl, h₄⟩
    | true =>
      exact wpAny_bind (wpAny_bind (wpAny_mono h₄ (fun x s₅ h₅ => wpAny_bind (wpAny_mono h₅ (fun _ s₆ h₆ => wpAny_pure (wpAny_pure ⟨rfl, h₆⟩)) fun _ _ f => f.elim)) fun _ _ f => f.elim))

/-- the block's context: its own name first, then the frame's names that it reads -/
def cxC (X : Cx) (x : Str) (ns : List Str) (scope : Scope) (cl : List (Str × Addr)) (fp : List Addr) (pins : List (Addr × Obj)) (s : Shared) (H : Hp) : Cx where
  prog := X.prog
  w := X.w
  K := X.K
  mg := X.mg
  base := X.base
  A := X.A
  N := x :: ns
  s₀ := s
  H₀ := H
  env := compEnvC scope cl s.heap.objs.size X.env
  outer := X.stack
  stack := X.stack
  ex := fp
  fn := fun _ => false
  calm := X.calm
  pn := X.pn ++ pins
  xe := fun _ _ => False

/-- what the block's cells are: those of the frame -/
structure ClosOf (X : Cx) (scope : Scope) (cl : List (Str × Addr)) : Prop where
  clos : closureFor scope X.env = pure cl
  sub : ∀ x c, cl.lookup x = some c → X.env.cells.lookup x = some c
  all : ∀ x, ((relabel scope X.env).names.lookup x = some .cell ∨ (relabel scope X.env).names.lookup x = some .free) → ∃ c, cl.lookup x = some c
  kind : scope.kind = .function
  cell : ∀ y ∈ scope.names, y.2 ≠ .cell
  names : ∀ y ∈ scope.names, y.2 = .local → scope.names.lookup y.1 = some .local

/-- the cells that the block is given -/
def closL (cells : List (Str × Addr)) : List (Str × NameKind) → List (Str × Addr) → List (Str × Addr)
  | [], acc => acc
  | (n, k) :: r, acc => if k == .free then closL cells r ((n, (cells.lookup n).getD 0) :: acc) else closL cells r acc
theorem closureFor_eq {scope : Scope} {env : Env} (h : ∀ y ∈ scope.names, y.2 = .free → ∃ c, env.cells.lookup y.1 = some c) : closureFor scope env = pure (closL env.cells scope.names []) := by
  unfold closureFor
  suffices H : ∀ (l : List (Str × NameKind)) (acc : List (Str × Addr)), (∀ y ∈ l, y.2 = .free → ∃ c, env.cells.lookup y.1 = some c) →
      (forIn l acc (fun (x : Str × NameKind) (r : List (Str × Addr)) => (do
        let (name, kind) := x
        let cs := r
        if (kind == NameKind.free) = true then do
          let a ← cellOf env name
          pure (ForInStep.yield ((name, a) :: cs))
        else pure (ForInStep.yield cs) : Sem (ForInStep (List (Str × Addr))))) : Sem (List (Str × Addr))) = pure (closL env.cells l acc) by
    have := H scope.names [] h
    simp only at this ⊢
    first | (rw [this]; rfl) | exact this | (simp only [this]; rfl)
  intro l
  induction l with
  | nil => intro acc _; rfl
  | cons y r ih =>
    intro acc hy
    obtain ⟨n, k⟩ := y
    rw [List.forIn_cons]
    have hr : ∀ y ∈ r, y.2 = .free → ∃ c, env.cells.lookup y.1 = some c := fun y m => hy y (List.mem_cons_of_mem _ m)
    cases hk : (k == NameKind.free) with
    | false =>
      simp only [hk, Bool.false_eq_true, if_false, closL]
      exact ih acc hr
    | true =>
      obtain ⟨c, ec⟩ := hy (n, k) List.mem_cons_self (beq_iff_eq.mp hk)
      simp only [hk, if_true, closL, ec, Option.getD_some]
      have e : cellOf env n = pure c := by
        unfold cellOf
        rw [show env.cells.lookup n = some c from ec]
      rw [e]
      exact ih ((n, c) :: acc) hr
theorem closL_lookup (cells : List (Str × Addr)) (x : Str) : ∀ (l : List (Str × NameKind)) (acc : List (Str × Addr)), (∀ y ∈ l, y.2 = .free → ∃ c, cells.lookup y.1 = some c) → (∀ c, acc.lookup x = some c → cells.lookup x = some c) →
    (∀ c, (closL cells l acc).lookup x = some c → cells.lookup x = some c) ∧ (((x, NameKind.free) ∈ l ∨ ∃ c, acc.lookup x = some c) → ∃ c, (closL cells l acc).lookup x = some c)
  | [], acc, _, ha => ⟨ha, fun h => h.elim (fun z => nomatch z) id⟩
  | (n, k) :: r, acc, hy, ha => by
    have hr : ∀ y ∈ r, y.2 = .free → ∃ c, cells.lookup y.1 = some c := fun y m => hy y (List.mem_cons_of_mem _ m)
    unfold closL
    cases hk : (k == NameKind.free) with
    | false =>
      rw [if_neg Bool.false_ne_true]
      obtain ⟨h1, h2⟩ := closL_lookup cells x r acc hr ha
      refine ⟨h1, fun h => h2 ?_⟩
      rcases h with h | h
      · rcases List.mem_cons.mp h with z | z
        · cases z
          exact absurd hk (by decide)
        · exact .inl z
      · exact .inr h
    | true =>
      rw [if_pos rfl]
      obtain ⟨c, ec⟩ := hy (n, k) List.mem_cons_self (beq_iff_eq.mp hk)
      have ec : cells.lookup n = some c := ec
      rw [ec, Option.getD_some]
      have ha' : ∀ d, List.lookup x ((n, c) :: acc) = some d → cells.lookup x = some d := fun d e => by
        rw [List.lookup_cons] at e
        cases hx : x == n with
        | true => rw [hx] at e; cases e; rw [eq_of_beq hx]; exact ec
        | false => rw [hx] at e; exact ha d e
      obtain ⟨h1, h2⟩ := closL_lookup cells x r ((n, c) :: acc) hr ha'
      refine ⟨h1, fun h => h2 ?_⟩
      rcases h with h | ⟨d, h⟩
      · rcases List.mem_cons.mp h with z | z
        · cases z
          exact .inr ⟨c, by simp [List.lookup_cons]⟩
        · exact .inl z
      · refine .inr ?_
        rw [List.lookup_cons]
        cases hx : x == n with
        | true => exact ⟨c, rfl⟩
        | false => exact ⟨d, h⟩
/-- the names of a block, as its scope and the frame's have them -/
def compOk (x : Str) (ns : List Str) (names outer : List (Str × NameKind)) : Bool :=
  names.all (fun y => y.2 != .cell && (y.2 != .free || outer.lookup y.1 == some .cell) && (y.2 != .local || names.lookup y.1 == some .local)) && names.lookup x == some .local && ns.all (fun y => names.lookup y == some .free && y != x) && decide ns.Nodup
theorem mem_of_lookupK : ∀ {l : List (Str × NameKind)} {x : Str} {k : NameKind}, l.lookup x = some k → (x, k) ∈ l
  | [], _, _, h => by simp at h
  | (n, k') :: r, x, k, h => by
    rw [List.lookup_cons] at h
    cases hx : x == n with
    | true => rw [hx] at h; cases h; rw [eq_of_beq hx]; exact List.mem_cons_self
    | false => rw [hx] at h; exact List.mem_cons_of_mem _ (mem_of_lookupK h)
/-- what the relabelled scope says of a name -/
theorem lookup_relabel {scope : Scope} {env : Env} {x : Str} : (∀ k, (relabel scope env).names.lookup x = some k → scope.names.lookup x = some k ∨ (k = .cell ∧ scope.names.lookup x = some .free)) ∧
    (∀ k, scope.names.lookup x = some k → (relabel scope env).names.lookup x = some k ∨ (k = .free ∧ (relabel scope env).names.lookup x = some .cell)) := by
  show (∀ k, (scope.names.map fun (n, k) => if (k == NameKind.free && env.scope.kind == .function && env.kindOf n == some .cell) then (n, NameKind.cell) else (n, k)).lookup x = some k → _) ∧ (∀ k, _ → (scope.names.map fun (n, k) => if (k == NameKind.free && env.scope.kind == .function && env.kindOf n == some .cell) then (n, NameKind.cell) else (n, k)).lookup x = some k ∨ (_ ∧ (scope.names.map fun (n, k) => if (k == NameKind.free && env.scope.kind == .function && env.kindOf n == some .cell) then (n, NameKind.cell) else (n, k)).lookup x = some .cell))
  generalize scope.names = l
  induction l with
  | nil => exact ⟨fun k h => by simp at h, fun k h => by simp at h⟩
  | cons y r ih =>
    obtain ⟨n, k0⟩ := y
    rw [List.map_cons]
    cases hc : (k0 == NameKind.free && env.scope.kind == .function && env.kindOf n == some .cell) with
    | true =>
      simp only [hc, if_true, List.lookup_cons]
      have hf : k0 = .free := by
        rw [Bool.and_eq_true, Bool.and_eq_true] at hc
        exact beq_iff_eq.mp hc.1.1
      cases hx : x == n with
      | true => exact ⟨fun k h => by cases h; exact .inr ⟨rfl, by rw [hf]⟩, fun k h => by cases h; exact .inr ⟨hf, rfl⟩⟩
      | false => exact ih
    | false =>
      simp only [hc, Bool.false_eq_true, if_false, List.lookup_cons]
      cases hx : x == n with
      | true => exact ⟨fun k h => by cases h; exact .inl rfl, fun k h => by cases h; exact .inl rfl⟩
      | false => exact ih
theorem clos_of {X : Cx} {pins : List (Addr × Obj)} {σ : List (Option V)} {H : Hp} {s : Shared} {scope : Scope} {x : Str} {ns : List Str} (I : Inv X pins σ H s) (hk : scope.kind = .function) (ho : compOk x ns scope.names X.env.scope.names = true) :
    ClosOf X scope (closL X.env.cells scope.names []) ∧ (∀ y ∈ ns, X.env.scope.names.lookup y = some .cell) ∧ (∀ y ∈ ns, (relabel scope X.env).names.lookup y = some .cell ∨ (relabel scope X.env).names.lookup y = some .free) ∧ scope.names.lookup x = some .local ∧ (x :: ns).Nodup := by
  unfold compOk at ho
  simp only [Bool.and_eq_true, List.all_eq_true, Bool.or_eq_true, bne_iff_ne, beq_iff_eq, decide_eq_true_eq] at ho
  obtain ⟨⟨⟨h1, h2⟩, h3⟩, h4⟩ := ho
  have hfr : ∀ y ∈ scope.names, y.2 = .free → ∃ c, X.env.cells.lookup y.1 = some c := fun y m e => by
    rcases (h1 y m).1.2 with z | z
    · exact absurd e z
    · exact I.ok.has y.1 (.inl z)
  refine ⟨⟨closureFor_eq hfr, fun y c e => (closL_lookup X.env.cells y scope.names [] hfr (by simp)).1 c e, fun y hy => ?_, hk, fun y m => (h1 y m).1.1, fun y m e => ?_⟩, fun y m => ?_, fun y m => ?_, h2, List.nodup_cons.mpr ⟨fun m => (h3 x m).2 rfl, h4⟩⟩
  · refine (closL_lookup X.env.cells y scope.names [] hfr (by simp)).2 (.inl ?_)
    rcases hy with hy | hy
    · rcases lookup_relabel.1 _ hy with z | ⟨_, z⟩
      · exact absurd rfl (h1 _ (mem_of_lookupK z)).1.1
      · exact mem_of_lookupK z
    · rcases lookup_relabel.1 _ hy with z | ⟨z, _⟩
      · exact mem_of_lookupK z
      · cases z
  · rcases (h1 y m).2 with z | z
    · exact absurd e z
    · exact z
  · rcases (h1 _ (mem_of_lookupK (h3 y m).1)).1.2 with z | z
    · exact absurd rfl z
    · exact z
  · rcases lookup_relabel.2 _ (h3 y m).1 with z | ⟨_, z⟩
    · exact .inr z
    · exact .inl z

/-- the values of the names that it reads -/
def caps (js : List Nat) (σ : St) : St := js.map fun j => (σ[j]?).join

theorem inv_comp {X : Cx} {pins : List (Addr × Obj)} {σ : St} {H : Hp} {s : Shared} {h' : Heap} {tk : Nat} {x : Str} {ns : List Str} {js : List Nat} {scope : Scope} {cl : List (Str × Addr)} {fp : List Addr} {m : Str → Option Value} (I : Inv X pins σ H s)
    (L : ClosOf X scope cl) (hj : js.map (fun j => X.N[j]?) = ns.map some) (hvis : ∀ y ∈ ns, X.env.scope.names.lookup y = some .cell)
    (hin : ∀ y ∈ ns, (relabel scope X.env).names.lookup y = some .cell ∨ (relabel scope X.env).names.lookup y = some .free)
    (hf : ∀ b ∈ fp, FpOk X pins H b) (hfl : ∀ b ∈ fp, b < s.heap.objs.size) (hn : h'.Ns s.heap.objs.size m) (hk : ∀ b o, s.heap.get? b = some o → h'.get? b = some o) :
    Inv (cxC X x ns scope cl fp pins s H) [] (none :: caps js σ) H { s with heap := h', toks := tk } := by
  have len : js.length = ns.length := by have := congrArg List.length hj; simpa using this
  refine ⟨⟨I.ok.mod, L.kind, I.ok.glob, I.ok.blt, Nat.le_refl _, fun y z c h1 h2 => I.ok.inj y z c (L.sub _ _ h1) (L.sub _ _ h2), L.all, fun y c z _ => absurd (show false = true from z) Bool.false_ne_true, I.ok.hd, I.ok.frames, .inl rfl,
    fun b hb => ⟨Nat.ne_of_lt (hfl b hb), fun y c e => (hf b hb).2.2.2.2.1 y c (L.sub _ _ e)⟩, I.bs, Nat.le_trans I.ok.bsz I.sz, fun b o e hb => ?_, fun b hb z => ?_, I.stack, I.stkFree⟩,
    rfl, I.bare, Un.kept hk, ⟨m, hn, fun i y v e1 e2 _ => ?_⟩, fun y c e => ?_, I.fresh, fun y c e => I.freeC y c (L.sub _ _ e), fun p hp => ?_, I.hok.kept hk, ?_⟩
  · rcases (hf b hb).2.2.2.1 with z | z
    · exact I.ok.noex b o e z
    · exact absurd (Nat.lt_of_lt_of_le (Heap.lt_size (I.ok.bs b o e).1) z) (Nat.lt_irrefl _)
  · rcases List.mem_cons.mp (I.stkSub b z) with z | z
    · exact (hf b hb).2.1 z
    · exact (hf b hb).2.2.1 z
  · cases i with
    | zero => cases (show (some none : Option (Option V)) = some (some v) from e2)
    | succ k =>
      have e1 : ns[k]? = some y := e1
      have e2 : (caps js σ)[k]? = some (some v) := e2
      unfold caps at e2
      rw [List.getElem?_map] at e2
      cases ej : js[k]? with
      | none => rw [ej] at e2; cases e2
      | some j =>
        rw [ej] at e2
        have e2 : (σ[j]?).join = some v := Option.some.inj e2
        have e3 : σ[j]? = some (some v) := by
          cases q : σ[j]? with
          | none => rw [q] at e2; cases e2
          | some o => rw [q] at e2; rw [show o = some v from e2]
        have e4 : X.N[j]? = some y := by
          have q := congrArg (fun l => l[k]?) hj
          simp only [List.getElem?_map, ej, e1, Option.map_some] at q
          exact Option.some.inj q
        have my : y ∈ ns := List.mem_of_getElem? e1
        obtain ⟨m0, hn0, hl⟩ := I.loc
        obtain ⟨u, r, lk⟩ := hl j y v e4 e3 (.inr (.inl (hvis y my)))
        refine ⟨u, r, .inr ⟨hin y my, ?_⟩⟩
        obtain ⟨c, ec⟩ := L.all y (hin y my)
        rcases lk with ⟨k1, _⟩ | ⟨_, c', e5, e6⟩
        · have k2 : X.env.scope.names.lookup y = some .local := k1
          rw [hvis y my] at k2; cases k2
        · have := L.sub _ _ ec
          rw [e5] at this; cases this
          obtain ⟨o, ho, hd⟩ := e6
          exact ⟨c, ec, o, hk _ _ ho, hd⟩
  · obtain ⟨v, o, ho, hd⟩ := I.cell y c (L.sub _ _ e)
    exact ⟨v, o, hk _ _ ho, hd⟩
  · have hp : p ∈ X.pn ++ pins := by
      have hp : p ∈ (X.pn ++ pins) ++ [] := hp
      simpa using hp
    obtain ⟨e, n, nl, nf, d⟩ := I.pin p hp
    refine ⟨hk _ _ e, n, Nat.ne_of_lt (Heap.lt_size e), fun z => ?_, d⟩
    rcases List.mem_cons.mp (I.stkSub _ z) with z | z
    · exact nl z
    · exact nf z
  · show (none :: caps js σ).length = (x :: ns).length
    unfold caps
    rw [List.length_cons, List.length_cons, List.length_map, len]

/-- back in the frame -/
theorem Inv.uncomp {X : Cx} {pins pins' : List (Addr × Obj)} {σ σ' : St} {H H' : Hp} {s s' : Shared} {h2 : Heap} {x : Str} {ns : List Str} {scope : Scope} {cl : List (Str × Addr)} {fp : List Addr} (I : Inv X pins σ H s)
    (hf : ∀ b ∈ fp, FpOk X pins H b) (J : Inv (cxC X x ns scope cl fp pins s H) pins' σ' H' s') (hk : ∀ b o, b ≠ s.heap.objs.size → s'.heap.get? b = some o → h2.get? b = some o) :
    Inv X pins σ H' { s' with heap := h2 } := by
  have u : Un (frs X.stack) fp H H' s.heap s'.heap := J.base
  have ne : ∀ b o, s.heap.get? b = some o → b ≠ s.heap.objs.size := fun b o e => Nat.ne_of_lt (Heap.lt_size e)
  have fr : H' s.heap.objs.size = none := J.free
  refine I.call' (s' := { s' with heap := h2 }) (ch := fp) J.os ⟨fun b o e n h1 h2 => hk b o (ne b o e) (u.keep b o e n h1 h2), fun b o e n h1 h2 => ?_, u.free, fun b o e hx => ?_, u.tups, u.frzs, u.tbls⟩ (fun b o e => ?_) J.bare
    (fun b hb => ⟨(hf b hb).2.2.2.1, (hf b hb).2.1, (hf b hb).2.2.2.2.1, (hf b hb).2.2.2.2.2⟩)
  · obtain ⟨sl, q⟩ := u.slot b o e n h1 h2
    exact ⟨sl, hk _ _ (ne b o e) q⟩
  · obtain ⟨o', q⟩ := u.there b o e hx
    exact ⟨o', hk _ _ (ne b o e) q⟩
  · refine (J.hok b o e).stay (fun c v hc q => hk c v ?_ q) (fun _ q => q) fun _ _ q => q
    rcases hc with z | z
    · rw [z]; exact ne_of_none e fr
    · exact ne_of_none z fr

/-- the tests of a comprehension -/
def PIf (X : Cx) (ifs : List Expr) (t : TT) : Prop :=
  ∀ (pins : List (Addr × Obj)) (s : Shared) (σ : St) (H : Hp) (Q : Bool → Hp → Prop), Inv X pins σ H s → t σ H Q →
    wpAny (model X.prog X.w) X.A (forIn ifs true fun c r => if r = true then do let ok ← isTrue c X.env (eval c X.env); pure (ForInStep.yield ok) else pure (ForInStep.yield r)) (TP X pins σ Q) X.xe s
def tYes : TT := fun _ H Q => Q true H
theorem pif_nil {X : Cx} : PIf X [] tYes := fun _ _ _ H _ I h => wpAny_tests_nil ⟨H, I, h⟩
theorem pif_one {X : Cx} {c : Expr} {t : TT} (h : PT X c t) : PIf X [c] t := fun pins s σ H Q I q => wpAny_tests_one (h pins s σ H Q I q)

/-- [elt for x in iter if ..]: D the new list -/
def bComp (js : List Nat) (tt : TT) (te : TE) (σ : St) (J : It) (H1 : Hp) (Q : VK) : Prop :=
  ∀ D, H1 D = none → ∃ W : Nat → Nat → Hp → Prop, (∃ m, W 0 m (upd H1 D (.lst []))) ∧ ∀ i m H, W i m H →
    (J.stop i H ∧ Q (.ref D) H) ∨ (J.go i H ∧ ∀ x H', J.yld i H x H' → tt (some x :: caps js σ) H' fun b H2 => if b = true then te (some x :: caps js σ) H2 fun y H3 => ∃ ys, H3 D = some (.lst ys) ∧ ys.length < sizeLine ∧ ∃ m', m' < m ∧ W (i + 1) m' (upd H3 D (.lst (ys ++ [y])))
      else ∃ m', m' < m ∧ W (i + 1) m' H2)
def tComp (js : List Nat) (wi : TI) (tt : TT) (te : TE) : TE := fun σ H Q => wi σ H fun J H1 => bComp js tt te σ J H1 Q

section
variable {X : Cx} {x : Str} {px : Pos} {iter elt : Expr} {ifs : List Expr} {scope : Scope} {pos : Pos} {ns : List Str} {js : List Nat} {cl : List (Str × Addr)} {wi : TI} {tt : TT} {te : TE}

/-- the block, walked -/
theorem comp_block {pins : List (Addr × Obj)} {σ : St} {s₂ : Shared} {H₂ : Hp} {it : Addr} {fp : List Addr} {tn : Nat → Heap → Prop} {J : It} {Q : VK} {RR : Value → Addr → Result → Shared → Prop} {E : Value → Shared → Prop}
    (L : ClosOf X scope cl) (hc : X.calm = true) (hj : js.map (fun j => X.N[j]?) = ns.map some) (hvis : ∀ y ∈ ns, X.env.scope.names.lookup y = some .cell)
    (hin : ∀ y ∈ ns, (relabel scope X.env).names.lookup y = some .cell ∨ (relabel scope X.env).names.lookup y = some .free) (hx : scope.names.lookup x = some .local) (hnd : (x :: ns).Nodup)
    (ht : ∀ fp pins s H, PIf (cxC X x ns scope cl fp pins s H) ifs tt) (he : ∀ fp pins s H, PE (cxC X x ns scope cl fp pins s H) elt te)
    (I2 : Inv X pins σ H₂ s₂) (T : Turn X.prog X.w X.K (.Name x px) J fp it tn) (st2 : tn 0 s₂.heap) (f2 : ∀ b ∈ fp, FpOk X pins H₂ b) (hq : bComp js tt te σ J H₂ Q)
    (hRR : ∀ D H3 s', (∃ m, s'.heap.Ns (s₂.heap.objs.size + 1) m) → H3 (s₂.heap.objs.size + 1) = none → (∀ h2, (∀ b o, b ≠ s₂.heap.objs.size + 1 → s'.heap.get? b = some o → h2.get? b = some o) → Inv X pins σ H3 { s' with heap := h2 }) → Q (.ref D) H3 → RR (.ref D) (s₂.heap.objs.size + 1) (.ok .next) s') :
    wpAny (model X.prog X.w) X.A (newList []) (fun acc s₃ => wpAny (model X.prog X.w) X.A (newFunctionEnv scope X.env.globals cl [] X.env.qual none .none (some X.env)) (fun cenv s₄ =>
      codeAny (model X.prog X.w) X.A (.compStart (.ListComp elt [⟨.Name x px, iter, ifs, 0⟩] scope pos) 0 (.ref it) acc { cenv with scope := relabel scope X.env }) (RR acc cenv.locals) s₄) E s₃) E s₂ := by
  have hD : H₂ s₂.heap.objs.size = none := I2.fresh
  have I3 : Inv X pins σ (upd H₂ s₂.heap.objs.size (.lst [])) { s₂ with heap := s₂.heap.push { cls := .type "list", data := .seq ([] : List Value).toArray } } := I2.lnew (ys := []) (its := []) (t' := s₂.toks) .nil (Nat.zero_le _)
  obtain ⟨W, ⟨m0, w0⟩, turn⟩ := hq _ hD
  refine wpAny_newObj_type (wpAny_newFunctionEnv L.cell (by intro y hy; simp at hy) (fun h₁ hns₁ hsb₁ => ?_) L.kind)
  have hfl2 : ∀ b ∈ fp, b < s₂.heap.objs.size := fun b hb => let ⟨_, e, _⟩ := T.obj 0 _ st2 b hb; Heap.lt_size e
  have hsz3 : (s₂.heap.push { cls := .type "list", data := .seq ([] : List Value).toArray }).objs.size = s₂.heap.objs.size + 1 := Heap.size_push ..
  have hk3 : ∀ b o, (s₂.heap.push { cls := .type "list", data := .seq ([] : List Value).toArray }).get? b = some o → h₁.get? b = some o := fun b o e => hsb₁.extBut b o (Nat.ne_of_lt (Heap.lt_size e)) (Heap.get?_push_of_some _ e)
  have f3 : ∀ b ∈ fp, FpOk X pins (upd H₂ s₂.heap.objs.size (.lst [])) b := fun b hb => ⟨by rw [upd_ne (Nat.ne_of_lt (hfl2 b hb))]; exact (f2 b hb).1, (f2 b hb).2⟩
  have C0 := inv_comp (x := x) (tk := s₂.toks + ([] : List (Str × Value)).length) I3 L hj hvis hin f3 (fun b hb => Nat.lt_of_lt_of_le (hfl2 b hb) (by rw [hsz3]; exact Nat.le_succ _)) hns₁ hk3
  have st3 : tn 0 h₁ := T.keep _ _ _ st2 fun b hb o e => hk3 b o (Heap.get?_push_of_some _ e)
  generalize hs3 : ({ s₂ with heap := s₂.heap.push { cls := .type "list", data := .seq ([] : List Value).toArray } } : Shared) = s₃ at *
  have hsz : s₃.heap.objs.size = s₂.heap.objs.size + 1 := by rw [← hs3]; exact hsz3
  have loop : ∀ s₄ : Shared, s₄ = { s₃ with heap := h₁, toks := s₃.toks + ([] : List (Str × Value)).length } →
      codeAny (model X.prog X.w) X.A (.compLoop (.ListComp elt [⟨.Name x px, iter, ifs, 0⟩] scope pos) 0 (.ref it) (.ref s₂.heap.objs.size) (compEnvC scope cl s₃.heap.objs.size X.env)) (RR (.ref s₂.heap.objs.size) s₃.heap.objs.size) s₄ := by
    rintro s₄ rfl
    refine comp_loop_go (fun n s' => ∃ i v H', Inv (cxC X x ns scope cl fp pins s₃ (upd H₂ s₂.heap.objs.size (.lst []))) [] (v :: caps js σ) H' s' ∧ tn i s'.heap ∧ (∀ b ∈ fp, H' b = none) ∧ W i n H') ?_ m0
      ⟨0, none, _, by subst hs3; exact C0, st3, fun b hb => (f3 b hb).1, w0⟩
    rintro n s5 ⟨i, v5, H5, J5, st5, fr5, w5⟩
    have fpc : ∀ {H' : Hp}, (∀ b ∈ fp, H' b = none) → ∀ b ∈ fp, FpOk (cxC X x ns scope cl fp pins s₃ (upd H₂ s₂.heap.objs.size (.lst []))) [] H' b := fun hn b hb => by
      refine ⟨hn b hb, ?_, ?_, .inl hb, fun y c e => (f2 b hb).2.2.2.2.1 y c (L.sub _ _ e), fun p hp => ?_⟩
      · show b ≠ s₃.heap.objs.size
        rw [hsz]
        exact Nat.ne_of_lt (Nat.lt_succ_of_lt (hfl2 b hb))
      · intro z
        rcases List.mem_cons.mp (I2.stkSub b z) with z | z
        · exact (f2 b hb).2.1 z
        · exact (f2 b hb).2.2.1 z
      · have hp : p ∈ (X.pn ++ pins) ++ [] := hp
        exact (f2 b hb).2.2.2.2.2 p (by simpa using hp)
    rcases turn i n H5 w5 with ⟨stop, qn⟩ | ⟨go, step⟩
    · refine thn (T.done (cxC X x ns scope cl fp pins s₃ _) rfl rfl rfl hc i [] s5 _ H5 (fun _ _ => False) J5 (fpc fr5) st5 stop) fun r s6 ⟨hr, J6⟩ => ?_
      subst hr
      show RR _ _ (.ok .next) s6
      rw [hsz]
      refine hRR _ H5 s6 ?_ (by rw [← hsz]; exact J6.free) (fun h2 hk2 => ?_) qn
      · obtain ⟨mm, hn, _⟩ := J6.loc
        exact ⟨mm, by rw [← hsz]; exact hn⟩
      · refine Inv.uncomp I3 f3 J6 fun b o hb e => hk2 b o ?_ e
        rw [← hsz]; exact hb
    · refine thn (T.item (cxC X x ns scope cl fp pins s₃ _) rfl rfl rfl hc i [] s5 _ H5 (fun _ _ => False) J5 (fpc fr5) st5 go) fun r s6 ⟨u, hr, h6⟩ => ?_
      subst hr
      refine thn h6 fun _ s7 ⟨xv, H7, J7, r7, y7, st7, fr7⟩ => ?_
      have J7' := J7.pinned (fpc fr7) (T.obj _ _ st7)
      have hg : PG (cxC X x ns scope cl fp pins s₃ (upd H₂ s₂.heap.objs.size (.lst []))) (.Name x px) (gName 0) := pg_name hnd rfl (.inl (lookup_relabel_local hx)) (.inr (lookup_relabel_local hx))
      refine thn (hg _ s7 _ H7 xv u (fun σ' H' => σ' = some xv :: caps js σ ∧ H' = H7) J7' r7 ⟨rfl, rfl⟩) fun _ s8 ⟨σ8, H8, J8, e8, e8'⟩ => ?_
      subst e8 e8'
      have fin : ∀ {H' : Hp} {s' : Shared}, Inv (cxC X x ns scope cl fp pins s₃ (upd H₂ s₂.heap.objs.size (.lst []))) ([] ++ pinsAt fp s7.heap) (some xv :: caps js σ) H' s' → (∃ m', m' < n ∧ W (i + 1) m' H') →
          ∃ m', m' < n ∧ ∃ i v H', Inv (cxC X x ns scope cl fp pins s₃ (upd H₂ s₂.heap.objs.size (.lst []))) [] (v :: caps js σ) H' s' ∧ tn i s'.heap ∧ (∀ b ∈ fp, H' b = none) ∧ W i m' H' := fun {H' s'} J9 ⟨m', hm, w9⟩ => by
        refine ⟨m', hm, i + 1, some xv, H', J9.unpinned, T.keep _ _ _ st7 fun b hb o e => (J9.pin (b, o) (List.mem_append_right _ (List.mem_append_right _ (mem_pinsAt hb e)))).1, fun b hb => ?_, w9⟩
        obtain ⟨o, e, d⟩ := T.obj _ _ st7 b hb
        exact (J9.pin (b, o) (List.mem_append_right _ (List.mem_append_right _ (mem_pinsAt hb e)))).2.1
      refine thn (ht fp pins s₃ _ _ s8 _ H8 _ J8 (step xv H8 y7)) fun ok s9 ⟨H9, J9, q9⟩ => ?_
      cases ok with
      | false =>
        rw [if_neg Bool.false_ne_true] at q9 ⊢
        exact fin J9 q9
      | true =>
        rw [if_pos rfl] at q9 ⊢
        refine thn (he fp pins s₃ _ _ s9 _ H9 _ J9 q9) fun yv s10 ⟨y, H10, J10, r10, ys, hD10, hz, m', hm, w10⟩ => ?_
        refine thn (mt_append _ s10 _ H10 (.ref s₂.heap.objs.size) [y] _ [yv] (fun _ H' => H' = upd H10 s₂.heap.objs.size (.lst (ys ++ [y]))) J10 rfl (.cons r10 .nil) ⟨_, ys, y, rfl, rfl, hD10, hz, rfl⟩) fun _ s11 ⟨_, H11, J11, _, e11⟩ => ?_
        subst e11
        exact fin J11 ⟨m', hm, w10⟩
  have hcl := loop _ rfl
  have e0 : (newEnv scope s₃.heap.objs.size X.env.globals cl X.env.qual none .none (some X.env) 0).locals = s₃.heap.objs.size := rfl
  exact codeAny_compStart_list hcl (T.self _ 0 _ _ _ st3 hcl)
/-- [elt for x in iter if ..] -/
theorem pe_comp (hi : PI X (.Name x px) iter wi) (hc : X.calm = true) (hk : scope.kind = .function) (hj : js.map (fun j => X.N[j]?) = ns.map some) (ho : compOk x ns scope.names X.env.scope.names = true)
    (ht : ∀ fp pins s H, PIf (cxC X x ns scope (closL X.env.cells scope.names []) fp pins s H) ifs tt) (he : ∀ fp pins s H, PE (cxC X x ns scope (closL X.env.cells scope.names []) fp pins s H) elt te) (hs : ∀ x, foldedSetIterable iter X.env x = pure x := by intro _; rfl) :
    PE X (.ListComp elt [⟨.Name x px, iter, ifs, 0⟩] scope pos) (tComp js wi tt te) := by
  intro pins s σ H Q I h
  obtain ⟨L, hvis, hin, hx, hnd⟩ := clos_of I hk ho
  rw [eval_ListComp]
  refine wpAny_comprehension_free (use := none) rfl hs L.clos L.kind L.names (thn (hi pins s σ H _ I h) fun v s1 h1 => thn h1 fun itv s2 h2 => ?_)
  obtain ⟨it, fp, tn, J, H2, e, I2, T, st2, f2, hq⟩ := h2
  subst e
  refine comp_block (RR := fun acc C => compPost (model X.prog X.w) X.A X.xe none (EP X pins σ Q) acc C) L hc hj hvis hin hx hnd ht he I2 T st2 f2 hq ?_
  intro D H3 s' ⟨m, hn⟩ hfr hI q
  exact ⟨m, hn, fun h' sb => ⟨.ref D, H3, hI h' fun b o hb e => sb.extBut b o hb e, rfl, q⟩⟩

/-- y = [elt for x in iter if ..], y no name of a block within -/
theorem ps_setcomp {i : Nat} {y : Str} {py spos : Pos} (hN : X.N.Nodup) (hy : X.N[i]? = some y) (hyl : Loc X.env.scope y) (hi : PI X (.Name x px) iter wi) (hc : X.calm = true) (hk : scope.kind = .function) (hj : js.map (fun j => X.N[j]?) = ns.map some) (ho : compOk x ns scope.names X.env.scope.names = true)
    (ht : ∀ fp pins s H, PIf (cxC X x ns scope (closL X.env.cells scope.names []) fp pins s H) ifs tt) (he : ∀ fp pins s H, PE (cxC X x ns scope (closL X.env.cells scope.names []) fp pins s H) elt te)
    (hsw : swapsWith (.ListComp elt [⟨.Name x px, iter, ifs, 0⟩] scope pos) (some (.Name y py)) spos.line X.env = pure true := by rfl) (hs : ∀ x, foldedSetIterable iter X.env x = pure x := by intro _; rfl)
    (hf : X.fn y = true ∨ X.env.scope.names.lookup y = some .local := by first | exact .inl rfl | exact .inr rfl | assumption) :
    PS X (.Assign [.Name y py] (.ListComp elt [⟨.Name x px, iter, ifs, 0⟩] scope pos) spos) (tAsg (tComp js wi tt te) (gName i)) := by
  intro pins s σ H D I h
  obtain ⟨L, hvis, hin, hx, hnd⟩ := clos_of I hk ho
  rw [exec_Assign_Name_used _ _ _ _ hsw]
  refine wpAny_bind (wpAny_standAt (wpAny_bind ?_))
  show wpAny _ X.A (do let _ ← comprehension (.ListComp elt [⟨.Name x px, iter, ifs, 0⟩] scope pos) scope X.env _ (newList []) false (eval iter X.env) (some (assign (.Name y py) X.env))) _ _ s
  refine wpAny_bind (thn (wpAny_comprehension_free (use := some (assign (.Name y py) X.env)) (Q := fun _ s' => SP X pins D .next s') rfl hs L.clos L.kind L.names
    (thn (hi pins s σ H _ I h) fun v s1 h1 => thn h1 fun itv s2 h2 => ?_)) fun _ s' hq => wpAny_pure (wpAny_pure hq))
  obtain ⟨it, fp, tn, J, H2, e, I2, T, st2, f2, hq⟩ := h2
  subst e
  refine comp_block (Q := fun z H1 => D.nx (σ.set i (some z)) H1) (RR := fun acc C => compPost (model X.prog X.w) X.A X.xe (some (assign (.Name y py) X.env)) (fun _ s' => SP X pins D .next s') acc C) L hc hj hvis hin hx hnd ht he I2 T st2 f2 hq ?_
  intro Dd H3 s' ⟨m, hn⟩ hfr hI q
  have I3 : Inv X pins σ H3 s' := hI s'.heap fun _ _ _ e => e
  have fp3 : FpOk X pins H3 (s2.heap.objs.size + 1) := I2.fpOk (Nat.le_succ _) hfr
  obtain ⟨o, es, ep, ho, hd, r⟩ := hn
  have I4 : Inv X (pins ++ [(s2.heap.objs.size + 1, o)]) σ H3 s' := I3.pins_of fun p hp => (List.mem_append.mp hp).elim (fun z => I3.pin p (List.mem_append_right _ z)) fun z => by
    have e : p = (s2.heap.objs.size + 1, o) := by simpa using z
    subst e
    exact ⟨ho, hfr, fp3.2.1, fp3.2.2.1, fun v z => by rw [hd] at z; cases z⟩
  show wpAny _ X.A (assign (.Name y py) X.env (.ref Dd)) _ _ s'
  refine wpAny_assign_Name (store_ok I4 hN hy hyl (v := .ref Dd) rfl (fun s4 I5 => ?_) hf)
  have hp := I5.pin (s2.heap.objs.size + 1, o) (by simp)
  refine ⟨m, ⟨o, es, ep, hp.1, hd, r⟩, fun h' sb => ⟨_, H3, ?_, q⟩⟩
  refine (I5.unpinned (pl := [(s2.heap.objs.size + 1, o)])).turned (t' := s4.toks) (it := s2.heap.objs.size + 1) (fun b o' hb e => sb.extBut b o' hb e) hfr fp3.2.1 fp3.2.2.2.1 fp3.2.2.2.2.1 fp3.2.2.2.2.2
end
end L2

namespace L2
open PySem PySem.Spec PyProof.Rows

/-! ### data: what a value holds, to the ground -/
inductive D where
  | non
  | bl (b : Bool)
  | int (i : Int)
  | str (x : Str)
  | tup (ds : List D)
  | lst (ds : List D)

mutual
def At (K : PySem.W.Frag) (H : Hp) : D → V → Prop
  | .non, v => v = .non
  | .bl b, v => v = .bl b
  | .int i, v => v = .int i
  | .str x, v => v = .str x
  | .tup ds, v => ∃ a xs, v = .ref a ∧ SqT K H a xs ∧ AtL K H ds xs
  | .lst ds, v => ∃ a xs, v = .ref a ∧ SqL K H a xs ∧ AtL K H ds xs
def AtL (K : PySem.W.Frag) (H : Hp) : List D → List V → Prop
  | [], xs => xs = []
  | d :: ds, xs => ∃ x r, xs = x :: r ∧ At K H d x ∧ AtL K H ds r
end

mutual
theorem At.mono {K : PySem.W.Frag} {H H' : Hp} (s : Same H H') : ∀ (d : D) (v : V), At K H d v → At K H' d v
  | .non, _, h => h
  | .bl _, _, h => h
  | .int _, _, h => h
  | .str _, _, h => h
  | .tup ds, _, ⟨a, xs, e, q, l⟩ => ⟨a, xs, e, s.tup q, AtL.mono s ds xs l⟩
  | .lst ds, _, ⟨a, xs, e, q, l⟩ => ⟨a, xs, e, s.seq q, AtL.mono s ds xs l⟩
theorem AtL.mono {K : PySem.W.Frag} {H H' : Hp} (s : Same H H') : ∀ (ds : List D) (xs : List V), AtL K H ds xs → AtL K H' ds xs
  | [], _, h => h
  | d :: ds, _, ⟨x, r, e, h, t⟩ => ⟨x, r, e, At.mono s d x h, AtL.mono s ds r t⟩
end

theorem AtL.length {K : PySem.W.Frag} {H : Hp} : ∀ {ds : List D} {xs : List V}, AtL K H ds xs → xs.length = ds.length
  | [], _, h => by rw [show _ = [] from h]; rfl
  | _ :: ds, _, ⟨x, r, e, _, t⟩ => by rw [e, List.length_cons, List.length_cons, AtL.length t]


section
variable {X : Cx} {pins : List (Addr × Obj)} {σ : St} {H : Hp} {s : Shared}
mutual
/-- one value holds one datum -/
theorem At.inj (I : Inv X pins σ H s) : ∀ (d e : D) (x : V), At X.K H d x → At X.K H e x → d = e
  | .non, e, x, h, g => by
    cases (show x = .non from h)
    cases e with
    | non => rfl
    | tup ds => obtain ⟨a, xs, z, _⟩ := g; cases z
    | lst ds => obtain ⟨a, xs, z, _⟩ := g; cases z
    | bl b => cases (show V.non = .bl b from g)
    | int b => cases (show V.non = .int b from g)
    | str b => cases (show V.non = .str b from g)
  | .bl k, e, x, h, g => by
    cases (show x = .bl k from h)
    cases e with
    | non => cases (show V.bl k = .non from g)
    | tup ds => obtain ⟨a, xs, z, _⟩ := g; cases z
    | lst ds => obtain ⟨a, xs, z, _⟩ := g; cases z
    | bl b => cases (show V.bl k = .bl b from g); rfl
    | int b => cases (show V.bl k = .int b from g)
    | str b => cases (show V.bl k = .str b from g)
  | .int k, e, x, h, g => by
    cases (show x = .int k from h)
    cases e with
    | non => cases (show V.int k = .non from g)
    | tup ds => obtain ⟨a, xs, z, _⟩ := g; cases z
    | lst ds => obtain ⟨a, xs, z, _⟩ := g; cases z
    | bl b => cases (show V.int k = .bl b from g)
    | int b => cases (show V.int k = .int b from g); rfl
    | str b => cases (show V.int k = .str b from g)
  | .str k, e, x, h, g => by
    cases (show x = .str k from h)
    cases e with
    | non => cases (show V.str k = .non from g)
    | tup ds => obtain ⟨a, xs, z, _⟩ := g; cases z
    | lst ds => obtain ⟨a, xs, z, _⟩ := g; cases z
    | bl b => cases (show V.str k = .bl b from g)
    | int b => cases (show V.str k = .int b from g)
    | str b => cases (show V.str k = .str b from g); rfl
  | .tup ds, e, x, h, g => by
    obtain ⟨a, xs, z, q, l⟩ := h
    subst z
    cases e with
    | non => cases (show V.ref a = .non from g)
    | bl b => cases (show V.ref a = .bl b from g)
    | int b => cases (show V.ref a = .int b from g)
    | str b => cases (show V.ref a = .str b from g)
    | tup es =>
      obtain ⟨b, ys, z, q', l'⟩ := g
      cases z
      have e := I.tuple_inj q q'
      subst e
      rw [AtL.inj I ds es xs l l']
    | lst es =>
      obtain ⟨b, ys, z, q', l'⟩ := g
      cases z
      obtain ⟨_, _, p1, _⟩ := I.tuple q
      obtain ⟨_, _, p2, _⟩ := I.list q'
      exact absurd rfl (SeqAt.ne_of_list_tuple p2.isList p1)
  | .lst ds, e, x, h, g => by
    obtain ⟨a, xs, z, q, l⟩ := h
    subst z
    cases e with
    | non => cases (show V.ref a = .non from g)
    | bl b => cases (show V.ref a = .bl b from g)
    | int b => cases (show V.ref a = .int b from g)
    | str b => cases (show V.ref a = .str b from g)
    | lst es =>
      obtain ⟨b, ys, z, q', l'⟩ := g
      cases z
      have e := I.list_inj q q'
      subst e
      rw [AtL.inj I ds es xs l l']
    | tup es =>
      obtain ⟨b, ys, z, q', l'⟩ := g
      cases z
      obtain ⟨_, _, p1, _⟩ := I.tuple q'
      obtain ⟨_, _, p2, _⟩ := I.list q
      exact absurd rfl (SeqAt.ne_of_list_tuple p2.isList p1)
theorem AtL.inj (I : Inv X pins σ H s) : ∀ (ds es : List D) (xs : List V), AtL X.K H ds xs → AtL X.K H es xs → ds = es
  | [], [], _, _, _ => rfl
  | [], _ :: _, xs, h, ⟨x, r, e, _⟩ => by rw [show xs = [] from h] at e; cases e
  | _ :: _, [], xs, ⟨x, r, e, _⟩, h => by rw [show xs = [] from h] at e; cases e
  | d :: ds, e :: es, xs, ⟨x, r, z, h, t⟩, ⟨y, q, z', h', t'⟩ => by
    subst z
    cases z'
    rw [At.inj I d e x h h', AtL.inj I ds es r t t']
end

end
section
variable {X : Cx}
end
end L2

namespace L2
open PySem PySem.Spec PyProof.Rows
theorem bt_len : bootBuiltins "len" = some (.builtin "len") := by decide +kernel
theorem bt_all : bootBuiltins "all" = some (.builtin "all") := by decide +kernel
theorem bt_isinstance : bootBuiltins "isinstance" = some (.builtin "isinstance") := by decide +kernel
theorem bt_sorted : bootBuiltins "sorted" = some (.builtin "sorted") := by decide +kernel
theorem bt_tuple : bootBuiltins "tuple" = some (.type "tuple") := by decide +kernel
theorem bt_list : bootBuiltins "list" = some (.type "list") := by decide +kernel
theorem bt_str : bootBuiltins "str" = some (.type "str") := by decide +kernel
theorem bt_int : bootBuiltins "int" = some (.type "int") := by decide +kernel
theorem bt_bool : bootBuiltins "bool" = some (.type "bool") := by decide +kernel
/-! ### a def by its name -/
structure Fn (P : Program) (w : World) (K : PySem.W.Frag) (mg : Str → Option Value) (base : Heap) (x : Str) (k : Nat) (sp : Sp) : Prop where
  ex : ∃ (f : Addr) (fd : FuncData) (ps : List Str), FnOk P w K mg base CX0 k f fd ps sp ∧ mg x = some (.ref f) ∧ PySem.W.keepIn K (.ref f) = true ∧ Binds K fd ps []
section
variable {X : Cx} {x : Str} {p pos : Pos} {e : Expr} {es : List Expr} {t : TA} {sp : Sp} {k : Nat}
theorem pe_fn (F : Fn X.prog X.w X.K X.mg X.base x k sp) (hr : Room k X.A) (hg : Gl X x) (ha : PA X (e :: es) t) (hdb : (x == ("__debug__" : Str)) = false := by decide)
    (he : starEach (e :: es) X.env = (false, eval e X.env) :: starEach es X.env := by rfl) (hpl : (backTo pos (starEach es X.env)).any (·.1) = false := by rfl) : PE X (.Call (.Name x p) (e :: es) [] pos) (tCall sp [] E0 t) := by
  obtain ⟨f, fd, ps, G, hm, hk, hb⟩ := F.ex
  exact pe_call G hr hg hm hk hb .nil pass0 ha hdb he hpl
end

/-- a constant of the module -/
def Cn (mg : Str → Option Value) (x : Str) (v : V) : Prop := ∃ u, mg x = some u ∧ RelV v u
theorem pe_cn {X : Cx} {x : Str} {v : V} {pos : Pos} (h : Cn X.mg x v) (hg : Gl X x) (hd : (x == ("__debug__" : Str)) = false := by decide) : PE X (.Name x pos) (tC v) := by
  obtain ⟨u, hm, r⟩ := h
  exact pe_glob hg hm r hd

/-! ### isinstance -/
theorem call_isi {X : Cx} : CallR X (.builtin "isinstance") (fun xs H Q => ∃ x c t b, (xs = [x, .ty c] ∧ TyOf X.K H x t ∧ PySem.W.kitOne X.K t (.type c) = some b) ∧ Q (.bl b) H) := by
  intro pins s σ H xs us Q I r h
  obtain ⟨x, c, t, b, ⟨rfl, ty, e⟩, q⟩ := h
  obtain ⟨u, v, rfl, ru, rv⟩ := vals2 r
  cases rv
  exact isinst_ok I ru ty e fun tk => ⟨.bl b, H, I.tok tk, rfl, q⟩
theorem kit_same {K : PySem.W.Frag} {t : String} : PySem.W.kitOne K (.type t) (.type t) = some true := by
  unfold PySem.W.kitOne
  rw [if_pos (by simp)]
theorem kit_int_bool {K : PySem.W.Frag} : PySem.W.kitOne K (.type "int") (.type "bool") = some false := by kernel_rfl

/-! ### all of a list of truths -/
theorem call_all {X : Cx} (hc : X.calm = true) : CallR X (.builtin "all") (fun xs H Q => ∃ (a : Addr) (bs : List Bool), xs = [.ref a] ∧ SqL X.K H a (bs.map V.bl) ∧ Q (.bl (bs.all id)) H) := by
  intro pins s σ H xs us Q I r h
  obtain ⟨l, bs, rfl, hq, q⟩ := h
  obtain ⟨u, rfl, ru⟩ := vals1 r
  cases ru
  obtain ⟨its, rv, pl, hz⟩ := I.list hq
  have hl := pl.isList
  have hh : X.A.handled = none := I.ok.hd hc
  have hlt : l < s.heap.objs.size := by obtain ⟨_, e, _⟩ := hl; exact Heap.lt_size e
  have hlen : its.length = bs.length := by rw [← rv.length, List.length_map]
  refine call_all_walk (wpAny_pyIter_list hl ?_)
  refine ⟨s.heap.objs.size, [s.heap.objs.size, l], [s.heap.objs.size], its.toArray.size, _, _, fun i => (bs[i]?).getD true, rfl, Walks.list (A := X.A.in1) hh _ l (Nat.ne_of_lt hlt) its.toArray,
    ⟨⟨_, Heap.get?_push_size _ rfl, rfl, rfl⟩, hl.push _⟩, fun i v s' Q' E' hP hQ => ?_, fun h' tk hk => ?_⟩
  · have hv : its[i]? = some v := by simpa using hP
    have hi : i < bs.length := by rw [← hlen]; exact (List.getElem?_eq_some_iff.mp hv).1
    obtain ⟨u', e1, e2⟩ := rv.get (i := i) (x := V.bl bs[i]) (by simp [hi])
    rw [hv] at e1
    cases e1
    have e2 : v = Value.bool bs[i] := e2
    subst e2
    simp only [List.getElem?_eq_getElem hi, Option.getD_some] at hQ
    exact wpAny_truthy_bool hQ
  · have e : ((List.range its.toArray.size).all fun i => (bs[i]?).getD true) = bs.all id := by
      rw [List.size_toArray, hlen]; exact LSm.range_all bs
    rw [e]
    exact ⟨.bl _, H, I.kept fun b o e => LSm.kept_iter hk b o e, rfl, q⟩

/-! ### text.split(sep), sep.join(texts) -/
theorem vals_strs {xs : List Str} : ∀ {us : List Value}, Vals (xs.map V.str) us → StrsAre us xs := by
  induction xs with
  | nil => intro us h; cases h; exact .nil
  | cons x r ih =>
    intro us h
    cases h with
    | cons q t =>
      obtain ⟨t', rfl⟩ := q
      exact .cons _ _ (ih t)
def rJoin (K : PySem.W.Frag) : V → List V → Hp → VK → Prop := fun x vs H Q => ∃ y a zs, x = .str y ∧ vs = [.ref a] ∧ (SqL K H a (zs.map V.str) ∨ SqT K H a (zs.map V.str)) ∧ (zs.map (·.length)).sum + zs.length * y.length ≤ 16777216 ∧ Q (.str (Str.join y zs)) H
theorem mt_join {X : Cx} : MtR X "str.join" (rJoin X.K) := by
  intro pins s σ H x vs v us Q I rx rv h
  obtain ⟨y, a, zs, rfl, rfl, hq, hz, q⟩ := h
  obtain ⟨t, rfl⟩ := rx
  obtain ⟨u, rfl, ru⟩ := rv.one
  cases ru
  have e : Txt.join y zs = Str.join y zs := StrLaws.glued_eq_join y zs
  rcases hq with hq | hq
  · obtain ⟨its, r, pl, _⟩ := I.list hq
    refine join_list pl.isList (by simpa using vals_strs r) hz fun t' k => ⟨.str (Str.join y zs), H, I.tok k, ⟨t', by rw [e]⟩, q⟩
  · obtain ⟨its, r, pl, _⟩ := I.tuple hq
    refine join_tuple pl (by simpa using vals_strs r) hz fun t' k => ⟨.str (Str.join y zs), H, I.tok k, ⟨t', by rw [e]⟩, q⟩

/-! ### walking the signs of a text -/
def Its (x : Str) : It := ⟨fun i _ => i < x.cps.size, fun i H v H' => H' = H ∧ ∃ c, x.cps.toList[i]? = some c ∧ v = .str ⟨#[c]⟩, fun i _ => i = x.cps.size⟩
theorem strIter_ok (x : Str) : ["enumerate", "zip", "dict_itemiterator", "dict_reverseitemiterator", "odict_iterator", "itertools.zip_longest", "itertools.pairwise"].contains (strIterType x) = false := by
  unfold strIterType
  split <;> decide
theorem walks_str {prog : Program} {w : World} {A : Around} (hh : A.handled = none) (I : Addr) (x : Str) (t : Tok) : Walks prog w A I [I] [I] x.cps.size (SignAt x) (fun i h => h.IsStrIter I (strIterType x) x t i) := by
  unfold strIterType
  split
  · exact Walks.strAscii hh I x t
  · exact Walks.strWide hh I x t
theorem self_str {prog : Program} {w : World} {A : Around} {I : Addr} {x : Str} {t : Tok} {i : Nat} {s : Shared} {Q : Value → Shared → Prop} {E : Value → Shared → Prop} (h : s.heap.IsStrIter I (strIterType x) x t i) (q : Q (.ref I) s) : wpAny (model prog w) A (pyIter (.ref I)) Q E s := by
  unfold strIterType at h
  split at h
  · exact wpAny_pyIter_striter_ascii h q
  · exact wpAny_pyIter_striter_wide h q
theorem turn_str {P : Program} {w : World} {K : PySem.W.Frag} {tg : Expr} (x : Str) (t : Tok) (it : Addr) : Turn P w K tg (Its x) [it] it (fun i h => h.IsStrIter it (strIterType x) x t i) where
  mem := by simp
  obj := fun i h st b hb => by
    have e : b = it := by simpa using hb
    subst e
    obtain ⟨o, e, c, d⟩ := st
    exact ⟨o, e, fun v z => by rw [d] at z; cases z⟩
  keep := fun i h h' st k => let ⟨o, ho, r⟩ := st; ⟨o, k it (by simp) o ho, r⟩
  item := by
    intro X hP hw hK hc i pins s σ H E I hf st hg
    subst hP hw hK
    obtain ⟨f0, f1, f2, f3, f4, f5⟩ := hf it (by simp)
    have W := walks_str (prog := X.prog) (w := X.w) (I.ok.hd hc) it x t
    refine W.item i s _ _ hg st fun v h' tk hv st' kk => ?_
    obtain ⟨c, u, hcu, rfl⟩ := hv
    have I1 : Inv X pins σ H { s with heap := h', toks := tk } := I.turned (fun b o hb e => kk b o (by simpa using hb) e) f0 f1 f3 f4 f5
    obtain ⟨o, e1, e2, e3⟩ := id st'
    refine ⟨_, rfl, go_of (s := { s with heap := h', toks := tk }) (n := strIterType x) e1 e2 e3 (strIter_ok x) ⟨.str ⟨#[c]⟩, H, I1, ⟨u, rfl⟩, ⟨rfl, c, by simpa using hcu, rfl⟩, st', fun b hb => (hf b hb).1⟩⟩
  done := by
    intro X hP hw hK hc i pins s σ H E I hf st hg
    subst hP hw hK
    obtain ⟨f0, f1, f2, f3, f4, f5⟩ := hf it (by simp)
    have hg : i = x.cps.size := hg
    subst hg
    have W := walks_str (prog := X.prog) (w := X.w) (I.ok.hd hc) it x t
    exact W.done s _ _ st fun h' tk kk => ⟨rfl, I.turned (fun b o hb e => kk b o (by simpa using hb) e) f0 f1 f3 f4 f5⟩
  self := fun _ _ _ _ _ st h => self_str st h
def iStr (tl : TE) : TI := fun σ H R => tl σ H fun x H1 => ∃ z, x = .str z ∧ R (Its z) H1
theorem pi_str {X : Cx} {tg l : Expr} {tl : TE} (hl : PE X l tl) : PI X tg l (iStr tl) := by
  intro pins s σ H R I h
  refine thn (hl pins s σ H _ I h) fun v s1 ⟨x, H1, I1, r1, q1⟩ => ?_
  obtain ⟨z, e, q⟩ := q1
  subst e
  obtain ⟨t, rfl⟩ := r1
  refine wpAny_pyIter_strU ?_
  refine ⟨s1.heap.objs.size, [s1.heap.objs.size], _, _, H1, rfl, I1.kept (t' := s1.toks) fun b o e => Heap.get?_push_of_some _ e, turn_str z t _, ⟨_, Heap.get?_push_size _ rfl, rfl, rfl⟩, fun b hb => ?_, q⟩
  have e : b = s1.heap.objs.size := by simpa using hb
  subst e
  exact I1.fpOk (Nat.le_refl _) I1.fresh

/-! ### what is walked, known from the start -/
structure SeqIt (J : It) (Ok : Hp → Prop) (vs : List V) : Prop where
  go : ∀ i H, Ok H → i < vs.length → J.go i H
  yld : ∀ i H x H', Ok H → i < vs.length → J.yld i H x H' → H' = H ∧ vs[i]? = some x
  stop : ∀ H, Ok H → J.stop vs.length H
theorem seq_list {K : PySem.W.Frag} {a : Addr} {xs : List V} : SeqIt (Itl K a) (fun H => SqL K H a xs) xs :=
  ⟨fun i H h hi => ⟨xs, xs[i], h, by simp [hi]⟩, fun i H x H' h _ y => ⟨y.1, y.2 xs h⟩, fun H h => ⟨xs, h, Nat.le_refl _⟩⟩
theorem seq_tup {K : PySem.W.Frag} {a : Addr} {xs : List V} : SeqIt (Itt K a) (fun H => SqT K H a xs) xs :=
  ⟨fun i H h hi => ⟨xs, xs[i], h, by simp [hi]⟩, fun i H x H' h _ y => ⟨y.1, y.2 xs h⟩, fun H h => ⟨xs, h, Nat.le_refl _⟩⟩
theorem seq_str {x : Str} : SeqIt (Its x) (fun _ => True) (x.cps.toList.map fun c => V.str ⟨#[c]⟩) :=
  ⟨fun i H _ hi => (by simpa using hi : i < x.cps.size), fun i H v H' _ _ y => ⟨y.1, by
    obtain ⟨_, c, e1, e2⟩ := y
    rw [List.getElem?_map, e1, e2]
    all_goals rfl⟩, fun H _ => (by simp : (x.cps.toList.map fun c => V.str ⟨#[c]⟩).length = x.cps.size)⟩
theorem for_seq {J : It} {Ok : Hp → Prop} {vs : List V} {g : TG} {tb : TS} {D : Ends} {σ : St} {H : Hp} (S : SeqIt J Ok vs) (Pv : Nat → St → Hp → Prop) (h0 : Pv 0 σ H) (hok : ∀ i σ H, i ≤ vs.length → Pv i σ H → Ok H)
    (hs : ∀ i x σ H, vs[i]? = some x → Pv i σ H → g x σ H fun σ2 H2 => tb { D with nx := Pv (i + 1), ct := Pv (i + 1), bk := D.nx } σ2 H2) (hd : ∀ σ H, Pv vs.length σ H → D.nx σ H) :
    ∃ W : Nat → Nat → St → Hp → Prop, (∃ m, W 0 m σ H) ∧ ∀ i m σ H, W i m σ H →
      (J.stop i H ∧ D.nx σ H) ∨ (J.go i H ∧ ∃ N : St → Hp → Prop, (∀ σ' H', N σ' H' → ∃ m', m' < m ∧ W (i + 1) m' σ' H') ∧ ∀ x H', J.yld i H x H' → g x σ H' fun σ2 H2 => tb { D with nx := N, ct := N, bk := D.nx } σ2 H2) := by
  refine ⟨fun i m σ H => m = vs.length - i ∧ i ≤ vs.length ∧ Pv i σ H, ⟨vs.length, by simp, Nat.zero_le _, h0⟩, ?_⟩
  rintro i m σ H ⟨rfl, hi, p⟩
  have q := hok i σ H hi p
  by_cases hlt : i < vs.length
  · refine .inr ⟨S.go i H q hlt, Pv (i + 1), fun σ' H' p' => ⟨vs.length - (i + 1), by omega, rfl, hlt, p'⟩, fun x H' y => ?_⟩
    obtain ⟨e, yy⟩ := S.yld i H x H' q hlt y
    subst e
    exact hs i x σ _ yy p
  · have e : i = vs.length := by omega
    subst e
    exact .inl ⟨S.stop H q, hd σ H p⟩
/-- a comprehension that changes nothing: p the places kept, F what holds of each new item -/
theorem comp_pure {J : It} {Ok : Hp → Prop} {vs : List V} {js : List Nat} {tt : TT} {te : TE} {σ : St} {H1 : Hp} {Q : VK} (S : SeqIt J Ok vs) (hn : vs.length ≤ 10000) (p : Nat → Bool) (F : Addr → Nat → V → Hp → Prop) (hok : ∀ H, Same H1 H → Ok H)
    (mono : ∀ D i y H H', H1 D = none → (∃ o, H D = some (.lst o)) → (∀ b o, b ≠ D → H b = some o → H' b = some o) → F D i y H → F D i y H')
    (hs : ∀ D i x H (Z0 : Hp → Prop) (Z : V → Hp → Prop), H1 D = none → vs[i]? = some x → Same H1 H → (∃ o, H D = some (.lst o)) → (∀ H2, Same H H2 → p i = false → Z0 H2) → (∀ y H2, Same H H2 → p i = true → F D i y H2 → Z y H2) →
      tt (some x :: caps js σ) H fun b H2 => if b = true then te (some x :: caps js σ) H2 Z else Z0 H2)
    (hd : ∀ D ys H, H1 D = none → H D = some (.lst ys) → Same H1 H → Paired (fun i y => F D i y H) ((List.range vs.length).filter p) ys → Q (.ref D) H) : bComp js tt te σ J H1 Q := by
  intro D hD
  have hz : 10000 < sizeLine := by decide
  refine ⟨fun i m H => m = vs.length - i ∧ i ≤ vs.length ∧ ∃ ys, H D = some (.lst ys) ∧ Same H1 H ∧ Paired (fun i y => F D i y H) ((List.range i).filter p) ys, ⟨vs.length, by simp, Nat.zero_le _, [], upd_same, Same.upd hD, .nil⟩, ?_⟩
  rintro i m H ⟨rfl, hi, ys, hDs, sm, pr⟩
  have q := hok H sm
  by_cases hlt : i < vs.length
  · refine .inr ⟨S.go i H q hlt, fun x H' y => ?_⟩
    obtain ⟨e, yy⟩ := S.yld i H x H' q hlt y
    subst e
    have rng : List.range (i + 1) = List.range i ++ [i] := List.range_succ
    have ln : ys.length ≤ i := by
      have h1 := pr.length
      have h2 : ((List.range i).filter p).length ≤ (List.range i).length := List.length_filter_le _ _
      rw [List.length_range] at h2
      omega
    refine hs D i x H' _ _ hD yy sm ⟨ys, hDs⟩ (fun H2 s2 hp => ?_) (fun z H2 s2 hp hF => ?_)
    · refine ⟨vs.length - (i + 1), by omega, rfl, hlt, ys, s2 _ _ hDs, sm.trans s2, ?_⟩
      rw [rng, List.filter_append, List.filter_cons, if_neg (by rw [hp]; exact Bool.false_ne_true), List.filter_nil, List.append_nil]
      exact Paired.mapP pr fun j z f => mono D j z H' H2 hD ⟨ys, hDs⟩ (fun b o _ e => s2 b o e) f
    · refine ⟨ys, s2 _ _ hDs, by omega, vs.length - (i + 1), by omega, rfl, hlt, ys ++ [z], upd_same, (sm.trans s2).upd2 hD, ?_⟩
      have up : ∀ b o, b ≠ D → H2 b = some o → upd H2 D (.lst (ys ++ [z])) b = some o := fun b o hb e => by rw [upd_ne hb]; exact e
      rw [rng, List.filter_append, List.filter_cons, if_pos hp, List.filter_nil]
      refine Paired.snoc (Paired.mapP pr fun j z' f => ?_) (mono D i z H2 _ hD ⟨ys, s2 _ _ hDs⟩ up hF)
      exact mono D j z' H2 _ hD ⟨ys, s2 _ _ hDs⟩ up (mono D j z' H' H2 hD ⟨ys, hDs⟩ (fun b o _ e => s2 b o e) f)
  · have e : i = vs.length := by omega
    subst e
    exact .inl ⟨S.stop H q, hd D ys H hD hDs sm pr⟩
/-- .. without a test -/
theorem comp_map {J : It} {Ok : Hp → Prop} {vs : List V} {js : List Nat} {te : TE} {σ : St} {H1 : Hp} {Q : VK} (S : SeqIt J Ok vs) (hn : vs.length ≤ 10000) (F : Addr → Nat → V → Hp → Prop) (hok : ∀ H, Same H1 H → Ok H)
    (mono : ∀ D i y H H', H1 D = none → (∃ o, H D = some (.lst o)) → (∀ b o, b ≠ D → H b = some o → H' b = some o) → F D i y H → F D i y H')
    (hs : ∀ D i x H (Z : V → Hp → Prop), H1 D = none → vs[i]? = some x → Same H1 H → (∃ o, H D = some (.lst o)) → (∀ y H2, Same H H2 → F D i y H2 → Z y H2) → te (some x :: caps js σ) H Z)
    (hd : ∀ D ys H, H1 D = none → H D = some (.lst ys) → Same H1 H → Paired (fun i y => F D i y H) (List.range vs.length) ys → Q (.ref D) H) : bComp js tYes te σ J H1 Q := by
  refine comp_pure S hn (fun _ => true) F hok mono (fun D i x H Z0 Z h1 h2 h3 h4 _ k1 => iteT (B := Z0 H) (hs D i x H Z h1 h2 h3 h4 fun y H2 s f => k1 y H2 s rfl f)) fun D ys H h1 h2 h3 pr => hd D ys H h1 h2 h3 ?_
  rw [List.filter_eq_self.mpr (fun _ _ => rfl)] at pr
  exact pr
end L2

namespace L2
open PySem PySem.Spec PyProof.Rows
/-! ### enumerate over a list that stays -/
end L2
namespace L2
open PySem PySem.Spec PyProof.Rows
/-! ### x[lo:hi] of a text -/
def rSlS : V → Option Int → Option Int → Hp → VK → Prop := fun x lo hi H Q => ∃ z, x = .str z ∧ z.length ≤ sizeLine ∧ Q (.str (Txt.slice z lo hi)) H
theorem part_of {v : Value} {o : Option Int} (p : IsPart v o) : ∃ l : Option (Int × Tok), v = partValue l ∧ l.map (·.1) = o := by
  cases p with
  | none => exact ⟨none, rfl, rfl⟩
  | int i t => exact ⟨some (i, t), rfl, rfl⟩
theorem sl_str {X : Cx} : SlR X rSlS := by
  intro pins s σ H x v vl vu lo hi sl Q I rx hs pl pu h
  obtain ⟨z, rfl, hz, q⟩ := h
  obtain ⟨t, rfl⟩ := rx
  obtain ⟨l, rfl, rfl⟩ := part_of pl
  obtain ⟨u, rfl, rfl⟩ := part_of pu
  exact ⟨"str", _, F.slot_str_getitem.lookup, typeIs_str _ _ _, wpAny_getItem_str_slice (l := l) (u := u) (st := none) hs rfl
    (post_val_or_str ⟨Nat.le_trans (Txt.slice_le z _ _) hz, fun t' k => ⟨.str (Txt.slice z _ _), H, I.tok k, ⟨t', rfl⟩, q⟩⟩)⟩
end L2
namespace L2
open PySem PySem.Spec PyProof.Rows
/-- for i in range(n) -/
theorem for_range0 {n : Nat} {g : TG} {tb : TS} {D : Ends} {σ : St} {H : Hp} (Pv : Nat → St → Hp → Prop) (h0 : Pv 0 σ H)
    (hs : ∀ (i : Nat) σ H, i < n → Pv i σ H → g (.int (i : Int)) σ H fun σ2 H2 => tb { D with nx := Pv (i + 1), ct := Pv (i + 1), bk := D.nx } σ2 H2) (hd : ∀ σ H, Pv n σ H → D.nx σ H) :
    ∃ W : Nat → Nat → St → Hp → Prop, (∃ m, W 0 m σ H) ∧ ∀ i m σ H, W i m σ H →
      ((Itr 0 n).stop i H ∧ D.nx σ H) ∨ ((Itr 0 n).go i H ∧ ∃ N : St → Hp → Prop, (∀ σ' H', N σ' H' → ∃ m', m' < m ∧ W (i + 1) m' σ' H') ∧ ∀ x H', (Itr 0 n).yld i H x H' → g x σ H' fun σ2 H2 => tb { D with nx := N, ct := N, bk := D.nx } σ2 H2) :=
  for_range Pv h0 (fun i σ H hi p => by rw [Int.zero_add]; exact hs i σ H hi p) hd
theorem ixN_nat {n k : Nat} (h : k < n) : ixN n (k : Int) = some k := by
  unfold ixN
  rw [if_pos (by omega), if_pos (by omega), Int.toNat_natCast]
theorem Paired.get {α β : Type} {R : α → β → Prop} : ∀ {l : List α} {m : List β} {i : Nat} {y : β}, Paired R l m → m[i]? = some y → ∃ x, l[i]? = some x ∧ R x y
  | _, _, _, _, .nil, e => by simp at e
  | _, _, 0, _, .cons r _, e => by simp at e; subst e; exact ⟨_, rfl, r⟩
  | _, _, i + 1, y, .cons _ t, e => by
    obtain ⟨x, h1, h2⟩ := Paired.get (i := i) (y := y) t (by simpa using e)
    exact ⟨x, by simpa using h1, h2⟩
theorem Paired.unmap {α β γ : Type} {R : α → β → Prop} {g : γ → α} : ∀ {l : List γ} {m : List β}, Paired R (l.map g) m → Paired (fun c y => R (g c) y) l m
  | [], _, h => by cases h; exact .nil
  | _ :: r, _, h => by
    cases h with
    | cons h1 h2 => exact .cons h1 (Paired.unmap h2)
/-- the picked ones are related as the whole lists are -/
theorem Paired.pick {α β : Type} {R : α → β → Prop} : ∀ {cs : List α} {xs : List β} (_ : Paired R cs xs) (q : α → Bool) (p : Nat → Bool) (_ : ∀ i c, cs[i]? = some c → p i = q c) {ys : List β}
    (_ : Paired (fun (i : Nat) y => xs[i]? = some y) ((List.range xs.length).filter p) ys), Paired R (cs.filter q) ys
  | _, _, .nil, q, p, hp, ys, pr => by
    have : ys = [] := by cases pr; rfl
    rw [this]
    exact .nil
  | c :: cs, x :: xs, .cons h t, q, p, hp, ys, pr => by
    have e0 : p 0 = q c := hp 0 c rfl
    rw [List.length_cons, List.range_succ_eq_map, List.filter_cons, List.filter_map] at pr
    have hp' : ∀ i c', cs[i]? = some c' → (p ∘ Nat.succ) i = q c' := fun i c' e => hp (i + 1) c' (by simpa using e)
    rw [List.filter_cons]
    by_cases hq : q c = true
    · rw [e0, if_pos hq] at pr
      rw [if_pos hq]
      cases pr with
      | cons h1 h2 =>
        have h1 : some x = some _ := h1
        cases h1
        exact .cons h (Paired.pick t q (p ∘ Nat.succ) hp' (Paired.mapP (Paired.unmap h2) fun i y e => by simpa using e))
    · rw [e0, if_neg hq] at pr
      rw [if_neg hq]
      exact Paired.pick t q (p ∘ Nat.succ) hp' (Paired.mapP (Paired.unmap pr) fun i y e => by simpa using e)
end L2
namespace L2
open PySem PySem.Spec PyProof.Rows
/-! ### two ways that meet: I holds behind both -/
def tJoin (t : TS) : TS := fun D σ H => ∃ I : St → Hp → Prop, (∀ σ' H', I σ' H' → D.nx σ' H') ∧ t { D with nx := I } σ H
theorem ps_join {X : Cx} {st : Stmt} {t : TS} (h : PS X st t) : PS X st (tJoin t) := by
  intro pins s σ H D I q
  obtain ⟨J, hJ, q⟩ := q
  refine thn (h pins s σ H _ I q) fun f s' hs => ?_
  cases f with
  | next => obtain ⟨σ', H', I', z⟩ := hs; exact ⟨σ', H', I', hJ _ _ z⟩
  | brk => exact hs
  | cont => exact hs
  | ret u => exact hs
end L2

namespace L2
open PySem PySem.Spec PyProof.Rows
/-! ### reversed(t) of a tuple -/
def IsRv (h : Heap) (a l : Addr) (i : Int) : Prop := ∃ o, h.get? a = some o ∧ o.cls = .type "reversed" ∧ o.data = .fields #[.ref l, rawInt i]
theorem IsRv.typeIs {s : Shared} {a l : Addr} {i : Int} (x : IsRv s.heap a l i) : s.TypeIs (.ref a) "reversed" := let ⟨o, ho, hc, _⟩ := x; ⟨o, ho, hc⟩
theorem IsRv.at {h h' : Heap} {a l : Addr} {i : Int} (x : IsRv h a l i) (e : ∀ o, h.get? a = some o → h'.get? a = some o) : IsRv h' a l i := let ⟨o, ho, r⟩ := x; ⟨o, e _ ho, r⟩
section
variable {prog : Program} {w : World} {A : Around} {E : Value → Shared → Prop} {s : Shared}
end
/-! ### x[::-1] of a text -/
end L2

namespace L2
open PySem PySem.Spec PyProof.Rows
/-! ### what stands in the heap, looked up step by step -/
theorem szA {n : Nat} (h : n ≤ 10000) : n ≤ sizeLine := Nat.le_trans h (by decide)
end L2

namespace L2
open PySem PySem.Spec PyProof.Rows
/-! ### sum of a list of whole numbers -/
theorem bt_sum : bootBuiltins "sum" = some (.builtin "sum") := by decide +kernel
theorem preSum_list (is : List Int) : ∀ n, n ≤ is.length → preSum (fun i => (is[i]?).getD 0) n = (is.take n).sum := by
  intro n
  induction n with
  | zero => intro _; rfl
  | succ n ih =>
    intro h
    have e : is[n]? = some (is[n]'(by omega)) := List.getElem?_eq_getElem _
    rw [List.take_add_one, List.sum_append, ← ih (by omega)]
    show preSum _ n + (is[n]?).getD 0 = _
    rw [e]
    simp
theorem call_sumI {X : Cx} (hc : X.calm = true) : CallR X (.builtin "sum") (fun xs H Q => ∃ (a : Addr) (is : List Int), xs = [.ref a] ∧ SqL X.K H a (is.map V.int) ∧ Q (.int is.sum) H) := by
  intro pins s σ H xs us Q I r h
  obtain ⟨l, is, rfl, hq, q⟩ := h
  obtain ⟨u, rfl, ru⟩ := vals1 r
  cases ru
  obtain ⟨its, rv, pl, hz⟩ := I.list hq
  have hl := pl.isList
  have hh : X.A.handled = none := I.ok.hd hc
  have hlt : l < s.heap.objs.size := by obtain ⟨_, e, _⟩ := hl; exact Heap.lt_size e
  have hlen : its.length = is.length := by rw [← rv.length, List.length_map]
  refine call_sum_walkG (wpAny_pyIter_list hl ?_)
  refine ⟨s.heap.objs.size, [s.heap.objs.size, l], [s.heap.objs.size], its.toArray.size, _, _, fun i => (is[i]?).getD 0, rfl, Walks.list (A := X.A.in1) hh _ l (Nat.ne_of_lt hlt) its.toArray,
    ⟨⟨_, Heap.get?_push_size _ rfl, rfl, rfl⟩, hl.push _⟩, fun b hb => ?_, fun i v hP => ?_, fun h' tk t' hk => ?_⟩
  · have z : b = s.heap.objs.size ∨ b = l := by simpa using hb
    show b < (s.heap.push _).objs.size
    rw [size_push']
    rcases z with z | z
    · rw [z]; exact Nat.lt_succ_self _
    · rw [z]; exact Nat.lt_succ_of_lt hlt
  · have hv : its[i]? = some v := by simpa using hP
    have hi : i < is.length := by rw [← hlen]; exact (List.getElem?_eq_some_iff.mp hv).1
    obtain ⟨u', e1, e2⟩ := rv.get (i := i) (x := V.int is[i]) (by simp [hi])
    rw [hv] at e1
    cases e1
    obtain ⟨t, rfl⟩ := e2
    exact ⟨t, by simp [hi]⟩
  · have e : preSum (fun i => (is[i]?).getD 0) its.toArray.size = is.sum := by
      rw [List.size_toArray, hlen, preSum_list is _ (Nat.le_refl _), List.take_length]
    rw [e]
    exact ⟨.int _, H, I.kept fun b o e => LSm.kept_iter hk b o e, ⟨_, rfl⟩, q⟩
end L2

namespace L2
open PySem PySem.Spec PyProof.Rows
/-! ### [elt for x, z in iter if ..]: made of ExtComp by mkc2.py -/
def cxD (X : Cx) (x z : Str) (ns : List Str) (scope : Scope) (cl : List (Str × Addr)) (fp : List Addr) (pins : List (Addr × Obj)) (s : Shared) (H : Hp) : Cx where
  prog := X.prog
  w := X.w
  K := X.K
  mg := X.mg
  base := X.base
  A := X.A
  N := x :: z :: ns
  s₀ := s
  H₀ := H
  env := compEnvC scope cl s.heap.objs.size X.env
  outer := X.stack
  stack := X.stack
  ex := fp
  fn := fun _ => false
  calm := X.calm
  pn := X.pn ++ pins
  xe := fun _ _ => False

def compOk2 (x z : Str) (ns : List Str) (names outer : List (Str × NameKind)) : Bool := compOk x ns names outer && (compOk z ns names outer && x != z)
theorem clos_of2 {X : Cx} {pins : List (Addr × Obj)} {σ : List (Option V)} {H : Hp} {s : Shared} {scope : Scope} {x z : Str} {ns : List Str} (I : Inv X pins σ H s) (hk : scope.kind = .function) (ho : compOk2 x z ns scope.names X.env.scope.names = true) :
    ClosOf X scope (closL X.env.cells scope.names []) ∧ (∀ y ∈ ns, X.env.scope.names.lookup y = some .cell) ∧ (∀ y ∈ ns, (relabel scope X.env).names.lookup y = some .cell ∨ (relabel scope X.env).names.lookup y = some .free) ∧ scope.names.lookup x = some .local ∧ scope.names.lookup z = some .local ∧ (x :: z :: ns).Nodup := by
  unfold compOk2 at ho
  simp only [Bool.and_eq_true, bne_iff_ne] at ho
  obtain ⟨h1, h2, h3⟩ := ho
  obtain ⟨L, hv, hi, hx, hn⟩ := clos_of I hk h1
  obtain ⟨_, _, _, hz, hn2⟩ := clos_of I hk h2
  refine ⟨L, hv, hi, hx, hz, List.nodup_cons.mpr ⟨fun m => ?_, hn2⟩⟩
  rcases List.mem_cons.mp m with e | e
  · exact h3 e
  · exact (List.nodup_cons.mp hn).1 e
theorem inv_comp2 {X : Cx} {pins : List (Addr × Obj)} {σ : St} {H : Hp} {s : Shared} {h' : Heap} {tk : Nat} {x z : Str} {ns : List Str} {js : List Nat} {scope : Scope} {cl : List (Str × Addr)} {fp : List Addr} {m : Str → Option Value} (I : Inv X pins σ H s)
    (L : ClosOf X scope cl) (hj : js.map (fun j => X.N[j]?) = ns.map some) (hvis : ∀ y ∈ ns, X.env.scope.names.lookup y = some .cell)
    (hin : ∀ y ∈ ns, (relabel scope X.env).names.lookup y = some .cell ∨ (relabel scope X.env).names.lookup y = some .free)
    (hf : ∀ b ∈ fp, FpOk X pins H b) (hfl : ∀ b ∈ fp, b < s.heap.objs.size) (hn : h'.Ns s.heap.objs.size m) (hk : ∀ b o, s.heap.get? b = some o → h'.get? b = some o) :
    Inv (cxD X x z ns scope cl fp pins s H) [] (none :: none :: caps js σ) H { s with heap := h', toks := tk } := by
  have len : js.length = ns.length := by have := congrArg List.length hj; simpa using this
  refine ⟨⟨I.ok.mod, L.kind, I.ok.glob, I.ok.blt, Nat.le_refl _, fun y z c h1 h2 => I.ok.inj y z c (L.sub _ _ h1) (L.sub _ _ h2), L.all, fun y c z _ => absurd (show false = true from z) Bool.false_ne_true, I.ok.hd, I.ok.frames, .inl rfl,
    fun b hb => ⟨Nat.ne_of_lt (hfl b hb), fun y c e => (hf b hb).2.2.2.2.1 y c (L.sub _ _ e)⟩, I.bs, Nat.le_trans I.ok.bsz I.sz, fun b o e hb => ?_, fun b hb z => ?_, I.stack, I.stkFree⟩,
    rfl, I.bare, Un.kept hk, ⟨m, hn, fun i y v e1 e2 _ => ?_⟩, fun y c e => ?_, I.fresh, fun y c e => I.freeC y c (L.sub _ _ e), fun p hp => ?_, I.hok.kept hk, ?_⟩
  · rcases (hf b hb).2.2.2.1 with z | z
    · exact I.ok.noex b o e z
    · exact absurd (Nat.lt_of_lt_of_le (Heap.lt_size (I.ok.bs b o e).1) z) (Nat.lt_irrefl _)
  · rcases List.mem_cons.mp (I.stkSub b z) with z | z
    · exact (hf b hb).2.1 z
    · exact (hf b hb).2.2.1 z
  · cases i with
    | zero => cases (show (some none : Option (Option V)) = some (some v) from e2)
    | succ k =>
     cases k with
     | zero => cases (show (some none : Option (Option V)) = some (some v) from e2)
     | succ k =>
      have e1 : ns[k]? = some y := e1
      have e2 : (caps js σ)[k]? = some (some v) := e2
      unfold caps at e2
      rw [List.getElem?_map] at e2
      cases ej : js[k]? with
      | none => rw [ej] at e2; cases e2
      | some j =>
        rw [ej] at e2
        have e2 : (σ[j]?).join = some v := Option.some.inj e2
        have e3 : σ[j]? = some (some v) := by
          cases q : σ[j]? with
          | none => rw [q] at e2; cases e2
          | some o => rw [q] at e2; rw [show o = some v from e2]
        have e4 : X.N[j]? = some y := by
          have q := congrArg (fun l => l[k]?) hj
          simp only [List.getElem?_map, ej, e1, Option.map_some] at q
          exact Option.some.inj q
        have my : y ∈ ns := List.mem_of_getElem? e1
        obtain ⟨m0, hn0, hl⟩ := I.loc
        obtain ⟨u, r, lk⟩ := hl j y v e4 e3 (.inr (.inl (hvis y my)))
        refine ⟨u, r, .inr ⟨hin y my, ?_⟩⟩
        obtain ⟨c, ec⟩ := L.all y (hin y my)
        rcases lk with ⟨k1, _⟩ | ⟨_, c', e5, e6⟩
        · have k2 : X.env.scope.names.lookup y = some .local := k1
          rw [hvis y my] at k2; cases k2
        · have := L.sub _ _ ec
          rw [e5] at this; cases this
          obtain ⟨o, ho, hd⟩ := e6
          exact ⟨c, ec, o, hk _ _ ho, hd⟩
  · obtain ⟨v, o, ho, hd⟩ := I.cell y c (L.sub _ _ e)
    exact ⟨v, o, hk _ _ ho, hd⟩
  · have hp : p ∈ X.pn ++ pins := by
      have hp : p ∈ (X.pn ++ pins) ++ [] := hp
      simpa using hp
    obtain ⟨e, n, nl, nf, d⟩ := I.pin p hp
    refine ⟨hk _ _ e, n, Nat.ne_of_lt (Heap.lt_size e), fun z => ?_, d⟩
    rcases List.mem_cons.mp (I.stkSub _ z) with z | z
    · exact nl z
    · exact nf z
  · show (none :: none :: caps js σ).length = (x :: z :: ns).length
    unfold caps
    rw [List.length_cons, List.length_cons, List.length_cons, List.length_cons, List.length_map, len]

theorem Inv.uncomp2 {X : Cx} {pins pins' : List (Addr × Obj)} {σ σ' : St} {H H' : Hp} {s s' : Shared} {h2 : Heap} {x z : Str} {ns : List Str} {scope : Scope} {cl : List (Str × Addr)} {fp : List Addr} (I : Inv X pins σ H s)
    (hf : ∀ b ∈ fp, FpOk X pins H b) (J : Inv (cxD X x z ns scope cl fp pins s H) pins' σ' H' s') (hk : ∀ b o, b ≠ s.heap.objs.size → s'.heap.get? b = some o → h2.get? b = some o) :
    Inv X pins σ H' { s' with heap := h2 } := by
  have u : Un (frs X.stack) fp H H' s.heap s'.heap := J.base
  have ne : ∀ b o, s.heap.get? b = some o → b ≠ s.heap.objs.size := fun b o e => Nat.ne_of_lt (Heap.lt_size e)
  have fr : H' s.heap.objs.size = none := J.free
  refine I.call' (s' := { s' with heap := h2 }) (ch := fp) J.os ⟨fun b o e n h1 h2 => hk b o (ne b o e) (u.keep b o e n h1 h2), fun b o e n h1 h2 => ?_, u.free, fun b o e hx => ?_, u.tups, u.frzs, u.tbls⟩ (fun b o e => ?_) J.bare
    (fun b hb => ⟨(hf b hb).2.2.2.1, (hf b hb).2.1, (hf b hb).2.2.2.2.1, (hf b hb).2.2.2.2.2⟩)
  · obtain ⟨sl, q⟩ := u.slot b o e n h1 h2
    exact ⟨sl, hk _ _ (ne b o e) q⟩
  · obtain ⟨o', q⟩ := u.there b o e hx
    exact ⟨o', hk _ _ (ne b o e) q⟩
  · refine (J.hok b o e).stay (fun c v hc q => hk c v ?_ q) (fun _ q => q) fun _ _ q => q
    rcases hc with z | z
    · rw [z]; exact ne_of_none e fr
    · exact ne_of_none z fr

def bComp2 (K : PySem.W.Frag) (js : List Nat) (tt : TT) (te : TE) (σ : St) (J : It) (H1 : Hp) (Q : VK) : Prop :=
  ∀ D, H1 D = none → ∃ W : Nat → Nat → Hp → Prop, (∃ m, W 0 m (upd H1 D (.lst []))) ∧ ∀ i m H, W i m H →
    (J.stop i H ∧ Q (.ref D) H) ∨ (J.go i H ∧ ∀ x H', J.yld i H x H' → ∃ a v1 v2, x = .ref a ∧ SqT K H' a [v1, v2] ∧ tt (some v1 :: some v2 :: caps js σ) H' fun b H2 => if b = true then te (some v1 :: some v2 :: caps js σ) H2 fun y H3 => ∃ ys, H3 D = some (.lst ys) ∧ ys.length < sizeLine ∧ ∃ m', m' < m ∧ W (i + 1) m' (upd H3 D (.lst (ys ++ [y])))
      else ∃ m', m' < m ∧ W (i + 1) m' H2)
def tComp2 (K : PySem.W.Frag) (js : List Nat) (wi : TI) (tt : TT) (te : TE) : TE := fun σ H Q => wi σ H fun J H1 => bComp2 K js tt te σ J H1 Q
section
variable {X : Cx} {x z : Str} {px pz tp : Pos} {ck : Nat} {iter elt : Expr} {ifs : List Expr} {scope : Scope} {pos : Pos} {ns : List Str} {js : List Nat} {cl : List (Str × Addr)} {wi : TI} {tt : TT} {te : TE}
theorem comp_block2 {pins : List (Addr × Obj)} {σ : St} {s₂ : Shared} {H₂ : Hp} {it : Addr} {fp : List Addr} {tn : Nat → Heap → Prop} {J : It} {Q : VK} {RR : Value → Addr → Result → Shared → Prop} {E : Value → Shared → Prop}
    (L : ClosOf X scope cl) (hc : X.calm = true) (hj : js.map (fun j => X.N[j]?) = ns.map some) (hvis : ∀ y ∈ ns, X.env.scope.names.lookup y = some .cell)
    (hin : ∀ y ∈ ns, (relabel scope X.env).names.lookup y = some .cell ∨ (relabel scope X.env).names.lookup y = some .free) (hx : scope.names.lookup x = some .local) (hzl : scope.names.lookup z = some .local) (hnd : (x :: z :: ns).Nodup)
    (ht : ∀ fp pins s H, PIf (cxD X x z ns scope cl fp pins s H) ifs tt) (he : ∀ fp pins s H, PE (cxD X x z ns scope cl fp pins s H) elt te)
    (I2 : Inv X pins σ H₂ s₂) (T : Turn X.prog X.w X.K (.Tuple [.Name x px, .Name z pz] ck tp) J fp it tn) (st2 : tn 0 s₂.heap) (f2 : ∀ b ∈ fp, FpOk X pins H₂ b) (hq : bComp2 X.K js tt te σ J H₂ Q)
    (hRR : ∀ D H3 s', (∃ m, s'.heap.Ns (s₂.heap.objs.size + 1) m) → H3 (s₂.heap.objs.size + 1) = none → (∀ h2, (∀ b o, b ≠ s₂.heap.objs.size + 1 → s'.heap.get? b = some o → h2.get? b = some o) → Inv X pins σ H3 { s' with heap := h2 }) → Q (.ref D) H3 → RR (.ref D) (s₂.heap.objs.size + 1) (.ok .next) s') :
    wpAny (model X.prog X.w) X.A (newList []) (fun acc s₃ => wpAny (model X.prog X.w) X.A (newFunctionEnv scope X.env.globals cl [] X.env.qual none .none (some X.env)) (fun cenv s₄ =>
      codeAny (model X.prog X.w) X.A (.compStart (.ListComp elt [⟨.Tuple [.Name x px, .Name z pz] ck tp, iter, ifs, 0⟩] scope pos) 0 (.ref it) acc { cenv with scope := relabel scope X.env }) (RR acc cenv.locals) s₄) E s₃) E s₂ := by
  have hD : H₂ s₂.heap.objs.size = none := I2.fresh
  have I3 : Inv X pins σ (upd H₂ s₂.heap.objs.size (.lst [])) { s₂ with heap := s₂.heap.push { cls := .type "list", data := .seq ([] : List Value).toArray } } := I2.lnew (ys := []) (its := []) (t' := s₂.toks) .nil (Nat.zero_le _)
  obtain ⟨W, ⟨m0, w0⟩, turn⟩ := hq _ hD
  refine wpAny_newObj_type (wpAny_newFunctionEnv L.cell (by intro y hy; simp at hy) (fun h₁ hns₁ hsb₁ => ?_) L.kind)
  have hfl2 : ∀ b ∈ fp, b < s₂.heap.objs.size := fun b hb => let ⟨_, e, _⟩ := T.obj 0 _ st2 b hb; Heap.lt_size e
  have hsz3 : (s₂.heap.push { cls := .type "list", data := .seq ([] : List Value).toArray }).objs.size = s₂.heap.objs.size + 1 := Heap.size_push ..
  have hk3 : ∀ b o, (s₂.heap.push { cls := .type "list", data := .seq ([] : List Value).toArray }).get? b = some o → h₁.get? b = some o := fun b o e => hsb₁.extBut b o (Nat.ne_of_lt (Heap.lt_size e)) (Heap.get?_push_of_some _ e)
  have f3 : ∀ b ∈ fp, FpOk X pins (upd H₂ s₂.heap.objs.size (.lst [])) b := fun b hb => ⟨by rw [upd_ne (Nat.ne_of_lt (hfl2 b hb))]; exact (f2 b hb).1, (f2 b hb).2⟩
  have C0 := inv_comp2 (x := x) (z := z) (tk := s₂.toks + ([] : List (Str × Value)).length) I3 L hj hvis hin f3 (fun b hb => Nat.lt_of_lt_of_le (hfl2 b hb) (by rw [hsz3]; exact Nat.le_succ _)) hns₁ hk3
  have st3 : tn 0 h₁ := T.keep _ _ _ st2 fun b hb o e => hk3 b o (Heap.get?_push_of_some _ e)
  generalize hs3 : ({ s₂ with heap := s₂.heap.push { cls := .type "list", data := .seq ([] : List Value).toArray } } : Shared) = s₃ at *
  have hsz : s₃.heap.objs.size = s₂.heap.objs.size + 1 := by rw [← hs3]; exact hsz3
  have loop : ∀ s₄ : Shared, s₄ = { s₃ with heap := h₁, toks := s₃.toks + ([] : List (Str × Value)).length } →
      codeAny (model X.prog X.w) X.A (.compLoop (.ListComp elt [⟨.Tuple [.Name x px, .Name z pz] ck tp, iter, ifs, 0⟩] scope pos) 0 (.ref it) (.ref s₂.heap.objs.size) (compEnvC scope cl s₃.heap.objs.size X.env)) (RR (.ref s₂.heap.objs.size) s₃.heap.objs.size) s₄ := by
    rintro s₄ rfl
    refine comp_loop_go (fun n s' => ∃ i v v' H', Inv (cxD X x z ns scope cl fp pins s₃ (upd H₂ s₂.heap.objs.size (.lst []))) [] (v :: v' :: caps js σ) H' s' ∧ tn i s'.heap ∧ (∀ b ∈ fp, H' b = none) ∧ W i n H') ?_ m0
      ⟨0, none, none, _, by subst hs3; exact C0, st3, fun b hb => (f3 b hb).1, w0⟩
    rintro n s5 ⟨i, v5, v5b, H5, J5, st5, fr5, w5⟩
    have fpc : ∀ {H' : Hp}, (∀ b ∈ fp, H' b = none) → ∀ b ∈ fp, FpOk (cxD X x z ns scope cl fp pins s₃ (upd H₂ s₂.heap.objs.size (.lst []))) [] H' b := fun hn b hb => by
      refine ⟨hn b hb, ?_, ?_, .inl hb, fun y c e => (f2 b hb).2.2.2.2.1 y c (L.sub _ _ e), fun p hp => ?_⟩
      · show b ≠ s₃.heap.objs.size
        rw [hsz]
        exact Nat.ne_of_lt (Nat.lt_succ_of_lt (hfl2 b hb))
      · intro z
        rcases List.mem_cons.mp (I2.stkSub b z) with z | z
        · exact (f2 b hb).2.1 z
        · exact (f2 b hb).2.2.1 z
      · have hp : p ∈ (X.pn ++ pins) ++ [] := hp
        exact (f2 b hb).2.2.2.2.2 p (by simpa using hp)
    rcases turn i n H5 w5 with ⟨stop, qn⟩ | ⟨go, step⟩
    · refine thn (T.done (cxD X x z ns scope cl fp pins s₃ _) rfl rfl rfl hc i [] s5 _ H5 (fun _ _ => False) J5 (fpc fr5) st5 stop) fun r s6 ⟨hr, J6⟩ => ?_
      subst hr
      show RR _ _ (.ok .next) s6
      rw [hsz]
      refine hRR _ H5 s6 ?_ (by rw [← hsz]; exact J6.free) (fun h2 hk2 => ?_) qn
      · obtain ⟨mm, hn, _⟩ := J6.loc
        exact ⟨mm, by rw [← hsz]; exact hn⟩
      · refine Inv.uncomp2 I3 f3 J6 fun b o hb e => hk2 b o ?_ e
        rw [← hsz]; exact hb
    · refine thn (T.item (cxD X x z ns scope cl fp pins s₃ _) rfl rfl rfl hc i [] s5 _ H5 (fun _ _ => False) J5 (fpc fr5) st5 go) fun r s6 ⟨u, hr, h6⟩ => ?_
      subst hr
      refine thn h6 fun _ s7 ⟨xv, H7, J7, r7, y7, st7, fr7⟩ => ?_
      obtain ⟨av, v1, v2, ea, hsq, hstep⟩ := step xv H7 y7
      have J7' := J7.pinned (fpc fr7) (T.obj _ _ st7)
      have hg : PG (cxD X x z ns scope cl fp pins s₃ (upd H₂ s₂.heap.objs.size (.lst []))) (.Tuple [.Name x px, .Name z pz] ck tp) (gTup X.K 2 (gCons (gName 0) (gCons (gName 1) gNil))) := pg_tup hc (pgs_cons (pg_name hnd rfl (.inl (lookup_relabel_local hx)) (.inr (lookup_relabel_local hx))) (pgs_cons (pg_name hnd rfl (.inl (lookup_relabel_local hzl)) (.inr (lookup_relabel_local hzl))) pgs_nil))
      refine thn (hg _ s7 _ H7 xv u (fun σ' H' => σ' = some v1 :: some v2 :: caps js σ ∧ H' = H7) J7' r7 ⟨av, [v1, v2], ea, hsq, rfl, v1, [v2], rfl, v2, [], rfl, rfl, rfl, rfl⟩) fun _ s8 ⟨σ8, H8, J8, e8, e8'⟩ => ?_
      subst e8 e8'
      have fin : ∀ {H' : Hp} {s' : Shared}, Inv (cxD X x z ns scope cl fp pins s₃ (upd H₂ s₂.heap.objs.size (.lst []))) ([] ++ pinsAt fp s7.heap) (some v1 :: some v2 :: caps js σ) H' s' → (∃ m', m' < n ∧ W (i + 1) m' H') →
          ∃ m', m' < n ∧ ∃ i v v' H', Inv (cxD X x z ns scope cl fp pins s₃ (upd H₂ s₂.heap.objs.size (.lst []))) [] (v :: v' :: caps js σ) H' s' ∧ tn i s'.heap ∧ (∀ b ∈ fp, H' b = none) ∧ W i m' H' := fun {H' s'} J9 ⟨m', hm, w9⟩ => by
        refine ⟨m', hm, i + 1, some v1, some v2, H', J9.unpinned, T.keep _ _ _ st7 fun b hb o e => (J9.pin (b, o) (List.mem_append_right _ (List.mem_append_right _ (mem_pinsAt hb e)))).1, fun b hb => ?_, w9⟩
        obtain ⟨o, e, d⟩ := T.obj _ _ st7 b hb
        exact (J9.pin (b, o) (List.mem_append_right _ (List.mem_append_right _ (mem_pinsAt hb e)))).2.1
      refine thn (ht fp pins s₃ _ _ s8 _ H8 _ J8 hstep) fun ok s9 ⟨H9, J9, q9⟩ => ?_
      cases ok with
      | false =>
        rw [if_neg Bool.false_ne_true] at q9 ⊢
        exact fin J9 q9
      | true =>
        rw [if_pos rfl] at q9 ⊢
        refine thn (he fp pins s₃ _ _ s9 _ H9 _ J9 q9) fun yv s10 ⟨y, H10, J10, r10, ys, hD10, hz, m', hm, w10⟩ => ?_
        refine thn (mt_append _ s10 _ H10 (.ref s₂.heap.objs.size) [y] _ [yv] (fun _ H' => H' = upd H10 s₂.heap.objs.size (.lst (ys ++ [y]))) J10 rfl (.cons r10 .nil) ⟨_, ys, y, rfl, rfl, hD10, hz, rfl⟩) fun _ s11 ⟨_, H11, J11, _, e11⟩ => ?_
        subst e11
        exact fin J11 ⟨m', hm, w10⟩
  have hcl := loop _ rfl
  have e0 : (newEnv scope s₃.heap.objs.size X.env.globals cl X.env.qual none .none (some X.env) 0).locals = s₃.heap.objs.size := rfl
  exact codeAny_compStart_list hcl (T.self _ 0 _ _ _ st3 hcl)
/-- [elt for x in iter if ..] -/
theorem pe_comp2 (hi : PI X (.Tuple [.Name x px, .Name z pz] ck tp) iter wi) (hc : X.calm = true) (hk : scope.kind = .function) (hj : js.map (fun j => X.N[j]?) = ns.map some) (ho : compOk2 x z ns scope.names X.env.scope.names = true)
    (ht : ∀ fp pins s H, PIf (cxD X x z ns scope (closL X.env.cells scope.names []) fp pins s H) ifs tt) (he : ∀ fp pins s H, PE (cxD X x z ns scope (closL X.env.cells scope.names []) fp pins s H) elt te) (hs : ∀ x, foldedSetIterable iter X.env x = pure x := by intro _; rfl) :
    PE X (.ListComp elt [⟨.Tuple [.Name x px, .Name z pz] ck tp, iter, ifs, 0⟩] scope pos) (tComp2 X.K js wi tt te) := by
  intro pins s σ H Q I h
  obtain ⟨L, hvis, hin, hx, hzl, hnd⟩ := clos_of2 I hk ho
  rw [eval_ListComp]
  refine wpAny_comprehension_free (use := none) rfl hs L.clos L.kind L.names (thn (hi pins s σ H _ I h) fun v s1 h1 => thn h1 fun itv s2 h2 => ?_)
  obtain ⟨it, fp, tn, J, H2, e, I2, T, st2, f2, hq⟩ := h2
  subst e
  refine comp_block2 (RR := fun acc C => compPost (model X.prog X.w) X.A X.xe none (EP X pins σ Q) acc C) L hc hj hvis hin hx hzl hnd ht he I2 T st2 f2 hq ?_
  intro D H3 s' ⟨m, hn⟩ hfr hI q
  exact ⟨m, hn, fun h' sb => ⟨.ref D, H3, hI h' fun b o hb e => sb.extBut b o hb e, rfl, q⟩⟩

end

end L2

namespace L2
open PySem PySem.Spec PyProof.Rows
/-- a list of pairs that stays -/
theorem comp_list2 {K K' : PySem.W.Frag} {a : Addr} {xs : List V} {js : List Nat} {tt : TT} {te : TE} {σ : St} {H1 : Hp} {Q : VK} (hn : xs.length ≤ 10000) (ha : SqL K H1 a xs) (p : Nat → Bool) (F : Addr → Nat → V → Hp → Prop)
    (mono : ∀ D i y H H', H1 D = none → (∃ o, H D = some (.lst o)) → (∀ b o, b ≠ D → H b = some o → H' b = some o) → F D i y H → F D i y H')
    (hs : ∀ D i x H (Z0 : Hp → Prop) (Z : V → Hp → Prop), H1 D = none → xs[i]? = some x → Same H1 H → (∃ o, H D = some (.lst o)) → (∀ H2, Same H H2 → p i = false → Z0 H2) → (∀ y H2, Same H H2 → p i = true → F D i y H2 → Z y H2) →
      ∃ b v1 v2, x = .ref b ∧ SqT K' H b [v1, v2] ∧ tt (some v1 :: some v2 :: caps js σ) H fun b H2 => if b = true then te (some v1 :: some v2 :: caps js σ) H2 Z else Z0 H2)
    (hd : ∀ D ys H, H1 D = none → H D = some (.lst ys) → Same H1 H → Paired (fun i y => F D i y H) ((List.range xs.length).filter p) ys → Q (.ref D) H) : bComp2 K' js tt te σ (Itl K a) H1 Q := by
  intro D hD
  have hz : 10000 < sizeLine := by decide
  refine ⟨fun i m H => m = xs.length - i ∧ i ≤ xs.length ∧ ∃ ys, H D = some (.lst ys) ∧ Same H1 H ∧ Paired (fun i y => F D i y H) ((List.range i).filter p) ys, ⟨xs.length, by simp, Nat.zero_le _, [], upd_same, Same.upd hD, .nil⟩, ?_⟩
  rintro i m H ⟨rfl, hi, ys, hDs, sm, pr⟩
  have q := sm.seq ha
  by_cases hlt : i < xs.length
  · refine .inr ⟨⟨xs, _, q, List.getElem?_eq_getElem hlt⟩, fun v H' y => ?_⟩
    obtain ⟨rfl, yy⟩ := y
    have yy := yy xs q
    have rng : List.range (i + 1) = List.range i ++ [i] := List.range_succ
    have ln : ys.length ≤ i := by
      have h1 := pr.length
      have h2 : ((List.range i).filter p).length ≤ (List.range i).length := List.length_filter_le _ _
      rw [List.length_range] at h2
      omega
    have sp : Same H' H' := Same.refl' _
    refine hs D i v _ _ _ hD yy (sm.trans sp) ⟨ys, sp _ _ hDs⟩ (fun H2 s2 hp => ?_) (fun z H2 s2 hp hF => ?_)
    · refine ⟨xs.length - (i + 1), by omega, rfl, hlt, ys, s2 _ _ (sp _ _ hDs), sm.trans (sp.trans s2), ?_⟩
      rw [rng, List.filter_append, List.filter_cons, if_neg (by rw [hp]; exact Bool.false_ne_true), List.filter_nil, List.append_nil]
      exact Paired.mapP pr fun j z f => mono D j z H' H2 hD ⟨ys, hDs⟩ (fun b o _ e => s2 b o (sp b o e)) f
    · refine ⟨ys, s2 _ _ (sp _ _ hDs), by omega, xs.length - (i + 1), by omega, rfl, hlt, ys ++ [z], upd_same, (sm.trans (sp.trans s2)).upd2 hD, ?_⟩
      have up : ∀ b o, b ≠ D → H2 b = some o → upd H2 D (.lst (ys ++ [z])) b = some o := fun b o hb e => by rw [upd_ne hb]; exact e
      rw [rng, List.filter_append, List.filter_cons, if_pos hp, List.filter_nil]
      refine Paired.snoc (Paired.mapP pr fun j z' f => ?_) (mono D i z H2 _ hD ⟨ys, s2 _ _ (sp _ _ hDs)⟩ up hF)
      exact mono D j z' H2 _ hD ⟨ys, s2 _ _ (sp _ _ hDs)⟩ up (mono D j z' H' H2 hD ⟨ys, hDs⟩ (fun b o _ e => s2 b o (sp b o e)) f)
  · have e : i = xs.length := by omega
    subst e
    exact .inl ⟨⟨xs, q, Nat.le_refl _⟩, hd D ys H hD hDs sm pr⟩
end L2

namespace L2
open PySem PySem.Spec PyProof.Rows

/-! ### within a comprehension, the module's objects told by name -/
section
variable {X : Cx} {K : PySem.W.Frag} {a b : Expr} {ta tb : TE} {pos : Pos}
end
end L2

namespace L2
open PySem PySem.Spec PyProof.Rows
/-! ### a def with one default (a constant) -/
structure FunD (K : PySem.W.Frag) (x qual : Str) (st : Stmt) (f : Addr) (fd : FuncData) (d : Value) : Prop where
  ex : ∃ (oc : Value) (od : Option Addr) (T : Addr) (kV doc pm : Value) (an : Option Addr) (cdv ct : Value) (osl : Array (Option Value)),
    fd = PySem.W.fnOf x qual (defArgs st) (defBody st) (defScope st) (.ref T) kV doc pm an cdv ct ∧ K.lookup f = some ⟨oc, od, .func fd, osl⟩ ∧ PySem.W.codeIn K cdv qual = true ∧
    ∃ (od' : Option Addr) (n : Nat) (sl' : Array (Option Value)), K.lookup T = some ⟨.type "tuple", od', .seq #[d] n, sl'⟩
  kp : PySem.W.keepIn K (.ref f) = true
section
variable {P : Program} {w : World} {K : PySem.W.Frag} {mg : Str → Option Value} {base : Heap}
theorem FunD.ok {x qual : Str} {st : Stmt} {f : Addr} {fd : FuncData} {d : Value} {N ps : List Str} {k : Nat} {sp : Sp} (F : FunD K x qual st f fd d) (S : FnScope N ps (defScope st)) (len : ∀ vs H Q E, sp vs H Q E → vs.length = ps.length)
    (hbody : ∀ (cdv : Value) (A : Around) (outer : List Env) (s : Shared) (H : Hp) (vs : List V) (Q : VK) (E : XK), Room k (A.deeper (envOfC qual (defScope st) s.heap.objs.size f cdv)) → sp vs H Q E →
      ∃ t, PSs (cxOf CX0 P w K mg base N qual (defScope st) f cdv A outer s H E).nox (defBody st) t ∧ t { nx := fun _ H' => Q .non H', rt := Q } (start N vs) H) : FnOk P w K mg base CX0 (k + 1) f fd ps sp := by
  obtain ⟨oc, od, T, kV, doc, pm, an, cdv, ct, osl, rfl, lk, hcd, _⟩ := F.ex
  refine fn_of lk hcd S len fun A outer s H vs Q E hr hsp => ?_
  obtain ⟨t, h, q⟩ := hbody cdv A outer s H vs Q E hr hsp
  exact ⟨t, h.nox, q⟩
/-- how its arguments bind; n of them are given -/
theorem FunD.binds {x qual : Str} {st : Stmt} {f : Addr} {fd : FuncData} {d : Value} {ps : List Str} {ds : List Value} (F : FunD K x qual st f fd d)
    (h : ∀ (T : Addr) (kV doc pm : Value) (an : Option Addr) (cdv ct : Value) (s : Shared) (us : List Value) (od' : Option Addr) (n : Nat) (sl' : Array (Option Value)), s.heap.get? T = some ⟨.type "tuple", od', .seq #[d] n, sl'⟩ → (us ++ ds).length = ps.length →
      BindsTo s (PySem.W.fnOf x qual (defArgs st) (defBody st) (defScope st) (.ref T) kV doc pm an cdv ct) ⟨us, []⟩ (ps.zip (us ++ ds))) : Binds K fd ps ds := by
  obtain ⟨oc, od, T, kV, doc, pm, an, cdv, ct, osl, rfl, lk, hcd, od', n, sl', hT⟩ := F.ex
  intro s us KX hl
  exact h T kV doc pm an cdv ct s us od' n sl' (KX _ _ hT) hl
/-! ### a method by its name, a class by its name -/
structure Mt (P : Program) (w : World) (K : PySem.W.Frag) (mg : Str → Option Value) (base : Heap) (C : Addr) (m : Str) (k : Nat) (sp : Sp) (dvs : List V) : Prop where
  cl : Cls K C
  ex : ∃ (f : Addr) (fd : FuncData) (ps : List Str) (ds : List Value), Meth K C m f ∧ FnOk P w K mg base CX0 k f fd ps sp ∧ Binds K fd ps ds ∧ Vals dvs ds
structure Nw (P : Program) (w : World) (K : PySem.W.Frag) (mg : Str → Option Value) (base : Heap) (x : Str) (C : Addr) (k : Nat) (sp : Sp) : Prop where
  ex : ∃ (f : Addr) (fd : FuncData) (ps : List Str), Mk K C f ∧ FnOk P w K mg base CX0 k f fd ps sp ∧ Binds K fd ps [] ∧ mg x = some (.ref C)
end
section
variable {X : Cx} {C : Addr} {x m : Str} {p pos apos : Pos} {e o : Expr} {es : List Expr} {t : TA} {ta : TE} {sp : Sp} {k : Nat} {dvs : List V} {pl : Sem Bool}
theorem pe_mt (M : Mt X.prog X.w X.K X.mg X.base C m k sp dvs) (hr : Room k X.A) (he : PE X o ta) (ha : PA X (e :: es) t)
    (hst : starEach (e :: es) X.env = (false, eval e X.env) :: starEach es X.env := by rfl) (hpl : (backTo pos (starEach es X.env)).any (·.1) = false := by rfl)
    (ht : eval (.Call (.Attribute o m apos) (e :: es) [] pos) X.env = (do
      let ov ← eval o X.env
      standAt apos.atName
      let (f, first) ← holding [ov] (getMethod ov m pl)
      callWith pos f first (backTo pos (starEach (e :: es) X.env)) (backToKw pos (keywordEach [] X.env))) := by rfl) : PE X (.Call (.Attribute o m apos) (e :: es) [] pos) (tMeth C m sp dvs E0 ta t) := by
  obtain ⟨f, fd, ps, ds, hm, G, hb, hd⟩ := M.ex
  exact pe_meth he M.cl hm G hr hb hd pass0 ha hst hpl ht
theorem pe_nw0 (N : Nw X.prog X.w X.K X.mg X.base x C k sp) (hr : Room (k + 1) X.A) (hg : Gl X x) (hdb : (x == ("__debug__" : Str)) = false := by decide) : PE X (.Call (.Name x p) [] [] pos) (tMake C sp [] E0 tNil) := by
  obtain ⟨f, fd, ps, M, G, hb, hm⟩ := N.ex
  exact pe_make0 M G hr hg hm hb .nil pass0 hdb
end
/-! ### x is not False -/
section
variable {X : Cx} {a : Expr} {ta : TE} {pos : Pos}
end
/-! ### within a comprehension: the module's objects told by name -/
section
variable {X : Cx} {K : PySem.W.Frag} {o e : Expr} {es : List Expr} {to : TE} {t : TA} {name : Str} {apos cpos pos : Pos} {T id : String}
theorem pe_bmK {rr : PySem.W.Frag → V → List V → Hp → VK → Prop} (hK : X.K = K) (pa : PlainAttrs T) (slot : Slot T name id) (hty : typeOf (.builtin id) = pure (.type "method_descriptor")) (hm : MtR X id (rr X.K)) (ho : PE X o to) (ha : PA X (e :: es) t)
    (hbase : attributeBase o name X.env (eval o X.env) = eval o X.env := by rfl)
    (hfew : ((backTo cpos (starEach (e :: es) X.env)).all (fun x => !x.1) && (backToKw cpos (keywordEach [] X.env)).all (fun x => x.1.isSome)
      && decide ((e :: es).length + ([] : List Keyword).length + (if ([] : List Keyword).isEmpty then 0 else 1) < 30)) = true := by rfl)
    (hline : (apos.endLine == cpos.line) = true := by rfl) (hs : starEach (e :: es) X.env = (false, eval e X.env) :: starEach es X.env := by rfl) (hplain : (backTo cpos (starEach es X.env)).any (·.1) = false := by rfl) :
    PE X (.Call (.Attribute o name apos) (e :: es) [] cpos) (tBM K T (rr K) to t) := by
  subst hK
  exact pe_bm pa slot hty hm ho ha hbase hfew hline hs hplain
theorem pe_ixK {a i : Expr} {ta ti : TE} {rr : PySem.W.Frag → R2} (hK : X.K = K) (hr : IxR X (rr X.K)) (ha : PE X a ta) (hi : PE X i ti) (hp : PlainIx i) : PE X (.Subscript a i pos) (tOp (rr K) ta ti) := by
  subst hK
  exact pe_ix hr ha hi hp
end
end L2

namespace L2
open PySem PySem.Spec PyProof.Rows
/-! ### sorted(..) of texts: of a list, of a dict by its keys -/
def leS (a b : Str) : Bool := !ltCps b.cps.toList a.cps.toList
theorem leS_iff {a b : Str} : leS a b = true ↔ a.cps.toList ≤ b.cps.toList := by
  unfold leS
  rw [ltCps_eq]
  by_cases h : b.cps.toList < a.cps.toList
  · rw [decide_eq_true h]
    exact ⟨(fun z => nomatch z), (fun z => absurd h (List.not_lt.mpr z))⟩
  · rw [decide_eq_false h]
    exact ⟨fun _ => List.not_lt.mp h, fun _ => rfl⟩
theorem leS_anti {a b : Str} (h1 : leS a b = true) (h2 : leS b a = true) : a = b := by
  have e := List.le_antisymm (leS_iff.mp h1) (leS_iff.mp h2)
  cases a; cases b
  exact congrArg Str.mk (Array.toList_inj.mp e)
theorem leS_trans {a b c : Str} (h1 : leS a b = true) (h2 : leS b c = true) : leS a c = true := leS_iff.mpr (List.le_trans (leS_iff.mp h1) (leS_iff.mp h2))
theorem leS_total (a b : Str) : (leS a b || leS b a) = true := by
  rcases List.le_total a.cps.toList b.cps.toList with h | h
  · rw [leS_iff.mpr h, Bool.true_or]
  · rw [leS_iff.mpr h, Bool.or_true]
def sortS (l : List Str) : List Str := l.mergeSort leS
theorem sortS_perm (l : List Str) : (sortS l).Perm l := List.mergeSort_perm l leS
theorem sortS_up (l : List Str) : (sortS l).Pairwise (fun a b => leS a b = true) := List.pairwise_mergeSort (le := leS) (fun _ _ _ h1 h2 => leS_trans h1 h2) leS_total l
theorem rising_up : ∀ {p : Str} {l : List Str}, risingS p l = true → (p :: l).Pairwise (fun a b => leS a b = true)
  | p, [], _ => List.pairwise_singleton _ _
  | p, x :: r, h => by
    unfold risingS at h
    rw [Bool.and_eq_true] at h
    have ih := rising_up h.2
    have h1 : leS p x = true := h.1
    refine List.Pairwise.cons (fun y hy => ?_) ih
    rcases List.mem_cons.mp hy with z | z
    · rw [z]; exact h1
    · exact leS_trans h1 ((List.pairwise_cons.mp ih).1 y z)
theorem sortedS_up {l : List Str} (h : sortedS l = true) : l.Pairwise (fun a b => leS a b = true) := by
  cases l with
  | nil => exact List.Pairwise.nil
  | cons p r => exact rising_up h
theorem sortS_of {l m : List Str} (hp : l.Perm m) (h : l.Pairwise (fun a b => leS a b = true)) : sortS m = l :=
  (List.Perm.eq_of_pairwise (le := fun a b => leS a b = true) (fun _ _ _ _ => leS_anti) h (sortS_up m) (hp.trans (sortS_perm m).symm)).symm
theorem strs_vals {ss : List Str} : ∀ {us : List Value}, StrsAre us ss → Vals (ss.map V.str) us := by
  induction ss with
  | nil => intro us h; cases h; exact .nil
  | cons x r ih =>
    intro us h
    cases h with
    | cons _ t q => exact .cons ⟨t, rfl⟩ (ih q)
section
variable {X : Cx}
theorem strs_of_keys : ∀ {ss : List Str} {vs : List Value}, vs.length = ss.length → (∀ (j : Nat) (v : Value), vs[j]? = some v → ∃ x t, ss[j]? = some x ∧ v = .str x t) → StrsAre vs ss
  | [], [], _, _ => .nil
  | [], _ :: _, h, _ => by simp at h
  | _ :: _, [], h, _ => by simp at h
  | x :: r, v :: t, h, f => by
    obtain ⟨y, tk, e1, e2⟩ := f 0 v rfl
    simp at e1
    subst e1 e2
    exact .cons _ _ (strs_of_keys (by simpa using h) fun j u hu => by simpa using f (j + 1) u (by simpa using hu))
/-- the keys of a dict, all texts -/
def keysS (kvs : List (Key × V)) : List Str := kvs.map fun q => match q.1 with | .inr x => x | .inl _ => ⟨#[]⟩
def txtKeys (kvs : List (Key × V)) : Prop := ∀ q ∈ kvs, ∃ x, q.1 = Sum.inr x
theorem call_sortedD (hc : X.calm = true) : CallR X (.builtin "sorted") (fun xs H Q => ∃ (a : Addr) (kvs : List (Key × V)), xs = [.ref a] ∧ H a = some (.dK kvs) ∧ txtKeys kvs ∧ kvs.length < 64 ∧ ∀ p, H p = none → Q (.ref p) (upd H p (.lst ((sortS (keysS kvs)).map V.str)))) := by
  intro pins s σ H xs us Q I r h
  obtain ⟨d, kvs, rfl, hd, hk, h64, q⟩ := h
  obtain ⟨u, rfl, ru⟩ := vals1 r
  cases ru
  have h63 : (64 : Nat) ≤ sizeLine := by decide
  obtain ⟨hz, hS, vs, rel, dd⟩ : kvs.length ≤ sizeLine ∧ (d == sysModules) = false ∧ ∃ vs, KV kvs vs ∧ s.heap.DictOf (mixKind X.prog X.w) d vs := I.hok d _ hd
  obtain ⟨ep, hat⟩ := dd.dictAt
  have hlv : vs.length = kvs.length := (Paired.length rel).symm
  have hh : X.A.handled = none := I.ok.hd hc
  refine Calls.call_function_entry kind_sorted plain_sorted entry_sorted (args_sorted1 _) ?_
  unfold Builtin.«sorted»
  refine wpAny_bind (m := checkCount "sorted" 1 1 _) (wpAny_pure ?_)
  refine wpAny_bind (PySem.W.kdu_collect (A := X.A.in1) (PySem.W.kdl_dict (knd := mixKind X.prog X.w) (kvs := vs) (ep := ep) hS) hh hat (by omega) fun h' tk acc hkp hacc => ?_)
  have hl : acc.toList.length = kvs.length := by rw [Array.length_toList, ← hlv]; exact hacc.1
  have hSt : StrsAre acc.toList (keysS kvs) := by
    refine strs_of_keys (by rw [hl]; unfold keysS; rw [List.length_map]) fun j v e => ?_
    obtain ⟨k, x, hx, hkv⟩ := hacc.2 j v (by rw [← Array.getElem?_toList]; exact e)
    obtain ⟨y, hy, e1, _⟩ := Paired.get rel hx
    obtain ⟨z, hz'⟩ := hk y (List.mem_of_getElem? hy)
    have e1 : y.1 = k := e1
    rw [hz'] at e1
    subst e1
    rcases keyIs_shape (show keyIs (Sum.inr z) v = true from hkv) with ⟨i, t, e2, e3⟩ | ⟨x', t, e2, e3⟩
    · cases e2
    · cases e2
      refine ⟨z, t, ?_, e3⟩
      unfold keysS
      rw [List.getElem?_map, hy]
      simp [hz']
  refine wpAny_bind (wpAny_newList ?_ (by rw [hl]; omega))
  have hoL : (h'.push (seqObj "list" acc.toList.toArray 0)).get? h'.objs.size = some (seqObj "list" acc.toList.toArray 0) := Heap.get?_push_size _ rfl
  refine wpAny_bind (wpAny_holding (wpAny_call_entry slot_list_sort ⟨_, hoL, rfl⟩ entry_list_sort (list_sort_treeK strKind_oneLt hoL hSt.keysOf (fun v₁ v₂ rest e => keyKind_strs (by rw [← e]; exact hSt)) (by omega) fun st' hp hs => ⟨_, rfl, ?_⟩) (args_list_sort _)))
  refine wpAny_pure ⟨_, rfl, ?_⟩
  obtain ⟨ss', a1, a2, a3⟩ := sorted_out_str hSt hp hs
  obtain ⟨e, he⟩ := sortedHeap_at (out := (arrOf st').map (·.2)) hoL
  have e1 : sortS (keysS kvs) = ss' := sortS_of a2 (sortedS_up a3)
  have I1 : Inv X pins σ H { s with heap := h', toks := tk } := I.kept hkp
  have hf : H h'.objs.size = none := I1.hok.fresh (Nat.le_refl _)
  refine ⟨.ref h'.objs.size, _, I1.laid (a := h'.objs.size) (o := .lst ((sortS (keysS kvs)).map V.str)) (t' := tk) (fun b o z => ?_) (Nat.le_refl _) ?_, rfl, q _ hf⟩
  · have z : h'.get? b = some o := z
    have hb : b < h'.objs.size := Heap.lt_size z
    rw [sortedHeap_old (Nat.ne_of_lt hb) (by rw [size_push']; exact Nat.lt_succ_of_lt hb), Heap.get?_push_ne _ _ _ (Nat.ne_of_lt hb)]
    exact z
  · have hl2 : (sortS (keysS kvs)).length = kvs.length := by rw [(sortS_perm _).length_eq]; unfold keysS; rw [List.length_map]
    refine ⟨by rw [List.length_map]; omega, ((arrOf st').map (·.2)).toList, e, ?_, by rw [Array.toArray_toList]; exact he⟩
    rw [e1]
    exact strs_vals a1
end
end L2

namespace L2
open PySem PySem.Spec PyProof.Rows
/-! ### one object told otherwise -/
section
variable {X : Cx} {pins : List (Addr × Obj)} {σ : St} {H : Hp} {s : Shared}
theorem Inv.redo {a : Addr} {o u : HO} (I : Inv X pins σ H s) (ha : H a = some o) (new : ObjOk X.prog X.w (upd H a u) s.heap a u) (h0 : ∀ ob v, X.H₀ a ≠ some (.frz ob v)) (h1 : ∀ xs, X.H₀ a ≠ some (.tup xs)) (h2 : ∀ ps, X.H₀ a ≠ some (.tbl ps))
    (n1 : ∀ xs, o ≠ .tup xs) (n2 : ∀ y, o ≠ .own y) : Inv X pins σ (upd H a u) s := by
  have no : ∀ b, H b = none → upd H a u b = none := fun b hb => by rw [upd_ne (fun z => by rw [z, ha] at hb; cases hb)]; exact hb
  refine ⟨I.ok, I.os, I.bare, ⟨I.base.keep, I.base.slot, fun b ob e n hx => no b (I.base.free b ob e n hx), I.base.there, fun b xs e => ?_, fun b ob v e => ?_, fun b ps e => ?_⟩, I.loc, I.cell, no _ I.free, fun x c e => no c (I.freeC x c e), fun p hp => ?_, fun b v q => ?_, I.len⟩
  · rw [upd_ne (fun z => h1 xs (by rw [← z]; exact e))]; exact I.base.tups b xs e
  · rw [upd_ne (fun z => h0 ob v (by rw [← z]; exact e))]; exact I.base.frzs b ob v e
  · rw [upd_ne (fun z => h2 ps (by rw [← z]; exact e))]; exact I.base.tbls b ps e
  · obtain ⟨p1, p2, p3, p4, p5⟩ := I.pin p hp
    exact ⟨p1, no _ p2, p3, p4, p5⟩
  · by_cases hb : b = a
    · subst hb
      rw [upd_same] at q
      cases q
      exact new
    · rw [upd_ne hb] at q
      refine (I.hok b v q).stay (fun c w _ e => e) (fun c e => ?_) fun c xs e => ?_
      · rw [upd_ne (fun z => n2 b (by rw [z, ha] at e; exact Option.some.inj e))]; exact e
      · rw [upd_ne (fun z => n1 xs (by rw [z, ha] at e; exact Option.some.inj e))]; exact e
end
/-! ### a dict that nobody changes while an expression is worked out -/
/-! ### walking a dict's keys -/
def Itd (a : Addr) (ob : Obj) (kvs : List (Key × V)) : It :=
  ⟨fun i H => H a = some (.frz ob (.dK kvs)) ∧ i < kvs.length, fun i H x H' => H' = H ∧ ∃ q, kvs[i]? = some q ∧ x = kV q.1, fun i H => H a = some (.frz ob (.dK kvs)) ∧ i = kvs.length⟩
theorem relK {k : Key} {v : Value} (h : keyIs k v = true) : RelV (kV k) v := by
  rcases keyIs_shape h with ⟨i, t, rfl, rfl⟩ | ⟨x, t, rfl, rfl⟩
  · exact ⟨t, rfl⟩
  · exact ⟨t, rfl⟩
theorem turn_dict {P : Program} {w : World} {K : PySem.W.Frag} {tg : Expr} {a it : Addr} {ob : Obj} {kvs : List (Key × V)} {vs : List (Key × Value)} {ep : Nat} (hne : a ≠ it) (rel : KV kvs vs) (hD : ∀ h : Heap, h.get? a = some ob → h.DictAt (mixKind P w) a vs ep) :
    Turn P w K tg (Itd a ob kvs) [it] it (fun i h => h.IsKeyIter it a i vs.length ep) where
  mem := by simp
  obj := fun i h st b hb => by
    obtain rfl : b = it := by simpa using hb
    obtain ⟨o, e, c, d⟩ := st
    exact ⟨o, e, fun v z => by rw [d] at z; cases z⟩
  keep := fun i h h' st k => st.at fun o e => k it (by simp) o e
  item := by
    intro X hP hw hK hc i pins s σ H E I hf st hg
    subst hP hw hK
    obtain ⟨f0, f1, f2, f3, f4, f5⟩ := hf it (by simp)
    obtain ⟨ha, hi⟩ := hg
    have W := Walks.dictKeys (knd := mixKind X.prog X.w) (A := X.A) (I.ok.hd hc) it a hne vs ep
    have hlv : kvs.length = vs.length := Paired.length rel
    refine W.item i s _ _ (by omega) ⟨st, hD _ (I.hok a _ ha).1⟩ fun v h' tk hv st' kk => ?_
    obtain ⟨k, x, hx, hk⟩ := hv
    obtain ⟨q, hq, e1, _⟩ := Paired.get rel hx
    have I1 : Inv X pins σ H { s with heap := h', toks := tk } := I.turned (fun b o hb e => kk b o (by simpa using hb) e) f0 f1 f3 f4 f5
    obtain ⟨o, e4, e5, e6⟩ := id st'.1
    have hk : keyIs k v = true := hk
    refine ⟨_, rfl, go_of (s := { s with heap := h', toks := tk }) e4 e5 e6 (by decide) ⟨kV k, H, I1, relK hk, ⟨rfl, q, hq, by rw [show q.1 = k from e1]⟩, st'.1, fun b hb => (hf b hb).1⟩⟩
  done := by
    intro X hP hw hK hc i pins s σ H E I hf st hg
    subst hP hw hK
    obtain ⟨f0, f1, f2, f3, f4, f5⟩ := hf it (by simp)
    obtain ⟨ha, hi⟩ := hg
    have W := Walks.dictKeys (knd := mixKind X.prog X.w) (A := X.A) (I.ok.hd hc) it a hne vs ep
    have hlv : kvs.length = vs.length := Paired.length rel
    have hi : i = vs.length := by omega
    subst hi
    exact W.done s _ _ ⟨st, hD _ (I.hok a _ ha).1⟩ fun h' tk kk => ⟨rfl, I.turned (fun b o hb e => kk b o (by simpa using hb) e) f0 f1 f3 f4 f5⟩
  self := fun _ _ _ _ _ st h => wpAny_pyIter_keyiter st h
def iDict (tl : TE) : TI := fun σ H R => tl σ H fun x H1 => ∃ a ob kvs, x = .ref a ∧ H1 a = some (.frz ob (.dK kvs)) ∧ R (Itd a ob kvs) H1
theorem pi_dict {X : Cx} {tg l : Expr} {tl : TE} (hl : PE X l tl) : PI X tg l (iDict tl) := by
  intro pins s σ H R I h
  refine thn (hl pins s σ H _ I h) fun v s1 ⟨x, H1, I1, r1, q1⟩ => ?_
  obtain ⟨a, ob, kvs, rfl, ha, q⟩ := q1
  cases r1
  obtain ⟨hob, hz, hS, vs, rel, dd⟩ := I1.hok a _ ha
  obtain ⟨ep, hat⟩ := dd.dictAt
  have hlt : a < s1.heap.objs.size := Heap.lt_size hob
  refine wpAny_pyIter_dict hS hat ?_
  refine ⟨s1.heap.objs.size, [s1.heap.objs.size], _, _, H1, rfl, I1.kept (t' := s1.toks) fun b o e => Heap.get?_push_of_some _ e, turn_dict (Nat.ne_of_lt hlt) rel (fun h' e => ?_), ⟨_, Heap.get?_push_size _ rfl, rfl, rfl⟩, fun b hb => ?_, q⟩
  · exact hat.at' fun o e' => by rw [hob] at e'; cases e'; exact e
  · obtain rfl : b = s1.heap.objs.size := by simpa using hb
    exact I1.fpOk (Nat.le_refl _) I1.fresh
theorem seq_dict {a : Addr} {ob : Obj} {kvs : List (Key × V)} : SeqIt (Itd a ob kvs) (fun H => H a = some (.frz ob (.dK kvs))) (kvs.map fun q => kV q.1) :=
  ⟨fun i H h hi => ⟨h, by simpa using hi⟩, fun i H x H' h _ y => ⟨y.1, by
    obtain ⟨_, q, e1, e2⟩ := y
    rw [List.getElem?_map, e1, e2]
    rfl⟩, fun H h => ⟨h, by simp⟩⟩
end L2
namespace L2
open PySem PySem.Spec PyProof.Rows
/-! ### a dict that nobody changes while a statement is worked out -/
def tFrzS (t : TS) : TS := fun D σ H => ∃ a kvs, H a = some (.dK kvs) ∧ ∀ ob, t { nx := fun σ' H' => H' a = some (.frz ob (.dK kvs)) ∧ D.nx σ' (upd H' a (.dK kvs)), bk := fun _ _ => False, ct := fun _ _ => False, rt := fun _ _ => False } σ (upd H a (.frz ob (.dK kvs)))
theorem ps_frz {X : Cx} {st : Stmt} {t : TS} (h : PS X st t) : PS X st (tFrzS t) := by
  intro pins s σ H D I hq
  obtain ⟨a, kvs, ha, hq⟩ := hq
  have ok := I.hok a _ ha
  obtain ⟨z, y, vs, r, ob, es, ep, hob, rest⟩ := id ok
  have h0 : ∀ ob v, X.H₀ a ≠ some (.frz ob v) := fun ob v e => by have := I.base.frzs a ob v e; rw [ha] at this; cases this
  have h1 : ∀ xs, X.H₀ a ≠ some (.tup xs) := fun xs e => by have := I.base.tups a xs e; rw [ha] at this; cases this
  have h2 : ∀ ps, X.H₀ a ≠ some (.tbl ps) := fun ps e => by obtain ⟨m, this⟩ := I.base.tbls a ps e; rw [ha] at this; cases this
  have I1 : Inv X pins σ (upd H a (.frz ob (.dK kvs))) s := I.redo ha ⟨hob, ok⟩ h0 h1 h2 (fun _ z => by cases z) (fun _ z => by cases z)
  refine thn (h pins s σ _ _ I1 (hq ob)) fun f s1 hs => ?_
  cases f with
  | next =>
    obtain ⟨σ', H1, J, e1, q⟩ := hs
    exact ⟨σ', upd H1 a (.dK kvs), J.redo e1 (J.hok a _ e1).2 h0 h1 h2 (fun _ z => by cases z) (fun _ z => by cases z), q⟩
  | brk => obtain ⟨_, _, _, q⟩ := hs; exact q.elim
  | cont => obtain ⟨_, _, _, q⟩ := hs; exact q.elim
  | ret u => obtain ⟨_, _, _, _, _, q⟩ := hs; exact q.elim
end L2

namespace L2
open PySem PySem.Spec PyProof.Rows
/-! ### enumerate over a text -/
end L2

namespace L2
open PySem PySem.Spec PyProof.Rows
/-! ### x.upper(), x.lower(), x.index(y) -/
end L2

namespace L2
open PySem PySem.Spec PyProof.Rows
/-! ### text.partition(sep), int(figures) -/
section
variable {X : Cx}
/-- text * number -/
def repS (z : Str) (n : Nat) : Str := ⟨(List.replicate n z.cps.toList).flatten.toArray⟩
theorem foldl_arr (a : Array Nat) : ∀ (n : Nat) (b : Array Nat), ((List.replicate n a).foldl (· ++ ·) b).toList = b.toList ++ (List.replicate n a.toList).flatten
  | 0, b => by simp
  | n + 1, b => by
    rw [List.replicate_succ, List.foldl_cons, foldl_arr a n (b ++ a), List.replicate_succ, List.flatten_cons, Array.toList_append, List.append_assoc]
theorem mul_repS (z : Str) {k : Int} (h : 0 ≤ k) : Txt.mul z k = repS z k.toNat := by
  unfold Txt.mul repS
  by_cases h1 : k < 1
  · have : k = 0 := by omega
    subst this
    rw [if_pos (by decide)]
    rfl
  · rw [if_neg h1]
    split
    · rename_i hc
      rcases (Bool.or_eq_true _ _ ▸ hc : (k == 1) = true ∨ (z.length == 0) = true) with hc | hc
      · have : k = 1 := eq_of_beq hc
        subst this
        simp
      · have hz : z.cps.toList = [] := List.eq_nil_of_length_eq_zero (by have := eq_of_beq hc; simpa [Str.length] using this)
        cases z with
        | mk a =>
          have ha : a = #[] := by simpa using hz
          subst ha
          simp
    · congr 1
      apply Array.toList_inj.mp
      rw [foldl_arr]
      simp
theorem op_repS : OpR X (binaryOp .Mult) (fun x y H Q => ∃ z k, x = .str z ∧ y = .int k ∧ 0 ≤ k ∧ k ≤ 1000 ∧ z.length ≤ 1000 ∧ Q (.str (repS z k.toNat)) H) := by
  intro pins s σ H x y v u Q I rx ry h
  obtain ⟨z, k, rfl, rfl, h0, h1, hz, q⟩ := h
  obtain ⟨t, rfl⟩ := rx
  obtain ⟨t', rfl⟩ := ry
  refine SB.mul ⟨?_, fun hk _ => ?_, fun hk _ => ?_⟩ fun t2 k2 => ⟨.str (repS z k.toNat), H, I.tok _, ⟨t2, by rw [mul_repS z h0]⟩, q⟩
  · rw [Bool.or_eq_false_iff]
    exact ⟨decide_eq_false (by omega), decide_eq_false (by omega)⟩
  · have : (1000 : Int) ≤ (2 ^ 63 - 1) / k := by
      rw [Int.le_ediv_iff_mul_le (by omega)]
      have : 1000 * k ≤ 1000 * 1000 := Int.mul_le_mul_of_nonneg_left h1 (by decide)
      exact Int.le_trans this (by decide)
    omega
  · have : z.length * k.toNat ≤ 1000 * 1000 := Nat.mul_le_mul hz (by omega)
    unfold Builtin.Str.tooLong
    exact decide_eq_false (by have hs : 1000 * 1000 ≤ sizeLine := (by decide); omega)
def rCount : V → List V → Hp → VK → Prop := fun x vs H Q => ∃ y z, x = .str y ∧ vs = [.str z] ∧ Q (.int (Txt.count y z)) H
theorem mt_count : MtR X "str.count" rCount := by
  intro pins s σ H x vs v us Q I rx rv h
  obtain ⟨y, z, rfl, rfl, q⟩ := h
  obtain ⟨t, rfl⟩ := rx
  obtain ⟨u, rfl, t', rfl⟩ := rv.one
  exact SC.count ⟨.int _, H, I.tok _, ⟨_, rfl⟩, q⟩
end
end L2

namespace L2
open PySem PySem.Spec PyProof.Rows
/-! ### arguments without stars -/
def starred : Expr → Bool
  | .Starred .. => true
  | _ => false
theorem star_c {e : Expr} {es : List Expr} {env : Env} (h : starred e = false) : starEach (e :: es) env = (false, eval e env) :: starEach es env := by
  cases e <;> first | rfl | cases h
theorem star_p : ∀ {es : List Expr} {env : Env} {pos : Pos}, es.all (fun e => !starred e) = true → (backTo pos (starEach es env)).any (·.1) = false
  | [], _, _, _ => rfl
  | e :: es, env, pos, h => by
    rw [List.all_cons, Bool.and_eq_true] at h
    rw [star_c (by cases hs : starred e with | false => rfl | true => rw [hs] at h; cases h.1)]
    have ih := star_p (es := es) (env := env) (pos := pos) h.2
    unfold backTo at ih ⊢
    rw [List.map_cons, List.any_cons, ih]
    rfl
theorem pe_tupII {X : Cx} {a b : Int} {j j' k : Nat} {p p' pos : Pos} : PE X (.Tuple [.Constant (.int a) j p, .Constant (.int b) j' p'] k pos) (tTup (tCons (tC (.int a)) (tCons (tC (.int b)) tNil))) :=
  pe_tup (pa_cons pe_int (pa_cons pe_int pa_nil (hs := star_c rfl)) (hs := star_c rfl))
end L2
namespace L2
open PySem PySem.Spec PyProof.Rows
/-! ### the same, kept shut: the types of these don't open by themselves -/
structure LE (X : Cx) (e : Expr) (t : TE) : Prop where
  h : PE X e t
structure LA (X : Cx) (es : List Expr) (t : TA) : Prop where
  h : PA X es t
structure LS (X : Cx) (st : Stmt) (t : TS) : Prop where
  h : PS X st t
structure LSs (X : Cx) (st : List Stmt) (t : TS) : Prop where
  h : PSs X st t
section
variable {X : Cx} {e a b : Expr} {es : List Expr} {te ta tb : TE} {t : TA} {pos : Pos}
theorem la_nil : LA X [] tNil := ⟨pa_nil⟩
theorem la_cons (ha : LE X e te) (hr : LA X es t) (h : starred e = false) : LA X (e :: es) (tCons te t) := ⟨pa_cons ha.h hr.h (star_c h)⟩
theorem le_lst (h : LA X es t) : LE X (.List es pos) (tLst t) := ⟨pe_lst h.h⟩
theorem le_tupII {i k : Int} {j j' n : Nat} {p p' : Pos} : LE X (.Tuple [.Constant (.int i) j p, .Constant (.int k) j' p'] n pos) (tTup (tCons (tC (.int i)) (tCons (tC (.int k)) tNil))) := ⟨pe_tupII⟩
theorem le_ix {r : R2} (hr : IxR X r) (ha : LE X a ta) (hb : PE X b tb) (hs : PlainIx b) : LE X (.Subscript a b pos) (tOp r ta tb) := ⟨pe_ix hr ha.h hb hs⟩
theorem ls_asg {tg : Expr} {g : TG} (he : LE X e te) (hg : PG X tg g) (hs : swapsWithSole [tg] e pos.line X.env = pure false := by rfl) (hw : swappedStores [tg] e X.env = pure none := by rfl)
    (h1 : (assignEach [tg] X.env).map (·.2) = [assign tg X.env] := by rfl) : LS X (.Assign [tg] e pos) (tAsg te g) := ⟨ps_asg he.h hg hs hw h1⟩
theorem lss_cons {st st' : Stmt} {rest : List Stmt} {ts tr : TS} (h : LS X st ts) (hr : PSs X (st' :: rest) tr) : LSs X (st :: st' :: rest) (tSeq ts tr) := ⟨pss_cons h.h hr⟩
end
section
variable {P : Program} {w : World} {K : PySem.W.Frag} {mg : Str → Option Value} {base : Heap}
theorem Fun.okL {x qual : Str} {st : Stmt} {f : Addr} {fd : FuncData} {N ps : List Str} {k : Nat} {sp : Sp} (F : Fun K x qual st f fd) (S : FnScope N ps (defScope st)) (len : ∀ vs H Q E, sp vs H Q E → vs.length = ps.length)
    (hbody : ∀ (cdv : Value) (A : Around) (outer : List Env) (s : Shared) (H : Hp) (vs : List V) (Q : VK) (E : XK), Room k (A.deeper (envOfC qual (defScope st) s.heap.objs.size f cdv)) → sp vs H Q E →
      ∃ t, LSs (cxOf CX0 P w K mg base N qual (defScope st) f cdv A outer s H E).nox (defBody st) t ∧ t { nx := fun _ H' => Q .non H', rt := Q } (start N vs) H) : FnOk P w K mg base CX0 (k + 1) f fd ps sp :=
  F.ok S len fun cdv A outer s H vs Q E hr h => let ⟨t, a, q⟩ := hbody cdv A outer s H vs Q E hr h; ⟨t, a.h, q⟩
end
end L2

namespace L2
open PySem PySem.Spec PyProof.Rows
/-! ### set(list of texts), and its len -/
theorem plain_set_loop : plainId "set.update.loop" = true := by decide +kernel
theorem entry_set_loop : entryFor table "set.update.loop" = some Builtin.«set.update.loop» := entryFor_of_fast (by kernel_rfl)
section
variable {prog : Program} {w : World} {A : Around} {R : Result → Shared → Prop} {I : Addr} {fp wr : List Addr} {n : Nat} {P : Nat → Value → Prop} {St : Nat → Heap → Prop} {KK : Type} [DecidableEq KK] {knd : KeyKind prog w KK}
theorem codeAny_set_loop (W : Walks prog w A.in1 I fp wr n P St) (S : Addr) (hSf : S ∉ fp) (ks : Nat → KK) (hP : ∀ i v, P i v → knd.is (ks i) v = true ∧ v.scannable = true) (hn : n + 1 < scanBound)
    (J : Nat → (KK → Bool) → Nat → Prop) (hJ : ∀ i T c, i < n → J i T c → J (i + 1) (fun k' => T k' || decide (k' = ks i)) (if T (ks i) = true then c else c + 1)) (hc : ∀ i T c, J i T c → c ≤ i) :
    ∀ (k i : Nat) (s : Shared) (T : KK → Bool) (c : Nat), n - i = k → i ≤ n → St i s.heap → J i T c → s.heap.SetOf knd S T c →
    (∀ h' tk T' c', (∀ b o, b ∉ wr → b ≠ S → s.heap.get? b = some o → h'.get? b = some o) → J n T' c' → h'.SetOf knd S T' c' → R (.ok (.ret .none)) { s with heap := h', toks := tk }) →
    codeAny (model prog w) A (.builtin "set.update.loop" ⟨[.ref S, .ref I], []⟩) R s := by
  have hSw : S ∉ wr := fun h => hSf (W.sub _ h)
  intro k
  induction k with
  | zero =>
    intro i s T c hk hi hst hj hS hR
    have hin : i = n := by omega
    subst hin
    refine codeAny_builtin entry_set_loop ?_
    rw [Around.under_plainId plain_set_loop _]
    show wpAny _ A.in1 (pyNext (.ref I) >>= _) _ _ s
    refine wpAny_bind (W.done s _ _ hst fun h' tk hk' => ?_)
    obtain ⟨o, es, ep, t, ho, r⟩ := hS
    exact wpAny_pure (hR h' tk T c (fun b o hb _ e => hk' b o hb e) hj ⟨o, es, ep, t, hk' S o hSw ho, r⟩)
  | succ k ih =>
    intro i s T c hk hi hst hj hS hR
    have hlt : i < n := by omega
    refine codeAny_builtin entry_set_loop ?_
    rw [Around.under_plainId plain_set_loop _]
    show wpAny _ A.in1 (pyNext (.ref I) >>= _) _ _ s
    refine wpAny_bind (W.item i s _ _ hlt hst fun v h' tk hv hst' hk' => ?_)
    have hS' : h'.SetOf knd S T c := by
      obtain ⟨o, es, ep, t, ho, r⟩ := hS
      exact ⟨o, es, ep, t, hk' S o hSw ho, r⟩
    have hci := hc i T c hj
    show wpAny _ A.in1 (holding [v] (setAdd S v) >>= _) _ _ _
    refine wpAny_bind (wpAny_holding ?_)
    unfold setAdd
    refine wpAny_holding ?_
    refine wpAny_bind ((knd.pyHash (hP i v hv).1) ?_)
    refine wpAny_setAddHashed_of (hP i v hv).1 (hP i v hv).2 hS' (by omega) fun h'' hsb hS'' => ?_
    refine wpAny_pure ⟨plainId_quiet plain_set_loop _, ih (i + 1) _ _ _ (by omega) hlt (W.frame _ _ _ hst' fun b hb o e => ?_) (hJ i T c hlt hj) hS'' fun h3 tk3 T' c' hk3 hj3 hS3 => ?_⟩
    · exact hsb.extBut b o (fun z => hSf (z ▸ hb)) e
    · exact hR h3 tk3 T' c' (fun b o hbw hbS e => hk3 b o hbw hbS (hsb.extBut b o hbS (hk' b o hbw e))) hj3 hS3
end
section
variable {prog : Program} {w : World} {A : Around} {E : Value → Shared → Prop} {s : Shared}
def setO (b : Bool) : Obj := { cls := .type "set", dict := none, data := .set #[] 0 (.fresh 0 0 b) }
theorem newCall1 (x : Value) : checkBuiltinCall "set.__new__" ⟨[.type "set", x], []⟩ = pure () := by kernel_rfl
theorem tyCall1 (x : Value) : checkTypeCall "set" ⟨[x], []⟩ = pure () := by kernel_rfl
theorem set_new1 {x : Value} {Z : Value → Shared → Prop} (hq : ∀ b : Bool, Z (.ref s.heap.objs.size) { s with heap := s.heap.push (setO b) }) :
    codeAny (model prog w) A (.call (.builtin "set.__new__") ⟨[.type "set", x], []⟩) (wants Z E) s := by
  refine codeAny_of_tree ?_
  refine wpAny_bind (m := checkBuiltinCall "set.__new__" ⟨[.type "set", x], []⟩) (wpAny_of_eq (newCall1 x) (wpAny_pure ⟨plainId_quiet F.plain_set_new _, codeAny_builtin F.entry_set_new ?_⟩))
  rw [Around.under_plainId F.plain_set_new _]
  unfold Builtin.«set.__new__» Builtin.Frozenset.newClass
  have hb := sub_set_self
  cases s
  dsimp only
  wp_walk
  refine wpAny_askSetting (wpAny_pure ?_)
  dsimp only
  simp only [newObj]
  exact wpAny_bind (wpAny_alloc (wpAny_pure (wpAny_pure (hq _))))
theorem set_chk1 {M : Model} {o x : Value} {Z : Unit → Shared → Prop} (hT : s.TypeIs o "set") (hZ : Z () s) : wpAny M A (checkBuiltinCall "set.__init__" ⟨[o, x], []⟩) Z E s := by
  simp only [checkBuiltinCall, kind_set_init, split_set_init, sig_set_init]
  refine wpAny_bind (wpAny_isInstance hT sub_set_self ?_)
  simp only [Bool.not_true, Bool.false_eq_true, if_false]
  unfold Bind.checkArgs
  dsimp only
  refine wpAny_bind (m := Bind.printed "set" true _ _) (printed_name (by decide) ?_)
  refine wpAny_bind (m := Bind.printed "*" false _ _) (printed_star (self := o) rfl hT fun sh => ?_)
  have e1 : (if (Manifest.Receiver.self == Manifest.Receiver.none) = true then [o, x].length else [o, x].length - 1) = 1 := by simp [show (Manifest.Receiver.self == Manifest.Receiver.none) = false from by decide]
  rw [e1]
  simp only [List.map_nil]
  have e2 : Bind.check ⟨.positional, "set", "*", .self, [⟨"iterable", .posOnly, false⟩]⟩ "set" sh 1 [] = pure () := by
    simp [Bind.check, Bind.checkCount, Bind.isPositional]
    intro z
    exact absurd z (by decide)
  rw [e2]
  exact wpAny_pure hZ
theorem sub_ls : isSubtype (.type "list") (.type "set") = pure false := by rw [isSubtype_type]; kernel_rfl
theorem sub_lf : isSubtype (.type "list") (.type "frozenset") = pure false := by rw [isSubtype_type]; kernel_rfl
theorem upd_list {S p : Addr} {Z : Unit → Shared → Prop} (hL : s.TypeIs (.ref p) "list")
    (h : wpAny (model prog w) A (pyIter (.ref p)) (fun it s1 => wpAny (model prog w) A (runValue (.builtin "set.update.loop" ⟨[.ref S, it], []⟩)) (fun _ s2 => Z () s2) E s1) E s) :
    wpAny (model prog w) A (Builtin.Frozenset.updateFrom "set.__init__" S (.ref p)) Z E s := by
  unfold Builtin.Frozenset.updateFrom Builtin.Frozenset.isAnySet
  generalize pyIter (.ref p) = it at h ⊢
  have s1 := sub_ls
  have s2 := sub_lf
  wp_walk
  exact thn h fun a s' hq => wpAny_bind (thn hq fun _ _ z => wpAny_pure z)
theorem call_set1 {p : Addr} {Q : Value → Shared → Prop} (hL : s.TypeIs (.ref p) "list")
    (h : ∀ b : Bool, wpAny (model prog w) A.in1.in1 (pyIter (.ref p)) (fun it s1 => wpAny (model prog w) A.in1.in1 (runValue (.builtin "set.update.loop" ⟨[.ref s.heap.objs.size, it], []⟩)) (fun _ s2 => Q (.ref s.heap.objs.size) s2) E s1) E { s with heap := s.heap.push (setO b) }) :
    wpAny (model prog w) A (call (.type "set") [.ref p]) Q E s := by
  obtain ⟨c, tl, hmro⟩ := F.called_set.mro
  have hmade := F.called_set.made
  have hsub := F.called_set.sub
  refine wpAny_call (codeAny_of_tree ?_)
  refine wpAny_pure ⟨Code.quiet_builtin _ (by decide +kernel), codeAny_builtin F.entry_type_call ?_⟩
  rw [Around.under_plain (weight_type_call_type "set" [.ref p] []) rfl]
  have h1 := F.called_set.notType
  have h2 := F.called_set.canCreate
  have h3 := tyCall1 (.ref p)
  repeat (any_goals (first | assumption | wp_step))
  refine codeAny_mono (set_new1 (E := E) (Z := fun o s1 => ∃ b : Bool, o = .ref s.heap.objs.size ∧ s1 = { s with heap := s.heap.push (setO b) }) fun b => ⟨b, rfl, rfl⟩) fun r s1 hr => ?_
  rcases r with e | fl
  · exact hr
  · cases fl with
    | ret o =>
      obtain ⟨b, rfl, rfl⟩ := hr
      have hS : (s.heap.push (setO b)).get? s.heap.objs.size = some (setO b) := Heap.get?_push_size _ rfl
      have hT : Shared.TypeIs { s with heap := s.heap.push (setO b) } (.ref s.heap.objs.size) "set" := ⟨_, hS, rfl⟩
      have li := F.called_set.init.lookup
      have bi := F.called_set.init.bind (.ref s.heap.objs.size)
      repeat (any_goals (first | assumption | wp_step))
      refine codeAny_mono (codeAny_call_builtin (R := wants (fun r s2 => r = .none ∧ Q (.ref s.heap.objs.size) s2) E) F.called_set.init.plain F.entry_set_init (set_chk1 hT ?_)) fun r2 s2 hr2 => ?_
      · unfold Builtin.«set.__init__» noKeywords
        have hL2 : Shared.TypeIs { s with heap := s.heap.push (setO b) } (.ref p) "list" := let ⟨o, e, c⟩ := hL; ⟨o, Heap.get?_push_of_some _ e, c⟩
        have s1 := sub_ls
        have s2 := sub_lf
        generalize hU : Builtin.Frozenset.updateFrom "set.__init__" = U
        wp_walk
        subst hU
        exact upd_list hL2 (thn (h b) fun it s1 hz => thn hz fun _ s2 hq => wpAny_pure ⟨rfl, hq⟩)
      · rcases r2 with e | fl
        · exact hr2
        · cases fl with
          | ret r =>
            obtain ⟨rfl, hq⟩ := hr2
            repeat (any_goals (first | assumption | wp_step))
          | _ => exact hr2.elim
    | _ => exact hr.elim
end
end L2

namespace L2
open PySem PySem.Spec PyProof.Rows
def setJ (ss : List Str) (i : Nat) (T : Key → Bool) (c : Nat) : Prop := c ≤ i ∧ (c = i ↔ (ss.take i).Nodup) ∧ ∀ k, T k = true ↔ ∃ x ∈ ss.take i, k = Sum.inr x
def ksOf (ss : List Str) (i : Nat) : Key := Sum.inr ((ss[i]?).getD ⟨#[]⟩)
theorem setJ_step {ss : List Str} {i : Nat} {T : Key → Bool} {c : Nat} (hi : i < ss.length) (h : setJ ss i T c) : setJ ss (i + 1) (fun k' => T k' || decide (k' = ksOf ss i)) (if T (ksOf ss i) = true then c else c + 1) := by
  obtain ⟨h1, h2, h3⟩ := h
  have e : ss[i]? = some ss[i] := List.getElem?_eq_getElem hi
  have ek : ksOf ss i = Sum.inr ss[i] := by unfold ksOf; rw [e]; rfl
  have et : ss.take (i + 1) = ss.take i ++ [ss[i]] := by rw [List.take_add_one, e]; rfl
  have hT : T (ksOf ss i) = true ↔ ss[i] ∈ ss.take i := by
    rw [h3, ek]
    constructor
    · rintro ⟨x, hx, z⟩
      rw [Sum.inr.inj z]
      exact hx
    · exact fun m => ⟨_, m, rfl⟩
  have hN : (ss.take (i + 1)).Nodup ↔ (ss.take i).Nodup ∧ ss[i] ∉ ss.take i := by
    rw [et, List.nodup_append]
    constructor
    · rintro ⟨a, _, c⟩
      exact ⟨a, fun m => c _ m _ (List.mem_singleton.mpr rfl) rfl⟩
    · rintro ⟨a, b⟩
      exact ⟨a, List.nodup_cons.mpr ⟨List.not_mem_nil, List.nodup_nil⟩, fun u hu v hv z => b (by rw [← List.mem_singleton.mp hv, ← z]; exact hu)⟩
  refine ⟨by split <;> omega, ?_, fun k => ?_⟩
  · rw [hN]
    by_cases m : ss[i] ∈ ss.take i
    · rw [if_pos (hT.mpr m)]
      exact ⟨fun z => by omega, fun z => absurd m z.2⟩
    · rw [if_neg (fun z => m (hT.mp z))]
      exact ⟨fun z => ⟨h2.mp (by omega), m⟩, fun z => by have := h2.mpr z.1; omega⟩
  · rw [Bool.or_eq_true, h3, decide_eq_true_iff, ek, et]
    constructor
    · rintro (⟨x, hx, z⟩ | z)
      · exact ⟨x, List.mem_append.mpr (.inl hx), z⟩
      · exact ⟨_, List.mem_append.mpr (.inr (List.mem_singleton.mpr rfl)), z⟩
    · rintro ⟨x, hx, z⟩
      rcases List.mem_append.mp hx with m | m
      · exact .inl ⟨x, m, z⟩
      · rw [List.mem_singleton.mp m] at z
        exact .inr z
def setD (prog : Program) (w : World) (p : Addr) (T : Key → Bool) (c : Nat) : Heap → Prop := fun h => h.SetOf (mixKind prog w) p T c
theorem call_setT {X : Cx} (hc : X.calm = true) : CallR X (.type "set") (fun xs H Q => ∃ (a : Addr) (ss : List Str), xs = [.ref a] ∧ SqL X.K H a (ss.map V.str) ∧ ss.length + 1 < scanBound ∧
    ∀ p T c, H p = none → (c = ss.length ↔ ss.Nodup) → Q (.ref p) (upd H p (.ext (setD X.prog X.w p T c)))) := by
  intro pins s σ H xs us Q I r h
  obtain ⟨l, ss, rfl, hq, hn, q⟩ := h
  obtain ⟨u, rfl, ru⟩ := vals1 r
  cases ru
  obtain ⟨its, rv, pl, hz⟩ := I.list hq
  have hl := pl.isList
  have hh : X.A.handled = none := I.ok.hd hc
  have hlt : l < s.heap.objs.size := by obtain ⟨_, e, _⟩ := hl; exact Heap.lt_size e
  have hlen : its.length = ss.length := by rw [← rv.length, List.length_map]
  refine call_set1 (let ⟨o, e, c, _⟩ := hl; ⟨o, e, c⟩) fun b => ?_
  refine wpAny_pyIter_list (hl.push _) ?_
  refine wpAny_runValue ?_
  have hT : its.toArray.size = ss.length := by rw [List.size_toArray, hlen]
  refine codeAny_set_loop (knd := mixKind X.prog X.w) (Walks.list (A := X.A.in1.in1.in1) hh _ l ?_ its.toArray) s.heap.objs.size ?_ (ksOf ss) (fun i v hP => ?_) (by omega) (setJ ss) (fun i T c hi h => setJ_step (by omega) h) (fun _ _ _ h => h.1)
    its.toArray.size 0 _ (fun _ => false) 0 (by omega) (Nat.zero_le _) ⟨⟨_, Heap.get?_push_size _ rfl, rfl, rfl⟩, (hl.push _).push _⟩ ⟨Nat.le_refl _, ⟨fun _ => List.nodup_nil, fun _ => rfl⟩, fun k => ⟨fun z => (by cases z), fun ⟨x, hx, _⟩ => by cases hx⟩⟩
    ⟨setO b, #[], 0, .fresh 0 0 b, Heap.get?_push_of_some _ (Heap.get?_push_size _ rfl), ⟨rfl, rfl, rfl⟩, rfl, (fun e he => by cases he), (fun k => ⟨fun z => (by cases z), fun ⟨e, he, _⟩ => by cases he⟩), (by decide), rfl, rfl⟩ fun h' tk T c hk hj hS => ?_
  · show l ≠ (s.heap.push (setO b)).objs.size
    rw [size_push']
    exact Nat.ne_of_lt (Nat.lt_succ_of_lt hlt)
  · intro z
    have z : s.heap.objs.size = (s.heap.push (setO b)).objs.size ∨ s.heap.objs.size = l := by simpa using z
    rw [size_push'] at z
    rcases z with z | z
    · exact Nat.ne_of_lt (Nat.lt_succ_self _) z
    · exact Nat.ne_of_lt hlt z.symm
  · have hv : its[i]? = some v := by simpa using hP
    have hi : i < ss.length := by rw [← hlen]; exact (List.getElem?_eq_some_iff.mp hv).1
    obtain ⟨u', e1, e2⟩ := rv.get (i := i) (x := V.str ss[i]) (by simp [hi])
    rw [hv] at e1
    cases e1
    obtain ⟨t, rfl⟩ := e2
    have ek : ksOf ss i = Sum.inr ss[i] := by unfold ksOf; rw [List.getElem?_eq_getElem hi]; rfl
    rw [ek]
    exact ⟨keyIs_str ss[i] t, rfl⟩
  · rw [hT] at hj
    obtain ⟨_, h2, _⟩ := hj
    rw [List.take_length] at h2
    have hS2 := hS
    obtain ⟨o, es, ep, tt, ho, _⟩ := hS2
    refine ⟨.ref s.heap.objs.size, _, I.laid (t' := tk) (fun b' o' e => ?_) ?_ (show ObjOk X.prog X.w _ h' _ (.ext (setD X.prog X.w s.heap.objs.size T c)) from ⟨hS, ⟨o, ho⟩, fun h1 h3 x k => ?_⟩), rfl, q _ T c (I.hok.fresh (Nat.le_refl _)) h2⟩
    · have hb := Heap.lt_size e
      refine hk b' o' (fun z => ?_) (fun z => ?_) (Heap.get?_push_of_some _ (Heap.get?_push_of_some _ e))
      · have z : b' = (s.heap.push (setO b)).objs.size := by simpa using z
        rw [size_push'] at z
        exact Nat.ne_of_lt (Nat.lt_succ_of_lt hb) z
      · exact Nat.ne_of_lt hb z
    · exact Nat.le_refl _
    · obtain ⟨o, es, ep, tt, ho, r⟩ := x
      exact ⟨o, es, ep, tt, k _ ho, r⟩
theorem call_lenS {X : Cx} : CallR X (.builtin "len") (fun xs H Q => ∃ p T c, xs = [.ref p] ∧ H p = some (.ext (setD X.prog X.w p T c)) ∧ Q (.int (c : Nat)) H) := by
  intro pins s σ H xs us Q I r h
  obtain ⟨p, T, c, rfl, hp, q⟩ := h
  obtain ⟨u, rfl, rx⟩ := vals1 r
  cases rx
  obtain ⟨hS, _⟩ := (show ObjOk X.prog X.w H s.heap p (.ext (setD X.prog X.w p T c)) from I.hok p _ hp)
  obtain ⟨o, es, ep, t, ho, hx, hd, _, _, hb, hf, hc⟩ := hS
  have hsb : scanBound ≤ 2 ^ 62 := by decide
  refine call_len_set ho hx hd hf (by omega) ⟨.int (c : Nat), H, (I.tok _).tok _, ⟨s.toks + 1, by rw [hc]⟩, q⟩
theorem bt_set : bootBuiltins "set" = some (.type "set") := by decide +kernel
end L2

namespace L2
open PySem PySem.Spec PyProof.Rows
/-! ### d != {} -/
section
variable {prog : Program} {w : World} {A : Around} {E : Value → Shared → Prop} {s : Shared}
theorem subD : isSubtype (.type "dict") (.type "dict") = pure true := by rw [isSubtype_type]; kernel_rfl
theorem dictOf_typeIs {a : Addr} {xs : List (Key × Value)} (d : s.heap.DictOf (mixKind prog w) a xs) : s.TypeIs (.ref a) "dict" := by
  obtain ⟨o, es, ep, ho, hx, _⟩ := d
  exact ⟨o, ho, hx.1⟩
theorem nil_dne {a b : Addr} {xs ys : List (Key × Value)} {P : Fin → Shared → Prop} (ha : (a == sysModules) = false) (hb : (b == sysModules) = false)
    (dx : s.heap.DictOf (mixKind prog w) a xs) (dy : s.heap.DictOf (mixKind prog w) b ys) (hy : ys.length = 0)
    (h : P (.done (.ret (.bool (!xs.isEmpty)))) s) : wpAny (model prog w) A (Builtin.«dict.__ne__» ⟨[.ref a, .ref b], []⟩) P E s := by
  have hTb := dictOf_typeIs dy
  obtain ⟨oa, ea, pa, ha1, ha2, ha3, ha4, ha5, ha6⟩ := dx
  obtain ⟨ob, eb, pb, hb1, hb2, hb3, hb4, hb5, hb6⟩ := dy
  show wpAny _ _ (isInstance (.ref b) (.type "dict") >>= _) _ _ s
  refine wpAny_bind (wpAny_isInstance hTb subD ?_)
  simp only [Bool.not_true, Bool.false_eq_true, if_false]
  show wpAny _ _ (Builtin.Dict.samePairs _ a b >>= _) _ _ s
  refine wpAny_bind ?_
  unfold Builtin.Dict.samePairs Builtin.Dict.showsAll
  rw [if_neg (by rw [ha]; exact Bool.false_ne_true), if_neg (by rw [hb]; exact Bool.false_ne_true)]
  have sa : ea.size = xs.length := by rw [← Array.length_toList, ha5.length]
  have sb : eb.size = 0 := by rw [← Array.length_toList, hb5.length, hy]
  refine wpAny_bind (wpAny_pure (wpAny_bind (wpAny_pure ?_)))
  refine wpAny_bind (wpAny_dictEntries ha1 ha3 (wpAny_bind (wpAny_dictEntries hb1 hb3 ?_)))
  cases xs with
  | nil =>
    rw [if_neg (by rw [sa, sb]; simp)]
    refine wpAny_bind (wpAny_dictEpoch ha1 ha3 ?_)
    refine wpAny_bind ?_
    rw [Std.Legacy.Range.forIn_eq_forIn_range']
    refine wpAny_forIn_list _ (fun rest r s' => s' = s ∧ r = (none, ()) ∧ rest = []) _ (fun i rest r s' hh => ?_) (fun r s' hh => ?_) _ _ ⟨rfl, rfl, ?_⟩
    · obtain ⟨_, _, z⟩ := hh
      cases z
    · obtain ⟨rfl, rfl, _⟩ := hh
      exact wpAny_pure (wpAny_pure h)
    · simp [Std.Legacy.Range.size, sa]
  | cons x r =>
    rw [if_pos (by rw [sa, sb]; simp)]
    exact wpAny_bind (wpAny_rule (wpAny_pure (wpAny_pure h)))
end
section
variable {X : Cx}
def rNeE : R2 := fun x y H Q => ∃ a b kvs, x = .ref a ∧ y = .ref b ∧ H a = some (.dK kvs) ∧ H b = some (.dK []) ∧ Q (.bl (!kvs.isEmpty)) H
theorem op_neE (hu : X.A.units + 1 < cLine) : OpR X (compareOp .NotEq) rNeE := by
  intro pins s σ H x y v u Q I rx ry h
  obtain ⟨a, b, kvs, rfl, rfl, ha, hb, q⟩ := h
  obtain rfl : v = Value.ref a := rx
  obtain rfl : u = Value.ref b := ry
  obtain ⟨z, hd, vs, rel, dx⟩ := dk_rd I.hok (.inl ha)
  obtain ⟨z', hd', vs', rel', dy⟩ := dk_rd I.hok (.inl hb)
  have e0 : vs'.length = 0 := by rw [← rel'.length]; rfl
  have ee : kvs.isEmpty = vs.isEmpty := by cases rel <;> rfl
  show wpAny _ _ (richCompare .NotEq (.ref a) (.ref b)) _ _ s
  exact wpAny_richCompare_same_room (op := .NotEq) (dictOf_typeIs dx) (dictOf_typeIs dy) F.slot_dict_ne (wpAny_call_entry F.slot_dict_ne (dictOf_typeIs dx) F.entry_dict_ne (nil_dne (A := X.A.in1) hd hd' dx dy e0 ⟨_, rfl, (fun e => nomatch e), .bl (!vs.isEmpty), H, I, rfl, by rw [← ee]; exact q⟩) (F.args_dict_ne_2 _ _)) (by omega)
end
end L2

namespace Cw
open PySem

/-! ### texts by their codes -/
theorem str_ext {x y : Str} (h : x.cps.toList = y.cps.toList) : x = y := by
  cases x; cases y
  exact congrArg Str.mk (Array.toList_inj.mp h)
theorem cs_app (x y : Str) : (x ++ y).cps.toList = x.cps.toList ++ y.cps.toList := by
  show (x.cps ++ y.cps).toList = _
  simp
theorem cs_len (x : Str) : x.cps.toList.length = x.length := by simp [Str.length]

def joinC (c : Nat) : List (List Nat) → List Nat
  | [] => []
  | [x] => x
  | x :: y :: r => x ++ c :: joinC c (y :: r)

theorem join_cs (c : Nat) : ∀ l : List Str, (Str.join ⟨#[c]⟩ l).cps.toList = joinC c (l.map fun x => x.cps.toList)
  | [] => rfl
  | [x] => rfl
  | x :: y :: r => by
    have ih := join_cs c (y :: r)
    show ((x ++ ⟨#[c]⟩ ++ Str.join ⟨#[c]⟩ (y :: r) : Str)).cps.toList = _
    rw [cs_app, cs_app, ih]
    simp [joinC]

theorem cut_inj {c : Nat} : ∀ {x y a b : List Nat}, c ∉ x → c ∉ y → x ++ c :: a = y ++ c :: b → x = y ∧ a = b
  | [], [], a, b, _, _, h => by simpa using h
  | [], z :: y, a, b, _, hy, h => by
    simp at h
    exact absurd (by simp [h.1]) hy
  | z :: x, [], a, b, hx, _, h => by
    simp at h
    exact absurd (by simp [h.1]) hx
  | u :: x, v :: y, a, b, hx, hy, h => by
    simp only [List.cons_append, List.cons.injEq] at h
    obtain ⟨e1, e2⟩ := cut_inj (x := x) (y := y) (fun m => hx (List.mem_cons_of_mem _ m)) (fun m => hy (List.mem_cons_of_mem _ m)) h.2
    exact ⟨by rw [h.1, e1], e2⟩

theorem joinC_inj (c : Nat) : ∀ xs ys : List (List Nat), xs ≠ [] → ys ≠ [] → (∀ x ∈ xs, c ∉ x) → (∀ y ∈ ys, c ∉ y) → joinC c xs = joinC c ys → xs = ys
  | [], _, h, _, _, _, _ => absurd rfl h
  | _, [], _, h, _, _, _ => absurd rfl h
  | [x], [y], _, _, _, _, h => by
    have h : x = y := h
    rw [h]
  | [x], y :: z :: r, _, _, hx, _, h => by
    have h : x = y ++ c :: joinC c (z :: r) := h
    exact absurd (by rw [h]; simp) (hx x (by simp))
  | x :: z :: r, [y], _, _, _, hy, h => by
    have h : x ++ c :: joinC c (z :: r) = y := h
    exact absurd (by rw [← h]; simp) (hy y (by simp))
  | x :: x' :: r, y :: y' :: t, _, _, hx, hy, h => by
    have h : x ++ c :: joinC c (x' :: r) = y ++ c :: joinC c (y' :: t) := h
    obtain ⟨e1, e2⟩ := cut_inj (hx x (by simp)) (hy y (by simp)) h
    have e3 := joinC_inj c (x' :: r) (y' :: t) (by simp) (by simp) (fun z m => hx z (List.mem_cons_of_mem _ m)) (fun z m => hy z (List.mem_cons_of_mem _ m)) e2
    rw [e1, e3]

theorem split_ne (x y : Str) : Txt.split x y ≠ [] := by
  unfold Txt.split
  split
  · simp
  · split
    · simp
    · simp [Builtin.Str.partsBetween]

/-- lines without the sign, joined by it and split again -/
theorem split_join (c : Nat) {l : List Str} (h0 : l ≠ []) (hf : ∀ x ∈ l, c ∉ x.cps.toList) : Txt.split (Str.join ⟨#[c]⟩ l) ⟨#[c]⟩ = l := by
  have e := StrLaws.join_split (Str.join ⟨#[c]⟩ l) ⟨#[c]⟩
  have e1 := congrArg (fun z : Str => z.cps.toList) e
  simp only [join_cs] at e1
  have e2 := joinC_inj c _ _ (by simpa using split_ne _ _) (by simpa using h0) (fun x m => ?_) (fun x m => ?_) e1
  · exact (List.map_inj_right fun a b q => str_ext q).mp e2
  · obtain ⟨p, hp, rfl⟩ := List.mem_map.mp m
    exact StrLaws.split_free _ c p hp
  · obtain ⟨p, hp, rfl⟩ := List.mem_map.mp m
    exact hf p hp
end Cw

namespace Cw
open PySem

/-! ### the script's cells, the drawn sheet -/
def cellAt (ns : List Int) (k : Nat) : Int := ns.getD k 0
/-- a sign of a sheet: a shut cell, a free one, a letter -/
def OkC (c : Nat) : Prop := c = 35 ∨ c = 46 ∨ (97 ≤ c ∧ c ≤ 122)
/-- lines of a sheet -/
structure IsSheet (l : List Str) (w : Nat) : Prop where
  one : 1 ≤ l.length
  nine : l.length ≤ 9
  w1 : 1 ≤ w
  w9 : w ≤ 9
  len : ∀ x ∈ l, x.length = w
  ok : ∀ x ∈ l, ∀ c ∈ x.cps.toList, OkC c
theorem IsSheet.ne {l : List Str} {w : Nat} (S : IsSheet l w) : l ≠ [] := by
  intro e
  have := S.one
  rw [e] at this
  cases this
theorem IsSheet.noLf {l : List Str} {w : Nat} (S : IsSheet l w) : ∀ x ∈ l, 10 ∉ x.cps.toList := fun x m h => by
  have := S.ok x m 10 h
  unfold OkC at this
  omega
theorem IsSheet.split {l : List Str} {w : Nat} (S : IsSheet l w) : Txt.split (Str.join ⟨#[10]⟩ l) ⟨#[10]⟩ = l := split_join 10 S.ne S.noLf

/-- the signs that may stand on a sheet -/
def signs : Str := "#.abcdefghijklmnopqrstuvwxyz"
def letters : Str := "abcdefghijklmnopqrstuvwxyz"
theorem letters_cs : letters.cps.toList = (List.range 26).map (97 + ·) := by decide +kernel
end Cw

namespace Cw
open PySem
/-! ### cells, line by line -/
def cells (h w : Nat) : List (Nat × Nat) := (List.range h).flatMap fun i => (List.range w).map fun j => (i, j)
theorem cells_succ (h w : Nat) : cells (h + 1) w = cells h w ++ (List.range w).map fun j => (h, j) := by
  unfold cells
  rw [List.range_succ, List.flatMap_append]
  simp
theorem cells_len (h w : Nat) : (cells h w).length = h * w := by
  induction h with
  | zero => simp [cells]
  | succ h ih => rw [cells_succ, List.length_append, ih, List.length_map, List.length_range, Nat.succ_mul]
theorem cells_get {w : Nat} : ∀ {h i j : Nat}, i < h → j < w → (cells h w)[i * w + j]? = some (i, j)
  | 0, _, _, hi, _ => absurd hi (Nat.not_lt_zero _)
  | h + 1, i, j, hi, hj => by
    rw [cells_succ]
    by_cases e : i < h
    · have : i * w + j < (cells h w).length := by
        rw [cells_len]
        have h1 : (i + 1) * w ≤ h * w := Nat.mul_le_mul_right w e
        rw [Nat.succ_mul] at h1
        omega
      rw [List.getElem?_append_left this]
      exact cells_get e hj
    · have e : i = h := by omega
      subst e
      rw [List.getElem?_append_right (by rw [cells_len]; omega), cells_len, Nat.add_sub_cancel_left, List.getElem?_map, List.getElem?_range hj]
      rfl
theorem cells_mem {h w : Nat} {c : Nat × Nat} (m : c ∈ cells h w) : c.1 < h ∧ c.2 < w := by
  unfold cells at m
  obtain ⟨i, hi, m⟩ := List.mem_flatMap.mp m
  obtain ⟨j, hj, rfl⟩ := List.mem_map.mp m
  exact ⟨List.mem_range.mp hi, List.mem_range.mp hj⟩
theorem cells_place {h w n : Nat} {c : Nat × Nat} (e : (cells h w)[n]? = some c) : n = c.1 * w + c.2 ∧ c.1 < h ∧ c.2 < w := by
  have hn : n < h * w := by rw [← cells_len]; exact (List.getElem?_eq_some_iff.mp e).1
  have hw : 0 < w := by
    rcases Nat.eq_zero_or_pos w with z | z
    · rw [z] at hn; simp at hn
    · exact z
  have hi : n / w < h := Nat.div_lt_of_lt_mul (by rw [Nat.mul_comm]; exact hn)
  have hj : n % w < w := Nat.mod_lt _ hw
  have q := cells_get hi hj
  have e2 : n / w * w + n % w = n := by rw [Nat.mul_comm]; exact Nat.div_add_mod n w
  rw [e2, e] at q
  cases q
  exact ⟨e2.symm, hi, hj⟩
/-- the cells ahead of place n, and one more -/
theorem cells_take {h w i j : Nat} (hi : i < h) (hj : j < w) : (cells h w).take (i * w + j + 1) = (cells h w).take (i * w + j) ++ [(i, j)] := by
  rw [List.take_add_one, cells_get hi hj]
  rfl
/-! ### the sign in a cell -/
def sg (l : List Str) (c : Nat × Nat) : Nat := ((l.getD c.1 ⟨#[]⟩).cps.toList).getD c.2 0
theorem getD_of {α : Type} {l : List α} {i : Nat} {x d : α} (h : l[i]? = some x) : l.getD i d = x := by rw [List.getD_eq_getElem?_getD, h]; rfl
theorem IsSheet.row {l : List Str} {w : Nat} (S : IsSheet l w) {i : Nat} (hi : i < l.length) : ∃ x, l[i]? = some x ∧ x ∈ l ∧ x.length = w ∧ x.cps.toList.length = w ∧ ∀ j, j < w → x.cps.toList[j]? = some (sg l (i, j)) := by
  refine ⟨l[i], List.getElem?_eq_getElem hi, List.getElem_mem hi, S.len _ (List.getElem_mem hi), by rw [cs_len]; exact S.len _ (List.getElem_mem hi), fun j hj => ?_⟩
  have hl : j < l[i].cps.toList.length := by rw [cs_len, S.len _ (List.getElem_mem hi)]; exact hj
  unfold sg
  rw [getD_of (List.getElem?_eq_getElem hi), List.getElem?_eq_getElem hl]
  simp only [getD_of (List.getElem?_eq_getElem hl)]
def isOpenC (l : List Str) (c : Nat × Nat) : Bool := !decide (sg l c = 35)
def isFreeC (l : List Str) (c : Nat × Nat) : Bool := decide (sg l c = 46)
def openC (l : List Str) (w : Nat) : List (Nat × Nat) := (cells l.length w).filter (isOpenC l)
def freeC (l : List Str) (w : Nat) : List (Nat × Nat) := (cells l.length w).filter (isFreeC l)
theorem cells_small {l : List Str} {w : Nat} (S : IsSheet l w) : (cells l.length w).length ≤ 81 := by
  rw [cells_len]
  exact Nat.mul_le_mul S.nine S.w9
end Cw
namespace Cw
open PySem
/-! ### a sheet with another sign in a cell -/
def setLine (x : Str) (j ch : Nat) : Str := ⟨(x.cps.toList.take j ++ ch :: x.cps.toList.drop (j + 1)).toArray⟩
def setC (l : List Str) (c : Nat × Nat) (ch : Nat) : List Str := l.set c.1 (setLine (l.getD c.1 ⟨#[]⟩) c.2 ch)
theorem setC_len (l : List Str) (c : Nat × Nat) (ch : Nat) : (setC l c ch).length = l.length := by unfold setC; rw [List.length_set]
theorem setLine_len {x : Str} {j ch : Nat} (h : j < x.length) : (setLine x j ch).length = x.length := by
  show (x.cps.toList.take j ++ ch :: x.cps.toList.drop (j + 1)).toArray.size = x.length
  have hl : x.cps.toList.length = x.length := cs_len x
  rw [List.size_toArray, List.length_append, List.length_take, List.length_cons, List.length_drop, hl]
  omega
theorem setLine_get {x : Str} {j ch k : Nat} (h : j < x.length) (hk : k < x.length) : (setLine x j ch).cps.toList[k]? = if k = j then some ch else x.cps.toList[k]? := by
  have hl : x.cps.toList.length = x.length := cs_len x
  have e : (setLine x j ch).cps.toList = x.cps.toList.take j ++ ch :: x.cps.toList.drop (j + 1) := by simp [setLine]
  have ht : (x.cps.toList.take j).length = j := by rw [List.length_take]; omega
  rw [e]
  rcases Nat.lt_trichotomy k j with h1 | h1 | h1
  · rw [if_neg (by omega), List.getElem?_append_left (by omega), List.getElem?_take_of_lt h1]
  · subst h1
    rw [if_pos rfl, List.getElem?_append_right (by omega), ht, Nat.sub_self]
    rfl
  · rw [if_neg (by omega), List.getElem?_append_right (by omega), ht]
    obtain ⟨m, rfl⟩ : ∃ m, k = j + 1 + m := ⟨k - (j + 1), by omega⟩
    rw [show j + 1 + m - j = m + 1 by omega, List.getElem?_cons_succ, List.getElem?_drop]
theorem cuts_glued {x : Str} {j ch : Nat} {a b : Str} (ha : a.cps.toList = x.cps.toList.take j) (hb : b.cps.toList = x.cps.toList.drop (j + 1)) : a ++ ⟨#[ch]⟩ ++ b = setLine x j ch := by
  apply str_ext
  rw [cs_app, cs_app, ha, hb]
  simp [setLine]
end Cw

namespace Cw
open PySem
/-! ### floors -/
/-- grown line by line -/
structure Lines (m : List Str) (w : Nat) : Prop where
  len : ∀ x ∈ m, x.length = w
  ok : ∀ x ∈ m, ∀ c ∈ x.cps.toList, OkC c
theorem Lines.nil (w : Nat) : Lines [] w := ⟨(by simp), (by simp)⟩
theorem Lines.snoc {m : List Str} {w : Nat} (L : Lines m w) {x : Str} (h1 : x.length = w) (h2 : ∀ c ∈ x.cps.toList, OkC c) : Lines (m ++ [x]) w := by
  refine ⟨fun y hy => ?_, fun y hy => ?_⟩
  · rcases List.mem_append.mp hy with z | z
    · exact L.len y z
    · rw [List.mem_singleton.mp z]; exact h1
  · rcases List.mem_append.mp hy with z | z
    · exact L.ok y z
    · rw [List.mem_singleton.mp z]; exact h2
theorem Lines.sheet {m : List Str} {w : Nat} (L : Lines m w) (h1 : 1 ≤ m.length) (h9 : m.length ≤ 9) (w1 : 1 ≤ w) (w9 : w ≤ 9) : IsSheet m w := ⟨h1, h9, w1, w9, L.len, L.ok⟩
theorem IsSheet.lines {m : List Str} {w : Nat} (S : IsSheet m w) : Lines m w := ⟨S.len, S.ok⟩
theorem setLine_ok {x : Str} {j ch : Nat} (h : ∀ c ∈ x.cps.toList, OkC c) (hc : OkC ch) : ∀ c ∈ (setLine x j ch).cps.toList, OkC c := fun c m => by
  have m : c ∈ x.cps.toList.take j ++ ch :: x.cps.toList.drop (j + 1) := by simpa [setLine] using m
  rcases List.mem_append.mp m with z | z
  · exact h c (List.mem_of_mem_take z)
  · rcases List.mem_cons.mp z with z | z
    · rw [z]; exact hc
    · exact h c (List.mem_of_mem_drop z)
theorem setC_sheet {l : List Str} {w : Nat} (S : IsSheet l w) {c : Nat × Nat} {ch : Nat} (h1 : c.1 < l.length) (h2 : c.2 < w) (hc : OkC ch) : IsSheet (setC l c ch) w := by
  obtain ⟨x, hx, mx, lx, lx', hj⟩ := S.row h1
  refine ⟨by rw [setC_len]; exact S.one, by rw [setC_len]; exact S.nine, S.w1, S.w9, fun y my => ?_, fun y my => ?_⟩
  · unfold setC at my
    rcases List.mem_or_eq_of_mem_set my with z | z
    · exact S.len y z
    · rw [z, getD_of hx, setLine_len (by omega), lx]
  · unfold setC at my
    rcases List.mem_or_eq_of_mem_set my with z | z
    · exact S.ok y z
    · rw [z, getD_of hx]
      exact setLine_ok (S.ok x mx) hc
end Cw

namespace Cw
open PySem
/-! ### rows -/
abbrev C2 := Nat × Nat
/-- the cell n steps on -/
def go (c d : C2) (n : Nat) : C2 := (c.1 + n * d.1, c.2 + n * d.2)
def line (c d : C2) (n : Nat) : List C2 := (List.range n).map (go c d)
theorem go_zero (c d : C2) : go c d 0 = c := by simp [go]
theorem go_succ (c d : C2) (n : Nat) : go c d (n + 1) = ((go c d n).1 + d.1, (go c d n).2 + d.2) := by
  simp only [go, Nat.succ_mul, Nat.add_assoc]
theorem line_succ (c d : C2) (n : Nat) : line c d (n + 1) = line c d n ++ [go c d n] := by
  unfold line
  rw [List.range_succ, List.map_append]
  rfl
theorem line_len (c d : C2) (n : Nat) : (line c d n).length = n := by simp [line]
/-- how many open cells lie side by side from c on -/
def runN (op : C2 → Bool) (d : C2) : Nat → C2 → Nat
  | 0, _ => 0
  | f + 1, c => if op c = true then runN op d f (c.1 + d.1, c.2 + d.2) + 1 else 0
theorem runN_of {op : C2 → Bool} {d : C2} : ∀ {f n : Nat} {c : C2}, n < f → (∀ k, k < n → op (go c d k) = true) → op (go c d n) = false → runN op d f c = n
  | 0, _, _, h, _, _ => absurd h (Nat.not_lt_zero _)
  | f + 1, 0, c, _, _, h => by
    rw [go_zero] at h
    unfold runN
    rw [h, if_neg Bool.false_ne_true]
  | f + 1, n + 1, c, hf, hk, h => by
    have h0 := hk 0 (Nat.succ_pos _)
    rw [go_zero] at h0
    have e : ∀ k, go c d (k + 1) = go (c.1 + d.1, c.2 + d.2) d k := fun k => by
      simp only [go, Nat.succ_mul, Prod.mk.injEq]
      omega
    unfold runN
    rw [h0, if_pos rfl, runN_of (f := f) (n := n) (by omega) (fun k q => by rw [← e]; exact hk (k + 1) (by omega)) (by rw [← e]; exact h)]
/-- the cell ahead is open -/
def prevO (op : C2 → Bool) (d c : C2) : Bool := decide (d.1 ≤ c.1) && (decide (d.2 ≤ c.2) && op (c.1 - d.1, c.2 - d.2))
def rowFrom (op : C2 → Bool) (d c : C2) : List C2 := if prevO op d c = true then [] else if runN op d 10 c < 2 then [] else line c d (runN op d 10 c)
abbrev acr (op : C2 → Bool) : C2 → List C2 := rowFrom op (0, 1)
abbrev dwn (op : C2 → Bool) : C2 → List C2 := rowFrom op (1, 0)
/-- a row begins in the cell -/
def isSt (op : C2 → Bool) (c : C2) : Bool := !(acr op c).isEmpty || !(dwn op c).isEmpty
def nSt (op : C2 → Bool) (cs : List C2) : Nat := (cs.filter (isSt op)).length
theorem nSt_snoc (op : C2 → Bool) (cs : List C2) (c : C2) : nSt op (cs ++ [c]) = if isSt op c = true then nSt op cs + 1 else nSt op cs := by
  unfold nSt
  rw [List.filter_append, List.filter_cons, List.filter_nil]
  split
  · rw [List.length_append]; rfl
  · rw [List.append_nil]
/-- the rows that f tells, cell by cell, by number -/
def rowsN (op : C2 → Bool) (f : C2 → List C2) : Nat → List C2 → List (Nat × List C2)
  | _, [] => []
  | n, c :: r => if (f c).isEmpty = true then rowsN op f (if isSt op c = true then n + 1 else n) r else (if isSt op c = true then n + 1 else n, f c) :: rowsN op f (if isSt op c = true then n + 1 else n) r
theorem rowsN_snoc (op : C2 → Bool) (f : C2 → List C2) (c : C2) : ∀ (n : Nat) (cs : List C2), rowsN op f n (cs ++ [c]) =
    rowsN op f n cs ++ if (f c).isEmpty = true then [] else [(if isSt op c = true then n + nSt op cs + 1 else n + nSt op cs, f c)]
  | n, [] => by
    show rowsN op f n [c] = [] ++ _
    unfold rowsN
    simp only [rowsN, List.nil_append]
    rfl
  | n, x :: r => by
    have ih := rowsN_snoc op f c (if isSt op x = true then n + 1 else n) r
    have e : nSt op (x :: r) = (if isSt op x = true then 1 else 0) + nSt op r := by
      unfold nSt
      rw [List.filter_cons]
      split
      · rw [List.length_cons, Nat.add_comm]
      · rw [Nat.zero_add]
    have e2 : (if isSt op x = true then n + 1 else n) + nSt op r = n + nSt op (x :: r) := by
      rw [e]
      split <;> omega
    rw [e2] at ih
    show rowsN op f n (x :: (r ++ [c])) = _
    unfold rowsN
    rw [ih]
    split
    · rfl
    · rfl
theorem st_of_acr {op : C2 → Bool} {c : C2} (h : (acr op c).isEmpty = false) : isSt op c = true := by unfold isSt; rw [h]; rfl
theorem st_of_dwn {op : C2 → Bool} {c : C2} (h : (dwn op c).isEmpty = false) : isSt op c = true := by unfold isSt; rw [h]; simp
/-- each row's number is the place of its first cell among those that begin rows -/
theorem rowsN_mem {op : C2 → Bool} {f : C2 → List C2} (hf : ∀ c, (f c).isEmpty = false → isSt op c = true) : ∀ {n : Nat} {cs : List C2} {q : Nat × List C2}, q ∈ rowsN op f n cs →
    n < q.1 ∧ ∃ c, (cs.filter (isSt op))[q.1 - n - 1]? = some c ∧ c ∈ cs ∧ q.2 = f c ∧ (f c).isEmpty = false
  | n, [], q, h => by simp [rowsN] at h
  | n, x :: r, q, h => by
    unfold rowsN at h
    have step : q ∈ rowsN op f (if isSt op x = true then n + 1 else n) r → n < q.1 ∧ ∃ c, ((x :: r).filter (isSt op))[q.1 - n - 1]? = some c ∧ c ∈ x :: r ∧ q.2 = f c ∧ (f c).isEmpty = false := fun h => by
      obtain ⟨h1, c, h2, h3, h4⟩ := rowsN_mem hf h
      rw [List.filter_cons]
      by_cases e : isSt op x = true
      · rw [if_pos e] at h1 h2 ⊢
        refine ⟨by omega, c, ?_, List.mem_cons_of_mem _ h3, h4⟩
        have : q.1 - n - 1 = (q.1 - (n + 1) - 1) + 1 := by omega
        rw [this, List.getElem?_cons_succ]
        exact h2
      · rw [if_neg e] at h1 h2 ⊢
        exact ⟨h1, c, h2, List.mem_cons_of_mem _ h3, h4⟩
    split at h
    · exact step h
    · rename_i he
      rcases List.mem_cons.mp h with z | z
      · have he : (f x).isEmpty = false := Bool.eq_false_iff.mpr he
        have hx := hf x he
        subst z
        rw [if_pos hx]
        refine ⟨Nat.lt_succ_self _, x, ?_, List.mem_cons_self, rfl, he⟩
        rw [List.filter_cons, if_pos hx, show n + 1 - n - 1 = 0 by omega]
        rfl
      · exact step z
/-! ### cells side by side that are open -/
def opB (l : List Str) (w : Nat) (c : C2) : Bool := decide (c.1 < l.length) && (decide (c.2 < w) && isOpenC l c)
theorem opB_in {l : List Str} {w : Nat} {c : C2} (h : opB l w c = true) : c.1 < l.length ∧ c.2 < w ∧ isOpenC l c = true := by
  unfold opB at h
  simp only [Bool.and_eq_true, decide_eq_true_eq] at h
  exact ⟨h.1, h.2.1, h.2.2⟩
theorem opB_of {l : List Str} {w : Nat} {c : C2} (h1 : c.1 < l.length) (h2 : c.2 < w) : opB l w c = isOpenC l c := by
  unfold opB
  rw [decide_eq_true h1, decide_eq_true h2, Bool.true_and, Bool.true_and]
def rowsA (l : List Str) (w : Nat) : List (Nat × List C2) := rowsN (opB l w) (acr (opB l w)) 0 (openC l w)
def rowsD (l : List Str) (w : Nat) : List (Nat × List C2) := rowsN (opB l w) (dwn (opB l w)) 0 (openC l w)
end Cw

namespace Cw
open PySem L2
def top (i : Nat) : Stmt := PySem.Challenge.pw_crosswright_k22_what_is_a_filling.main.body.getD i (.Pass ⟨0, 0, 0, 0⟩)
/-- names that the text leaves to the builtins -/
structure Bl (mg : Str → Option Value) : Prop where
  len_ : mg "len" = none
  range_ : mg "range" = none
  tuple_ : mg "tuple" = none
  list_ : mg "list" = none
  str_ : mg "str" = none
  isinstance_ : mg "isinstance" = none
  all_ : mg "all" = none
  sum_ : mg "sum" = none
  set_ : mg "set" = none
  bool_ : mg "bool" = none
  int_ : mg "int" = none
  sorted_ : mg "sorted" = none
section
variable {P : Program} {w : World} {K : PySem.W.Frag} {mg : Str → Option Value} {base : Heap} {f : Addr} {fd : FuncData}
/-! ### the drawn cells -/
def spCell (K : PySem.W.Frag) : Sp := fun vs H Q _ => ∃ (a : Addr) (ns : List Int) (k : Nat), vs = [.ref a, .int k] ∧ SqL K H a (ns.map V.int) ∧ Q (.int (cellAt ns k)) H
theorem get_cell {ns : List Int} {k : Nat} (h : k < ns.length) : (ns.map V.int)[k]? = some (.int (cellAt ns k)) := by
  rw [List.getElem?_map, List.getElem?_eq_getElem h]
  simp [cellAt, h]
theorem sc_law_cell_at : FnScope ["_law_script", "_law_k"] ["_law_script", "_law_k"] (defScope (top 34)) := ⟨rfl, rfl, rfl, by decide +kernel, rfl, by decide +kernel, by decide +kernel⟩
theorem ok_cell (B : Bl mg) (F : Fun K "_law_cell_at" "_law_cell_at" (top 34) f fd) : FnOk P w K mg base CX0 1 f fd ["_law_script", "_law_k"] (spCell K) := by
  refine F.ok sc_law_cell_at (fun vs H Q E h => ?_) (fun cdv A outer s H vs Q E hr h => ?_)
  · obtain ⟨a, ns, k, rfl, _⟩ := h
    rfl
  · obtain ⟨a, ns, k, rfl, hS, q⟩ := h
    refine ⟨_, (pss_cons (ps_if (pt_cmpR op_lt (pv 1) (pe_callB call_len_seq (by rfl) B.len_ bt_len (pa_cons (pv 0) pa_nil)) (nomark _))
      (pss_one (ps_ret (pe_ix ix_list (pv 0) (pv 1) (fun _ _ => rfl))))
      pss_nil)
      (pss_one (ps_ret pe_int))), ?_⟩
    refine ⟨_, rfl, _, rfl, a, _, rfl, .inl hS, _, _, rfl, rfl, _, rfl, ite2 (fun h => ?_) (fun h => ?_)⟩
    · have h : (k : Int) < ((ns.map V.int).length : Int) := of_decide_eq_true h
      rw [List.length_map] at h
      exact ⟨_, rfl, _, rfl, a, _, _, _, rfl, rfl, hS, atI_nat (get_cell (by omega)), q⟩
    · have h : ¬ (k : Int) < ((ns.map V.int).length : Int) := fun z => h (decide_eq_true z)
      rw [List.length_map] at h
      have e : cellAt ns k = 0 := by
        unfold cellAt
        rw [List.getD_eq_getElem?_getD, List.getElem?_eq_none (by omega)]
        rfl
      rw [e] at q
      exact q
end
end Cw
namespace Cw
open PySem L2
/-! ### cells in the heap -/
def CellAt (H : Hp) (c : Nat × Nat) (x : V) : Prop := ∃ a, x = .ref a ∧ H a = some (.tup [.int c.1, .int c.2])
abbrev CellsAt (H : Hp) (cs : List (Nat × Nat)) (xs : List V) : Prop := Paired (CellAt H) cs xs
theorem CellAt.mono {H H' : Hp} {c : Nat × Nat} {x : V} (s : Same H H') (h : CellAt H c x) : CellAt H' c x := let ⟨a, e, q⟩ := h; ⟨a, e, s _ _ q⟩
theorem CellAt.off {H H' : Hp} {D : Addr} {c : Nat × Nat} {x : V} (hD : ∃ o, H D = some (.lst o)) (k : ∀ b o, b ≠ D → H b = some o → H' b = some o) (h : CellAt H c x) : CellAt H' c x := by
  obtain ⟨a, e, q⟩ := h
  obtain ⟨o, hD⟩ := hD
  exact ⟨a, e, k a _ (ne_of q hD (by intro z; cases z)) q⟩
theorem CellsAt.mono {H H' : Hp} {cs : List (Nat × Nat)} {xs : List V} (s : Same H H') (h : CellsAt H cs xs) : CellsAt H' cs xs := Paired.mapP h fun _ _ q => q.mono s
theorem CellsAt.off {H H' : Hp} {D : Addr} {cs : List (Nat × Nat)} {xs : List V} (hD : ∃ o, H D = some (.lst o)) (k : ∀ b o, b ≠ D → H b = some o → H' b = some o) (h : CellsAt H cs xs) : CellsAt H' cs xs := Paired.mapP h fun _ _ q => q.off hD k
theorem dec_str1 (n m : Nat) : decide (V.str ⟨#[n]⟩ = V.str ⟨#[m]⟩) = decide (n = m) := by
  by_cases h : n = m
  · rw [h, decide_eq_true rfl, decide_eq_true rfl]
  · rw [decide_eq_false h, decide_eq_false]
    intro z
    injection z with z
    injection z with z
    have z : [n] = [m] := by simpa using congrArg Array.toList z
    exact h (List.cons.inj z).1
theorem shutS : ("#" : Str) = ⟨#[35]⟩ := by decide +kernel
theorem freeS : ("." : Str) = ⟨#[46]⟩ := by decide +kernel
section
variable {P : Program} {w : World} {K : PySem.W.Frag} {mg : Str → Option Value} {base : Heap} {f : Addr} {fd : FuncData}
theorem sz1_le {n : Nat} (h : n ≤ 10000) : n ≤ sizeLine := Nat.le_trans h (by decide)
theorem sz1_lt {n : Nat} (h : n ≤ 10000) : n < sizeLine := Nat.lt_of_le_of_lt h (by decide)
theorem row_at {l : List Str} {i : Nat} {x : Str} (h : l[i]? = some x) : atI (l.map V.str) (i : Int) = some (.str x) := atI_nat (by rw [List.getElem?_map, h]; rfl)
def spSign (K : PySem.W.Frag) : Sp := fun vs H Q _ => ∃ (a b : Addr) (l : List Str) (w : Nat) (c : Nat × Nat), vs = [.ref a, .ref b] ∧ SqT K H a (l.map V.str) ∧ IsSheet l w ∧ SqT K H b [.int c.1, .int c.2] ∧ c.1 < l.length ∧ c.2 < w ∧ Q (.str ⟨#[sg l c]⟩) H
theorem sc_sign_at : FnScope ["sheet", "cell"] ["sheet", "cell"] (defScope (top 12)) := ⟨rfl, rfl, rfl, by decide +kernel, rfl, by decide +kernel, by decide +kernel⟩
theorem ok_sign (F : Fun K "sign_at" "sign_at" (top 12) f fd) : FnOk P w K mg base CX0 1 f fd ["sheet", "cell"] (spSign K) := by
  refine F.ok sc_sign_at (fun vs H Q E h => ?_) (fun cdv A outer s H vs Q E hr h => ?_)
  · obtain ⟨a, b, l, w, c, rfl, _⟩ := h
    rfl
  · obtain ⟨a, b, l, wd, c, rfl, hT, S, hb, h1, h2, q⟩ := h
    obtain ⟨x, hx, mx, lx, lx', hj⟩ := S.row h1
    have hw := S.w9
    refine ⟨_, (pss_one (ps_ret (pe_ix ix_str (pe_ix ix_tup (pv 0) (pe_ix ix_tup (pv 1) pe_int (fun _ _ => rfl)) (fun _ _ => rfl)) (pe_ix ix_tup (pv 1) pe_int (fun _ _ => rfl)) (fun _ _ => rfl)))), ?_⟩
    exact ⟨_, rfl, _, rfl, b, _, 0, .int c.1, rfl, rfl, hb, rfl, a, _, _, .str x, rfl, rfl, hT, row_at hx, _, rfl, b, _, 1, .int c.2, rfl, rfl, hb, rfl, x, _, sg l c, rfl, rfl, sz1_le (by omega), atI_nat (hj c.2 h2), q⟩
def spOpen (K : PySem.W.Frag) : Sp := fun vs H Q _ => ∃ (a b : Addr) (l : List Str) (w : Nat) (c : Nat × Nat), vs = [.ref a, .ref b] ∧ SqT K H a (l.map V.str) ∧ IsSheet l w ∧ SqT K H b [.int c.1, .int c.2] ∧ c.1 < l.length ∧ c.2 < w ∧ Q (.bl (isOpenC l c)) H
theorem sc_is_open : FnScope ["sheet", "cell"] ["sheet", "cell"] (defScope (top 13)) := ⟨rfl, rfl, rfl, by decide +kernel, rfl, by decide +kernel, by decide +kernel⟩
theorem ok_open (F : Fun K "is_open" "is_open" (top 13) f fd) (cSHUT : Cn mg "SHUT" (.str "#")) (Fsign_at : Fn P w K mg base "sign_at" 1 (spSign K)) : FnOk P w K mg base CX0 2 f fd ["sheet", "cell"] (spOpen K) := by
  refine F.ok sc_is_open (fun vs H Q E h => ?_) (fun cdv A outer s H vs Q E hr h => ?_)
  · obtain ⟨a, b, l, w, c, rfl, _⟩ := h
    rfl
  · obtain ⟨a, b, l, wd, c, rfl, hT, S, hb, h1, h2, q⟩ := h
    refine ⟨_, (pss_one (ps_ret (pe_cmpR op_ne (pe_fn Fsign_at (hr.mono (by decide)) (by rfl) (pa_cons (pv 0) (pa_cons (pv 1) pa_nil))) (pe_cn cSHUT (by rfl)) (nomark _)))), ?_⟩
    refine ⟨_, rfl, _, rfl, a, b, l, wd, c, rfl, hT, S, hb, h1, h2, rfl, ?_⟩
    rw [shutS, dec_str1]
    exact q
def spAll (K : PySem.W.Frag) : Sp := fun vs H Q _ => ∃ (a : Addr) (l : List Str) (w : Nat), vs = [.ref a] ∧ SqT K H a (l.map V.str) ∧ IsSheet l w ∧
  ∀ p xs H', H p = none → Same H H' → H' p = some (.lst xs) → CellsAt H' (cells l.length w) xs → Q (.ref p) H'
theorem sc_all_cells : FnScope ["sheet", "cells", "line", "column"] ["sheet"] (defScope (top 11)) := ⟨rfl, rfl, rfl, by decide +kernel, rfl, by decide +kernel, by decide +kernel⟩
theorem ok_all (B : Bl mg) (F : Fun K "all_cells" "all_cells" (top 11) f fd) : FnOk P w K mg base CX0 1 f fd ["sheet"] (spAll K) := by
  refine F.ok sc_all_cells (fun vs H Q E h => ?_) (fun cdv A outer s H vs Q E hr h => ?_)
  · obtain ⟨a, l, w, rfl, _⟩ := h
    rfl
  · obtain ⟨a, l, wd, rfl, hT, S, q⟩ := h
    have h9 := S.nine
    have hw := S.w9
    have hsm := cells_small S
    refine ⟨_, (pss_cons (ps_set (i := 1) sc_all_cells.nd rfl (Or.inl rfl) (pe_lst pa_nil))
      (pss_cons (ps_for PassesOwn.never rfl (pi_range1 (by rfl) B.range_ (pa_cons (pe_callB call_len_seq (by rfl) B.len_ bt_len (pa_cons (pv 0) pa_nil)) pa_nil)) (pg_name (i := 2) sc_all_cells.nd rfl (Or.inl rfl))
      (pss_one (ps_for PassesOwn.never rfl (pi_range1 (by rfl) B.range_ (pa_cons (pe_callB call_len_str (by rfl) B.len_ bt_len (pa_cons (pe_ix ix_tup (pv 0) (pv 2) (fun _ _ => rfl)) pa_nil)) pa_nil)) (pg_name (i := 3) sc_all_cells.nd rfl (Or.inl rfl))
        (pss_one (ps_expr (pe_bm PySem.F.plainAttrs_list PySem.F.slot_list_append PySem.F.type_list_append mt_append (pv 1) (pa_cons (pe_tup (pa_cons (pv 2) (pa_cons (pv 3) pa_nil))) pa_nil (hs := star_c rfl))))))))
      (pss_one (ps_ret (pv 1))))), ?_⟩
    refine ⟨Nat.zero_le _, fun p hp => ?_⟩
    have sm0 : Same H (upd H p (.lst [])) := Same.upd hp
    refine ⟨_, rfl, a, _, rfl, .inr (sm0.tup hT), _, rfl, by rw [List.length_map]; omega, by rw [List.length_map]; omega, ?_⟩
    rw [Int.toNat_natCast, List.length_map]
    refine for_range0 (fun i σ H2 => ∃ v2 v3 xs, σ = [some (.ref a), some (.ref p), v2, v3] ∧ Same H H2 ∧ H2 p = some (.lst xs) ∧ CellsAt H2 ((cells l.length wd).take (i * wd)) xs)
      ⟨none, none, [], rfl, sm0, upd_same, by rw [Nat.zero_mul, List.take_zero]; exact .nil⟩ ?_ ?_
    · rintro i σ H2 hi ⟨v2, v3, xs, rfl, sm, hL, hC⟩
      obtain ⟨x, hx, mx, lx, lx', hj⟩ := S.row hi
      refine ⟨_, rfl, _, rfl, a, _, _, .str x, rfl, rfl, sm.tup hT, row_at hx, x, rfl, sz1_le (by omega), _, rfl, by omega, by omega, ?_⟩
      rw [Int.toNat_natCast, lx]
      refine for_range0 (fun j σ H3 => ∃ v3 xs, σ = [some (.ref a), some (.ref p), some (.int i), v3] ∧ Same H H3 ∧ H3 p = some (.lst xs) ∧ CellsAt H3 ((cells l.length wd).take (i * wd + j)) xs)
        ⟨v3, xs, rfl, sm, hL, hC⟩ ?_ ?_
      · rintro j σ H3 hjw ⟨v3, ys, rfl, sm3, hL3, hC3⟩
        refine ⟨_, rfl, .inl ⟨rfl, _, SqL.of hL3⟩, _, rfl, _, rfl, by show 2 ≤ sizeLine; decide, fun t ht => ?_⟩
        have ntp : t ≠ p := Ne.symm (ne_of_none hL3 ht)
        have hLt : upd H3 t (.tup [.int i, .int j]) p = some (.lst ys) := by rw [upd_ne (Ne.symm ntp)]; exact hL3
        have hlen : ys.length ≤ 81 := by
          have e1 := hC3.length
          rw [List.length_take] at e1
          omega
        refine ⟨p, ys, _, rfl, rfl, hLt, sz1_lt (by omega), some (.int j), ys ++ [.ref t], rfl, (sm3.trans (Same.upd ht)).upd2 hp, upd_same, ?_⟩
        have off : ∀ b o, b ≠ p → upd H3 t (.tup [.int i, .int j]) b = some o → upd (upd H3 t (.tup [.int i, .int j])) p (.lst (ys ++ [.ref t])) b = some o := fun b o hb e => by rw [upd_ne hb]; exact e
        have e2 : i * wd + (j + 1) = i * wd + j + 1 := rfl
        rw [e2, cells_take hi hjw]
        exact Paired.snoc (CellsAt.off ⟨ys, hLt⟩ off (CellsAt.mono (Same.upd ht) hC3)) ⟨t, rfl, off t _ ntp upd_same⟩
      · rintro σ H3 ⟨v3, ys, rfl, sm3, hL3, hC3⟩
        refine ⟨_, _, ys, rfl, sm3, hL3, ?_⟩
        rw [Nat.succ_mul]
        exact hC3
    · rintro σ H2 ⟨v2, v3, xs, rfl, sm, hL, hC⟩
      refine ⟨_, rfl, q p xs H2 hp sm hL ?_⟩
      rw [List.take_of_length_le (by rw [cells_len]; exact Nat.le_refl _)] at hC
      exact hC
def spOpens (K : PySem.W.Frag) : Sp := fun vs H Q _ => ∃ (a : Addr) (l : List Str) (w : Nat), vs = [.ref a] ∧ SqT K H a (l.map V.str) ∧ IsSheet l w ∧
  ∀ p xs H', H p = none → Same H H' → H' p = some (.lst xs) → CellsAt H' (openC l w) xs → Q (.ref p) H'
theorem sc_open_cells : FnScope ["sheet"] ["sheet"] (defScope (top 9)) := ⟨rfl, rfl, rfl, by decide +kernel, rfl, by decide +kernel, by decide +kernel⟩
theorem ok_opens (F : Fun K "open_cells" "open_cells" (top 9) f fd) (Fall_cells : Fn P w K mg base "all_cells" 1 (spAll K)) (Fis_open : Fn P w K mg base "is_open" 2 (spOpen K)) : FnOk P w K mg base CX0 3 f fd ["sheet"] (spOpens K) := by
  refine F.ok sc_open_cells (fun vs H Q E h => ?_) (fun cdv A outer s H vs Q E hr h => ?_)
  · obtain ⟨a, l, w, rfl, _⟩ := h
    rfl
  · obtain ⟨a, l, wd, rfl, hT, S, q⟩ := h
    have hsm := cells_small S
    refine ⟨_, (pss_one (ps_ret (pe_comp (js := [0]) (ns := ["sheet"]) (pi_list (pe_fn Fall_cells (hr.mono (by decide)) (by rfl) (pa_cons (pv 0) pa_nil))) rfl rfl rfl rfl (fun _ _ _ _ => (pif_one (pt_val (pe_fn Fis_open (hr.mono (by decide)) (by rfl) (pa_cons (pv 1) (pa_cons (pv 0) pa_nil)))))) (fun _ _ _ _ => (pv 0))))), ?_⟩
    refine ⟨_, rfl, a, l, wd, rfl, hT, S, fun p xs H1 hp sm hL hC => ⟨p, rfl, ⟨_, SqL.of hL⟩, ?_⟩⟩
    have hlx := hC.length
    refine comp_pure seq_list (by omega) (fun i => isOpenC l ((cells l.length wd).getD i (0, 0))) (fun _ i y _ => xs[i]? = some y) (fun H2 s2 => SqL.of (s2 _ _ hL)) (fun _ _ _ _ _ _ _ _ h => h) ?_ ?_
    · intro D i x H2 Z0 Z hD hx s2 _ k0 k1
      obtain ⟨c, hc, b, rfl, hb⟩ := Paired.get hC hx
      obtain ⟨_, m1, m2⟩ := cells_place hc
      have ec : (cells l.length wd).getD i (0, 0) = c := getD_of hc
      rw [ec] at k0 k1
      refine ⟨_, rfl, _, rfl, a, b, l, wd, c, rfl, (sm.trans s2).tup hT, S, SqT.of (s2 _ _ hb), m1, m2, _, rfl, ite2 (fun h => ?_) (fun h => ?_)⟩
      · exact ⟨_, rfl, k1 _ _ (Same.refl' _) h hx⟩
      · exact k0 _ (Same.refl' _) (by simpa using h)
    · intro D ys H2 hD hDs s2 pr
      refine q D ys H2 (sm.free hD) (sm.trans s2) hDs ?_
      exact Paired.pick (CellsAt.mono s2 hC) (isOpenC l) _ (fun i c e => by rw [getD_of e]) pr
end
end Cw
namespace Cw
open PySem L2
/-! ### rows in the heap -/
def RowAt (H : Hp) (way : Str) (q : Nat × List C2) (x : V) : Prop := ∃ a t xs, x = .ref a ∧ H a = some (.tup [.int q.1, .str way, .ref t]) ∧ H t = some (.tup xs) ∧ CellsAt H q.2 xs
abbrev RowsAt (H : Hp) (way : Str) (qs : List (Nat × List C2)) (xs : List V) : Prop := Paired (RowAt H way) qs xs
theorem RowAt.mono {H H' : Hp} {way : Str} {q : Nat × List C2} {x : V} (s : Same H H') (h : RowAt H way q x) : RowAt H' way q x := let ⟨a, t, xs, e, h1, h2, h3⟩ := h; ⟨a, t, xs, e, s _ _ h1, s _ _ h2, h3.mono s⟩
theorem RowAt.off {H H' : Hp} {D : Addr} {way : Str} {q : Nat × List C2} {x : V} (hD : ∃ o, H D = some (.lst o)) (k : ∀ b o, b ≠ D → H b = some o → H' b = some o) (h : RowAt H way q x) : RowAt H' way q x := by
  obtain ⟨a, t, xs, e, h1, h2, h3⟩ := h
  have hD' := hD
  obtain ⟨o, hD'⟩ := hD'
  exact ⟨a, t, xs, e, k a _ (ne_of h1 hD' (by intro z; cases z)) h1, k t _ (ne_of h2 hD' (by intro z; cases z)) h2, CellsAt.off hD k h3⟩
theorem RowsAt.mono {H H' : Hp} {way : Str} {qs : List (Nat × List C2)} {xs : List V} (s : Same H H') (h : RowsAt H way qs xs) : RowsAt H' way qs xs := Paired.mapP h fun _ _ q => q.mono s
theorem RowsAt.off {H H' : Hp} {D : Addr} {way : Str} {qs : List (Nat × List C2)} {xs : List V} (hD : ∃ o, H D = some (.lst o)) (k : ∀ b o, b ≠ D → H b = some o → H' b = some o) (h : RowsAt H way qs xs) : RowsAt H' way qs xs := Paired.mapP h fun _ _ q => q.off hD k
theorem SqT_off {K : PySem.W.Frag} {H : Hp} {p e : Addr} {xs ys : List V} {o : HO} (hp : H p = some (.lst ys)) (h : SqT K H e xs) : SqT K (upd H p o) e xs := by
  rcases h with (h | ⟨ob, h⟩) | h
  · exact .inl (.inl (by rw [upd_ne (ne_of h hp (by intro z; cases z))]; exact h))
  · exact .inl (.inr ⟨ob, by rw [upd_ne (ne_of h hp (by intro z; cases z))]; exact h⟩)
  · exact .inr h
/-- is a place, of whole numbers, an open cell -/
def opI (l : List Str) (w : Nat) (i j : Int) : Bool := decide (0 ≤ i) && (decide (i < (l.length : Int)) && (decide (0 ≤ j) && (decide (j < (w : Int)) && isOpenC l (i.toNat, j.toNat))))
theorem opI_nat (l : List Str) (w : Nat) (c : C2) : opI l w (c.1 : Int) (c.2 : Int) = opB l w c := by
  unfold opI opB
  have h1 : decide ((0 : Int) ≤ (c.1 : Int)) = true := decide_eq_true (by omega)
  have h2 : decide ((0 : Int) ≤ (c.2 : Int)) = true := decide_eq_true (by omega)
  have h3 : decide ((c.1 : Int) < (l.length : Int)) = decide (c.1 < l.length) := by
    by_cases h : c.1 < l.length
    · rw [decide_eq_true h, decide_eq_true (by omega)]
    · rw [decide_eq_false h, decide_eq_false (by omega)]
  have h4 : decide ((c.2 : Int) < (w : Int)) = decide (c.2 < w) := by
    by_cases h : c.2 < w
    · rw [decide_eq_true h, decide_eq_true (by omega)]
    · rw [decide_eq_false h, decide_eq_false (by omega)]
  rw [h1, h2, h3, h4, Bool.true_and, Bool.true_and, Int.toNat_natCast, Int.toNat_natCast]
theorem opI_prev (l : List Str) (w : Nat) (c d : C2) : opI l w ((c.1 : Int) - (d.1 : Int)) ((c.2 : Int) - (d.2 : Int)) = prevO (opB l w) d c := by
  unfold prevO
  by_cases h1 : d.1 ≤ c.1
  · by_cases h2 : d.2 ≤ c.2
    · have e1 : (c.1 : Int) - (d.1 : Int) = ((c.1 - d.1 : Nat) : Int) := by omega
      have e2 : (c.2 : Int) - (d.2 : Int) = ((c.2 - d.2 : Nat) : Int) := by omega
      rw [e1, e2, opI_nat l w (c.1 - d.1, c.2 - d.2), decide_eq_true h1, decide_eq_true h2, Bool.true_and, Bool.true_and]
    · unfold opI
      rw [decide_eq_false h2, Bool.false_and, Bool.and_false, decide_eq_false (p := (0 : Int) ≤ (c.2 : Int) - (d.2 : Int)) (by omega), Bool.false_and, Bool.and_false, Bool.and_false]
  · unfold opI
    rw [decide_eq_false h1, Bool.false_and, decide_eq_false (p := (0 : Int) ≤ (c.1 : Int) - (d.1 : Int)) (by omega), Bool.false_and]
theorem rowsN_len (op : C2 → Bool) (f : C2 → List C2) : ∀ (n : Nat) (cs : List C2), (rowsN op f n cs).length ≤ cs.length
  | n, [] => Nat.le_refl _
  | n, c :: r => by
    unfold rowsN
    split
    · exact Nat.le_succ_of_le (rowsN_len op f _ r)
    · exact Nat.succ_le_succ (rowsN_len op f _ r)
theorem paired_empty {α β : Type} {R : α → β → Prop} : ∀ {l : List α} {m : List β}, Paired R l m → m.isEmpty = l.isEmpty
  | _, _, .nil => rfl
  | _, _, .cons _ _ => rfl
theorem rowsN_take {op : C2 → Bool} {f : C2 → List C2} (hf : ∀ {c}, (f c).isEmpty = false → isSt op c = true) {cs : List C2} {i : Nat} {c : C2} (hc : cs[i]? = some c) :
    rowsN op f 0 (cs.take (i + 1)) = rowsN op f 0 (cs.take i) ++ if (f c).isEmpty = true then [] else [(nSt op (cs.take (i + 1)), f c)] := by
  have etk : cs.take (i + 1) = cs.take i ++ [c] := by rw [List.take_add_one, hc]; rfl
  rw [etk, rowsN_snoc, nSt_snoc, Nat.zero_add]
/-- a tuple among the module's constants -/
def CnT (K : PySem.W.Frag) (mg : Str → Option Value) (x : Str) (xs : List V) : Prop := ∃ a, Cn mg x (.ref a) ∧ ∀ H, SqT K H a xs
section
variable {P : Program} {w : World} {K : PySem.W.Frag} {mg : Str → Option Value} {base : Heap} {f : Addr} {fd : FuncData}
def spWithin (K : PySem.W.Frag) : Sp := fun vs H Q _ => ∃ (a b : Addr) (l : List Str) (w : Nat) (i j : Int), vs = [.ref a, .ref b] ∧ SqT K H a (l.map V.str) ∧ IsSheet l w ∧ SqT K H b [.int i, .int j] ∧ Q (.bl (opI l w i j)) H
theorem sc_is_open_within : FnScope ["sheet", "cell"] ["sheet", "cell"] (defScope (top 19)) := ⟨rfl, rfl, rfl, by decide +kernel, rfl, by decide +kernel, by decide +kernel⟩
theorem ok_within (B : Bl mg) (F : Fun K "is_open_within" "is_open_within" (top 19) f fd) (Fis_open : Fn P w K mg base "is_open" 2 (spOpen K)) : FnOk P w K mg base CX0 3 f fd ["sheet", "cell"] (spWithin K) := by
  refine F.ok sc_is_open_within (fun vs H Q E h => ?_) (fun cdv A outer s H vs Q E hr h => ?_)
  · obtain ⟨a, b, l, w, i, j, rfl, _⟩ := h
    rfl
  · obtain ⟨a, b, l, wd, i, j, rfl, hT, S, hb, q⟩ := h
    obtain ⟨x0, hx0, mx0, lx0, _⟩ := S.row (i := 0) S.one
    have h9 := S.nine
    have hw := S.w9
    refine ⟨_, (pss_cons (ps_if (pt_not (pt_chain op_le op_lt pe_int (pe_ix ix_tup (pv 1) pe_int (fun _ _ => rfl)) (pe_callB call_len_seq (by rfl) B.len_ bt_len (pa_cons (pv 0) pa_nil))))
      (pss_one (ps_ret pe_bl))
      pss_nil)
      (pss_cons (ps_if (pt_not (pt_chain op_le op_lt pe_int (pe_ix ix_tup (pv 1) pe_int (fun _ _ => rfl)) (pe_callB call_len_str (by rfl) B.len_ bt_len (pa_cons (pe_ix ix_tup (pv 0) pe_int (fun _ _ => rfl)) pa_nil))))
      (pss_one (ps_ret pe_bl))
      pss_nil)
      (pss_one (ps_ret (pe_fn Fis_open (hr.mono (by decide)) (by rfl) (pa_cons (pv 0) (pa_cons (pv 1) pa_nil))))))), ?_⟩
    unfold opI at q
    refine ⟨_, rfl, b, _, 0, .int i, rfl, rfl, hb, rfl, _, _, rfl, rfl, _, rfl, ?_⟩
    by_cases h0 : (0 : Int) ≤ i
    · rw [decide_eq_true h0] at q ⊢
      refine iteT ⟨_, rfl, a, _, rfl, .inr hT, _, _, rfl, rfl, _, rfl, ?_⟩
      rw [List.length_map]
      by_cases h1 : i < (l.length : Int)
      · rw [decide_eq_true h1] at q ⊢
        refine iteF ?_
        refine ⟨_, rfl, b, _, 1, .int j, rfl, rfl, hb, rfl, _, _, rfl, rfl, _, rfl, ?_⟩
        by_cases h2 : (0 : Int) ≤ j
        · rw [decide_eq_true h2] at q ⊢
          refine iteT ⟨_, rfl, a, _, 0, .str x0, rfl, rfl, hT, row_at hx0, x0, rfl, sz1_le (by omega), _, _, rfl, rfl, _, rfl, ?_⟩
          rw [lx0]
          by_cases h3 : j < (wd : Int)
          · rw [decide_eq_true h3] at q ⊢
            refine iteF ?_
            obtain ⟨i', rfl⟩ := Int.eq_ofNat_of_zero_le h0
            obtain ⟨j', rfl⟩ := Int.eq_ofNat_of_zero_le h2
            rw [Int.toNat_natCast, Int.toNat_natCast] at q
            exact ⟨_, rfl, _, rfl, a, b, l, wd, (i', j'), rfl, hT, S, hb, by omega, by omega, q⟩
          · rw [decide_eq_false h3] at q ⊢
            exact iteT q
        · rw [decide_eq_false h2] at q ⊢
          refine iteF ⟨_, rfl, ?_⟩
          exact iteT q
      · rw [decide_eq_false h1] at q ⊢
        exact iteT q
    · rw [decide_eq_false h0] at q ⊢
      refine iteF ⟨_, rfl, ?_⟩
      exact iteT q
/-! ### a row from a cell -/
def RowInv (K : PySem.W.Frag) (a b d t p : Addr) (H : Hp) (l : List Str) (wd : Nat) (c dd : C2) : Nat → St → Hp → Prop := fun m σ H2 => ∃ n xs e, m = 10 - n ∧ n ≤ 9 ∧ σ = [some (.ref a), some (.ref b), some (.ref d), some (.ref t), some (.ref p), some (.ref e)] ∧ Same H H2 ∧
  H2 p = some (.lst xs) ∧ CellsAt H2 (line c dd n) xs ∧ H2 e = some (.tup [.int (go c dd n).1, .int (go c dd n).2]) ∧ ∀ k, k < n → opB l wd (go c dd k) = true
def spRowFrom (K : PySem.W.Frag) : Sp := fun vs H Q _ => ∃ (a b d : Addr) (l : List Str) (w : Nat) (c dd : C2), vs = [.ref a, .ref b, .ref d] ∧ SqT K H a (l.map V.str) ∧ IsSheet l w ∧ H b = some (.tup [.int c.1, .int c.2]) ∧ SqT K H d [.int dd.1, .int dd.2] ∧ (dd = (0, 1) ∨ dd = (1, 0)) ∧
  ∀ t xs H', Same H H' → H' t = some (.tup xs) → CellsAt H' (rowFrom (opB l w) dd c) xs → Q (.ref t) H'
theorem sc_row_from : FnScope ["sheet", "cell", "way", "before", "cells", "here"] ["sheet", "cell", "way"] (defScope (top 18)) := ⟨rfl, rfl, rfl, by decide +kernel, rfl, by decide +kernel, by decide +kernel⟩
theorem ok_rowfrom (B : Bl mg) (F : Fun K "row_from" "row_from" (top 18) f fd) (Fis_open_within : Fn P w K mg base "is_open_within" 3 (spWithin K)) : FnOk P w K mg base CX0 4 f fd ["sheet", "cell", "way"] (spRowFrom K) := by
  refine F.ok sc_row_from (fun vs H Q E h => ?_) (fun cdv A outer s H vs Q E hr h => ?_)
  · obtain ⟨a, b, d, l, w, c, dd, rfl, _⟩ := h
    rfl
  · obtain ⟨a, b, d, l, wd, c, dd, rfl, hT, S, hb, hd, hdd, q⟩ := h
    have h9 := S.nine
    have hw := S.w9
    have hbT : SqT K H b [.int c.1, .int c.2] := SqT.of hb
    refine ⟨_, (pss_cons (ps_set (i := 3) sc_row_from.nd rfl (Or.inl rfl) (pe_tup (pa_cons (pe_op op_sub (pe_ix ix_tup (pv 1) pe_int (fun _ _ => rfl)) (pe_ix ix_tup (pv 2) pe_int (fun _ _ => rfl))) (pa_cons (pe_op op_sub (pe_ix ix_tup (pv 1) pe_int (fun _ _ => rfl)) (pe_ix ix_tup (pv 2) pe_int (fun _ _ => rfl))) pa_nil))))
      (pss_cons (ps_if (pt_val (pe_fn Fis_open_within (hr.mono (by decide)) (by rfl) (pa_cons (pv 0) (pa_cons (pv 3) pa_nil))))
      (pss_one (ps_ret (pe_tup pa_nil)))
      pss_nil)
      (pss_cons (ps_set (i := 4) sc_row_from.nd rfl (Or.inl rfl) (pe_lst pa_nil))
      (pss_cons (ps_set (i := 5) sc_row_from.nd rfl (Or.inl rfl) (pv 1))
      (pss_cons (ps_while PassesOwn.never (pt_val (pe_fn Fis_open_within (hr.mono (by decide)) (by rfl) (pa_cons (pv 0) (pa_cons (pv 5) pa_nil))))
      (pss_cons (ps_expr (pe_bm PySem.F.plainAttrs_list PySem.F.slot_list_append PySem.F.type_list_append mt_append (pv 4) (pa_cons (pv 5) pa_nil)))
        (pss_one (ps_set (i := 5) sc_row_from.nd rfl (Or.inl rfl) (pe_tup (pa_cons (pe_op op_add (pe_ix ix_tup (pv 5) pe_int (fun _ _ => rfl)) (pe_ix ix_tup (pv 2) pe_int (fun _ _ => rfl))) (pa_cons (pe_op op_add (pe_ix ix_tup (pv 5) pe_int (fun _ _ => rfl)) (pe_ix ix_tup (pv 2) pe_int (fun _ _ => rfl))) pa_nil)))))))
      (pss_cons (ps_if (pt_cmpR op_lt (pe_callB call_len_seq (by rfl) B.len_ bt_len (pa_cons (pv 4) pa_nil)) pe_int (nomark _))
      (pss_one (ps_ret (pe_tup pa_nil)))
      pss_nil)
      (pss_one (ps_ret (pe_callTy call_tuple_of (by rfl) B.tuple_ bt_tuple (pa_cons (pv 4) pa_nil)))))))))), ?_⟩
    refine ⟨_, rfl, b, _, 0, .int c.1, rfl, rfl, hbT, rfl, _, rfl, d, _, 0, .int dd.1, rfl, rfl, hd, rfl, _, _, rfl, rfl, _, rfl, b, _, 1, .int c.2, rfl, rfl, hbT, rfl, _, rfl, d, _, 1, .int dd.2, rfl, rfl, hd, rfl, _, _, rfl, rfl, by show 2 ≤ sizeLine; decide, fun t ht => ?_⟩
    have sm0 : Same H (upd H t (.tup [.int ((c.1 : Int) - (dd.1 : Int)), .int ((c.2 : Int) - (dd.2 : Int))])) := Same.upd ht
    refine ⟨_, rfl, _, rfl, a, t, l, wd, _, _, rfl, sm0.tup hT, S, SqT.of upd_same, _, rfl, ?_⟩
    rw [opI_prev]
    refine ite2 (fun hpv => ?_) (fun hpv => ?_)
    · refine ⟨Nat.zero_le _, fun p hp => q p [] _ (sm0.trans (Same.upd hp)) upd_same ?_⟩
      unfold rowFrom
      rw [if_pos hpv]
      exact .nil
    · refine ⟨Nat.zero_le _, fun p hp => ?_⟩
      have sm1 : Same H (upd (upd H t (.tup [.int ((c.1 : Int) - (dd.1 : Int)), .int ((c.2 : Int) - (dd.2 : Int))])) p (.lst [])) := sm0.trans (Same.upd hp)
      have hp0 : H p = none := sm0.free hp
      refine ⟨_, rfl, ?_⟩
      refine ⟨RowInv K a b d t p H l wd c dd, ⟨10, 0, [], b, rfl, by omega, rfl, sm1, upd_same, .nil, by rw [go_zero]; exact sm1 _ _ hb, fun k hk => absurd hk (Nat.not_lt_zero _)⟩, ?_⟩
      rintro m σ H2 ⟨n, xs, e, rfl, hn, rfl, sm, hL, hC, hE, ho⟩
      refine ⟨_, rfl, _, rfl, a, e, l, wd, _, _, rfl, sm.tup hT, S, SqT.of hE, _, rfl, ?_⟩
      rw [opI_nat]
      have hlen : xs.length = n := by rw [← hC.length, line_len]
      refine ite2 (fun hop => ?_) (fun hop => ?_)
      · have hn8 : n ≤ 8 := by
          obtain ⟨o1, o2, _⟩ := opB_in hop
          simp only [go] at o1 o2
          rcases hdd with rfl | rfl
          · simp only [Nat.mul_one] at o2
            omega
          · simp only [Nat.mul_one] at o1
            omega
        refine ⟨fun σ' H' => ∃ m', m' < 10 - n ∧ RowInv K a b d t p H l wd c dd m' σ' H', fun _ _ z => z, ?_⟩
        have hE3 : ∀ o, upd H2 p o e = some (.tup [.int (go c dd n).1, .int (go c dd n).2]) := fun o => by rw [upd_ne (ne_of hE hL (by intro z; cases z))]; exact hE
        refine ⟨_, rfl, .inl ⟨rfl, _, SqL.of hL⟩, _, rfl, p, xs, _, rfl, rfl, hL, sz1_lt (by omega), ?_⟩
        refine ⟨_, rfl, e, _, 0, .int (go c dd n).1, rfl, rfl, SqT.of (hE3 _), rfl, _, rfl, d, _, 0, .int dd.1, rfl, rfl, SqT_off hL (sm.tup hd), rfl, _, _, rfl, rfl, _, rfl, e, _, 1, .int (go c dd n).2, rfl, rfl, SqT.of (hE3 _), rfl, _, rfl, d, _, 1, .int dd.2, rfl, rfl, SqT_off hL (sm.tup hd), rfl, _, _, rfl, rfl, by show 2 ≤ sizeLine; decide, fun t2 ht2 => ?_⟩
        refine ⟨10 - (n + 1), by omega, n + 1, xs ++ [.ref e], t2, rfl, by omega, rfl, (sm.upd2 hp0).trans (Same.upd ht2), Same.upd ht2 _ _ upd_same, ?_, ?_, ?_⟩
        · rw [line_succ]
          refine CellsAt.mono (Same.upd ht2) (Paired.snoc (CellsAt.off ⟨xs, hL⟩ (fun b' o hb' z => by rw [upd_ne hb']; exact z) hC) ⟨e, rfl, hE3 _⟩)
        · rw [upd_same, go_succ]
          simp only [Int.natCast_add]
        · intro k hk
          rcases Nat.lt_succ_iff_lt_or_eq.mp hk with z | z
          · exact ho k z
          · rw [z]; exact hop
      · have hrun : runN (opB l wd) dd 10 c = n := runN_of (by omega) ho (Bool.eq_false_iff.mpr hop)
        refine ⟨_, rfl, p, _, rfl, .inl (SqL.of hL), _, _, rfl, rfl, _, rfl, ?_⟩
        rw [hlen]
        refine ite2 (fun h2 => ?_) (fun h2 => ?_)
        · have h2 : (n : Int) < 2 := of_decide_eq_true h2
          refine ⟨Nat.zero_le _, fun p' hp' => q p' [] _ (sm.trans (Same.upd hp')) upd_same ?_⟩
          unfold rowFrom
          rw [if_neg hpv, hrun, if_pos (by omega)]
          exact .nil
        · have h2 : ¬ (n : Int) < 2 := fun z => h2 (decide_eq_true z)
          refine ⟨_, rfl, p, _, rfl, .inl ⟨SqL.of hL, fun p' hp' => ?_⟩⟩
          refine q p' xs _ (sm.trans (Same.upd hp')) upd_same ?_
          unfold rowFrom
          rw [if_neg hpv, hrun, if_neg (by omega)]
          exact hC.mono (Same.upd hp')
/-! ### all rows -/
def spRows (K : PySem.W.Frag) : Sp := fun vs H Q _ => ∃ (a : Addr) (l : List Str) (w : Nat), vs = [.ref a] ∧ SqT K H a (l.map V.str) ∧ IsSheet l w ∧
  ∀ p xs ys H', H p = none → Same H H' → H' p = some (.lst (xs ++ ys)) → RowsAt H' "across" (rowsA l w) xs → RowsAt H' "down" (rowsD l w) ys → Q (.ref p) H'
theorem sc_rows_of : FnScope ["sheet", "across", "down", "number", "cell", "to_the_right", "to_below"] ["sheet"] (defScope (top 17)) := ⟨rfl, rfl, rfl, by decide +kernel, rfl, by decide +kernel, by decide +kernel⟩
theorem ok_rows (F : Fun K "rows_of" "rows_of" (top 17) f fd) (CA : CnT K mg "ACROSS" [.int 0, .int 1]) (CD : CnT K mg "DOWN" [.int 1, .int 0]) (Fopen_cells : Fn P w K mg base "open_cells" 3 (spOpens K)) (Frow_from : Fn P w K mg base "row_from" 4 (spRowFrom K)) : FnOk P w K mg base CX0 5 f fd ["sheet"] (spRows K) := by
  refine F.ok sc_rows_of (fun vs H Q E h => ?_) (fun cdv A outer s H vs Q E hr h => ?_)
  · obtain ⟨a, l, w, rfl, _⟩ := h
    rfl
  · obtain ⟨a, l, wd, rfl, hT, S, q⟩ := h
    obtain ⟨dA, cACROSS, tA⟩ := CA
    obtain ⟨dD, cDOWN, tD⟩ := CD
    have hsm := cells_small S
    have hos : (openC l wd).length ≤ 81 := Nat.le_trans (List.length_filter_le _ _) hsm
    refine ⟨_, (pss_cons (ps_set (i := 1) sc_rows_of.nd rfl (Or.inl rfl) (pe_lst pa_nil))
      (pss_cons (ps_set (i := 2) sc_rows_of.nd rfl (Or.inl rfl) (pe_lst pa_nil))
      (pss_cons (ps_set (i := 3) sc_rows_of.nd rfl (Or.inl rfl) pe_int)
      (pss_cons (ps_for PassesOwn.never rfl (pi_list (pe_fn Fopen_cells (hr.mono (by decide)) (by rfl) (pa_cons (pv 0) pa_nil))) (pg_name (i := 4) sc_rows_of.nd rfl (Or.inl rfl))
      (pss_cons (ps_set (i := 5) sc_rows_of.nd rfl (Or.inl rfl) (pe_fn Frow_from (hr.mono (by decide)) (by rfl) (pa_cons (pv 0) (pa_cons (pv 4) (pa_cons (pe_cn cACROSS (by rfl)) pa_nil)))))
        (pss_cons (ps_set (i := 6) sc_rows_of.nd rfl (Or.inl rfl) (pe_fn Frow_from (hr.mono (by decide)) (by rfl) (pa_cons (pv 0) (pa_cons (pv 4) (pa_cons (pe_cn cDOWN (by rfl)) pa_nil)))))
        (pss_cons (ps_join (ps_if (PW.pt (pw_or (pt_truth (pv 5) (by intro _; rfl)) (pw_or1 (pt_truth (pv 6) (by intro _; rfl)))))
        (pss_one (ps_set (i := 3) sc_rows_of.nd rfl (Or.inl rfl) (pe_op op_add (pv 3) pe_int)))
        pss_nil))
        (pss_cons (ps_join (ps_if (pt_truth (pv 5) (by intro _; rfl))
        (pss_one (ps_expr (pe_bm PySem.F.plainAttrs_list PySem.F.slot_list_append PySem.F.type_list_append mt_append (pv 1) (pa_cons (pe_tup (pa_cons (pv 3) (pa_cons pe_str (pa_cons (pv 5) pa_nil)))) pa_nil (hs := star_c rfl)))))
        pss_nil))
        (pss_one (ps_if (pt_truth (pv 6) (by intro _; rfl))
        (pss_one (ps_expr (pe_bm PySem.F.plainAttrs_list PySem.F.slot_list_append PySem.F.type_list_append mt_append (pv 2) (pa_cons (pe_tup (pa_cons (pv 3) (pa_cons pe_str (pa_cons (pv 6) pa_nil)))) pa_nil (hs := star_c rfl)))))
        pss_nil)))))))
      (pss_one (ps_ret (pe_op op_cat (pv 1) (pv 2)))))))), ?_⟩
    refine ⟨Nat.zero_le _, fun pa hpa => ?_⟩
    refine ⟨Nat.zero_le _, fun pd hpd => ?_⟩
    have nad : pa ≠ pd := by intro z; rw [← z, upd_same] at hpd; cases hpd
    have sma : Same H (upd H pa (.lst [])) := Same.upd hpa
    have smd : Same H (upd (upd H pa (.lst [])) pd (.lst [])) := sma.trans (Same.upd hpd)
    have hpd0 : H pd = none := sma.free hpd
    have hA0 : upd (upd H pa (.lst [])) pd (.lst []) pa = some (.lst []) := by rw [upd_ne nad, upd_same]
    have hD0 : upd (upd H pa (.lst [])) pd (.lst []) pd = some (.lst []) := upd_same
    refine ⟨_, rfl, a, l, wd, rfl, smd.tup hT, S, fun p xs H1 hp sm1 hL hC => ⟨p, rfl, ⟨_, SqL.of hL⟩, ?_⟩⟩
    have npa : p ≠ pa := fun z => by rw [z] at hp; rw [hA0] at hp; cases hp
    have npd : p ≠ pd := fun z => by rw [z] at hp; rw [hD0] at hp; cases hp
    generalize hop : opB l wd = op at *
    have hcs : xs.length = (openC l wd).length := hC.length.symm
    refine for_list (xs := xs) (fun i σ H2 => ∃ v4 v5 v6 as ds, σ = [some (.ref a), some (.ref pa), some (.ref pd), some (.int (nSt op ((openC l wd).take i))), v4, v5, v6] ∧ Same H H2 ∧ (∀ b o, b ≠ pa → b ≠ pd → H1 b = some o → H2 b = some o) ∧
        H2 pa = some (.lst as) ∧ H2 pd = some (.lst ds) ∧ RowsAt H2 "across" (rowsN op (acr op) 0 ((openC l wd).take i)) as ∧ RowsAt H2 "down" (rowsN op (dwn op) 0 ((openC l wd).take i)) ds)
      ⟨none, none, none, [], [], rfl, smd.trans sm1, fun _ _ _ _ z => z, sm1 _ _ hA0, sm1 _ _ hD0, .nil, .nil⟩ ?_ ?_ ?_
    · rintro i σ H2 _ ⟨v4, v5, v6, as, ds, rfl, sm, off, hA, hD, rA, rD⟩
      exact SqL.of (off _ _ npa npd hL)
    · rintro i x σ H2 hi ⟨v4, v5, v6, as, ds, rfl, sm, off, hA, hD, rA, rD⟩
      obtain ⟨c, hc, b, rfl, hb⟩ := Paired.get hC hi
      have hpad : ∀ o, H1 pa = some o → ∃ z, o = HO.lst z := fun o e => ⟨[], by rw [sm1 _ _ hA0] at e; exact (Option.some.inj e).symm⟩
      have nba : b ≠ pa := ne_of hb (sm1 _ _ hA0) (by intro z; cases z)
      have nbd : b ≠ pd := ne_of hb (sm1 _ _ hD0) (by intro z; cases z)
      have hb2 := off _ _ nba nbd hb
      have etk : (openC l wd).take (i + 1) = (openC l wd).take i ++ [c] := by rw [List.take_add_one, hc]; rfl
      have hla : as.length ≤ 81 := by rw [← rA.length]; exact Nat.le_trans (rowsN_len _ _ _ _) (Nat.le_trans (List.length_take_le' _ _) hos)
      have hld : ds.length ≤ 81 := by rw [← rD.length]; exact Nat.le_trans (rowsN_len _ _ _ _) (Nat.le_trans (List.length_take_le' _ _) hos)
      refine ⟨_, rfl, _, rfl, a, b, dA, l, wd, c, (0, 1), rfl, sm.tup hT, S, hb2, tA _, .inl rfl, fun t1 xs1 H3 sm3 ht1 hC1 => ?_⟩
      refine ⟨_, rfl, _, rfl, a, b, dD, l, wd, c, (1, 0), rfl, (sm.trans sm3).tup hT, S, sm3 _ _ hb2, tD _, .inr rfl, fun t2 xs2 H4 sm4 ht2 hC2 => ?_⟩
      rw [hop] at hC1 hC2
      have e1 : xs1.isEmpty = (acr op c).isEmpty := paired_empty hC1
      have e2 : xs2.isEmpty = (dwn op c).isEmpty := paired_empty hC2
      have sm24 := sm3.trans sm4
      have hA4 := sm24 _ _ hA
      have hD4 := sm24 _ _ hD
      have ht14 := sm4 _ _ ht1
      -- if to_the_right or to_below: number = number + 1
      refine ⟨fun σ' H' => σ' = [some (.ref a), some (.ref pa), some (.ref pd), some (.int (nSt op ((openC l wd).take (i + 1)))), some (.ref b), some (.ref t1), some (.ref t2)] ∧ H4 = H', ?_, ?_⟩
      · rintro σ' H' ⟨rfl, rfl⟩
        -- if to_the_right: across.append(..)
        refine ⟨fun σ' H' => σ' = [some (.ref a), some (.ref pa), some (.ref pd), some (.int (nSt op ((openC l wd).take (i + 1)))), some (.ref b), some (.ref t1), some (.ref t2)] ∧ (∀ b o, b ≠ pa → H4 b = some o → H' b = some o) ∧
          ∃ as', H' pa = some (.lst as') ∧ RowsAt H' "across" (rowsN op (acr op) 0 ((openC l wd).take (i + 1))) as', ?_, ?_⟩
        · rintro σ' H5 ⟨rfl, off5, as', hA5, rA5⟩
          have hD5 := off5 _ _ (Ne.symm nad) hD4
          have ht25 := off5 _ _ (ne_of ht2 hA4 (by intro z; cases z)) ht2
          have hC25 : CellsAt H5 (dwn op c) xs2 := CellsAt.off ⟨as, hA4⟩ off5 hC2
          have rD5 : RowsAt H5 "down" (rowsN op (dwn op) 0 ((openC l wd).take i)) ds := RowsAt.off ⟨as, hA4⟩ off5 (rD.mono sm24)
          have sm5 : Same H H5 := fun b o z => off5 b o (ne_of_none z hpa) ((sm.trans sm24) _ _ z)
          have offA : ∀ b o, b ≠ pa → b ≠ pd → H1 b = some o → H5 b = some o := fun b o h1 h2 z => off5 b o h1 (sm24 _ _ (off b o h1 h2 z))
          have er := rowsN_take (op := op) (f := dwn op) st_of_dwn hc
          refine ⟨_, rfl, _, Or.inr (Or.inl ⟨xs2, SqT.of ht25, rfl⟩), ?_⟩
          by_cases z : (dwn op c).isEmpty = true
          · rw [e2, z]
            refine iteF ⟨some (.ref b), some (.ref t1), some (.ref t2), as', ds, rfl, sm5, offA, hA5, hD5, rA5, ?_⟩
            rw [er, if_pos z, List.append_nil]
            exact rD5
          · rw [e2, Bool.eq_false_iff.mpr z]
            refine iteT ⟨_, rfl, .inl ⟨rfl, _, SqL.of hD5⟩, _, rfl, _, rfl, by show 3 ≤ sizeLine; decide, fun t ht => ?_⟩
            have smt : Same H5 (upd H5 t (.tup [.int (nSt op ((openC l wd).take (i + 1))), .str "down", .ref t2])) := Same.upd ht
            have hDt := smt _ _ hD5
            have off6 : ∀ o' b o, b ≠ pd → upd H5 t (.tup [.int (nSt op ((openC l wd).take (i + 1))), .str "down", .ref t2]) b = some o → upd (upd H5 t (.tup [.int (nSt op ((openC l wd).take (i + 1))), .str "down", .ref t2])) pd o' b = some o := fun o' b o hb y => by rw [upd_ne hb]; exact y
            refine ⟨pd, ds, _, rfl, rfl, hDt, sz1_lt (by omega), some (.ref b), some (.ref t1), some (.ref t2), as', ds ++ [.ref t], rfl, (sm5.trans smt).upd2 hpd0, fun b o h1 h2 y => off6 _ b o h2 (smt _ _ (offA b o h1 h2 y)), off6 _ pa _ nad (smt _ _ hA5), upd_same, ?_, ?_⟩
            · exact RowsAt.off ⟨ds, hDt⟩ (off6 _) (rA5.mono smt)
            · rw [er, if_neg z]
              refine Paired.snoc (RowsAt.off ⟨ds, hDt⟩ (off6 _) (rD5.mono smt)) ⟨t, t2, xs2, rfl, off6 _ t _ (ne_of upd_same hDt (by intro y; cases y)) upd_same, off6 _ t2 _ (ne_of (smt _ _ ht25) hDt (by intro y; cases y)) (smt _ _ ht25), CellsAt.off ⟨ds, hDt⟩ (off6 _) (hC25.mono smt)⟩
        · have er := rowsN_take (op := op) (f := acr op) st_of_acr hc
          refine ⟨_, rfl, _, Or.inr (Or.inl ⟨xs1, SqT.of ht14, rfl⟩), ?_⟩
          by_cases z : (acr op c).isEmpty = true
          · rw [e1, z]
            refine iteF ⟨rfl, fun _ _ _ y => y, as, hA4, ?_⟩
            rw [er, if_pos z, List.append_nil]
            exact rA.mono sm24
          · rw [e1, Bool.eq_false_iff.mpr z]
            refine iteT ⟨_, rfl, .inl ⟨rfl, _, SqL.of hA4⟩, _, rfl, _, rfl, by show 3 ≤ sizeLine; decide, fun t ht => ?_⟩
            have smt : Same H4 (upd H4 t (.tup [.int (nSt op ((openC l wd).take (i + 1))), .str "across", .ref t1])) := Same.upd ht
            have hAt := smt _ _ hA4
            have off6 : ∀ o' b o, b ≠ pa → upd H4 t (.tup [.int (nSt op ((openC l wd).take (i + 1))), .str "across", .ref t1]) b = some o → upd (upd H4 t (.tup [.int (nSt op ((openC l wd).take (i + 1))), .str "across", .ref t1])) pa o' b = some o := fun o' b o hb y => by rw [upd_ne hb]; exact y
            refine ⟨pa, as, _, rfl, rfl, hAt, sz1_lt (by omega), rfl, fun b o h1 y => off6 _ b o h1 (smt _ _ y), as ++ [.ref t], upd_same, ?_⟩
            rw [er, if_neg z]
            exact Paired.snoc (RowsAt.off ⟨as, hAt⟩ (off6 _) ((rA.mono sm24).mono smt)) ⟨t, t1, xs1, rfl, off6 _ t _ (ne_of upd_same hAt (by intro y; cases y)) upd_same, off6 _ t1 _ (ne_of (smt _ _ ht14) hAt (by intro y; cases y)) (smt _ _ ht14), CellsAt.off ⟨as, hAt⟩ (off6 _) ((hC1.mono sm4).mono smt)⟩
      · have enum : nSt op ((openC l wd).take (i + 1)) = if isSt op c = true then nSt op ((openC l wd).take i) + 1 else nSt op ((openC l wd).take i) := by rw [etk, nSt_snoc]
        refine ⟨_, rfl, _, Or.inr (Or.inl ⟨xs1, SqT.of ht14, rfl⟩), ?_⟩
        by_cases z1 : (acr op c).isEmpty = true
        · rw [e1, z1]
          refine iteF ⟨_, rfl, _, Or.inr (Or.inl ⟨xs2, SqT.of ht2, rfl⟩), ?_⟩
          by_cases z2 : (dwn op c).isEmpty = true
          · rw [e2, z2]
            refine iteF ⟨?_, rfl⟩
            rw [enum, if_neg (by unfold isSt; rw [z1, z2]; decide)]
            rfl
          · rw [e2, Bool.eq_false_iff.mpr z2]
            refine iteT ⟨_, rfl, _, _, rfl, rfl, ?_, rfl⟩
            rw [enum, if_pos (st_of_dwn (Bool.eq_false_iff.mpr z2))]
            rfl
        · rw [e1, Bool.eq_false_iff.mpr z1]
          refine iteT (iteT ⟨_, rfl, _, _, rfl, rfl, ?_, rfl⟩)
          rw [enum, if_pos (st_of_acr (Bool.eq_false_iff.mpr z1))]
          rfl
    · rintro σ H2 ⟨v4, v5, v6, as, ds, rfl, sm, off, hA, hD, rA, rD⟩
      rw [List.take_of_length_le (by omega)] at rA rD
      have hla : as.length ≤ 81 := by rw [← rA.length]; exact Nat.le_trans (rowsN_len _ _ _ _) hos
      have hld : ds.length ≤ 81 := by rw [← rD.length]; exact Nat.le_trans (rowsN_len _ _ _ _) hos
      subst hop
      refine ⟨_, rfl, _, rfl, pa, pd, as, ds, rfl, rfl, hA, hD, sz1_le (by omega), fun p' hp' => ?_⟩
      exact q p' as ds _ (sm.free hp') (sm.trans (Same.upd hp')) upd_same (rA.mono (Same.upd hp')) (rD.mono (Same.upd hp'))
end
end Cw
namespace Cw
open PySem L2
/-! ### cells of rows -/
theorem runN_op {op : C2 → Bool} {d : C2} : ∀ {f : Nat} {c : C2} {k : Nat}, k < runN op d f c → op (go c d k) = true
  | 0, _, _, h => by unfold runN at h; exact absurd h (Nat.not_lt_zero _)
  | f + 1, c, k, h => by
    unfold runN at h
    split at h
    · rename_i ho
      cases k with
      | zero => rw [go_zero]; exact ho
      | succ k =>
        have := runN_op (op := op) (d := d) (f := f) (c := (c.1 + d.1, c.2 + d.2)) (k := k) (by omega)
        have e : go c d (k + 1) = go (c.1 + d.1, c.2 + d.2) d k := by
          simp only [go, Nat.succ_mul, Prod.mk.injEq]
          omega
        rw [e]
        exact this
    · exact absurd h (Nat.not_lt_zero _)
theorem runN_le {op : C2 → Bool} {d : C2} : ∀ {f : Nat} {c : C2}, runN op d f c ≤ f
  | 0, _ => by unfold runN; exact Nat.le_refl _
  | f + 1, c => by
    unfold runN
    split
    · exact Nat.succ_le_succ runN_le
    · exact Nat.zero_le _
theorem rowFrom_op {op : C2 → Bool} {d c x : C2} (h : x ∈ rowFrom op d c) : op x = true := by
  unfold rowFrom at h
  split at h
  · exact absurd h List.not_mem_nil
  · split at h
    · exact absurd h List.not_mem_nil
    · obtain ⟨k, hk, rfl⟩ := List.mem_map.mp h
      exact runN_op (List.mem_range.mp hk)
theorem rowFrom_le {op : C2 → Bool} {d c : C2} : (rowFrom op d c).length ≤ 10 := by
  unfold rowFrom
  split
  · exact Nat.zero_le _
  · split
    · exact Nat.zero_le _
    · rw [line_len]; exact runN_le
/-- the rows of a sheet, across and down -/
def rowsL (l : List Str) (w : Nat) : List (Nat × List C2) := rowsA l w ++ rowsD l w
theorem rowsN_in {op : C2 → Bool} {d : C2} (hf : ∀ c, (rowFrom op d c).isEmpty = false → isSt op c = true) {n : Nat} {cs : List C2} {q : Nat × List C2} (h : q ∈ rowsN op (rowFrom op d) n cs) : q.2.length ≤ 10 ∧ ∀ c ∈ q.2, op c = true := by
  obtain ⟨_, c, _, _, e, _⟩ := rowsN_mem hf h
  rw [e]
  exact ⟨rowFrom_le, fun x hx => rowFrom_op hx⟩
theorem rowsL_in {l : List Str} {w : Nat} {q : Nat × List C2} (h : q ∈ rowsL l w) : q.2.length ≤ 10 ∧ ∀ c ∈ q.2, c.1 < l.length ∧ c.2 < w ∧ isOpenC l c = true := by
  have z : q.2.length ≤ 10 ∧ ∀ c ∈ q.2, opB l w c = true := by
    rcases List.mem_append.mp h with h | h
    · exact rowsN_in (fun c => st_of_acr) h
    · exact rowsN_in (fun c => st_of_dwn) h
  exact ⟨z.1, fun c hc => opB_in (z.2 c hc)⟩
theorem rowsL_len {l : List Str} {w : Nat} (S : IsSheet l w) : (rowsL l w).length ≤ 162 := by
  unfold rowsL
  rw [List.length_append]
  have h1 : (rowsA l w).length ≤ (openC l w).length := rowsN_len _ _ _ _
  have h2 : (rowsD l w).length ≤ (openC l w).length := rowsN_len _ _ _ _
  have h3 : (openC l w).length ≤ (cells l.length w).length := List.length_filter_le _ _
  have h4 := cells_small S
  omega
/-- a row in the heap, whatever its way -/
def RAt (H : Hp) (q : Nat × List C2) (x : V) : Prop := ∃ way, RowAt H way q x
theorem RAt.mono {H H' : Hp} {q : Nat × List C2} {x : V} (s : Same H H') (h : RAt H q x) : RAt H' q x := let ⟨w, h⟩ := h; ⟨w, h.mono s⟩
theorem paired_app {α β : Type} {R : α → β → Prop} : ∀ {l : List α} {m : List β} {l' : List α} {m' : List β}, Paired R l m → Paired R l' m' → Paired R (l ++ l') (m ++ m')
  | _, _, _, _, .nil, h => h
  | _, _, _, _, .cons h t, h' => .cons h (paired_app t h')
theorem rows_both {H : Hp} {l : List Str} {w : Nat} {xs ys : List V} (h1 : RowsAt H "across" (rowsA l w) xs) (h2 : RowsAt H "down" (rowsD l w) ys) : Paired (RAt H) (rowsL l w) (xs ++ ys) :=
  paired_app (Paired.mapP h1 fun _ _ h => ⟨_, h⟩) (Paired.mapP h2 fun _ _ h => ⟨_, h⟩)
end Cw
namespace Cw
open PySem L2
/-! ### the pattern of a row -/
def patS (l : List Str) (cs : List C2) : Str := ⟨(cs.map (sg l)).toArray⟩
theorem join1 : ∀ xs : List Nat, Str.join ⟨#[]⟩ (xs.map fun c => (⟨#[c]⟩ : Str)) = ⟨xs.toArray⟩
  | [] => rfl
  | [x] => rfl
  | x :: y :: r => by
    have ih := join1 (y :: r)
    show (⟨#[x]⟩ ++ ⟨#[]⟩ ++ Str.join ⟨#[]⟩ ((y :: r).map fun c => (⟨#[c]⟩ : Str)) : Str) = _
    rw [ih]
    apply str_ext
    rw [cs_app, cs_app]
    simp
theorem sum_ones : ∀ xs : List Nat, (((xs.map fun c => (⟨#[c]⟩ : Str)).map (·.length)).sum) = xs.length
  | [] => rfl
  | x :: r => by
    rw [List.map_cons, List.map_cons, List.sum_cons, sum_ones r, List.length_cons, Nat.add_comm]
    rfl
theorem emptyS : ("" : Str) = ⟨#[]⟩ := by decide +kernel
theorem paired_map1 {α β : Type} {f : α → β} : ∀ {l : List α} {ys : List β}, Paired (fun i y => y = f i) l ys → ys = l.map f
  | _, _, .nil => rfl
  | _, _, .cons h t => by rw [List.map_cons, ← paired_map1 t, h]
theorem map_getD1 {α β : Type} (g : α → β) (d : α) (l : List α) : (List.range l.length).map (fun i => g (l.getD i d)) = l.map g := by
  apply List.ext_getElem?
  intro i
  rw [List.getElem?_map, List.getElem?_map]
  by_cases h : i < l.length
  · rw [List.getElem?_range h, List.getElem?_eq_getElem h, Option.map_some, Option.map_some, List.getD_eq_getElem?_getD, List.getElem?_eq_getElem h, Option.getD_some]
  · rw [List.getElem?_eq_none (by simpa using h), List.getElem?_eq_none (by simpa using h)]
    rfl
section
variable {P : Program} {w : World} {K : PySem.W.Frag} {mg : Str → Option Value} {base : Heap} {f : Addr} {fd : FuncData}
def spPat (K : PySem.W.Frag) : Sp := fun vs H Q _ => ∃ (a t : Addr) (l : List Str) (w : Nat) (cs : List C2) (xs : List V), vs = [.ref a, .ref t] ∧ SqT K H a (l.map V.str) ∧ IsSheet l w ∧ H t = some (.tup xs) ∧ CellsAt H cs xs ∧ cs.length ≤ 100 ∧ (∀ c ∈ cs, c.1 < l.length ∧ c.2 < w) ∧
  ∀ H', Same H H' → Q (.str (patS l cs)) H'
theorem sc_pattern : FnScope ["sheet", "cells"] ["sheet", "cells"] (defScope (top 21)) := ⟨rfl, rfl, rfl, by decide +kernel, rfl, by decide +kernel, by decide +kernel⟩
theorem ok_pat (F : Fun K "pattern" "pattern" (top 21) f fd) (Fsign_at : Fn P w K mg base "sign_at" 1 (spSign K)) : FnOk P w K mg base CX0 2 f fd ["sheet", "cells"] (spPat K) := by
  refine F.ok sc_pattern (fun vs H Q E h => ?_) (fun cdv A outer s H vs Q E hr h => ?_)
  · obtain ⟨a, t, l, w, cs, xs, rfl, _⟩ := h
    rfl
  · obtain ⟨a, t, l, wd, cs, xs, rfl, hT, S, ht, hC, hlen, hin, q⟩ := h
    have hlx := hC.length
    refine ⟨_, (pss_one (ps_ret (pe_bm PySem.F.plainAttrs_str PySem.F.slot_str_join PySem.F.type_str_join mt_join pe_str (pa_cons (pe_comp (js := [0]) (ns := ["sheet"]) (pi_tup (pv 1)) rfl rfl rfl rfl (fun _ _ _ _ => pif_nil) (fun _ _ _ _ => (pe_fn Fsign_at (hr.mono (by decide)) (by rfl) (pa_cons (pv 1) (pa_cons (pv 0) pa_nil))))) pa_nil)))), ?_⟩
    refine ⟨rfl, _, rfl, t, rfl, ⟨_, SqT.of ht⟩, ?_⟩
    refine comp_map seq_tup (by omega) (fun _ i y _ => y = .str ⟨#[sg l (cs.getD i (0, 0))]⟩) (fun H2 s2 => SqT.of (s2 _ _ ht)) (fun _ _ _ _ _ _ _ _ h => h) ?_ ?_
    · intro D i x H2 Z hD hx s2 _ k1
      obtain ⟨c, hc, b, rfl, hb⟩ := Paired.get hC hx
      have hcb := hin c (List.mem_of_getElem? hc)
      exact ⟨_, rfl, _, rfl, a, b, l, wd, c, rfl, s2.tup hT, S, SqT.of (s2 _ _ hb), hcb.1, hcb.2, k1 _ _ (Same.refl' _) (by rw [getD_of hc])⟩
    · intro D ys H2 hD hDs s2 pr
      have e := paired_map1 pr
      rw [← hlx, map_getD1 (fun c => V.str ⟨#[sg l c]⟩)] at e
      have e1 : ys = ((cs.map (sg l)).map fun c => (⟨#[c]⟩ : Str)).map V.str := by rw [e, List.map_map, List.map_map]; rfl
      rw [e1] at hDs
      refine ⟨_, D, (cs.map (sg l)).map fun c => (⟨#[c]⟩ : Str), rfl, rfl, .inl (SqL.of hDs), ?_, ?_⟩
      · rw [sum_ones, List.length_map, List.length_map, emptyS]
        show _ + _ * 0 ≤ _
        omega
      · rw [emptyS, join1]
        exact q H2 s2
end
end Cw
namespace Cw
open PySem L2
section
variable {P : Program} {w : World} {K : PySem.W.Frag} {mg : Str → Option Value} {base : Heap} {f : Addr} {fd : FuncData}
def spFrees (K : PySem.W.Frag) : Sp := fun vs H Q _ => ∃ (a : Addr) (l : List Str) (w : Nat), vs = [.ref a] ∧ SqT K H a (l.map V.str) ∧ IsSheet l w ∧
  ∀ p xs H', H p = none → Same H H' → H' p = some (.lst xs) → CellsAt H' (freeC l w) xs → Q (.ref p) H'
theorem sc_free_cells : FnScope ["sheet"] ["sheet"] (defScope (top 10)) := ⟨rfl, rfl, rfl, by decide +kernel, rfl, by decide +kernel, by decide +kernel⟩
theorem ok_frees (F : Fun K "free_cells" "free_cells" (top 10) f fd) (cFREE : Cn mg "FREE" (.str ".")) (Fall_cells : Fn P w K mg base "all_cells" 1 (spAll K)) (Fsign_at : Fn P w K mg base "sign_at" 1 (spSign K)) : FnOk P w K mg base CX0 3 f fd ["sheet"] (spFrees K) := by
  refine F.ok sc_free_cells (fun vs H Q E h => ?_) (fun cdv A outer s H vs Q E hr h => ?_)
  · obtain ⟨a, l, w, rfl, _⟩ := h
    rfl
  · obtain ⟨a, l, wd, rfl, hT, S, q⟩ := h
    have hsm := cells_small S
    refine ⟨_, (pss_one (ps_ret (pe_comp (js := [0]) (ns := ["sheet"]) (pi_list (pe_fn Fall_cells (hr.mono (by decide)) (by rfl) (pa_cons (pv 0) pa_nil))) rfl rfl rfl rfl (fun _ _ _ _ => (pif_one (pt_cmpR op_eq (pe_fn Fsign_at (hr.mono (by decide)) (by rfl) (pa_cons (pv 1) (pa_cons (pv 0) pa_nil))) (pe_cn cFREE (by rfl)) (nomark _)))) (fun _ _ _ _ => (pv 0))))), ?_⟩
    refine ⟨_, rfl, a, l, wd, rfl, hT, S, fun p xs H1 hp sm hL hC => ⟨p, rfl, ⟨_, SqL.of hL⟩, ?_⟩⟩
    have hlx := hC.length
    refine comp_pure seq_list (by omega) (fun i => isFreeC l ((cells l.length wd).getD i (0, 0))) (fun _ i y _ => xs[i]? = some y) (fun H2 s2 => SqL.of (s2 _ _ hL)) (fun _ _ _ _ _ _ _ _ h => h) ?_ ?_
    · intro D i x H2 Z0 Z hD hx s2 _ k0 k1
      obtain ⟨c, hc, b, rfl, hb⟩ := Paired.get hC hx
      obtain ⟨_, m1, m2⟩ := cells_place hc
      have ec : (cells l.length wd).getD i (0, 0) = c := getD_of hc
      rw [ec] at k0 k1
      refine ⟨_, rfl, _, rfl, a, b, l, wd, c, rfl, (sm.trans s2).tup hT, S, SqT.of (s2 _ _ hb), m1, m2, rfl, _, rfl, ?_⟩
      rw [freeS, dec_str1]
      refine ite2 (fun h => ?_) (fun h => ?_)
      · exact ⟨_, rfl, k1 _ _ (Same.refl' _) h hx⟩
      · exact k0 _ (Same.refl' _) (Bool.eq_false_iff.mpr h)
    · intro D ys H2 hD hDs s2 pr
      refine q D ys H2 (sm.free hD) (sm.trans s2) hDs ?_
      exact Paired.pick (CellsAt.mono s2 hC) (isFreeC l) _ (fun i c e => by rw [getD_of e]) pr
end
end Cw
namespace Cw
open PySem L2
/-- lines of one length, of any signs -/
structure Grid (l : List Str) (w : Nat) : Prop where
  one : 1 ≤ l.length
  nine : l.length ≤ 9
  w9 : w ≤ 9
  len : ∀ x ∈ l, x.length = w
theorem IsSheet.grid {l : List Str} {w : Nat} (S : IsSheet l w) : Grid l w := ⟨S.one, S.nine, S.w9, S.len⟩
theorem Grid.row {l : List Str} {w : Nat} (S : Grid l w) {i : Nat} (hi : i < l.length) : ∃ x, l[i]? = some x ∧ x ∈ l ∧ x.length = w ∧ x.cps.toList.length = w ∧ ∀ j, j < w → x.cps.toList[j]? = some (sg l (i, j)) := by
  refine ⟨l[i], List.getElem?_eq_getElem hi, List.getElem_mem hi, S.len _ (List.getElem_mem hi), by rw [cs_len]; exact S.len _ (List.getElem_mem hi), fun j hj => ?_⟩
  have hl : j < l[i].cps.toList.length := by rw [cs_len, S.len _ (List.getElem_mem hi)]; exact hj
  unfold sg
  rw [getD_of (List.getElem?_eq_getElem hi), List.getElem?_eq_getElem hl]
  simp only [getD_of (List.getElem?_eq_getElem hl)]
theorem Grid.set {l : List Str} {w : Nat} (S : Grid l w) {c : Nat × Nat} {ch : Nat} (h1 : c.1 < l.length) (h2 : c.2 < w) : Grid (setC l c ch) w := by
  obtain ⟨x, hx, mx, lx, lx', hj⟩ := S.row h1
  refine ⟨by rw [setC_len]; exact S.one, by rw [setC_len]; exact S.nine, S.w9, fun y my => ?_⟩
  unfold setC at my
  rcases List.mem_or_eq_of_mem_set my with z | z
  · exact S.len y z
  · rw [z, getD_of hx, setLine_len (by omega), lx]
theorem Grid.set_sg {l : List Str} {w : Nat} (S : Grid l w) {c : Nat × Nat} {ch : Nat} (h1 : c.1 < l.length) (h2 : c.2 < w) {d : Nat × Nat} (d1 : d.1 < l.length) (d2 : d.2 < w) : sg (setC l c ch) d = if d = c then ch else sg l d := by
  obtain ⟨x, hx, mx, lx, lx', hj⟩ := S.row d1
  have g := hj d.2 d2
  by_cases e : d.1 = c.1
  · have hx' : (setC l c ch)[d.1]? = some (setLine x c.2 ch) := by
      unfold setC
      rw [e] at hx ⊢
      rw [List.getElem?_set_self h1, getD_of hx]
    have q : sg (setC l c ch) d = (setLine x c.2 ch).cps.toList.getD d.2 0 := by unfold sg; rw [getD_of hx']
    rw [q, List.getD_eq_getElem?_getD, setLine_get (by omega) (by omega), g]
    by_cases e2 : d.2 = c.2
    · rw [if_pos e2, if_pos (Prod.ext_iff.mpr ⟨e, e2⟩)]
      rfl
    · rw [if_neg e2, if_neg (fun z => e2 (congrArg Prod.snd z))]
      rfl
  · have hx' : (setC l c ch)[d.1]? = some x := by
      unfold setC
      rw [List.getElem?_set_ne (Ne.symm e)]
      exact hx
    have q : sg (setC l c ch) d = sg l d := by unfold sg; rw [getD_of hx', getD_of hx]
    rw [q, if_neg (fun z => e (congrArg Prod.fst z))]
section
variable {P : Program} {w : World} {K : PySem.W.Frag} {mg : Str → Option Value} {base : Heap} {f : Addr} {fd : FuncData}
/-! ### another sign in a cell -/
theorem slice_to {x : Str} {j : Nat} (h : j ≤ x.length) : (Txt.slice x none (some (j : Int))).cps.toList = x.cps.toList.take j := by
  have e := beq_iff_eq.mp (PyProof.Rows.slice_closes_to (x := x) (j := (j : Int)) ⟨by omega, by rw [cs_len]; omega⟩)
  rw [e]
  simp
theorem slice_from {x : Str} {j : Nat} (h : j + 1 ≤ x.length) : (Txt.slice x (some ((j : Int) + 1)) none).cps.toList = x.cps.toList.drop (j + 1) := by
  have e := PyProof.Rows.slice_from_eq (x := x) (i := (j : Int) + 1) (b := (x.length : Int)) (by omega) (by omega) rfl
  rw [e]
  have e1 : ((j : Int) + 1).toNat = j + 1 := by omega
  rw [e1]
  show (x.cps.toList.drop (j + 1)).take _ = _
  refine List.take_of_length_le ?_
  rw [List.length_drop, cs_len]
  omega
def spWith (K : PySem.W.Frag) : Sp := fun vs H Q _ => ∃ (a b : Addr) (l : List Str) (w : Nat) (c : Nat × Nat) (ch : Nat), vs = [.ref a, .ref b, .str ⟨#[ch]⟩] ∧ SqT K H a (l.map V.str) ∧ Grid l w ∧ SqT K H b [.int c.1, .int c.2] ∧ c.1 < l.length ∧ c.2 < w ∧
  ∀ t H', H t = none → Same H H' → H' t = some (.tup ((setC l c ch).map V.str)) → Q (.ref t) H'
end
end Cw
namespace Cw
open PySem L2
/-! ### texts of letters -/
def lettersB (x : Str) : Bool := x.cps.toList.all fun c => decide (c ∈ letters.cps.toList)
def letB (x : Str) (a b : Int) : Bool := decide (a ≤ (x.length : Int)) && (decide ((x.length : Int) ≤ b) && lettersB x)
theorem pairedL_map {α β : Type} {f : α → β} : ∀ {l : List α} {ys : List β}, Paired (fun i y => y = f i) l ys → ys = l.map f
  | _, _, .nil => rfl
  | _, _, .cons h t => by rw [List.map_cons, ← pairedL_map t, h]
theorem mapL_getD {α β : Type} (g : α → β) (d : α) (l : List α) : (List.range l.length).map (fun i => g (l.getD i d)) = l.map g := by
  apply List.ext_getElem?
  intro i
  rw [List.getElem?_map, List.getElem?_map]
  by_cases h : i < l.length
  · rw [List.getElem?_range h, List.getElem?_eq_getElem h, Option.map_some, Option.map_some, List.getD_eq_getElem?_getD, List.getElem?_eq_getElem h, Option.getD_some]
  · rw [List.getElem?_eq_none (by simpa using h), List.getElem?_eq_none (by simpa using h)]
    rfl
section
variable {P : Program} {w : World} {K : PySem.W.Frag} {mg : Str → Option Value} {base : Heap} {f : Addr} {fd : FuncData}
def spLetters (K : PySem.W.Frag) : Sp := fun vs H Q _ => (∃ (x : Str) (a b : Int), vs = [.str x, .int a, .int b] ∧ x.length ≤ 1000 ∧ ∀ H', Same H H' → Q (.bl (letB x a b)) H') ∨
  ∃ (v : V) (t : Value) (a b : Int), vs = [v, .int a, .int b] ∧ TyOf K H v t ∧ PySem.W.kitOne K t (.type "str") = some false ∧ Q (.bl false) H
theorem sc_is_letters : FnScope ["thing", "least", "most"] ["thing", "least", "most"] (defScope (top 26)) := ⟨rfl, rfl, rfl, by decide +kernel, rfl, by decide +kernel, by decide +kernel⟩
theorem ok_isletters (B : Bl mg) (cLETTERS : Cn mg "LETTERS" (.str letters)) (F : Fun K "is_letters" "is_letters" (top 26) f fd) : FnOk P w K mg base CX0 1 f fd ["thing", "least", "most"] (spLetters K) := by
  refine F.ok sc_is_letters (fun vs H Q E h => ?_) (fun cdv A outer s H vs Q E hr h => ?_)
  · rcases h with ⟨x, a, b, rfl, _⟩ | ⟨v, t, a, b, rfl, _⟩ <;> rfl
  · refine ⟨_, (pss_cons (ps_if (pt_not (pt_val (pe_callB call_isi (by rfl) B.isinstance_ bt_isinstance (pa_cons (pv 0) (pa_cons (pe_bltn (v := .ty "str") (by rfl) B.str_ bt_str rfl) pa_nil)))))
      (pss_one (ps_ret pe_bl))
      pss_nil)
      (pss_one (ps_ret (pe_and (pe_chain op_le op_le (pv 1) (pe_callB call_len_str (by rfl) B.len_ bt_len (pa_cons (pv 0) pa_nil)) (pv 2)) (pe_one (pe_callB (call_all rfl) (by rfl) B.all_ bt_all (pa_cons (pe_comp (js := []) (ns := []) (pi_str (pv 0)) rfl rfl rfl rfl (fun _ _ _ _ => pif_nil) (fun _ _ _ _ => (pe_cmpR op_in_str (pv 0) (pe_cn cLETTERS (by rfl)) rfl))) pa_nil))))))), ?_⟩
    rcases h with ⟨x, a, b, rfl, hx, q⟩ | ⟨v, t, a, b, rfl, ty, hk, q⟩
    · refine ⟨_, rfl, _, _, _, true, ⟨rfl, .str _, kit_same⟩, _, rfl, iteF ?_⟩
      refine ⟨_, rfl, _, rfl, x, rfl, szA (by omega), _, _, rfl, rfl, _, rfl, ?_⟩
      by_cases h2 : a ≤ (x.length : Int)
      · rw [decide_eq_true h2]
        refine iteT ⟨_, rfl, _, _, rfl, rfl, _, rfl, ?_⟩
        by_cases h3 : (x.length : Int) ≤ b
        · rw [decide_eq_true h3]
          refine iteT ?_
          refine ⟨_, rfl, x, rfl, comp_map seq_str (by rw [List.length_map, Array.length_toList]; show x.length ≤ 10000; omega) (fun _ i y _ => y = .bl (decide (x.cps.toList.getD i 0 ∈ letters.cps.toList))) (fun _ _ => trivial) (fun _ _ _ _ _ _ _ _ h => h) ?_ ?_⟩
          · intro D i z H2 Z _ hz _ _ k1
            rw [List.getElem?_map] at hz
            cases e : x.cps.toList[i]? with
            | none => rw [e] at hz; cases hz
            | some c =>
              rw [e] at hz
              cases hz
              refine ⟨_, rfl, _, _, rfl, rfl, k1 _ _ (Same.refl' _) ?_⟩
              rw [StrLaws.found_one, List.getD_eq_getElem?_getD, e]
              all_goals rfl
          · intro D ys H2 hD hDs sm pr
            have e := pairedL_map pr
            rw [List.length_map, mapL_getD (fun c => V.bl (decide (c ∈ letters.cps.toList)))] at e
            refine ⟨D, x.cps.toList.map fun c => decide (c ∈ letters.cps.toList), rfl, SqL.of (by rw [hDs, e, List.map_map]; rfl), ?_⟩
            have e2 : ((x.cps.toList.map fun c => decide (c ∈ letters.cps.toList)).all id) = letB x a b := by
              unfold letB lettersB
              rw [List.all_map, decide_eq_true h2, decide_eq_true h3]
              rfl
            rw [e2]
            exact q H2 sm
        · rw [decide_eq_false h3]
          refine iteF ?_
          have e : letB x a b = false := by
            unfold letB
            rw [decide_eq_false h3, Bool.false_and, Bool.and_false]
          rw [← e]
          exact q H (Same.refl' _)
      · rw [decide_eq_false h2]
        refine iteF ⟨_, rfl, iteF ?_⟩
        have e : letB x a b = false := by
          unfold letB
          rw [decide_eq_false h2, Bool.false_and]
        rw [← e]
        exact q H (Same.refl' _)
    · exact ⟨_, rfl, _, _, _, false, ⟨rfl, ty, hk⟩, _, rfl, iteT q⟩
end
end Cw
namespace Cw
open PySem L2
/-! ### words -/
def wordB (x : Str) : Bool := decide (2 ≤ x.length) && (decide (x.length ≤ 9) && lettersB x)
theorem wordB_len {x : Str} (h : wordB x = true) : 2 ≤ x.length ∧ x.length ≤ 9 := by
  unfold wordB at h
  simp only [Bool.and_eq_true, decide_eq_true_eq] at h
  exact ⟨h.1, h.2.1⟩
theorem pairedB_map {α β : Type} {f : α → β} : ∀ {l : List α} {ys : List β}, Paired (fun i y => y = f i) l ys → ys = l.map f
  | _, _, .nil => rfl
  | _, _, .cons h t => by rw [List.map_cons, ← pairedB_map t, h]
theorem mapB_getD {α β : Type} (g : α → β) (d : α) (l : List α) : (List.range l.length).map (fun i => g (l.getD i d)) = l.map g := by
  apply List.ext_getElem?
  intro i
  rw [List.getElem?_map, List.getElem?_map]
  by_cases h : i < l.length
  · rw [List.getElem?_range h, List.getElem?_eq_getElem h, Option.map_some, Option.map_some, List.getD_eq_getElem?_getD, List.getElem?_eq_getElem h, Option.getD_some]
  · rw [List.getElem?_eq_none (by simpa using h), List.getElem?_eq_none (by simpa using h)]
    rfl
theorem szb_le {n : Nat} (h : n ≤ 10000) : n ≤ sizeLine := Nat.le_trans h (by decide)
theorem szb_lt {n : Nat} (h : n ≤ 10000) : n < sizeLine := Nat.lt_of_le_of_lt h (by decide)
/-! ### a book in the heap -/
def bookF (d : Addr) : List (Str × V) := putF "worths" (.ref d) []
theorem bookF_w (d : Addr) : (bookF d).lookup ("worths" : Str) = some (.ref d) := by
  unfold bookF
  rw [lookup_putF, if_pos rfl]
theorem bookF_no (d : Addr) {m : Str} (h : ¬ m = "worths") : (bookF d).lookup m = none := by
  unfold bookF
  rw [lookup_putF, if_neg h]
  rfl
structure BookAt (C : Addr) (H : Hp) (p d : Addr) (kvs : List (Key × V)) : Prop where
  ob : ∃ dx, H p = some (.ins C dx (bookF d))
  dc : H d = some (.dK kvs)
  nd : (kvs.map (·.1)).Nodup
  tx : txtKeys kvs
theorem BookAt.mono {C p d : Addr} {H H' : Hp} {kvs : List (Key × V)} (s : Same H H') (h : BookAt C H p d kvs) : BookAt C H' p d kvs := let ⟨⟨dx, e⟩, b, c, t⟩ := h; ⟨⟨dx, s _ _ e⟩, s _ _ b, c, t⟩
theorem txt_put {kvs : List (Key × V)} (h : txtKeys kvs) (x : Str) (v : V) (e : valV kvs (Sum.inr x : Key) = none) : txtKeys (putK kvs (Sum.inr x) v) := by
  rw [putK_new v e]
  intro q m
  rcases List.mem_append.mp m with z | z
  · exact h q z
  · rw [List.mem_singleton.mp z]; exact ⟨x, rfl⟩
theorem txt_drop {kvs : List (Key × V)} (h : txtKeys kvs) (k : Key) : txtKeys (dropK kvs k) := fun q m => h q (List.mem_filter.mp m).1
section
variable {P : Program} {w : World} {K : PySem.W.Frag} {mg : Str → Option Value} {base : Heap} {f : Addr} {fd : FuncData}
def spIsWord : Sp := fun vs H Q _ => ∃ (x : Str), vs = [.str x] ∧ x.length ≤ 1000 ∧ ∀ H', Same H H' → Q (.bl (wordB x)) H'
theorem letB_word (x : Str) : letB x 2 9 = wordB x := by
  unfold letB wordB
  have e1 : decide ((2 : Int) ≤ (x.length : Int)) = decide (2 ≤ x.length) := by
    by_cases h : 2 ≤ x.length
    · rw [decide_eq_true h, decide_eq_true (by omega)]
    · rw [decide_eq_false h, decide_eq_false (by omega)]
  have e2 : decide ((x.length : Int) ≤ (9 : Int)) = decide (x.length ≤ 9) := by
    by_cases h : x.length ≤ 9
    · rw [decide_eq_true h, decide_eq_true (by omega)]
    · rw [decide_eq_false h, decide_eq_false (by omega)]
  rw [e1, e2]
theorem sc_is_word : FnScope ["thing"] ["thing"] (defScope (top 32)) := ⟨rfl, rfl, rfl, by decide +kernel, rfl, by decide +kernel, by decide +kernel⟩
theorem ok_isword (cLEAST_LETTERS : Cn mg "LEAST_LETTERS" (.int 2)) (cMOST_LETTERS : Cn mg "MOST_LETTERS" (.int 9)) (F : Fun K "is_word" "is_word" (top 32) f fd) (Fis_letters : Fn P w K mg base "is_letters" 1 (spLetters K)) : FnOk P w K mg base CX0 2 f fd ["thing"] spIsWord := by
  refine F.ok sc_is_word (fun vs H Q E h => ?_) (fun cdv A outer s H vs Q E hr h => ?_)
  · obtain ⟨x, rfl, _⟩ := h
    rfl
  · obtain ⟨x, rfl, hx, q⟩ := h
    refine ⟨_, (pss_one (ps_ret (pe_fn Fis_letters (hr.mono (by decide)) (by rfl) (pa_cons (pv 0) (pa_cons (pe_cn cLEAST_LETTERS (by rfl)) (pa_cons (pe_cn cMOST_LETTERS (by rfl)) pa_nil)))))), ?_⟩
    refine ⟨_, rfl, .inl ⟨x, 2, 9, rfl, hx, fun H1 s1 => ?_⟩⟩
    rw [letB_word]
    exact q H1 s1
def spNeedWord : Sp := fun vs H Q _ => ∃ (x : Str), vs = [.str x] ∧ wordB x = true ∧ ∀ H', Same H H' → Q .non H'
theorem sc_need_word : FnScope ["thing"] ["thing"] (defScope (top 31)) := ⟨rfl, rfl, rfl, by decide +kernel, rfl, by decide +kernel, by decide +kernel⟩
theorem ok_needword (F : Fun K "need_word" "need_word" (top 31) f fd) (Fis_word : Fn P w K mg base "is_word" 2 spIsWord) : FnOk P w K mg base CX0 3 f fd ["thing"] spNeedWord := by
  refine F.ok sc_need_word (fun vs H Q E h => ?_) (fun cdv A outer s H vs Q E hr h => ?_)
  · obtain ⟨x, rfl, _⟩ := h
    rfl
  · obtain ⟨x, rfl, hw, q⟩ := h
    have hl := wordB_len hw
    refine ⟨_, (pss_one (ps_if (pt_not (pt_val (pe_fn Fis_word (hr.mono (by decide)) (by rfl) (pa_cons (pv 0) pa_nil))))
      (pss_one ps_never)
      pss_nil)), ?_⟩
    refine ⟨_, rfl, x, rfl, by omega, fun H1 s1 => ⟨_, rfl, ?_⟩⟩
    rw [hw]
    exact iteF (q H1 s1)
def spBInit (C : Addr) : Sp := fun vs H Q _ => ∃ (p dx : Addr), vs = [.ref p] ∧ H p = some (.ins C dx []) ∧ ∀ (d : Addr) (H' : Hp), H d = none → BookAt C H' p d [] → (∀ b o, H b = some o → b ≠ p → H' b = some o) → Q .non H'
theorem sc_Book__init : FnScope ["self"] ["self"] (defScope (inClass (top 30) 0)) := ⟨rfl, rfl, rfl, by decide +kernel, rfl, by decide +kernel, by decide +kernel⟩
theorem ok_binit {C : Addr} (F : Fun K "__init__" "Book.__init__" (inClass (top 30) 0) f fd) (T : Cls K C) (nw : NoAttr K C "worths") : FnOk P w K mg base CX0 1 f fd ["self"] (spBInit C) := by
  refine F.ok sc_Book__init (fun vs H Q E h => ?_) (fun cdv A outer s H vs Q E hr h => ?_)
  · obtain ⟨p, dx, rfl, _⟩ := h
    rfl
  · obtain ⟨p, dx, rfl, hp, q⟩ := h
    refine ⟨_, (pss_one (ps_fld (pv 0) pe_dnewK rfl)), ?_⟩
    intro d hd
    have npd : p ≠ d := ne_of_none hp hd
    refine ⟨_, rfl, p, C, dx, [], rfl, (by rw [upd_ne npd]; exact hp), T, nw, (by show 0 < 1000; decide), ?_⟩
    refine q d _ hd ⟨⟨dx, upd_same⟩, by rw [upd_ne npd.symm, upd_same], List.nodup_nil, fun q m => absurd m List.not_mem_nil⟩ fun b o e hb => ?_
    rw [upd_ne hb, upd_ne (ne_of_none e hd)]
    exact e
def spBThere (C : Addr) : Sp := fun vs H Q _ => ∃ (p d : Addr) (kvs : List (Key × V)) (x : Str) (v : V), vs = [.ref p, .str x] ∧ BookAt C H p d kvs ∧ wordB x = true ∧ valV kvs (Sum.inr x : Key) = some v ∧ ∀ H', Same H H' → Q .non H'
theorem sc_Book__need_there : FnScope ["self", "word"] ["self", "word"] (defScope (inClass (top 30) 8)) := ⟨rfl, rfl, rfl, by decide +kernel, rfl, by decide +kernel, by decide +kernel⟩
theorem ok_bthere {C : Addr} (F : Fun K "need_there" "Book.need_there" (inClass (top 30) 8) f fd) (T : Cls K C) (nw : NoAttr K C "worths") (Fneed_word : Fn P w K mg base "need_word" 3 spNeedWord) : FnOk P w K mg base CX0 4 f fd ["self", "word"] (spBThere C) := by
  refine F.ok sc_Book__need_there (fun vs H Q E h => ?_) (fun cdv A outer s H vs Q E hr h => ?_)
  · obtain ⟨p, d, kvs, x, v, rfl, _⟩ := h
    rfl
  · obtain ⟨p, d, kvs, x, v, rfl, S, hw, hv, q⟩ := h
    have hu1 := hu_of hr
    refine ⟨_, (pss_cons (ps_expr (pe_fn Fneed_word (hr.mono (by decide)) (by rfl) (pa_cons (pv 1) pa_nil)))
      (pss_one (ps_if (pt_cmp (pc_dnotin hu1 (pv 1) (pe_fld (pv 0) rfl)))
      (pss_one ps_never)
      pss_nil))), ?_⟩
    refine ⟨_, rfl, x, rfl, hw, fun H1 s1 => ?_⟩
    obtain ⟨⟨dx, h1⟩, hd, _⟩ := S.mono s1
    refine ⟨_, rfl, _, rfl, p, C, dx, _, _, rfl, h1, T, nw, bookF_w _, d, _, rfl, DGet.k (k := Sum.inr x) hd, _, rfl, ?_⟩
    rw [hv]
    exact iteF (q H1 s1)
def spBPut (C : Addr) : Sp := fun vs H Q _ => ∃ (p d : Addr) (kvs : List (Key × V)) (x : Str) (v : V), vs = [.ref p, .str x, v] ∧ BookAt C H p d kvs ∧ wordB x = true ∧ valV kvs (Sum.inr x : Key) = none ∧ kvs.length ≤ 1000 ∧
  ∀ H', BookAt C H' p d (putK kvs (Sum.inr x) v) → (∀ b o, b ≠ d → H b = some o → H' b = some o) → Q .non H'
theorem sc_Book__put : FnScope ["self", "word", "worth"] ["self", "word", "worth"] (defScope (inClass (top 30) 1)) := ⟨rfl, rfl, rfl, by decide +kernel, rfl, by decide +kernel, by decide +kernel⟩
theorem ok_bput {C : Addr} {dv : Value} (F : FunD K "put" "Book.put" (inClass (top 30) 1) f fd dv) (T : Cls K C) (nw : NoAttr K C "worths") (Fneed_word : Fn P w K mg base "need_word" 3 spNeedWord) : FnOk P w K mg base CX0 4 f fd ["self", "word", "worth"] (spBPut C) := by
  refine F.ok sc_Book__put (fun vs H Q E h => ?_) (fun cdv A outer s H vs Q E hr h => ?_)
  · obtain ⟨p, d, kvs, x, v, rfl, _⟩ := h
    rfl
  · obtain ⟨p, d, kvs, x, v, rfl, S, hw, hv, hl, q⟩ := h
    have hu1 := hu_of hr
    refine ⟨_, (pss_cons (ps_expr (pe_fn Fneed_word (hr.mono (by decide)) (by rfl) (pa_cons (pv 1) pa_nil)))
      (pss_cons (ps_if (pt_cmp (pc_din hu1 (pv 1) (pe_fld (pv 0) rfl)))
      (pss_one ps_never)
      pss_nil)
      (pss_one (ps_dput hu1 (pe_fld (pv 0) rfl) (pv 1) (pv 2) rfl)))), ?_⟩
    refine ⟨_, rfl, x, rfl, hw, fun H1 s1 => ?_⟩
    obtain ⟨⟨dx, h1⟩, hd, nd, tx⟩ := S.mono s1
    refine ⟨_, rfl, _, rfl, p, C, dx, _, _, rfl, h1, T, nw, bookF_w _, d, _, rfl, DGet.k (k := Sum.inr x) hd, _, rfl, ?_⟩
    rw [hv]
    have npd : p ≠ d := ne_of h1 hd (by intro z; cases z)
    refine iteF ⟨_, rfl, _, rfl, p, C, dx, _, _, rfl, h1, T, nw, bookF_w _, _, rfl, d, _, rfl, DPut.k (k := Sum.inr x) hd (small1000 (by omega)), ?_⟩
    refine q _ ⟨⟨dx, by rw [upd_ne npd]; exact h1⟩, upd_same, nd_putK v nd hv, txt_put tx x v hv⟩ fun b o hb e => ?_
    rw [upd_ne hb]
    exact s1 _ _ e
def spBDrop (C : Addr) : Sp := fun vs H Q _ => ∃ (p d : Addr) (kvs : List (Key × V)) (x : Str) (v : V), vs = [.ref p, .str x] ∧ BookAt C H p d kvs ∧ wordB x = true ∧ valV kvs (Sum.inr x : Key) = some v ∧
  ∀ H', BookAt C H' p d (dropK kvs (Sum.inr x)) → (∀ b o, b ≠ d → H b = some o → H' b = some o) → Q .non H'
theorem sc_Book__drop : FnScope ["self", "word"] ["self", "word"] (defScope (inClass (top 30) 2)) := ⟨rfl, rfl, rfl, by decide +kernel, rfl, by decide +kernel, by decide +kernel⟩
theorem ok_bdrop {C : Addr} (F : Fun K "drop" "Book.drop" (inClass (top 30) 2) f fd) (T : Cls K C) (nw : NoAttr K C "worths") (MBook_need_there : Mt P w K mg base C "need_there" 4 (spBThere C) []) : FnOk P w K mg base CX0 5 f fd ["self", "word"] (spBDrop C) := by
  refine F.ok sc_Book__drop (fun vs H Q E h => ?_) (fun cdv A outer s H vs Q E hr h => ?_)
  · obtain ⟨p, d, kvs, x, v, rfl, _⟩ := h
    rfl
  · obtain ⟨p, d, kvs, x, v, rfl, S, hw, hv, q⟩ := h
    have hu1 := hu_of hr
    obtain ⟨⟨dx0, h10⟩, _⟩ := id S
    refine ⟨_, (pss_cons (ps_expr (pe_mt MBook_need_there (hr.mono (by decide)) (pv 0) (pa_cons (pv 1) pa_nil)))
      (pss_one (ps_expr (pe_dpop1 (pe_fld (pv 0) rfl) (pv 1) ⟨rfl, rfl, rfl, rfl⟩)))), ?_⟩
    refine ⟨_, rfl, p, dx0, _, rfl, h10, bookF_no _ (by decide +kernel), _, rfl, p, d, kvs, x, v, rfl, S, hw, hv, fun H1 s1 => ?_⟩
    obtain ⟨⟨dx, h1⟩, hd, nd, tx⟩ := S.mono s1
    have npd : p ≠ d := ne_of h1 hd (by intro z; cases z)
    refine ⟨_, rfl, p, C, dx, _, _, rfl, h1, T, nw, bookF_w _, d, rfl, .inl ⟨kvs, .inl hd⟩, _, rfl, kvs, Sum.inr x, v, hd, rfl, hv, ?_⟩
    refine q _ ⟨⟨dx, by rw [upd_ne npd]; exact h1⟩, upd_same, nd_dropK nd, txt_drop tx _⟩ fun b o hb e => ?_
    rw [upd_ne hb]
    exact s1 _ _ e
end
end Cw
namespace Cw
open PySem L2
section
variable {P : Program} {w : World} {K : PySem.W.Frag} {mg : Str → Option Value} {base : Heap} {f : Addr} {fd : FuncData}
def spBHas (C : Addr) : Sp := fun vs H Q _ => ∃ (p d : Addr) (kvs : List (Key × V)) (x : Str), vs = [.ref p, .str x] ∧ BookAt C H p d kvs ∧ Q (.bl (valV kvs (Sum.inr x : Key)).isSome) H
theorem sc_Book__has : FnScope ["self", "word"] ["self", "word"] (defScope (inClass (top 30) 7)) := ⟨rfl, rfl, rfl, by decide +kernel, rfl, by decide +kernel, by decide +kernel⟩
theorem ok_bhas {C : Addr} (F : Fun K "has" "Book.has" (inClass (top 30) 7) f fd) (T : Cls K C) (nw : NoAttr K C "worths") : FnOk P w K mg base CX0 1 f fd ["self", "word"] (spBHas C) := by
  refine F.ok sc_Book__has (fun vs H Q E h => ?_) (fun cdv A outer s H vs Q E hr h => ?_)
  · obtain ⟨p, d, kvs, x, rfl, _⟩ := h
    rfl
  · obtain ⟨p, d, kvs, x, rfl, S, q⟩ := h
    have hu1 := hu_of hr
    obtain ⟨⟨dx, h1⟩, hd, nd, tx⟩ := id S
    refine ⟨_, (pss_one (ps_ret (pe_cmp (pc_din hu1 (pv 1) (pe_fld (pv 0) rfl))))), ?_⟩
    exact ⟨_, rfl, _, rfl, p, C, dx, _, _, rfl, h1, T, nw, bookF_w _, d, _, rfl, DGet.k (k := Sum.inr x) hd, q⟩
end
end Cw
namespace Cw
open PySem L2
section
variable {P : Program} {w : World} {K : PySem.W.Frag} {mg : Str → Option Value} {base : Heap} {f : Addr} {fd : FuncData}
def spBWorth (C : Addr) : Sp := fun vs H Q _ => ∃ (p d : Addr) (kvs : List (Key × V)) (x : Str) (v : V), vs = [.ref p, .str x] ∧ BookAt C H p d kvs ∧ wordB x = true ∧ valV kvs (Sum.inr x : Key) = some v ∧ ∀ H', Same H H' → Q v H'
theorem sc_Book__worth : FnScope ["self", "word"] ["self", "word"] (defScope (inClass (top 30) 4)) := ⟨rfl, rfl, rfl, by decide +kernel, rfl, by decide +kernel, by decide +kernel⟩
theorem ok_bworth {C : Addr} (F : Fun K "worth" "Book.worth" (inClass (top 30) 4) f fd) (T : Cls K C) (nw : NoAttr K C "worths") (MBook_need_there : Mt P w K mg base C "need_there" 4 (spBThere C) []) : FnOk P w K mg base CX0 5 f fd ["self", "word"] (spBWorth C) := by
  refine F.ok sc_Book__worth (fun vs H Q E h => ?_) (fun cdv A outer s H vs Q E hr h => ?_)
  · obtain ⟨p, d, kvs, x, v, rfl, _⟩ := h
    rfl
  · obtain ⟨p, d, kvs, x, v, rfl, S, hw, hv, q⟩ := h
    have hu1 := hu_of hr
    obtain ⟨⟨dx0, h10⟩, _⟩ := id S
    refine ⟨_, (pss_cons (ps_expr (pe_mt MBook_need_there (hr.mono (by decide)) (pv 0) (pa_cons (pv 1) pa_nil)))
      (pss_one (ps_ret (pe_dget hu1 (pe_fld (pv 0) rfl) (pv 1) (fun _ _ => rfl))))), ?_⟩
    refine ⟨_, rfl, p, dx0, _, rfl, h10, bookF_no _ (by decide +kernel), _, rfl, p, d, kvs, x, v, rfl, S, hw, hv, fun H1 s1 => ?_⟩
    obtain ⟨⟨dx, h1⟩, hd, nd, tx⟩ := S.mono s1
    exact ⟨_, rfl, p, C, dx, _, _, rfl, h1, T, nw, bookF_w _, _, rfl, d, v, rfl, hv ▸ DGet.k (k := Sum.inr x) hd, q H1 s1⟩
end
end Cw
namespace Cw
open PySem L2
/-! ### rows as they are reckoned anew -/
def runC (op : C2 → Bool) (d c : C2) : List C2 := if prevO op d c = true then [] else line c d (runN op d 10 c)
theorem runC_row (op : C2 → Bool) (d c : C2) : rowFrom op d c = if (runC op d c).length < 2 then [] else runC op d c := by
  unfold rowFrom runC
  split
  · rfl
  · rw [line_len]
def ddN (k : Nat) : C2 := (k, 1 - k)
def rowsTo (l : List Str) (w k n : Nat) : List (List C2) := (((cells l.length w).take n).map (rowFrom (opB l w) (ddN k))).filter (fun r => !r.isEmpty)
theorem rowsTo_succ {l : List Str} {w k i j : Nat} (hi : i < l.length) (hj : j < w) : rowsTo l w k (i * w + (j + 1)) = rowsTo l w k (i * w + j) ++ if (rowFrom (opB l w) (ddN k) (i, j)).isEmpty = true then [] else [rowFrom (opB l w) (ddN k) (i, j)] := by
  unfold rowsTo
  rw [show i * w + (j + 1) = i * w + j + 1 from rfl, cells_take hi hj, List.map_append, List.filter_append, List.map_cons, List.map_nil, List.filter_cons, List.filter_nil]
  cases (rowFrom (opB l w) (ddN k) (i, j)).isEmpty <;> rfl
def rowsK (l : List Str) (w k : Nat) : List (List C2) := rowsTo l w k (l.length * w)
def rowsC (l : List Str) (w : Nat) : List (List C2) := rowsK l w 0 ++ rowsK l w 1
theorem rowsN_map (op : C2 → Bool) (f : C2 → List C2) : ∀ (n : Nat) (cs : List C2), (rowsN op f n cs).map (·.2) = (cs.map f).filter fun r => !r.isEmpty
  | n, [] => rfl
  | n, c :: r => by
    unfold rowsN
    rw [List.map_cons, List.filter_cons]
    cases h : (f c).isEmpty with
    | true =>
      rw [if_pos rfl, rowsN_map op f _ r]
      rfl
    | false =>
      rw [if_neg Bool.false_ne_true, List.map_cons, rowsN_map op f _ r]
      rfl
theorem rowFrom_shut {op : C2 → Bool} {d c : C2} (h : op c = false) : rowFrom op d c = [] := by
  unfold rowFrom
  have : runN op d 10 c = 0 := by
    unfold runN
    rw [h, if_neg Bool.false_ne_true]
  rw [this]
  split
  · rfl
  · rw [if_pos (by decide)]
theorem filter_open {l : List Str} {w : Nat} (d : C2) : ((openC l w).map (rowFrom (opB l w) d)).filter (fun r => !r.isEmpty) = ((cells l.length w).map (rowFrom (opB l w) d)).filter (fun r => !r.isEmpty) := by
  unfold openC
  have : ∀ cs : List C2, (∀ c ∈ cs, c.1 < l.length ∧ c.2 < w) → ((cs.filter (isOpenC l)).map (rowFrom (opB l w) d)).filter (fun r => !r.isEmpty) = (cs.map (rowFrom (opB l w) d)).filter (fun r => !r.isEmpty) := by
    intro cs
    induction cs with
    | nil => intro _; rfl
    | cons c r ih =>
      intro h
      have hc := h c List.mem_cons_self
      have ih := ih fun x m => h x (List.mem_cons_of_mem _ m)
      rw [List.filter_cons, List.map_cons, List.filter_cons]
      cases ho : isOpenC l c with
      | true =>
        rw [if_pos rfl, List.map_cons, List.filter_cons, ih]
      | false =>
        rw [if_neg Bool.false_ne_true, ih, rowFrom_shut (by rw [opB_of hc.1 hc.2]; exact ho)]
        rfl
  exact this _ fun c m => cells_mem m
theorem rowsC_eq (l : List Str) (w : Nat) : rowsC l w = (rowsL l w).map (·.2) := by
  unfold rowsC rowsK rowsTo rowsL rowsA rowsD
  rw [List.map_append, rowsN_map, rowsN_map, filter_open, filter_open, List.take_of_length_le (by rw [cells_len]; exact Nat.le_refl _)]
  rfl
def RunAt (g : Addr) (H : Hp) (r : List C2) (x : V) : Prop := ∃ p ys, x = .ref p ∧ p ≠ g ∧ H p = some (.lst ys) ∧ CellsAt H r ys
theorem RunAt.mono {g : Addr} {H H' : Hp} {r : List C2} {x : V} (s : Same H H') (h : RunAt g H r x) : RunAt g H' r x := let ⟨p, ys, e, n, a, b⟩ := h; ⟨p, ys, e, n, s _ _ a, b.mono s⟩
abbrev RunsAt (g : Addr) (H : Hp) : List (List C2) → List V → Prop := Paired (RunAt g H)
theorem RunsAt.mono {g : Addr} {H H' : Hp} {rs : List (List C2)} {xs : List V} (s : Same H H') (h : RunsAt g H rs xs) : RunsAt g H' rs xs := Paired.mapP h fun _ _ q => q.mono s
theorem RunsAt.off {g : Addr} {H H' : Hp} {rs : List (List C2)} {xs : List V} (hg : ∃ o, H g = some (.lst o)) (k : ∀ b o, b ≠ g → H b = some o → H' b = some o) (h : RunsAt g H rs xs) : RunsAt g H' rs xs :=
  Paired.mapP h fun _ _ ⟨p, ys, e, n, a, b⟩ => ⟨p, ys, e, n, k _ _ n a, CellsAt.off hg k b⟩
section
variable {P : Program} {w : World} {K : PySem.W.Frag} {mg : Str → Option Value} {base : Heap} {f : Addr} {fd : FuncData}
def spLOpen (K : PySem.W.Frag) : Sp := fun vs H Q _ => ∃ (a : Addr) (l : List Str) (w : Nat) (i j : Int), vs = [.ref a, .int i, .int j] ∧ SqT K H a (l.map V.str) ∧ IsSheet l w ∧ Q (.bl (opI l w i j)) H
theorem sc_law_open : FnScope ["_law_sheet", "_law_line", "_law_column"] ["_law_sheet", "_law_line", "_law_column"] (defScope (top 35)) := ⟨rfl, rfl, rfl, by decide +kernel, rfl, by decide +kernel, by decide +kernel⟩
theorem ok_lopen (B : Bl mg) (F : Fun K "_law_open" "_law_open" (top 35) f fd) : FnOk P w K mg base CX0 1 f fd ["_law_sheet", "_law_line", "_law_column"] (spLOpen K) := by
  refine F.ok sc_law_open (fun vs H Q E h => ?_) (fun cdv A outer s H vs Q E hr h => ?_)
  · obtain ⟨a, l, w, i, j, rfl, _⟩ := h
    rfl
  · obtain ⟨a, l, wd, i, j, rfl, hT, S, q⟩ := h
    obtain ⟨x0, hx0, mx0, lx0, _⟩ := S.row (i := 0) S.one
    have h9 := S.nine
    have hw := S.w9
    refine ⟨_, (pss_cons (ps_if (PW.pt (pw_and (pt_chain op_le op_lt pe_int (pv 1) (pe_callB call_len_seq (by rfl) B.len_ bt_len (pa_cons (pv 0) pa_nil))) (pw_and1 (pt_chain op_le op_lt pe_int (pv 2) (pe_callB call_len_str (by rfl) B.len_ bt_len (pa_cons (pe_ix ix_tup (pv 0) pe_int (fun _ _ => rfl)) pa_nil))))))
      (pss_one (ps_ret (pe_cmpR op_ne (pe_ix ix_str (pe_ix ix_tup (pv 0) (pv 1) (fun _ _ => rfl)) (pv 2) (fun _ _ => rfl)) pe_str (nomark _))))
      pss_nil)
      (pss_one (ps_ret pe_bl))), ?_⟩
    unfold opI at q
    refine ⟨_, rfl, _, _, rfl, rfl, _, rfl, ?_⟩
    by_cases h0 : (0 : Int) ≤ i
    · rw [decide_eq_true h0] at q ⊢
      refine iteT ⟨_, rfl, a, _, rfl, .inr hT, _, _, rfl, rfl, _, rfl, ?_⟩
      rw [List.length_map]
      by_cases h1 : i < (l.length : Int)
      · rw [decide_eq_true h1] at q ⊢
        refine iteT ⟨_, rfl, _, _, rfl, rfl, _, rfl, ?_⟩
        by_cases h2 : (0 : Int) ≤ j
        · rw [decide_eq_true h2] at q ⊢
          refine iteT ⟨_, rfl, a, _, 0, .str x0, rfl, rfl, hT, row_at hx0, x0, rfl, sz1_le (by omega), _, _, rfl, rfl, _, rfl, ?_⟩
          rw [lx0]
          by_cases h3 : j < (wd : Int)
          · rw [decide_eq_true h3] at q ⊢
            obtain ⟨i', rfl⟩ := Int.eq_ofNat_of_zero_le h0
            obtain ⟨j', rfl⟩ := Int.eq_ofNat_of_zero_le h2
            rw [Int.toNat_natCast, Int.toNat_natCast] at q
            obtain ⟨x, hx, mx, lx, _, hj⟩ := S.row (i := i') (by omega)
            refine iteT ⟨_, rfl, _, rfl, a, _, _, .str x, rfl, rfl, hT, row_at hx, _, rfl, x, _, sg l (i', j'), rfl, rfl, sz1_le (by omega), atI_nat (hj j' (by omega)), rfl, ?_⟩
            rw [shutS, dec_str1]
            exact q
          · rw [decide_eq_false h3] at q ⊢
            exact iteF q
        · rw [decide_eq_false h2] at q ⊢
          exact iteF ⟨_, rfl, iteF q⟩
      · rw [decide_eq_false h1] at q ⊢
        exact iteF (iteF q)
    · rw [decide_eq_false h0] at q ⊢
      exact iteF ⟨_, rfl, iteF (iteF q)⟩
def RunInv (K : PySem.W.Frag) (a p : Addr) (H : Hp) (l : List Str) (wd : Nat) (c : C2) (k : Nat) : Nat → St → Hp → Prop := fun m σ H2 => ∃ n xs, m = 10 - n ∧ n ≤ 9 ∧ σ = [some (.ref a), some (.int (go c (ddN k) n).1), some (.int (go c (ddN k) n).2), some (.int k), some (.ref p)] ∧ Same H H2 ∧
  H2 p = some (.lst xs) ∧ CellsAt H2 (line c (ddN k) n) xs ∧ ∀ j, j < n → opB l wd (go c (ddN k) j) = true
def spLRun (K : PySem.W.Frag) : Sp := fun vs H Q _ => ∃ (a : Addr) (l : List Str) (w : Nat) (c : C2) (k : Nat), vs = [.ref a, .int c.1, .int c.2, .int k] ∧ SqT K H a (l.map V.str) ∧ IsSheet l w ∧ k ≤ 1 ∧
  ∀ p xs H', H p = none → Same H H' → H' p = some (.lst xs) → CellsAt H' (runC (opB l w) (ddN k) c) xs → Q (.ref p) H'
theorem sc_law_run : FnScope ["_law_sheet", "_law_line", "_law_column", "_law_down", "_law_cells"] ["_law_sheet", "_law_line", "_law_column", "_law_down"] (defScope (top 36)) := ⟨rfl, rfl, rfl, by decide +kernel, rfl, by decide +kernel, by decide +kernel⟩
theorem ok_lrun (F : Fun K "_law_run" "_law_run" (top 36) f fd) (F_law_open : Fn P w K mg base "_law_open" 1 (spLOpen K)) : FnOk P w K mg base CX0 2 f fd ["_law_sheet", "_law_line", "_law_column", "_law_down"] (spLRun K) := by
  refine F.ok sc_law_run (fun vs H Q E h => ?_) (fun cdv A outer s H vs Q E hr h => ?_)
  · obtain ⟨a, l, w, c, k, rfl, _⟩ := h
    rfl
  · obtain ⟨a, l, wd, c, k, rfl, hT, S, hk, q⟩ := h
    have h9 := S.nine
    have hw := S.w9
    refine ⟨_, (pss_cons (ps_set (i := 4) sc_law_run.nd rfl (Or.inl rfl) (pe_lst pa_nil))
      (pss_cons (ps_if (pt_val (pe_fn F_law_open (hr.mono (by decide)) (by rfl) (pa_cons (pv 0) (pa_cons (pe_op op_sub (pv 1) (pv 3)) (pa_cons (pe_op op_add (pe_op op_sub (pv 2) pe_int) (pv 3)) pa_nil)))))
      (pss_one (ps_ret (pv 4)))
      pss_nil)
      (pss_cons (ps_while PassesOwn.never (pt_val (pe_fn F_law_open (hr.mono (by decide)) (by rfl) (pa_cons (pv 0) (pa_cons (pv 1) (pa_cons (pv 2) pa_nil)))))
      (pss_cons (ps_expr (pe_bm PySem.F.plainAttrs_list PySem.F.slot_list_append PySem.F.type_list_append mt_append (pv 4) (pa_cons (pe_tup (pa_cons (pv 1) (pa_cons (pv 2) pa_nil))) pa_nil (hs := star_c rfl))))
        (pss_cons (ps_set (i := 1) sc_law_run.nd rfl (Or.inl rfl) (pe_op op_add (pv 1) (pv 3)))
        (pss_one (ps_set (i := 2) sc_law_run.nd rfl (Or.inl rfl) (pe_op op_sub (pe_op op_add (pv 2) pe_int) (pv 3)))))))
      (pss_one (ps_ret (pv 4)))))), ?_⟩
    refine ⟨Nat.zero_le _, fun p hp => ?_⟩
    have sm0 := Same.upd (o := HO.lst []) hp
    have hk1 : ((1 - k : Nat) : Int) = 1 - (k : Int) := by omega
    have epv := opI_prev l wd c (ddN k)
    have e2 : (c.2 : Int) - (((ddN k).2 : Nat) : Int) = (c.2 : Int) - 1 + (k : Int) := by show (c.2 : Int) - ((1 - k : Nat) : Int) = _; omega
    rw [e2] at epv
    refine ⟨_, rfl, _, rfl, _, rfl, _, _, rfl, rfl, _, rfl, _, _, rfl, rfl, _, rfl, _, _, rfl, rfl, a, l, wd, _, _, rfl, sm0.tup hT, S, _, rfl, ?_⟩
    rw [show (c.1 : Int) - (k : Int) = (c.1 : Int) - (((ddN k).1 : Nat) : Int) from rfl, epv]
    refine ite2 (fun hpv => ?_) (fun hpv => ?_)
    · refine ⟨_, rfl, q p [] _ hp sm0 upd_same ?_⟩
      unfold runC
      rw [if_pos hpv]
      exact .nil
    · refine ⟨RunInv K a p H l wd c k, ⟨10, 0, [], rfl, by omega, by rw [go_zero]; rfl, sm0, upd_same, .nil, fun j hj => absurd hj (Nat.not_lt_zero _)⟩, ?_⟩
      rintro m σ H2 ⟨n, xs, rfl, hn, rfl, sm, hL, hC, ho⟩
      refine ⟨_, rfl, _, rfl, _, rfl, a, l, wd, _, _, rfl, sm.tup hT, S, _, rfl, ?_⟩
      rw [opI_nat]
      have hlen : xs.length = n := by rw [← hC.length, line_len]
      refine ite2 (fun hop => ?_) (fun hop => ?_)
      · have hn8 : n ≤ 8 := by
          obtain ⟨o1, o2, _⟩ := opB_in hop
          simp only [go, ddN] at o1 o2
          rcases (by omega : k = 0 ∨ k = 1) with rfl | rfl
          · simp only [Nat.sub_zero, Nat.mul_one] at o2
            omega
          · simp only [Nat.mul_one] at o1
            omega
        refine ⟨fun σ' H' => ∃ m', m' < 10 - n ∧ RunInv K a p H l wd c k m' σ' H', fun _ _ z => z, ?_⟩
        refine ⟨_, rfl, .inl ⟨rfl, _, SqL.of hL⟩, _, rfl, _, rfl, by show 2 ≤ sizeLine; decide, fun t ht => ?_⟩
        have ntp : t ≠ p := Ne.symm (ne_of_none hL ht)
        have tt := Same.upd (o := HO.tup [V.int ((go c (ddN k) n).1 : Nat), V.int ((go c (ddN k) n).2 : Nat)]) ht
        refine ⟨p, xs, _, rfl, rfl, tt _ _ hL, sz1_lt (by omega), ?_⟩
        refine ⟨_, rfl, _, rfl, _, _, rfl, rfl, _, rfl, _, _, rfl, rfl, _, rfl, _, _, rfl, rfl, ?_⟩
        refine ⟨10 - (n + 1), by omega, n + 1, xs ++ [.ref t], rfl, by omega, ?_, (sm.trans tt).upd2 hp, upd_same, ?_, ?_⟩
        · rw [go_succ]
          have g1 : (((go c (ddN k) n).1 + (ddN k).1 : Nat) : Int) = ((go c (ddN k) n).1 : Int) + (k : Int) := by show (((go c (ddN k) n).1 + k : Nat) : Int) = _; omega
          have g2 : (((go c (ddN k) n).2 + (ddN k).2 : Nat) : Int) = ((go c (ddN k) n).2 : Int) + 1 - (k : Int) := by show (((go c (ddN k) n).2 + (1 - k) : Nat) : Int) = _; omega
          simp only [g1, g2]
          rfl
        · rw [line_succ]
          have off : ∀ b o, b ≠ p → upd H2 t (HO.tup [V.int ((go c (ddN k) n).1 : Nat), V.int ((go c (ddN k) n).2 : Nat)]) b = some o → upd (upd H2 t (HO.tup [V.int ((go c (ddN k) n).1 : Nat), V.int ((go c (ddN k) n).2 : Nat)])) p (.lst (xs ++ [.ref t])) b = some o := fun b o hb z => by rw [upd_ne hb]; exact z
          exact Paired.snoc (CellsAt.off ⟨xs, tt _ _ hL⟩ off (hC.mono tt)) ⟨t, rfl, off _ _ ntp upd_same⟩
        · intro j hj
          rcases Nat.lt_succ_iff_lt_or_eq.mp hj with z | z
          · exact ho j z
          · rw [z]; exact hop
      · have hrun : runN (opB l wd) (ddN k) 10 c = n := runN_of (by omega) ho (Bool.eq_false_iff.mpr hop)
        refine ⟨_, rfl, q p xs H2 hp sm hL ?_⟩
        unfold runC
        rw [if_neg hpv, hrun]
        exact hC
def spLRows (K : PySem.W.Frag) : Sp := fun vs H Q _ => ∃ (a : Addr) (l : List Str) (w : Nat), vs = [.ref a] ∧ SqT K H a (l.map V.str) ∧ IsSheet l w ∧
  ∀ g xs H', H g = none → Same H H' → H' g = some (.lst xs) → RunsAt g H' (rowsC l w) xs → Q (.ref g) H'
theorem rowsTo_len (l : List Str) (w k n : Nat) : (rowsTo l w k n).length ≤ (cells l.length w).length := by
  unfold rowsTo
  refine Nat.le_trans (List.length_filter_le _ _) ?_
  rw [List.length_map, List.length_take]
  omega
def rowsO (l : List Str) (w : Nat) : Nat → List (List C2)
  | 0 => []
  | 1 => rowsK l w 0
  | _ => rowsC l w
def rowsAt2 (l : List Str) (w k n : Nat) : List (List C2) := rowsO l w k ++ rowsTo l w k n
theorem sc_law_rows : FnScope ["_law_sheet", "_law_rows_here", "_law_down", "_law_line", "_law_column", "_law_cells"] ["_law_sheet"] (defScope (top 37)) := ⟨rfl, rfl, rfl, by decide +kernel, rfl, by decide +kernel, by decide +kernel⟩
theorem ok_lrows (B : Bl mg) (F : Fun K "_law_rows" "_law_rows" (top 37) f fd) (F_law_run : Fn P w K mg base "_law_run" 2 (spLRun K)) : FnOk P w K mg base CX0 3 f fd ["_law_sheet"] (spLRows K) := by
  refine F.ok sc_law_rows (fun vs H Q E h => ?_) (fun cdv A outer s H vs Q E hr h => ?_)
  · obtain ⟨a, l, w, rfl, _⟩ := h
    rfl
  · obtain ⟨a, l, wd, rfl, hT, S, q⟩ := h
    have h9 := S.nine
    have hw := S.w9
    have hsm := cells_small S
    obtain ⟨x0, hx0, mx0, lx0, _⟩ := S.row (i := 0) S.one
    refine ⟨_, (pss_cons (ps_set (i := 1) sc_law_rows.nd rfl (Or.inl rfl) (pe_lst pa_nil))
      (pss_cons (ps_for PassesOwn.never rfl (pi_range1 (by rfl) B.range_ (pa_cons pe_int pa_nil)) (pg_name (i := 2) sc_law_rows.nd rfl (Or.inl rfl))
      (pss_one (ps_for PassesOwn.never rfl (pi_range1 (by rfl) B.range_ (pa_cons (pe_callB call_len_seq (by rfl) B.len_ bt_len (pa_cons (pv 0) pa_nil)) pa_nil)) (pg_name (i := 3) sc_law_rows.nd rfl (Or.inl rfl))
        (pss_one (ps_for PassesOwn.never rfl (pi_range1 (by rfl) B.range_ (pa_cons (pe_callB call_len_str (by rfl) B.len_ bt_len (pa_cons (pe_ix ix_tup (pv 0) pe_int (fun _ _ => rfl)) pa_nil)) pa_nil)) (pg_name (i := 4) sc_law_rows.nd rfl (Or.inl rfl))
          (pss_cons (ps_set (i := 5) sc_law_rows.nd rfl (Or.inl rfl) (pe_fn F_law_run (hr.mono (by decide)) (by rfl) (pa_cons (pv 0) (pa_cons (pv 3) (pa_cons (pv 4) (pa_cons (pv 2) pa_nil))))))
            (pss_one (ps_if (pt_cmpR op_gt (pe_callB call_len_seq (by rfl) B.len_ bt_len (pa_cons (pv 5) pa_nil)) pe_int (nomark _))
            (pss_one (ps_expr (pe_bm PySem.F.plainAttrs_list PySem.F.slot_list_append PySem.F.type_list_append mt_append (pv 1) (pa_cons (pv 5) pa_nil))))
            pss_nil))))))))
      (pss_one (ps_ret (pv 1))))), ?_⟩
    refine ⟨Nat.zero_le _, fun g hg => ?_⟩
    have sm0 := Same.upd (o := HO.lst []) hg
    have hlen2 : ∀ k n, (rowsAt2 l wd k n).length ≤ 300 := fun k n => by
      unfold rowsAt2
      have h1 := rowsTo_len l wd k n
      have h2 : (rowsK l wd 0).length ≤ 81 := Nat.le_trans (rowsTo_len l wd 0 _) hsm
      have h3 : (rowsO l wd k).length ≤ 162 := by
        match k with
        | 0 => exact Nat.zero_le _
        | 1 => show (rowsK l wd 0).length ≤ _; omega
        | k + 2 =>
          show (rowsC l wd).length ≤ _
          unfold rowsC
          have h2 : (rowsK l wd 1).length ≤ 81 := Nat.le_trans (rowsTo_len l wd 1 _) hsm
          rw [List.length_append]
          omega
      rw [List.length_append]
      omega
    refine ⟨_, rfl, by decide, by decide, for_range0 (n := 2) (fun k σ H2 => ∃ v2 v3 v4 v5 xs, σ = [some (.ref a), some (.ref g), v2, v3, v4, v5] ∧ Same H H2 ∧ H2 g = some (.lst xs) ∧ RunsAt g H2 (rowsO l wd k) xs)
      ⟨none, none, none, none, [], rfl, sm0, upd_same, .nil⟩ ?_ ?_⟩
    · rintro k σ H2 hk ⟨v2, v3, v4, v5, xs, rfl, sm, hL, hC⟩
      refine ⟨_, rfl, a, _, rfl, .inr (sm.tup hT), _, rfl, by rw [List.length_map]; omega, by rw [List.length_map]; omega, ?_⟩
      rw [Int.toNat_natCast, List.length_map]
      refine for_range0 (fun i σ H3 => ∃ v3 v4 v5 xs, σ = [some (.ref a), some (.ref g), some (.int k), v3, v4, v5] ∧ Same H H3 ∧ H3 g = some (.lst xs) ∧ RunsAt g H3 (rowsAt2 l wd k (i * wd)) xs)
        ⟨v3, v4, v5, xs, rfl, sm, hL, by unfold rowsAt2 rowsTo; rw [Nat.zero_mul, List.take_zero]; simpa using hC⟩ ?_ ?_
      · rintro i σ H3 hi ⟨v3, v4, v5, ys, rfl, sm3, hL3, hC3⟩
        refine ⟨_, rfl, a, _, 0, .str x0, rfl, rfl, sm3.tup hT, row_at hx0, x0, rfl, sz1_le (by omega), _, rfl, by omega, by omega, ?_⟩
        rw [Int.toNat_natCast, lx0]
        refine for_range0 (fun j σ H4 => ∃ v4 v5 xs, σ = [some (.ref a), some (.ref g), some (.int k), some (.int i), v4, v5] ∧ Same H H4 ∧ H4 g = some (.lst xs) ∧ RunsAt g H4 (rowsAt2 l wd k (i * wd + j)) xs)
          ⟨v4, v5, ys, rfl, sm3, hL3, hC3⟩ ?_ ?_
        · rintro j σ H4 hj ⟨v4, v5, zs, rfl, sm4, hL4, hC4⟩
          refine ⟨_, rfl, _, rfl, _, rfl, _, rfl, a, l, wd, (i, j), k, rfl, sm4.tup hT, S, by omega, fun p us H5 hp s5 hP hCp => ?_⟩
          have hL5 := s5 _ _ hL4
          have npg : p ≠ g := fun z => by rw [z, hL4] at hp; cases hp
          have hlu := hCp.length
          have e1 : rowsAt2 l wd k (i * wd + (j + 1)) = rowsAt2 l wd k (i * wd + j) ++ if (rowFrom (opB l wd) (ddN k) (i, j)).isEmpty = true then [] else [rowFrom (opB l wd) (ddN k) (i, j)] := by
            unfold rowsAt2
            rw [rowsTo_succ hi hj, List.append_assoc]
          have e2 := runC_row (opB l wd) (ddN k) (i, j)
          refine ⟨_, rfl, p, _, rfl, .inl (SqL.of hP), _, _, rfl, rfl, _, rfl, ite2 (fun h1 => ?_) (fun h1 => ?_)⟩
          · have h1 : (1 : Int) < (us.length : Int) := of_decide_eq_true h1
            have hz := hC4.length
            have hl2 := hlen2 k (i * wd + j)
            refine ⟨_, rfl, .inl ⟨rfl, _, SqL.of hL5⟩, _, rfl, g, zs, _, rfl, rfl, hL5, sz1_lt (by omega), ?_⟩
            refine ⟨_, _, _, rfl, (sm4.trans s5).upd2 hg, upd_same, ?_⟩
            rw [if_neg (by omega)] at e2
            have hne : (rowFrom (opB l wd) (ddN k) (i, j)).isEmpty = false := by
              rw [e2]
              cases hr' : runC (opB l wd) (ddN k) (i, j) with
              | nil =>
                exfalso
                rw [hr'] at hlu
                have hlu : 0 = us.length := hlu
                omega
              | cons _ _ => rfl
            rw [e1, if_neg (by rw [hne]; exact Bool.false_ne_true), e2]
            have off : ∀ b o, b ≠ g → H5 b = some o → upd H5 g (.lst (zs ++ [.ref p])) b = some o := fun b o hb z => by rw [upd_ne hb]; exact z
            exact Paired.snoc (RunsAt.off ⟨zs, hL5⟩ off (RunsAt.mono s5 hC4)) ⟨p, us, rfl, npg, off _ _ npg hP, CellsAt.off ⟨zs, hL5⟩ off hCp⟩
          · have h1 : ¬ (1 : Int) < (us.length : Int) := fun z => h1 (decide_eq_true z)
            rw [if_pos (by omega)] at e2
            refine ⟨_, _, zs, rfl, sm4.trans s5, hL5, ?_⟩
            rw [e1, e2, if_pos (show ([] : List C2).isEmpty = true from rfl), List.append_nil]
            exact RunsAt.mono s5 hC4
        · rintro σ H4 ⟨v4, v5, zs, rfl, sm4, hL4, hC4⟩
          refine ⟨_, _, _, zs, rfl, sm4, hL4, ?_⟩
          rw [Nat.succ_mul]
          exact hC4
      · rintro σ H3 ⟨v3, v4, v5, ys, rfl, sm3, hL3, hC3⟩
        refine ⟨_, _, _, _, ys, rfl, sm3, hL3, ?_⟩
        have e3 : rowsAt2 l wd k (l.length * wd) = rowsO l wd (k + 1) := by
          rcases (by omega : k = 0 ∨ k = 1) with rfl | rfl
          · unfold rowsAt2
            exact List.nil_append _
          · rfl
        rw [← e3]
        exact hC3
    · rintro σ H2 ⟨v2, v3, v4, v5, xs, rfl, sm, hL, hC⟩
      exact ⟨_, rfl, q g xs H2 hg sm hL hC⟩
end
end Cw
namespace Cw
open PySem L2
/-! ### words put into rows -/
section
variable {P : Program} {w : World} {K : PySem.W.Frag} {mg : Str → Option Value} {base : Heap} {f : Addr} {fd : FuncData}
theorem sc_law_with : FnScope ["_law_sheet", "_law_cell", "_law_sign", "_law_lines", "_law_line"] ["_law_sheet", "_law_cell", "_law_sign"] (defScope (top 38)) := ⟨rfl, rfl, rfl, by decide +kernel, rfl, by decide +kernel, by decide +kernel⟩
theorem ok_lwith (B : Bl mg) (F : Fun K "_law_with" "_law_with" (top 38) f fd) : FnOk P w K mg base CX0 1 f fd ["_law_sheet", "_law_cell", "_law_sign"] (spWith K) := by
  refine F.ok sc_law_with (fun vs H Q E h => ?_) (fun cdv A outer s H vs Q E hr h => ?_)
  · obtain ⟨a, b, l, w, c, ch, rfl, _⟩ := h
    rfl
  · obtain ⟨a, b, l, wd, c, ch, rfl, hT, S, hb, h1, h2, q⟩ := h
    obtain ⟨x, hx, mx, lx, lx', hj⟩ := S.row h1
    have hw := S.w9
    refine ⟨_, (pss_cons (ps_set (i := 3) sc_law_with.nd rfl (Or.inl rfl) (pe_callTy call_list_of (by rfl) B.list_ bt_list (pa_cons (pv 0) pa_nil)))
      (pss_cons (ps_set (i := 4) sc_law_with.nd rfl (Or.inl rfl) (pe_ix ix_list (pv 3) (pe_ix ix_tup (pv 1) pe_int (fun _ _ => rfl)) (fun _ _ => rfl)))
      (pss_cons (ps_asg (pe_op op_add_str (pe_op op_add_str (pe_slice sl_str (pv 4) po_none (po_some (pe_ix ix_tup (pv 1) pe_int (fun _ _ => rfl)))) (pv 2)) (pe_slice sl_str (pv 4) (po_some (pe_op op_add (pe_ix ix_tup (pv 1) pe_int (fun _ _ => rfl)) pe_int)) po_none)) (pg_sub (pv 3) (pe_ix ix_tup (pv 1) pe_int (fun _ _ => rfl)) set_list))
      (pss_one (ps_ret (pe_callTy call_tuple_of (by rfl) B.tuple_ bt_tuple (pa_cons (pv 3) pa_nil))))))), ?_⟩
    refine ⟨_, rfl, a, _, rfl, .inr hT, fun p hp => ?_⟩
    have t1 := Same.upd (o := HO.lst (l.map V.str)) hp
    have l1 : (Txt.slice x none (some (c.2 : Int))).length ≤ 100 := Nat.le_trans (Txt.slice_le x _ _) (by omega)
    have l2 : (Txt.slice x (some ((c.2 : Int) + 1)) none).length ≤ 100 := Nat.le_trans (Txt.slice_le x _ _) (by omega)
    have hb1 := t1.tup hb
    refine ⟨_, rfl, _, rfl, b, _, 0, .int c.1, rfl, rfl, hb1, rfl, p, _, _, .str x, rfl, rfl, SqL.of upd_same, row_at hx, ?_⟩
    refine ⟨_, rfl, _, rfl, b, _, 1, .int c.2, rfl, rfl, hb1, rfl, _, rfl, x, rfl, sz1_le (by omega), _, rfl, _, _, rfl, rfl, sz1_le (by show _ + 1 ≤ _; omega), ?_⟩
    refine ⟨_, rfl, _, rfl, b, _, 1, .int c.2, rfl, rfl, hb1, rfl, _, _, rfl, rfl, _, rfl, x, rfl, sz1_le (by omega), _, _, rfl, rfl, sz1_le ?_, ?_⟩
    · rw [← cs_len, cs_app, List.length_append, cs_len]
      show _ + 1 + _ ≤ _
      omega
    have eg := cuts_glued (x := x) (j := c.2) (ch := ch) (slice_to (by omega)) (slice_from (by omega))
    refine ⟨_, rfl, _, rfl, b, _, 0, .int c.1, rfl, rfl, hb1, rfl, p, _, _, c.1, rfl, rfl, upd_same, ixN_nat (by rw [List.length_map]; exact h1), ?_⟩
    rw [eg, upd_upd]
    refine ⟨_, rfl, p, _, rfl, .inl ⟨SqL.of upd_same, fun t ht => ?_⟩⟩
    have sm : Same H (upd H p (.lst ((l.map V.str).set c.1 (.str (setLine x c.2 ch))))) := Same.upd hp
    refine q t _ (sm.free ht) (sm.trans (Same.upd ht)) ?_
    rw [upd_same]
    unfold setC
    rw [getD_of hx, List.map_set]
def spLText (K : PySem.W.Frag) : Sp := fun vs H Q _ => ∃ (a t : Addr) (l : List Str) (w : Nat) (cs : List C2) (xs : List V), vs = [.ref a, .ref t] ∧ SqT K H a (l.map V.str) ∧ IsSheet l w ∧ H t = some (.lst xs) ∧ CellsAt H cs xs ∧ cs.length ≤ 100 ∧ (∀ c ∈ cs, c.1 < l.length ∧ c.2 < w) ∧
  ∀ H', Same H H' → Q (.str (patS l cs)) H'
theorem sc_law_text : FnScope ["_law_sheet", "_law_cells"] ["_law_sheet", "_law_cells"] (defScope (top 44)) := ⟨rfl, rfl, rfl, by decide +kernel, rfl, by decide +kernel, by decide +kernel⟩
theorem ok_ltext (F : Fun K "_law_text" "_law_text" (top 44) f fd) : FnOk P w K mg base CX0 1 f fd ["_law_sheet", "_law_cells"] (spLText K) := by
  refine F.ok sc_law_text (fun vs H Q E h => ?_) (fun cdv A outer s H vs Q E hr h => ?_)
  · obtain ⟨a, t, l, w, cs, xs, rfl, _⟩ := h
    rfl
  · obtain ⟨a, t, l, wd, cs, xs, rfl, hT, S, ht, hC, hlen, hin, q⟩ := h
    have hlx := hC.length
    have hw := S.w9
    refine ⟨_, (pss_one (ps_ret (pe_bm PySem.F.plainAttrs_str PySem.F.slot_str_join PySem.F.type_str_join mt_join pe_str (pa_cons (pe_comp2 (js := [0]) (ns := ["_law_sheet"]) (pi_list (pv 1)) rfl rfl rfl rfl (fun _ _ _ _ => pif_nil) (fun _ _ _ _ => (pe_ix ix_str (pe_ixK (K := K) (rr := rIxT) rfl ix_tup (pv 2) (pv 0) (fun _ _ => rfl)) (pv 1) (fun _ _ => rfl)))) pa_nil (hs := star_c rfl))))), ?_⟩
    refine ⟨rfl, _, rfl, t, rfl, ⟨_, SqL.of ht⟩, ?_⟩
    refine comp_list2 (by omega) (SqL.of ht) (fun _ => true) (fun _ i y _ => y = .str ⟨#[sg l (cs.getD i (0, 0))]⟩) (fun _ _ _ _ _ _ _ _ h => h) ?_ ?_
    · intro D i x H2 Z0 Z hD hx s2 _ k0 k1
      obtain ⟨c, hc, b, rfl, hb⟩ := Paired.get hC hx
      have hcb := hin c (List.mem_of_getElem? hc)
      obtain ⟨y, hy, my, ly, _, hj⟩ := S.row hcb.1
      refine ⟨b, _, _, rfl, SqT.of (s2 _ _ hb), iteT (B := Z0 H2) ?_⟩
      exact ⟨_, rfl, _, rfl, a, _, _, .str y, rfl, rfl, s2.tup hT, row_at hy, _, rfl, y, _, _, rfl, rfl, sz1_le (by omega), atI_nat (hj c.2 hcb.2), k1 _ _ (Same.refl' _) rfl (by rw [getD_of hc])⟩
    · intro D ys H2 hD hDs s2 pr
      rw [List.filter_eq_self.mpr (fun _ _ => rfl)] at pr
      have e := paired_map1 pr
      rw [← hlx, map_getD1 (fun c => V.str ⟨#[sg l c]⟩)] at e
      have e1 : ys = ((cs.map (sg l)).map fun c => (⟨#[c]⟩ : Str)).map V.str := by rw [e, List.map_map, List.map_map]; rfl
      rw [e1] at hDs
      refine ⟨_, D, (cs.map (sg l)).map fun c => (⟨#[c]⟩ : Str), rfl, rfl, .inl (SqL.of hDs), ?_, ?_⟩
      · rw [sum_ones, List.length_map, List.length_map, emptyS]
        show _ + _ * 0 ≤ _
        omega
      · rw [emptyS, join1]
        exact q H2 s2
theorem letterZ (z : Int) : atI letters.cps.toList (z % 26) = some (97 + (z % 26).toNat) ∧ 97 ≤ 97 + (z % 26).toNat ∧ 97 + (z % 26).toNat ≤ 122 := by
  have h1 := Int.emod_nonneg z (show (26 : Int) ≠ 0 by decide)
  have h2 := Int.emod_lt_of_pos z (show (0 : Int) < 26 by decide)
  obtain ⟨k, hk⟩ := Int.eq_ofNat_of_zero_le h1
  rw [hk, Int.toNat_natCast]
  have e : letters.cps.toList[k]? = some (97 + k) := by
    rw [letters_cs, List.getElem?_map, List.getElem?_range (by omega)]
    rfl
  exact ⟨atI_nat e, by omega, by omega⟩
def spLetter (K : PySem.W.Frag) : Sp := fun vs H Q _ => ∃ (a : Addr) (ns : List Int) (n : Int), vs = [.ref a, .int n] ∧ SqL K H a (ns.map V.int) ∧ ∀ ch : Nat, 97 ≤ ch → ch ≤ 122 → Q (.str ⟨#[ch]⟩) H
theorem sc_law_letter : FnScope ["_law_script", "_law_number", "_law_letters", "_law_cell"] ["_law_script", "_law_number"] (defScope (top 42)) := ⟨rfl, rfl, rfl, by decide +kernel, rfl, by decide +kernel, by decide +kernel⟩
theorem ok_lletter (F : Fun K "_law_letter" "_law_letter" (top 42) f fd) (F_law_cell_at : Fn P w K mg base "_law_cell_at" 1 (spCell K)) : FnOk P w K mg base CX0 2 f fd ["_law_script", "_law_number"] (spLetter K) := by
  refine F.ok sc_law_letter (fun vs H Q E h => ?_) (fun cdv A outer s H vs Q E hr h => ?_)
  · obtain ⟨a, ns, n, rfl, _⟩ := h
    rfl
  · obtain ⟨a, ns, n, rfl, hS, q⟩ := h
    refine ⟨_, (pss_cons (ps_set (i := 2) sc_law_letter.nd rfl (Or.inl rfl) pe_str)
      (pss_cons (ps_set (i := 3) sc_law_letter.nd rfl (Or.inl rfl) (pe_fn F_law_cell_at (hr.mono (by decide)) (by rfl) (pa_cons (pv 0) (pa_cons pe_int pa_nil))))
      (pss_one (ps_ret (pe_ix ix_str (pv 2) (pe_op op_mod (pe_op op_add (pe_op op_fdiv (pv 3) pe_int) (pe_op op_mul (pe_op op_mod (pv 1) (pe_op op_add pe_int (pe_op op_mod (pv 3) pe_int))) (pe_op op_add pe_int (pe_op op_mod (pe_op op_fdiv (pv 3) pe_int) pe_int)))) pe_int) (fun _ _ => rfl)))))), ?_⟩
    have c0 := Int.emod_nonneg (cellAt ns 1) (show (3 : Int) ≠ 0 by decide)
    have d0 := Int.emod_nonneg (cellAt ns 1 / 78) (show (8 : Int) ≠ 0 by decide)
    have d1 := Int.emod_lt_of_pos (cellAt ns 1 / 78) (show (0 : Int) < 8 by decide)
    refine ⟨_, rfl, a, ns, 1, rfl, hS, ?_⟩
    refine ⟨_, rfl, _, rfl, _, _, rfl, rfl, ⟨by decide, by decide⟩, _, rfl, _, rfl, _, _, rfl, rfl, (by show (0 : Int) < 3; decide), _, _, rfl, rfl, _, _, rfl, rfl, (by show (0 : Int) < 2 + cellAt ns 1 % 3; omega), ?_⟩
    refine ⟨_, rfl, _, _, rfl, rfl, ⟨by decide, by decide⟩, _, _, rfl, rfl, (by show (0 : Int) < 8; decide), _, _, rfl, rfl, _, _, rfl, rfl, .inr ⟨by omega, by omega⟩, _, _, rfl, rfl, _, _, rfl, rfl, (by show (0 : Int) < 26; decide), ?_⟩
    exact ⟨letters, _, _, rfl, rfl, by decide, (letterZ _).1, q _ (letterZ _).2.1 (letterZ _).2.2⟩
end
end Cw
namespace Cw
open PySem L2
theorem getF {α : Type} {l : List α} {i : Nat} {x d : α} (h : l[i]? = some x) : l.getD i d = x := by rw [List.getD_eq_getElem?_getD, h]; rfl
theorem pick_map {α β : Type} (h : α → β) (d : α) (l : List α) (g : α → Bool) : ((List.range l.length).filter fun i => g (l.getD i d)).map (fun i => h (l.getD i d)) = (l.filter g).map h := by
  have e : ((List.range l.length).map fun i => l.getD i d) = l := by
    have := mapB_getD (fun x : α => x) d l
    rw [this, List.map_id']
  conv => rhs; rw [← e]
  rw [List.filter_map, List.map_map]
  rfl
theorem dec_len (x p : Str) : decide (V.int (x.length : Int) = V.int (p.length : Int)) = decide (x.length = p.length) := by
  by_cases h : x.length = p.length
  · rw [h, decide_eq_true rfl, decide_eq_true rfl]
  · rw [decide_eq_false h, decide_eq_false]
    intro z
    injection z with z
    omega
end Cw
namespace Cw
open PySem L2
/-! ### drawn floors -/
def cntO (l : List Str) : List Int := l.map fun x => (x.length : Int) - (Txt.count x "#" : Int)
def goodB (l : List Str) (w : Nat) : Bool := decide (((((rowsC l w).map (·.length)).sum : Nat) : Int) = 2 * (cntO l).sum)
structure FloorP (l : List Str) (w : Nat) : Prop where
  sh : IsSheet l w
  h4 : l.length ≤ 4
  w4 : w ≤ 4
  sg : ∀ x ∈ l, ∀ c ∈ x.cps.toList, c = 35 ∨ c = 46
theorem IsSheet.of {l : List Str} {w : Nat} (h1 : 1 ≤ l.length) (h9 : l.length ≤ 9) (w1 : 1 ≤ w) (w9 : w ≤ 9) (hl : ∀ x ∈ l, x.length = w) (hc : ∀ x ∈ l, ∀ c ∈ x.cps.toList, c = 35 ∨ c = 46) : IsSheet l w :=
  ⟨h1, h9, w1, w9, hl, fun x m c mc => by rcases hc x m c mc with h | h <;> rw [h] <;> unfold OkC <;> omega⟩
theorem setC_signs {l : List Str} {c : C2} {ch : Nat} {P : Nat → Prop} (h : ∀ x ∈ l, ∀ d ∈ x.cps.toList, P d) (h1 : c.1 < l.length) (hP : P ch) : ∀ x ∈ setC l c ch, ∀ d ∈ x.cps.toList, P d := by
  intro x m d md
  unfold setC at m
  rcases List.mem_or_eq_of_mem_set m with z | z
  · exact h x z d md
  · rw [z] at md
    have md : d ∈ (l.getD c.1 ⟨#[]⟩).cps.toList.take c.2 ++ ch :: (l.getD c.1 ⟨#[]⟩).cps.toList.drop (c.2 + 1) := by
      unfold setLine at md
      simpa using md
    have hm : l.getD c.1 ⟨#[]⟩ ∈ l := by rw [List.getD_eq_getElem?_getD, List.getElem?_eq_getElem h1]; exact List.getElem_mem h1
    rcases List.mem_append.mp md with md | md
    · exact h _ hm d (List.mem_of_mem_take md)
    · rcases List.mem_cons.mp md with md | md
      · rw [md]; exact hP
      · exact h _ hm d (List.mem_of_mem_drop md)
theorem FloorP.set {l : List Str} {w : Nat} (F : FloorP l w) {c : C2} (h1 : c.1 < l.length) (h2 : c.2 < w) : FloorP (setC l c 35) w :=
  ⟨setC_sheet F.sh h1 h2 (.inl rfl), by rw [setC_len]; exact F.h4, F.w4, setC_signs (P := fun d => d = 35 ∨ d = 46) F.sg h1 (.inl rfl)⟩
theorem dots_signs (n : Nat) : (repS "." n).cps.toList = List.replicate n 46 := by
  show (List.replicate n ("." : Str).cps.toList).flatten = _
  rw [show ("." : Str).cps.toList = [46] from by decide +kernel]
  induction n with
  | zero => rfl
  | succ n ih => rw [List.replicate_succ, List.flatten_cons, ih, List.replicate_succ]; rfl
theorem floor0 {h w : Nat} (h1 : 1 ≤ h) (h4 : h ≤ 4) (w1 : 1 ≤ w) (w4 : w ≤ 4) : FloorP (List.replicate h (repS "." w)) w := by
  have hs : ∀ x ∈ List.replicate h (repS "." w), ∀ c ∈ x.cps.toList, c = 35 ∨ c = 46 := fun x m c mc => by
    rw [List.eq_of_mem_replicate m, dots_signs] at mc
    exact .inr (List.eq_of_mem_replicate mc)
  refine ⟨IsSheet.of (by rw [List.length_replicate]; exact h1) (by rw [List.length_replicate]; omega) w1 (by omega) (fun x m => ?_) hs, by rw [List.length_replicate]; exact h4, w4, hs⟩
  rw [List.eq_of_mem_replicate m, ← cs_len, dots_signs, List.length_replicate]
theorem rep_flat {α : Type} (x : α) : ∀ n : Nat, (List.replicate n [x]).flatten = List.replicate n x
  | 0 => rfl
  | n + 1 => by rw [List.replicate_succ, List.flatten_cons, rep_flat x n]; rfl
theorem dIv (a b : Int) : decide (V.int a = V.int b) = decide (a = b) := by
  by_cases h : a = b
  · rw [h, decide_eq_true rfl, decide_eq_true rfl]
  · rw [decide_eq_false h, decide_eq_false]
    intro z
    injection z with z
    exact h z
theorem pick4 (z : Int) : ∃ ch, atI ("..#." : Str).cps.toList (z % 4) = some ch ∧ (ch = 35 ∨ ch = 46) := by
  have h0 := Int.emod_nonneg z (show (4 : Int) ≠ 0 by decide)
  have h1 := Int.emod_lt_of_pos z (show (0 : Int) < 4 by decide)
  rw [show ("..#." : Str).cps.toList = [46, 46, 35, 46] from by decide +kernel]
  have e : z % 4 = 0 ∨ z % 4 = 1 ∨ z % 4 = 2 ∨ z % 4 = 3 := by omega
  rcases e with e | e | e | e <;> rw [e]
  · exact ⟨46, rfl, .inr rfl⟩
  · exact ⟨46, rfl, .inr rfl⟩
  · exact ⟨35, rfl, .inl rfl⟩
  · exact ⟨46, rfl, .inr rfl⟩
theorem upd_at {H : Hp} {p : Addr} {o : HO} (_ : Same H (upd H p o)) : upd H p o p = some o := upd_same
section
variable {P : Program} {w : World} {K : PySem.W.Frag} {mg : Str → Option Value} {base : Heap} {f : Addr} {fd : FuncData}
def spGood (K : PySem.W.Frag) : Sp := fun vs H Q _ => ∃ (a : Addr) (l : List Str) (w : Nat), vs = [.ref a] ∧ SqT K H a (l.map V.str) ∧ IsSheet l w ∧ ∀ H', Same H H' → Q (.bl (goodB l w)) H'
theorem sc_law_good : FnScope ["_law_sheet", "_law_many", "_law_cells"] ["_law_sheet"] (defScope (top 39)) := ⟨rfl, rfl, rfl, by decide +kernel, rfl, by decide +kernel, by decide +kernel⟩
theorem ok_lgood (B : Bl mg) (F : Fun K "_law_good" "_law_good" (top 39) f fd) (F_law_rows : Fn P w K mg base "_law_rows" 3 (spLRows K)) : FnOk P w K mg base CX0 4 f fd ["_law_sheet"] (spGood K) := by
  refine F.ok sc_law_good (fun vs H Q E h => ?_) (fun cdv A outer s H vs Q E hr h => ?_)
  · obtain ⟨a, l, w, rfl, _⟩ := h
    rfl
  · obtain ⟨a, l, wd, rfl, hT, S, q⟩ := h
    have h9 := S.nine
    have hw := S.w9
    refine ⟨_, (pss_cons (ps_set (i := 1) sc_law_good.nd rfl (Or.inl rfl) pe_int)
      (pss_cons (ps_for PassesOwn.never rfl (pi_list (pe_fn F_law_rows (hr.mono (by decide)) (by rfl) (pa_cons (pv 0) pa_nil))) (pg_name (i := 2) sc_law_good.nd rfl (Or.inl rfl))
      (pss_one (ps_set (i := 1) sc_law_good.nd rfl (Or.inl rfl) (pe_op op_add (pv 1) (pe_callB call_len_seq (by rfl) B.len_ bt_len (pa_cons (pv 2) pa_nil))))))
      (pss_one (ps_ret (pe_cmpR op_eq (pv 1) (pe_op op_mul pe_int (pe_callB (call_sumI rfl) (by rfl) B.sum_ bt_sum (pa_cons (pe_comp (js := []) (ns := []) (pi_tup (pv 0)) rfl rfl rfl rfl (fun _ _ _ _ => pif_nil) (fun _ _ _ _ => (pe_op op_sub (pe_callB call_len_str (by rfl) B.len_ bt_len (pa_cons (pv 0) pa_nil)) (pe_bmK (K := K) (rr := fun _ => rCount) rfl PySem.F.plainAttrs_str PySem.F.slot_str_count PySem.F.type_str_count mt_count (pv 0) (pa_cons pe_str pa_nil))))) pa_nil))) (nomark _)))))), ?_⟩
    refine ⟨_, rfl, a, l, wd, rfl, hT, S, fun g xs H1 hg s1 hL hR => ⟨g, rfl, ⟨_, SqL.of hL⟩, ?_⟩⟩
    have hlr := hR.length
    refine for_list (xs := xs) (fun i σ H2 => ∃ v2, σ = [some (.ref a), some (.int (((((rowsC l wd).take i).map (·.length)).sum : Nat) : Int)), v2] ∧ H2 = H1) ⟨none, rfl, rfl⟩ (fun i σ H2 _ ⟨_, _, e⟩ => by rw [e]; exact SqL.of hL) ?_ ?_
    · rintro i x σ H2 hx ⟨v2, rfl, rfl⟩
      obtain ⟨r, hr', p, ys, rfl, _, hp, hc⟩ := Paired.get hR hx
      refine ⟨_, rfl, _, rfl, p, _, rfl, .inl (SqL.of hp), _, _, rfl, rfl, ?_⟩
      refine ⟨some (.ref p), ?_, rfl⟩
      rw [List.take_add_one, hr']
      simp only [Option.toList_some, List.map_append, List.map_cons, List.map_nil, List.sum_append, List.sum_cons, List.sum_nil, Nat.add_zero, Int.natCast_add, hc.length]
      rfl
    · rintro σ H2 ⟨v2, rfl, rfl⟩
      rw [List.take_of_length_le (by omega)]
      refine ⟨_, rfl, _, rfl, a, rfl, ⟨_, s1.tup hT⟩, ?_⟩
      refine comp_map seq_tup (by rw [List.length_map]; omega) (fun _ i y _ => y = .int ((cntO l).getD i 0)) (fun H3 s3 => (s1.trans s3).tup hT) (fun _ _ _ _ _ _ _ _ h => h) ?_ ?_
      · intro D i z H3 Z hD hz s3 _ k1
        rw [List.getElem?_map] at hz
        cases e : l[i]? with
        | none => rw [e] at hz; cases hz
        | some x =>
          rw [e] at hz
          cases hz
          have lx := S.len x (List.mem_of_getElem? e)
          refine ⟨_, rfl, x, rfl, sz1_le (by omega), _, rfl, rfl, _, _, rfl, rfl, _, _, rfl, rfl, k1 _ _ (Same.refl' _) ?_⟩
          have : (cntO l)[i]? = some ((x.length : Int) - (Txt.count x "#" : Int)) := by unfold cntO; rw [List.getElem?_map, e]; rfl
          rw [getD_of this]
      · intro D ys H3 hD hDs s3 pr
        have e := paired_map1 pr
        have el : (l.map V.str).length = (cntO l).length := by unfold cntO; rw [List.length_map, List.length_map]
        rw [el, map_getD1 V.int] at e
        refine ⟨D, cntO l, rfl, SqL.of (by rw [hDs, e]), _, _, rfl, rfl, .inl ⟨by decide, by decide⟩, rfl, ?_⟩
        have := q H3 (s1.trans s3)
        unfold goodB at this
        rw [dIv]
        exact this
def spFloor (K : PySem.W.Frag) : Sp := fun vs H Q _ => ∃ (c : Int), vs = [.int c] ∧ ∀ p l w H', Same H H' → H' p = some (.tup (l.map V.str)) → FloorP l w → Q (.ref p) H'
theorem sc_law_floor : FnScope ["_law_cell", "_law_high", "_law_wide", "_law_sheet", "_law_k", "_law_spot", "_law_other", "_law_some"] ["_law_cell"] (defScope (top 40)) := ⟨rfl, rfl, rfl, by decide +kernel, rfl, by decide +kernel, by decide +kernel⟩
theorem ok_lfloor (B : Bl mg) (F : Fun K "_law_floor" "_law_floor" (top 40) f fd) (F_law_with : Fn P w K mg base "_law_with" 1 (spWith K)) (F_law_good : Fn P w K mg base "_law_good" 4 (spGood K)) : FnOk P w K mg base CX0 5 f fd ["_law_cell"] (spFloor K) := by
  refine F.okL sc_law_floor (fun vs H Q E h => ?_) (fun cdv A outer s H vs Q E hr h => ?_)
  · obtain ⟨c, rfl, _⟩ := h
    rfl
  · obtain ⟨c, rfl, q⟩ := h
    refine ⟨_, (lss_cons (ls_asg (le_ix ix_list (le_lst (la_cons le_tupII (la_cons le_tupII (la_cons le_tupII (la_cons le_tupII (la_cons le_tupII (la_cons le_tupII (la_cons le_tupII la_nil rfl) rfl) rfl) rfl) rfl) rfl) rfl)) (pe_op op_mod (pv 0) pe_int) (fun _ _ => rfl)) (pg_tup rfl (pgs_cons (pg_name (i := 1) sc_law_floor.nd rfl (Or.inl rfl)) (pgs_cons (pg_name (i := 2) sc_law_floor.nd rfl (Or.inl rfl)) pgs_nil)))) (pss_cons (ps_set (i := 3) sc_law_floor.nd rfl (Or.inl rfl) (pe_callTy call_tuple_of (by rfl) B.tuple_ bt_tuple (pa_cons (pe_op op_rep (pe_lst (pa_cons (pe_op op_repS pe_str (pv 2)) pa_nil)) (pv 1)) pa_nil (hs := star_c rfl))))
      (pss_cons (ps_for PassesOwn.never rfl (pi_range1 (by rfl) B.range_ (pa_cons (pe_op op_mod (pe_op op_fdiv (pv 0) pe_int) pe_int) pa_nil)) (pg_name (i := 4) sc_law_floor.nd rfl (Or.inl rfl))
      (pss_cons (ps_set (i := 5) sc_law_floor.nd rfl (Or.inl rfl) (pe_op op_mod (pe_op op_fdiv (pe_op op_fdiv (pv 0) pe_int) (pe_op op_add (pv 4) pe_int)) (pe_op op_mul (pv 1) (pv 2))))
        (pss_cons (ps_set (i := 6) sc_law_floor.nd rfl (Or.inl rfl) (pe_op op_sub (pe_op op_sub (pe_op op_mul (pv 1) (pv 2)) pe_int) (pv 5)))
        (pss_cons (ps_set (i := 7) sc_law_floor.nd rfl (Or.inl rfl) (pe_fn F_law_with (hr.mono (by decide)) (by rfl) (pa_cons (pv 3) (pa_cons (pe_tup (pa_cons (pe_op op_fdiv (pv 5) (pv 2)) (pa_cons (pe_op op_mod (pv 5) (pv 2)) pa_nil))) (pa_cons pe_str pa_nil (hs := star_c rfl)) (hs := star_c rfl)) (hs := star_c rfl)) (he := star_c rfl) (hpl := star_p rfl)))
        (pss_cons (ps_set (i := 7) sc_law_floor.nd rfl (Or.inl rfl) (pe_fn F_law_with (hr.mono (by decide)) (by rfl) (pa_cons (pv 7) (pa_cons (pe_tup (pa_cons (pe_op op_fdiv (pv 6) (pv 2)) (pa_cons (pe_op op_mod (pv 6) (pv 2)) pa_nil))) (pa_cons pe_str pa_nil (hs := star_c rfl)) (hs := star_c rfl)) (hs := star_c rfl)) (he := star_c rfl) (hpl := star_p rfl)))
        (pss_one (ps_join (ps_if (pt_val (pe_fn F_law_good (hr.mono (by decide)) (by rfl) (pa_cons (pv 7) pa_nil)))
        (pss_one (ps_set (i := 3) sc_law_floor.nd rfl (Or.inl rfl) (pv 7)))
        pss_nil))))))))
      (pss_one (ps_ret (pv 3)))))), ?_⟩
    have s2 : 2 ≤ sizeLine := by decide
    refine ⟨s2, fun p0 h0 => ⟨s2, fun p1 h1 => ⟨s2, fun p2 h2 => ⟨s2, fun p3 h3 => ⟨s2, fun p4 h4 => ⟨s2, fun p5 h5 => ⟨s2, fun p6 h6 => ⟨by show 7 ≤ sizeLine; decide, fun po hpo => ?_⟩⟩⟩⟩⟩⟩⟩⟩
    have t0 := Same.upd (o := HO.tup [V.int 3, V.int 3]) h0
    have t1 := Same.upd (o := HO.tup [V.int 2, V.int 2]) h1
    have t2 := Same.upd (o := HO.tup [V.int 2, V.int 3]) h2
    have t3 := Same.upd (o := HO.tup [V.int 3, V.int 2]) h3
    have t4 := Same.upd (o := HO.tup [V.int 3, V.int 3]) h4
    have t5 := Same.upd (o := HO.tup [V.int 2, V.int 4]) h5
    have t6 := Same.upd (o := HO.tup [V.int 4, V.int 2]) h6
    have t7 := Same.upd (o := HO.lst [V.ref p0, V.ref p1, V.ref p2, V.ref p3, V.ref p4, V.ref p5, V.ref p6]) hpo
    have d0 := Int.emod_nonneg c (show (7 : Int) ≠ 0 by decide)
    have d1 := Int.emod_lt_of_pos c (show (0 : Int) < 7 by decide)
    have sA := t0.trans (t1.trans (t2.trans (t3.trans (t4.trans (t5.trans (t6.trans t7))))))
    have g6 := t7 _ _ (upd_same (a := p6) (o := HO.tup [V.int 4, V.int 2]))
    have g5 := t7 _ _ (t6 _ _ (upd_same (a := p5) (o := HO.tup [V.int 2, V.int 4])))
    have g4 := t7 _ _ (t6 _ _ (t5 _ _ (upd_same (a := p4) (o := HO.tup [V.int 3, V.int 3]))))
    have g3 := t7 _ _ (t6 _ _ (t5 _ _ (t4 _ _ (upd_same (a := p3) (o := HO.tup [V.int 3, V.int 2])))))
    have g2 := t7 _ _ (t6 _ _ (t5 _ _ (t4 _ _ (t3 _ _ (upd_same (a := p2) (o := HO.tup [V.int 2, V.int 3]))))))
    have g1 := t7 _ _ (t6 _ _ (t5 _ _ (t4 _ _ (t3 _ _ (t2 _ _ (upd_same (a := p1) (o := HO.tup [V.int 2, V.int 2])))))))
    have g0 := t7 _ _ (t6 _ _ (t5 _ _ (t4 _ _ (t3 _ _ (t2 _ _ (t1 _ _ (upd_same (a := p0) (o := HO.tup [V.int 3, V.int 3]))))))))
    have gL := upd_at t7
    revert sA g0 g1 g2 g3 g4 g5 g6 gL
    generalize upd _ po (HO.lst [V.ref p0, V.ref p1, V.ref p2, V.ref p3, V.ref p4, V.ref p5, V.ref p6]) = HA
    intro sA g6 g5 g4 g3 g2 g1 g0 gL
    clear t0 t1 t2 t3 t4 t5 t6 t7
    obtain ⟨pd, hh, ww, hat, hpd, hd⟩ : ∃ (pd : Addr) (hh ww : Nat), atI [V.ref p0, V.ref p1, V.ref p2, V.ref p3, V.ref p4, V.ref p5, V.ref p6] (c % 7) = some (.ref pd) ∧ HA pd = some (.tup [V.int hh, V.int ww]) ∧ (2 ≤ hh ∧ hh ≤ 4 ∧ 2 ≤ ww ∧ ww ≤ 4) := by
      have e : c % 7 = 0 ∨ c % 7 = 1 ∨ c % 7 = 2 ∨ c % 7 = 3 ∨ c % 7 = 4 ∨ c % 7 = 5 ∨ c % 7 = 6 := by omega
      rcases e with e | e | e | e | e | e | e <;> rw [e]
      · exact ⟨p0, 3, 3, rfl, g0, by decide⟩
      · exact ⟨p1, 2, 2, rfl, g1, by decide⟩
      · exact ⟨p2, 2, 3, rfl, g2, by decide⟩
      · exact ⟨p3, 3, 2, rfl, g3, by decide⟩
      · exact ⟨p4, 3, 3, rfl, g4, by decide⟩
      · exact ⟨p5, 2, 4, rfl, g5, by decide⟩
      · exact ⟨p6, 4, 2, rfl, g6, by decide⟩
    refine ⟨_, rfl, _, _, rfl, rfl, (by show (0 : Int) < 7; decide), po, _, _, .ref pd, rfl, rfl, SqL.of gL, hat, pd, _, rfl, SqT.of hpd, rfl, _, _, rfl, _, _, rfl, rfl, ?_⟩
    clear g0 g1 g2 g3 g4 g5 g6 gL hat
    have ldot : ("." : Str).length = 1 := by decide +kernel
    refine ⟨_, rfl, _, _, rfl, rfl, by omega, by omega, by rw [ldot]; decide, by show 1 ≤ sizeLine; decide, fun l1 hl1 => ?_⟩
    rw [Int.toNat_natCast]
    refine ⟨_, rfl, l1, _, _, rfl, rfl, upd_same, by omega, by omega, sz1_le (by rw [Int.toNat_natCast]; show 1 * _ ≤ _; omega), fun l2 hl2 => ?_⟩
    rw [Int.toNat_natCast, rep_flat]
    refine ⟨l2, _, rfl, .inl ⟨SqL.of upd_same, fun tp htp => ?_⟩⟩
    have u1 := Same.upd (o := HO.lst [V.str (repS "." ww)]) hl1
    have u2 := Same.upd (o := HO.lst (List.replicate hh (V.str (repS "." ww)))) hl2
    have u3 := Same.upd (o := HO.tup (List.replicate hh (V.str (repS "." ww)))) htp
    have sB := sA.trans (u1.trans (u2.trans u3))
    have hP0 := upd_at u3
    revert sB hP0
    clear u1 u2 u3
    generalize upd _ tp (HO.tup (List.replicate hh (V.str (repS "." ww)))) = HB
    intro sB hP0
    rw [← List.map_replicate] at hP0
    have m0 := Int.emod_nonneg (c / 7) (show (3 : Int) ≠ 0 by decide)
    have m1 := Int.emod_lt_of_pos (c / 7) (show (0 : Int) < 3 by decide)
    refine ⟨_, rfl, _, _, rfl, rfl, ⟨by decide, by decide⟩, _, _, rfl, rfl, (by show (0 : Int) < 3; decide), _, rfl, by omega, by omega, ?_⟩
    refine for_range0 (fun i σ H2 => ∃ p l v4 v5 v6 v7, σ = [some (.int c), some (.int hh), some (.int ww), some (.ref p), v4, v5, v6, v7] ∧ Same H H2 ∧ H2 p = some (.tup (l.map V.str)) ∧ FloorP l ww ∧ l.length = hh)
      ⟨tp, _, none, none, none, none, rfl, sB, hP0, floor0 (by omega) (by omega) (by omega) (by omega), by rw [List.length_replicate]⟩ ?_ ?_
    · rintro i σ H2 hi ⟨p, l, v4, v5, v6, v7, rfl, sm, hP, Fl, hl⟩
      have hhw : 0 < hh * ww := Nat.mul_pos (by omega) (by omega)
      have hw16 : hh * ww ≤ 16 := by
        have := Nat.mul_le_mul hd.2.1 hd.2.2.2
        omega
      have hn : ((hh : Int) * (ww : Int)) = ((hh * ww : Nat) : Int) := by simp
      have p1 : (0 : Int) < (i : Int) + 1 := by omega
      have p2 : (i : Int) + 1 < 1073741824 := by omega
      have cm : CMul (hh : Int) (ww : Int) := .inl ⟨by omega, by omega⟩
      have hn0 : (0 : Int) < (hh : Int) * (ww : Int) := by rw [hn]; omega
      refine ⟨_, rfl, _, _, rfl, rfl, ⟨by decide, by decide⟩, _, rfl, _, _, rfl, rfl, _, _, rfl, rfl, ⟨p1, p2⟩, _, rfl, _, rfl, _, _, rfl, rfl, cm, _, _, rfl, rfl, hn0, ?_⟩
      have z0 := Int.emod_nonneg (c / 21 / ((i : Int) + 1)) (Int.ne_of_gt hn0)
      have z1 := Int.emod_lt_of_pos (c / 21 / ((i : Int) + 1)) hn0
      dsimp only
      generalize c / 21 / ((i : Int) + 1) % ((hh : Int) * (ww : Int)) = z at z0 z1 ⊢
      obtain ⟨sp, rfl⟩ := Int.eq_ofNat_of_zero_le z0
      rw [hn] at z1
      have z1 : sp < hh * ww := Int.ofNat_lt.mp z1
      refine ⟨_, rfl, _, rfl, _, _, rfl, rfl, cm, _, _, rfl, rfl, _, rfl, _, _, rfl, rfl, ?_⟩
      have hot : (hh : Int) * (ww : Int) - 1 - (sp : Int) = ((hh * ww - 1 - sp : Nat) : Int) := by rw [hn]; omega
      dsimp only
      rw [hot]
      have o1 : hh * ww - 1 - sp < hh * ww := by omega
      generalize hh * ww - 1 - sp = ot at o1 ⊢
      have wp : 0 < ww := by omega
      have dv : CDiv (0 : Int) (ww : Int) := ⟨by omega, by omega⟩
      have a1 : sp / ww < hh := Nat.div_lt_of_lt_mul (by rw [Nat.mul_comm]; exact z1)
      have b1 : ot / ww < hh := Nat.div_lt_of_lt_mul (by rw [Nat.mul_comm]; exact o1)
      have a2 : sp % ww < ww := Nat.mod_lt _ wp
      have b2 : ot % ww < ww := Nat.mod_lt _ wp
      refine ⟨_, rfl, _, rfl, _, rfl, _, _, rfl, rfl, dv, _, rfl, _, rfl, _, _, rfl, rfl, dv.1, s2, fun q1 hq1 => ?_⟩
      have y1 := Same.upd (o := HO.tup [V.int ((sp : Int) / (ww : Int)), V.int ((sp : Int) % (ww : Int))]) hq1
      refine ⟨p, q1, l, ww, (sp / ww, sp % ww), 35, by rw [← shutS]; rfl, y1.tup (SqT.of hP), Fl.sh.grid, SqT.of (by rw [upd_same]; simp), by rw [hl]; exact a1, a2, fun t H3 _ s3 ht => ?_⟩
      have F1 := Fl.set (c := (sp / ww, sp % ww)) (by rw [hl]; exact a1) a2
      have hl1 : (setC l (sp / ww, sp % ww) 35).length = hh := by rw [setC_len, hl]
      generalize setC l (sp / ww, sp % ww) 35 = l1 at ht F1 hl1
      have sm3 := sm.trans (y1.trans s3)
      have hP3 := (y1.trans s3) _ _ hP
      clear y1 s3
      refine ⟨_, rfl, _, rfl, _, rfl, _, _, rfl, rfl, dv, _, rfl, _, rfl, _, _, rfl, rfl, dv.1, s2, fun q2 hq2 => ?_⟩
      have y2 := Same.upd (o := HO.tup [V.int ((ot : Int) / (ww : Int)), V.int ((ot : Int) % (ww : Int))]) hq2
      refine ⟨t, q2, l1, ww, (ot / ww, ot % ww), 35, by rw [← shutS]; rfl, y2.tup (SqT.of ht), F1.sh.grid, SqT.of (by rw [upd_same]; simp), by rw [hl1]; exact b1, b2, fun t2 H4 _ s4 ht2 => ?_⟩
      have F2 := F1.set (c := (ot / ww, ot % ww)) (by rw [hl1]; exact b1) b2
      have hl2 : (setC l1 (ot / ww, ot % ww) 35).length = hh := by rw [setC_len, hl1]
      generalize setC l1 (ot / ww, ot % ww) 35 = l2 at ht2 F2 hl2
      have sm4 := sm3.trans (y2.trans s4)
      have hP4 := (y2.trans s4) _ _ hP3
      clear y2 s4
      refine ⟨fun σ H5 => ∃ p l, σ = [some (.int c), some (.int hh), some (.int ww), some (.ref p), some (.int i), some (.int sp), some (.int ot), some (.ref t2)] ∧ Same H H5 ∧ H5 p = some (.tup (l.map V.str)) ∧ FloorP l ww ∧ l.length = hh, fun σ H5 ⟨p, l, e, h⟩ => ⟨p, l, _, _, _, _, e, h⟩, ?_⟩
      refine ⟨_, rfl, t2, l2, ww, rfl, SqT.of ht2, F2.sh, fun H5 s5 => ⟨_, rfl, ?_⟩⟩
      cases goodB l2 ww with
      | true => exact iteT ⟨_, rfl, t2, l2, rfl, sm4.trans s5, s5 _ _ ht2, F2, hl2⟩
      | false => exact iteF ⟨p, l, rfl, sm4.trans s5, s5 _ _ hP4, Fl, hl⟩
    · rintro σ H2 ⟨p, l, v4, v5, v6, v7, rfl, sm, hP, Fl, hl⟩
      exact ⟨_, rfl, q p l ww H2 sm hP Fl⟩
def spAny (K : PySem.W.Frag) : Sp := fun vs H Q _ => ∃ (c : Int), vs = [.int c] ∧ ∀ p l w H', Same H H' → H' p = some (.tup (l.map V.str)) → FloorP l w → Q (.ref p) H'
theorem sc_law_any_floor : FnScope ["_law_cell", "_law_high", "_law_wide", "_law_lines", "_law_line", "_law_text_here", "_law_column"] ["_law_cell"] (defScope (top 41)) := ⟨rfl, rfl, rfl, by decide +kernel, rfl, by decide +kernel, by decide +kernel⟩
theorem ok_lany (B : Bl mg) (F : Fun K "_law_any_floor" "_law_any_floor" (top 41) f fd) (F_law_floor : Fn P w K mg base "_law_floor" 5 (spFloor K)) : FnOk P w K mg base CX0 6 f fd ["_law_cell"] (spAny K) := by
  refine F.ok sc_law_any_floor (fun vs H Q E h => ?_) (fun cdv A outer s H vs Q E hr h => ?_)
  · obtain ⟨c, rfl, _⟩ := h
    rfl
  · obtain ⟨c, rfl, q⟩ := h
    refine ⟨_, (pss_cons (ps_if (pt_cmpR op_gt (pe_op op_mod (pv 0) pe_int) pe_int (nomark _))
      (pss_one (ps_ret (pe_fn F_law_floor (hr.mono (by decide)) (by rfl) (pa_cons (pe_op op_fdiv (pv 0) pe_int) pa_nil))))
      pss_nil)
      (pss_cons (ps_set (i := 1) sc_law_any_floor.nd rfl (Or.inl rfl) (pe_op op_add pe_int (pe_op op_mod (pe_op op_fdiv (pv 0) pe_int) pe_int)))
      (pss_cons (ps_set (i := 2) sc_law_any_floor.nd rfl (Or.inl rfl) (pe_op op_add pe_int (pe_op op_mod (pe_op op_fdiv (pv 0) pe_int) pe_int)))
      (pss_cons (ps_set (i := 3) sc_law_any_floor.nd rfl (Or.inl rfl) (pe_lst pa_nil))
      (pss_cons (ps_for PassesOwn.never rfl (pi_range1 (by rfl) B.range_ (pa_cons (pv 1) pa_nil)) (pg_name (i := 4) sc_law_any_floor.nd rfl (Or.inl rfl))
      (pss_cons (ps_set (i := 5) sc_law_any_floor.nd rfl (Or.inl rfl) pe_str)
        (pss_cons (ps_for PassesOwn.never rfl (pi_range1 (by rfl) B.range_ (pa_cons (pv 2) pa_nil)) (pg_name (i := 6) sc_law_any_floor.nd rfl (Or.inl rfl))
        (pss_one (ps_set (i := 5) sc_law_any_floor.nd rfl (Or.inl rfl) (pe_op op_add_str (pv 5) (pe_ix ix_str pe_str (pe_op op_mod (pe_op op_fdiv (pe_op op_fdiv (pv 0) pe_int) (pe_op op_add (pe_op op_add (pe_op op_mul pe_int (pv 4)) (pv 6)) pe_int)) pe_int) (fun _ _ => rfl))))))
        (pss_one (ps_expr (pe_bm PySem.F.plainAttrs_list PySem.F.slot_list_append PySem.F.type_list_append mt_append (pv 3) (pa_cons (pv 5) pa_nil)))))))
      (pss_one (ps_ret (pe_callTy call_tuple_of (by rfl) B.tuple_ bt_tuple (pa_cons (pv 3) pa_nil))))))))), ?_⟩
    refine ⟨_, rfl, _, _, rfl, rfl, (by show (0 : Int) < 4; decide), _, _, rfl, rfl, _, rfl, ?_⟩
    refine ite2 (fun _ => ?_) (fun _ => ?_)
    · exact ⟨_, rfl, _, _, rfl, rfl, ⟨by decide, by decide⟩, _, rfl, q⟩
    · have a0 := Int.emod_nonneg (c / 4) (show (3 : Int) ≠ 0 by decide)
      have a1 := Int.emod_lt_of_pos (c / 4) (show (0 : Int) < 3 by decide)
      have b0 := Int.emod_nonneg (c / 12) (show (3 : Int) ≠ 0 by decide)
      have b1 := Int.emod_lt_of_pos (c / 12) (show (0 : Int) < 3 by decide)
      refine ⟨_, rfl, _, _, rfl, rfl, ⟨by decide, by decide⟩, _, _, rfl, rfl, (by show (0 : Int) < 3; decide), _, _, rfl, rfl, ?_⟩
      refine ⟨_, rfl, _, _, rfl, rfl, ⟨by decide, by decide⟩, _, _, rfl, rfl, (by show (0 : Int) < 3; decide), _, _, rfl, rfl, ?_⟩
      dsimp only
      obtain ⟨hh, eh⟩ := Int.eq_ofNat_of_zero_le (show 0 ≤ 1 + c / 4 % 3 by omega)
      obtain ⟨ww, ew⟩ := Int.eq_ofNat_of_zero_le (show 0 ≤ 1 + c / 12 % 3 by omega)
      rw [eh, ew]
      have hh1 : 1 ≤ hh ∧ hh ≤ 3 := by omega
      have ww1 : 1 ≤ ww ∧ ww ≤ 3 := by omega
      clear eh ew a0 a1 b0 b1
      refine ⟨Nat.zero_le _, fun g hg => ?_⟩
      have s0 := Same.upd (o := HO.lst []) hg
      refine ⟨_, rfl, _, rfl, by omega, by omega, ?_⟩
      refine for_range0 (fun i σ H2 => ∃ l v4 v5 v6, σ = [some (.int c), some (.int hh), some (.int ww), some (.ref g), v4, v5, v6] ∧ Same H H2 ∧ H2 g = some (.lst (l.map V.str)) ∧ l.length = i ∧ (∀ x ∈ l, x.length = ww) ∧ (∀ x ∈ l, ∀ d ∈ x.cps.toList, d = 35 ∨ d = 46))
        ⟨[], none, none, none, rfl, s0, upd_same, rfl, fun _ h => (nomatch h), fun _ h => (nomatch h)⟩ ?_ ?_
      · rintro i σ H2 hi ⟨l, v4, v5, v6, rfl, sm, hG, hl, hlen, hsg⟩
        refine ⟨_, rfl, _, rfl, by omega, by omega, ?_⟩
        refine for_range0 (fun j σ H3 => ∃ x v6, σ = [some (.int c), some (.int hh), some (.int ww), some (.ref g), some (.int i), some (.str x), v6] ∧ H3 = H2 ∧ x.length = j ∧ (∀ d ∈ x.cps.toList, d = 35 ∨ d = 46))
          ⟨"", v6, rfl, rfl, by decide +kernel, fun d hd => by rw [show ("" : Str).cps.toList = [] from by decide +kernel] at hd; cases hd⟩ ?_ ?_
        · rintro j σ H3 hj ⟨x, v6, rfl, rfl, hx, hs⟩
          have hi' : i < hh := by omega
          have hj' : j < ww := by omega
          obtain ⟨ch, hch, hcc⟩ := pick4 (c / 36 / (3 * (i : Int) + (j : Int) + 1))
          refine ⟨_, rfl, _, rfl, _, _, rfl, rfl, ⟨by decide, by decide⟩, _, rfl, _, _, rfl, rfl, .inl ⟨by decide, by decide⟩, _, rfl, _, _, rfl, rfl, _, _, rfl, rfl, _, _, rfl, rfl, ⟨by omega, by omega⟩, _, _, rfl, rfl, (by show (0 : Int) < 4; decide), _, _, ch, rfl, rfl, by decide +kernel, hch, _, _, rfl, rfl, sz1_le (by show _ + 1 ≤ _; omega), ?_⟩
          refine ⟨_, _, rfl, rfl, ?_, fun d hd => ?_⟩
          · rw [Str.length_append, hx]
            rfl
          · rw [cs_app] at hd
            rcases List.mem_append.mp hd with z | z
            · exact hs d z
            · have : d = ch := by simpa using z
              rw [this]
              exact hcc
        · rintro σ H3 ⟨x, v6, rfl, rfl, hx, hs⟩
          refine ⟨_, rfl, .inl ⟨rfl, _, SqL.of hG⟩, _, rfl, g, _, _, rfl, rfl, hG, sz1_lt (by rw [List.length_map]; omega), ?_⟩
          refine ⟨l ++ [x], _, _, _, rfl, sm.upd2 hg, by rw [upd_same, List.map_append]; rfl, by rw [List.length_append, hl]; rfl, fun y my => ?_, fun y my => ?_⟩
          · rcases List.mem_append.mp my with z | z
            · exact hlen y z
            · rw [List.mem_singleton.mp z, hx]
              omega
          · rcases List.mem_append.mp my with z | z
            · exact hsg y z
            · rw [List.mem_singleton.mp z]
              exact hs
      · rintro σ H2 ⟨l, v4, v5, v6, rfl, sm, hG, hl, hlen, hsg⟩
        refine ⟨_, rfl, g, _, rfl, .inl ⟨SqL.of hG, fun t ht => ?_⟩⟩
        exact q t l ww _ (sm.upd2 (sm.free ht)) upd_same ⟨IsSheet.of (by omega) (by omega) (by omega) (by omega) hlen hsg, by omega, by omega, hsg⟩
end
end Cw
namespace Cw
open PySem L2
/-! ### floors filled, and some of it given -/
def FillC (l m : List Str) (w n : Nat) (c : C2) : Prop := (sg l c = 35 → sg m c = 35) ∧ (sg l c ≠ 35 → if c.1 * w + c.2 < n then 97 ≤ sg m c ∧ sg m c ≤ 122 else sg m c = 46)
structure FillP (l m : List Str) (w n : Nat) : Prop where
  sh : IsSheet m w
  ln : m.length = l.length
  cl : ∀ c : C2, c.1 < l.length → c.2 < w → FillC l m w n c
theorem idx_inj {w a b c d : Nat} (h : b < w) (h' : d < w) (e : a * w + b = c * w + d) : a = c ∧ b = d := by
  rcases Nat.lt_trichotomy a c with z | z | z
  · have := Nat.mul_le_mul_right w z
    rw [Nat.succ_mul] at this
    omega
  · subst z
    exact ⟨rfl, by omega⟩
  · have := Nat.mul_le_mul_right w z
    rw [Nat.succ_mul] at this
    omega
theorem FillP.zero {l : List Str} {w : Nat} (F : FloorP l w) : FillP l l w 0 := by
  refine ⟨F.sh, rfl, fun c h1 h2 => ⟨id, fun h => ?_⟩⟩
  rw [if_neg (Nat.not_lt_zero _)]
  obtain ⟨x, _, mx, _, _, hj⟩ := F.sh.row h1
  rcases F.sg x mx _ (List.mem_of_getElem? (hj _ h2)) with z | z
  · exact absurd z h
  · exact z
theorem FillP.shut {l m : List Str} {w i j : Nat} (F : FillP l m w (i * w + j)) (hj : j < w) (hc : sg l (i, j) = 35) : FillP l m w (i * w + (j + 1)) := by
  refine ⟨F.sh, F.ln, fun c h1 h2 => ⟨(F.cl c h1 h2).1, fun h => ?_⟩⟩
  have g := (F.cl c h1 h2).2 h
  have ne : c.1 * w + c.2 ≠ i * w + j := fun e => by
    have := idx_inj h2 hj e
    exact h (by rw [show c = (i, j) from Prod.ext this.1 this.2]; exact hc)
  by_cases z : c.1 * w + c.2 < i * w + j
  · rw [if_pos z] at g
    rw [if_pos (by omega)]
    exact g
  · rw [if_neg z] at g
    rw [if_neg (by omega)]
    exact g
theorem FillP.put {l m : List Str} {w i j ch : Nat} (F : FillP l m w (i * w + j)) (hi : i < l.length) (hj : j < w) (hc : sg l (i, j) ≠ 35) (c1 : 97 ≤ ch) (c2 : ch ≤ 122) : FillP l (setC m (i, j) ch) w (i * w + (j + 1)) := by
  have hi' : i < m.length := by rw [F.ln]; exact hi
  refine ⟨setC_sheet F.sh hi' hj (.inr (.inr ⟨c1, c2⟩)), by rw [setC_len]; exact F.ln, fun c h1 h2 => ?_⟩
  unfold FillC
  rw [F.sh.grid.set_sg (c := (i, j)) hi' hj (by rw [F.ln]; exact h1) h2]
  by_cases e : c = (i, j)
  · rw [if_pos e, e]
    refine ⟨fun z => absurd z hc, fun _ => ?_⟩
    rw [if_pos (by show i * w + j < _; omega)]
    exact ⟨c1, c2⟩
  · rw [if_neg e]
    refine ⟨(F.cl c h1 h2).1, fun h => ?_⟩
    have g := (F.cl c h1 h2).2 h
    have ne : c.1 * w + c.2 ≠ i * w + j := fun z => e (Prod.ext (idx_inj h2 hj z).1 (idx_inj h2 hj z).2)
    by_cases z : c.1 * w + c.2 < i * w + j
    · rw [if_pos z] at g
      rw [if_pos (by omega)]
      exact g
    · rw [if_neg z] at g
      rw [if_neg (by omega)]
      exact g
section
variable {P : Program} {w : World} {K : PySem.W.Frag} {mg : Str → Option Value} {base : Heap} {f : Addr} {fd : FuncData}
def spFilled (K : PySem.W.Frag) : Sp := fun vs H Q _ => ∃ (a b : Addr) (ns : List Int) (l : List Str) (w : Nat) (c : Int), vs = [.ref a, .ref b, .int c] ∧ SqL K H a (ns.map V.int) ∧ SqT K H b (l.map V.str) ∧ FloorP l w ∧
  ∀ p m H', Same H H' → SqT K H' p (m.map V.str) → FillP l m w (l.length * w) → Q (.ref p) H'
theorem sc_law_filled : FnScope ["_law_script", "_law_floor_here", "_law_cell", "_law_sheet", "_law_number", "_law_line", "_law_column"] ["_law_script", "_law_floor_here", "_law_cell"] (defScope (top 43)) := ⟨rfl, rfl, rfl, by decide +kernel, rfl, by decide +kernel, by decide +kernel⟩
theorem ok_lfilled (B : Bl mg) (F : Fun K "_law_filled" "_law_filled" (top 43) f fd) (F_law_with : Fn P w K mg base "_law_with" 1 (spWith K)) (F_law_letter : Fn P w K mg base "_law_letter" 2 (spLetter K)) : FnOk P w K mg base CX0 3 f fd ["_law_script", "_law_floor_here", "_law_cell"] (spFilled K) := by
  refine F.ok sc_law_filled (fun vs H Q E h => ?_) (fun cdv A outer s H vs Q E hr h => ?_)
  · obtain ⟨a, b, ns, l, w, c, rfl, _⟩ := h
    rfl
  · obtain ⟨a, b, ns, l, wd, c, rfl, hS, hT, Fl, q⟩ := h
    have S := Fl.sh
    have h9 := S.nine
    have hw := S.w9
    obtain ⟨x0, hx0, mx0, lx0, _⟩ := S.row (i := 0) S.one
    refine ⟨_, (pss_cons (ps_set (i := 3) sc_law_filled.nd rfl (Or.inl rfl) (pv 1))
      (pss_cons (ps_set (i := 4) sc_law_filled.nd rfl (Or.inl rfl) (pe_op op_add (pe_op op_mod (pv 2) pe_int) pe_int))
      (pss_cons (ps_for PassesOwn.never rfl (pi_range1 (by rfl) B.range_ (pa_cons (pe_callB call_len_seq (by rfl) B.len_ bt_len (pa_cons (pv 1) pa_nil)) pa_nil)) (pg_name (i := 5) sc_law_filled.nd rfl (Or.inl rfl))
      (pss_one (ps_for PassesOwn.never rfl (pi_range1 (by rfl) B.range_ (pa_cons (pe_callB call_len_str (by rfl) B.len_ bt_len (pa_cons (pe_ix ix_tup (pv 1) pe_int (fun _ _ => rfl)) pa_nil)) pa_nil)) (pg_name (i := 6) sc_law_filled.nd rfl (Or.inl rfl))
        (pss_cons (ps_set (i := 4) sc_law_filled.nd rfl (Or.inl rfl) (pe_op op_mod (pe_op op_mul (pv 4) pe_int) pe_int))
          (pss_one (ps_join (ps_if (pt_cmpR op_ne (pe_ix ix_str (pe_ix ix_tup (pv 1) (pv 5) (fun _ _ => rfl)) (pv 6) (fun _ _ => rfl)) pe_str (nomark _))
          (pss_one (ps_set (i := 3) sc_law_filled.nd rfl (Or.inl rfl) (pe_fn F_law_with (hr.mono (by decide)) (by rfl) (pa_cons (pv 3) (pa_cons (pe_tup (pa_cons (pv 5) (pa_cons (pv 6) pa_nil))) (pa_cons (pe_fn F_law_letter (hr.mono (by decide)) (by rfl) (pa_cons (pv 0) (pa_cons (pe_op op_fdiv (pv 4) pe_int) pa_nil))) pa_nil (hs := star_c rfl)) (hs := star_c rfl)) (hs := star_c rfl)) (he := star_c rfl) (hpl := star_p rfl))))
          pss_nil)))))))
      (pss_one (ps_ret (pv 3)))))), ?_⟩
    refine ⟨_, rfl, _, rfl, _, _, rfl, rfl, (by show (0 : Int) < 2147483647; decide), _, _, rfl, rfl, ?_⟩
    refine ⟨_, rfl, b, _, rfl, .inr hT, _, rfl, by rw [List.length_map]; omega, by rw [List.length_map]; omega, ?_⟩
    rw [Int.toNat_natCast, List.length_map]
    refine for_range0 (fun i σ H2 => ∃ p m n v5 v6, σ = [some (.ref a), some (.ref b), some (.int c), some (.ref p), some (.int n), v5, v6] ∧ Same H H2 ∧ SqT K H2 p (m.map V.str) ∧ FillP l m wd (i * wd))
      ⟨b, l, _, none, none, rfl, Same.refl' _, hT, by rw [Nat.zero_mul]; exact FillP.zero Fl⟩ ?_ ?_
    · rintro i σ H2 hi ⟨p, m, n, v5, v6, rfl, sm, hP, Fm⟩
      refine ⟨_, rfl, b, _, 0, .str x0, rfl, rfl, sm.tup hT, row_at hx0, x0, rfl, sz1_le (by omega), _, rfl, by omega, by omega, ?_⟩
      rw [Int.toNat_natCast, lx0]
      refine for_range0 (fun j σ H2 => ∃ p m n v6, σ = [some (.ref a), some (.ref b), some (.int c), some (.ref p), some (.int n), some (.int i), v6] ∧ Same H H2 ∧ SqT K H2 p (m.map V.str) ∧ FillP l m wd (i * wd + j))
        ⟨p, m, n, v6, rfl, sm, hP, Fm⟩ ?_ ?_
      · rintro j σ H3 hj ⟨p, m, n, v6, rfl, sm, hP, Fm⟩
        obtain ⟨x, hx, mx, lx, _, hxj⟩ := S.row hi
        refine ⟨_, rfl, _, _, rfl, rfl, .inr ⟨by decide, by decide⟩, _, _, rfl, rfl, (by show (0 : Int) < 2147483647; decide), ?_⟩
        refine ⟨fun σ H2 => ∃ p m n v6, σ = [some (.ref a), some (.ref b), some (.int c), some (.ref p), some (.int n), some (.int i), v6] ∧ Same H H2 ∧ SqT K H2 p (m.map V.str) ∧ FillP l m wd (i * wd + (j + 1)), fun _ _ h => h, ?_⟩
        refine ⟨_, rfl, _, rfl, b, _, _, .str x, rfl, rfl, sm.tup hT, row_at hx, _, rfl, x, _, _, rfl, rfl, sz1_le (by omega), atI_nat (hxj j hj), rfl, _, rfl, ?_⟩
        rw [shutS, dec_str1]
        by_cases h35 : sg l (i, j) = 35
        · rw [decide_eq_true h35]
          exact iteF ⟨p, m, _, _, rfl, sm, hP, Fm.shut hj h35⟩
        · rw [decide_eq_false h35]
          refine iteT ?_
          refine ⟨_, rfl, _, rfl, _, rfl, (by show 2 ≤ sizeLine; decide), fun q1 hq1 => ?_⟩
          have y1 := Same.upd (o := HO.tup [V.int (i : Int), V.int (j : Int)]) hq1
          refine ⟨_, rfl, _, rfl, _, _, rfl, rfl, ⟨by decide, by decide⟩, a, ns, _, rfl, (sm.trans y1).seq hS, fun ch c1 c2 => ?_⟩
          refine ⟨p, q1, m, wd, (i, j), ch, rfl, y1.tup hP, Fm.sh.grid, SqT.of upd_same, by rw [Fm.ln]; exact hi, hj, fun t H4 _ s4 ht => ?_⟩
          exact ⟨t, _, _, _, rfl, sm.trans (y1.trans s4), SqT.of ht, Fm.put hi hj h35 c1 c2⟩
      · rintro σ H3 ⟨p, m, n, v6, rfl, sm, hP, Fm⟩
        exact ⟨p, m, n, _, _, rfl, sm, hP, by rw [Nat.succ_mul]; exact Fm⟩
    · rintro σ H2 ⟨p, m, n, v5, v6, rfl, sm, hP, Fm⟩
      exact ⟨_, rfl, q p m H2 sm hP Fm⟩
end
end Cw
namespace Cw
open PySem L2
/-! ### the words of a draw -/
theorem letters_of {c : Nat} (h1 : 97 ≤ c) (h2 : c ≤ 122) : c ∈ letters.cps.toList := by
  rw [letters_cs]
  exact List.mem_map.mpr ⟨c - 97, List.mem_range.mpr (by omega), by omega⟩
theorem lettersB_app {x y : Str} (h1 : lettersB x = true) (h2 : lettersB y = true) : lettersB (x ++ y) = true := by
  unfold lettersB at *
  rw [cs_app, List.all_append, h1, h2]
  rfl
theorem word_of {x : Str} (h1 : 2 ≤ x.length) (h2 : x.length ≤ 9) (h3 : lettersB x = true) : wordB x = true := by
  unfold wordB
  rw [decide_eq_true h1, decide_eq_true h2, h3]
  rfl
theorem lettersB_one {c : Nat} (h : c ∈ letters.cps.toList) : lettersB ⟨#[c]⟩ = true := by
  unfold lettersB
  show ([c] : List Nat).all _ = true
  rw [List.all_cons, List.all_nil, Bool.and_true]
  exact decide_eq_true h
theorem cut_ints (ns : List Int) (lo hi : Option Int) : ∀ y ∈ cutV (ns.map V.int) lo hi, ∃ z, y = V.int z := fun y m => by
  unfold cutV at m
  obtain ⟨z, _, e⟩ := List.mem_map.mp (List.mem_of_mem_drop (List.mem_of_mem_take m))
  exact ⟨z, e.symm⟩
theorem inV_strs {x : Str} {ps : List Str} (h : inV (.str x) (ps.map V.str) = false) : x ∉ ps := fun m => by
  unfold inV at h
  rw [List.any_map] at h
  have := List.any_eq_false.mp h x m
  exact this (by show eqV (.str x) (.str x) = true; simp [eqV])
/-- each open cell holds a letter -/
def LetP (m : List Str) (w : Nat) : Prop := ∀ c : C2, c.1 < m.length → c.2 < w → isOpenC m c = true → 97 ≤ sg m c ∧ sg m c ≤ 122
theorem FillP.lets {l m : List Str} {w : Nat} (F : FillP l m w (l.length * w)) : LetP m w := by
  intro c h1 h2 ho
  rw [F.ln] at h1
  have hc := F.cl c h1 h2
  have hm : sg m c ≠ 35 := by
    unfold isOpenC at ho
    simpa using ho
  have hl : sg l c ≠ 35 := fun z => hm (hc.1 z)
  have := hc.2 hl
  have hx : c.1 * w + c.2 < l.length * w := by
    have := Nat.mul_le_mul_right w h1
    rw [Nat.succ_mul] at this
    omega
  rw [if_pos hx] at this
  exact this
theorem rowFrom_nine {l : List Str} {w k : Nat} {c : C2} (S : IsSheet l w) (hk : k ≤ 1) : (rowFrom (opB l w) (ddN k) c).length ≤ 9 := by
  have h9 := S.nine
  have hw := S.w9
  unfold rowFrom
  split
  · exact Nat.zero_le _
  · split
    · exact Nat.zero_le _
    · rw [line_len]
      rcases Nat.lt_or_ge 9 (runN (opB l w) (ddN k) 10 c) with z | z
      · exfalso
        have := opB_in (runN_op z)
        unfold go ddN at this
        dsimp only at this
        have e : k = 0 ∨ k = 1 := by omega
        rcases e with e | e <;> subst e <;> omega
      · exact z
theorem rowFrom_two {op : C2 → Bool} {d c : C2} (h : (rowFrom op d c).isEmpty = false) : 2 ≤ (rowFrom op d c).length := by
  unfold rowFrom at h ⊢
  split at h
  · cases h
  · split at h
    · cases h
    · rw [if_neg (by assumption), if_neg (by assumption), line_len]
      omega
theorem rowsTo_in {l : List Str} {w k n : Nat} {r : List C2} (S : IsSheet l w) (hk : k ≤ 1) (h : r ∈ rowsTo l w k n) : 2 ≤ r.length ∧ r.length ≤ 9 := by
  unfold rowsTo at h
  have h := List.mem_filter.mp h
  obtain ⟨c, _, e⟩ := List.mem_map.mp h.1
  subst e
  exact ⟨rowFrom_two (by simpa using h.2), rowFrom_nine S hk⟩
theorem rowsC_in {l : List Str} {w : Nat} {r : List C2} (S : IsSheet l w) (h : r ∈ rowsC l w) : 2 ≤ r.length ∧ r.length ≤ 9 ∧ ∀ c ∈ r, c.1 < l.length ∧ c.2 < w ∧ isOpenC l c = true := by
  have a : 2 ≤ r.length ∧ r.length ≤ 9 := by
    unfold rowsC at h
    rcases List.mem_append.mp h with z | z
    · exact rowsTo_in S (by decide) z
    · exact rowsTo_in S (by decide) z
  refine ⟨a.1, a.2, ?_⟩
  rw [rowsC_eq] at h
  obtain ⟨q, hq, e⟩ := List.mem_map.mp h
  rw [← e]
  exact (rowsL_in hq).2
theorem patS_len (l : List Str) (cs : List C2) : (patS l cs).length = cs.length := by
  rw [← cs_len]
  unfold patS
  simp
theorem rowWord {m : List Str} {w : Nat} {r : List C2} (S : IsSheet m w) (L : LetP m w) (h : r ∈ rowsC m w) : wordB (patS m r) = true := by
  obtain ⟨h2, h9, hin⟩ := rowsC_in S h
  refine word_of (by rw [patS_len]; exact h2) (by rw [patS_len]; exact h9) ?_
  unfold lettersB patS
  rw [List.all_eq_true]
  intro c mc
  have mc : c ∈ r.map (sg m) := by simpa using mc
  obtain ⟨d, hd, e⟩ := List.mem_map.mp mc
  have hb := hin d hd
  have := L d hb.1 hb.2.1 hb.2.2
  rw [← e]
  exact decide_eq_true (letters_of this.1 this.2)
theorem rowsC_len {m : List Str} {w : Nat} (h4 : m.length ≤ 4) (w4 : w ≤ 4) : (rowsC m w).length ≤ 32 := by
  have h := Nat.mul_le_mul h4 w4
  have a := rowsTo_len m w 0 (m.length * w)
  have b := rowsTo_len m w 1 (m.length * w)
  rw [cells_len] at a b
  unfold rowsC rowsK
  rw [List.length_append]
  omega
/-- words of a length -/
def ofL (ps : List Str) (n : Nat) : List Str := ps.filter fun x => decide (x.length = n)
theorem ofL_app (ps qs : List Str) (n : Nat) : ofL (ps ++ qs) n = ofL ps n ++ ofL qs n := List.filter_append ..
theorem ofL_three : ∀ {es : List Str}, (∀ x ∈ es, 2 ≤ x.length ∧ x.length ≤ 4) → es.length = (ofL es 2).length + (ofL es 3).length + (ofL es 4).length
  | [], _ => rfl
  | x :: r, h => by
    have ih := ofL_three (es := r) fun y my => h y (List.mem_cons_of_mem _ my)
    have hx := h x List.mem_cons_self
    unfold ofL at ih ⊢
    have e : x.length = 2 ∨ x.length = 3 ∨ x.length = 4 := by omega
    rcases e with e | e | e <;> simp only [List.filter_cons, e, List.length_cons] <;> simp <;> omega
structure WordsP (rs es : List Str) : Prop where
  r32 : rs.length ≤ 32
  nd : (rs ++ es).Nodup
  wd : ∀ x ∈ rs ++ es, wordB x = true
  e4 : ∀ x ∈ es, 2 ≤ x.length ∧ x.length ≤ 4
  e5 : ∀ n, (ofL es n).length ≤ 5
theorem WordsP.few {rs es : List Str} (W : WordsP rs es) : (rs ++ es).length ≤ 47 := by
  have := ofL_three W.e4
  have a := W.e5 2
  have b := W.e5 3
  have c := W.e5 4
  have d := W.r32
  rw [List.length_append]
  omega
theorem nodup_snoc {ps : List Str} {x : Str} (h : ps.Nodup) (hn : x ∉ ps) : (ps ++ [x]).Nodup := by
  rw [List.nodup_append]
  exact ⟨h, List.nodup_cons.mpr ⟨List.not_mem_nil, List.nodup_nil⟩, fun u hu v hv e => hn (by rw [← List.mem_singleton.mp hv, ← e]; exact hu)⟩
theorem WordsP.more {rs es : List Str} {x : Str} (W : WordsP rs es) (hn : x ∉ rs ++ es) (hw : wordB x = true) (h4 : x.length ≤ 4) (h5 : (ofL (rs ++ es) x.length).length < 5) : WordsP rs (es ++ [x]) := by
  refine ⟨W.r32, by rw [← List.append_assoc]; exact nodup_snoc W.nd hn, fun y my => ?_, fun y my => ?_, fun n => ?_⟩
  · rw [← List.append_assoc] at my
    rcases List.mem_append.mp my with z | z
    · exact W.wd y z
    · rw [List.mem_singleton.mp z]; exact hw
  · rcases List.mem_append.mp my with z | z
    · exact W.e4 y z
    · rw [List.mem_singleton.mp z]; exact ⟨(wordB_len hw).1, h4⟩
  · rw [ofL_app, List.length_append]
    rw [ofL_app, List.length_append] at h5
    by_cases e : x.length = n
    · rw [e] at h5
      have : (ofL [x] n).length = 1 := by unfold ofL; rw [List.filter_cons, decide_eq_true e]; rfl
      omega
    · have : (ofL [x] n).length = 0 := by unfold ofL; rw [List.filter_cons, decide_eq_false e]; rfl
      have := W.e5 n
      omega
section
variable {P : Program} {w : World} {K : PySem.W.Frag} {mg : Str → Option Value} {base : Heap} {f : Addr} {fd : FuncData}
def spLWords (K : PySem.W.Frag) : Sp := fun vs H Q _ => ∃ (a b : Addr) (ns : List Int) (m : List Str) (w k : Nat), vs = [.ref a, .ref b, .int k] ∧ SqL K H a (ns.map V.int) ∧ SqT K H b (m.map V.str) ∧ IsSheet m w ∧ LetP m w ∧ m.length ≤ 4 ∧ w ≤ 4 ∧
  ∀ (l : Addr) (rs es : List Str) (H' : Hp), H l = none → Same H H' → H' l = some (.lst ((rs ++ es).map V.str)) → WordsP rs es → Q (.ref l) H'
theorem sc_law_words : FnScope ["_law_script", "_law_filled_here", "_law_start", "_law_words_here", "_law_cells", "_law_cell", "_law_word", "_law_number", "_law_k"] ["_law_script", "_law_filled_here", "_law_start"] (defScope (top 45)) := ⟨rfl, rfl, rfl, by decide +kernel, rfl, by decide +kernel, by decide +kernel⟩
theorem ok_lwords (B : Bl mg) (F : Fun K "_law_words" "_law_words" (top 45) f fd) (F_law_cell_at : Fn P w K mg base "_law_cell_at" 1 (spCell K)) (F_law_rows : Fn P w K mg base "_law_rows" 3 (spLRows K)) (F_law_text : Fn P w K mg base "_law_text" 1 (spLText K)) (F_law_letter : Fn P w K mg base "_law_letter" 2 (spLetter K)) : FnOk P w K mg base CX0 4 f fd ["_law_script", "_law_filled_here", "_law_start"] (spLWords K) := by
  refine F.ok sc_law_words (fun vs H Q E h => ?_) (fun cdv A outer s H vs Q E hr h => ?_)
  · obtain ⟨a, b, ns, m, w, k, rfl, _⟩ := h
    rfl
  · obtain ⟨a, b, ns, m, wd, k, rfl, hS, hT, S, L, m4, w4, q⟩ := h
    refine ⟨_, (pss_cons (ps_set (i := 3) sc_law_words.nd rfl (Or.inl rfl) (pe_lst pa_nil))
      (pss_cons (ps_join (ps_if (pt_cmpR op_gt (pe_op op_mod (pe_fn F_law_cell_at (hr.mono (by decide)) (by rfl) (pa_cons (pv 0) (pa_cons pe_int pa_nil))) pe_int) pe_int (nomark _))
      (pss_one (ps_for PassesOwn.never rfl (pi_list (pe_fn F_law_rows (hr.mono (by decide)) (by rfl) (pa_cons (pv 1) pa_nil))) (pg_name (i := 4) sc_law_words.nd rfl (Or.inl rfl))
        (pss_one (ps_if (pt_cmpR op_notIn_seq (pe_fn F_law_text (hr.mono (by decide)) (by rfl) (pa_cons (pv 1) (pa_cons (pv 4) pa_nil))) (pv 3) rfl)
          (pss_one (ps_expr (pe_bm PySem.F.plainAttrs_list PySem.F.slot_list_append PySem.F.type_list_append mt_append (pv 3) (pa_cons (pe_fn F_law_text (hr.mono (by decide)) (by rfl) (pa_cons (pv 1) (pa_cons (pv 4) pa_nil))) pa_nil))))
          pss_nil))))
      pss_nil))
      (pss_cons (ps_for PassesOwn.never rfl (pi_list (pe_slice sl_list (pv 0) (po_some (pv 2)) (po_some pe_int))) (pg_name (i := 5) sc_law_words.nd rfl (Or.inl rfl))
      (pss_cons (ps_set (i := 6) sc_law_words.nd rfl (Or.inr rfl) pe_str)
        (pss_cons (ps_set (i := 7) sc_law_words.nd rfl (Or.inl rfl) (pe_op op_mod (pe_op op_fdiv (pv 5) pe_int) pe_int))
        (pss_cons (ps_for PassesOwn.never rfl (pi_range1 (by rfl) B.range_ (pa_cons (pe_op op_add pe_int (pe_op op_mod (pv 5) pe_int)) pa_nil)) (pg_name (i := 8) sc_law_words.nd rfl (Or.inl rfl))
        (pss_cons (ps_set (i := 6) sc_law_words.nd rfl (Or.inr rfl) (pe_op op_add_str (pv 6) (pe_fn F_law_letter (hr.mono (by decide)) (by rfl) (pa_cons (pv 0) (pa_cons (pv 7) pa_nil)))))
          (pss_one (ps_set (i := 7) sc_law_words.nd rfl (Or.inl rfl) (pe_op op_mod (pe_op op_mul (pe_op op_add (pv 7) pe_int) pe_int) pe_int)))))
        (pss_one (ps_if (PW.pt (pw_and (pt_cmpR op_notIn_seq (pv 6) (pv 3) rfl) (pw_and1 (pt_cmpR op_lt (pe_callB call_len_seq (by rfl) B.len_ bt_len (pa_cons (pe_comp (js := [6]) (ns := ["_law_word"]) (pi_list (pv 3)) rfl rfl rfl rfl (fun _ _ _ _ => (pif_one (pt_cmpR op_eq (pe_callB call_len_str (by rfl) B.len_ bt_len (pa_cons (pv 0) pa_nil)) (pe_callB call_len_str (by rfl) B.len_ bt_len (pa_cons (pv 1) pa_nil)) (nomark _)))) (fun _ _ _ _ => (pv 0))) pa_nil)) pe_int (nomark _)))))
        (pss_one (ps_expr (pe_bm PySem.F.plainAttrs_list PySem.F.slot_list_append PySem.F.type_list_append mt_append (pv 3) (pa_cons (pv 6) pa_nil))))
        pss_nil))))))
      (pss_one (ps_ret (pv 3)))))), ?_⟩
    refine ⟨Nat.zero_le _, fun l hl => ?_⟩
    have s0 := Same.upd (o := HO.lst []) hl
    have hL0 := upd_at s0
    revert s0 hL0
    generalize upd H l (.lst []) = H0
    intro s0 hL0
    refine ⟨fun σ H2 => ∃ (v4 : Option V) (rs : List Str), σ = [some (.ref a), some (.ref b), some (.int k), some (.ref l), v4, none, none, none, none] ∧ Same H H2 ∧ H2 l = some (.lst (rs.map V.str)) ∧ rs.Nodup ∧ (∀ x ∈ rs, wordB x = true) ∧ rs.length ≤ 32, ?_, ?_⟩
    · rintro σ H2 ⟨v4, rs, rfl, sm, hL, hnd, hwd, h32⟩
      refine ⟨_, rfl, _, rfl, _, rfl, _, rfl, a, _, rfl, sm.seq hS, fun sl hsl => ⟨sl, rfl, ⟨_, SqL.of upd_same⟩, ?_⟩⟩
      have hc0 := cut_ints ns (some (k : Int)) (some 63)
      revert hc0
      generalize cutV (ns.map V.int) (some (k : Int)) (some 63) = cs
      intro hc0
      have ss := Same.upd (o := HO.lst cs) hsl
      have hs1 := upd_at ss
      have hl1 := ss _ _ hL
      have sm1 := sm.trans ss
      have nsl : sl ≠ l := fun z => by rw [z, hL] at hsl; cases hsl
      revert hs1 hl1 sm1
      clear ss
      generalize upd H2 sl (.lst cs) = H3
      intro hs1 hl1 sm1
      refine for_list (xs := cs) (fun i σ H2 => ∃ (v5 v6 v7 v8 : Option V) (es : List Str), σ = [some (.ref a), some (.ref b), some (.int k), some (.ref l), v4, v5, v6, v7, v8] ∧ Same H H2 ∧ H2 sl = some (.lst cs) ∧ H2 l = some (.lst ((rs ++ es).map V.str)) ∧ WordsP rs es)
        ⟨none, none, none, none, [], rfl, sm1, hs1, by rw [List.append_nil]; exact hl1, ⟨h32, by rw [List.append_nil]; exact hnd, by rw [List.append_nil]; exact hwd, fun _ z => absurd z List.not_mem_nil, fun _ => Nat.zero_le _⟩⟩ ?_ ?_ ?_
      · rintro i σ H2 _ ⟨v5, v6, v7, v8, es, rfl, sm, hsl2, _⟩
        exact SqL.of hsl2
      · rintro i y σ H2 hi ⟨v5, v6, v7, v8, es, rfl, sm, hsl2, hL, W⟩
        obtain ⟨c, rfl⟩ := hc0 y (List.mem_of_getElem? hi)
        have m1 := Int.emod_nonneg c (show (3 : Int) ≠ 0 by decide)
        have m2 := Int.emod_lt_of_pos c (show (0 : Int) < 3 by decide)
        obtain ⟨r, hr3⟩ := Int.eq_ofNat_of_zero_le m1
        have er : 2 + c % 3 = ((2 + r : Nat) : Int) := by omega
        refine ⟨_, rfl, _, _, rfl, rfl, ⟨by decide, by decide⟩, _, _, rfl, rfl, (by show (0 : Int) < 2147483647; decide), ?_⟩
        refine ⟨_, rfl, _, _, rfl, rfl, (by show (0 : Int) < 3; decide), _, _, rfl, rfl, _, rfl, by omega, by omega, ?_⟩
        rw [er, Int.toNat_natCast]
        refine for_range0 (fun j σ H3 => ∃ x z v8, σ = [some (.ref a), some (.ref b), some (.int k), some (.ref l), v4, some (.int c), some (.str x), some (.int z), v8] ∧ H3 = H2 ∧ x.length = j ∧ lettersB x = true)
          ⟨Str.ofString "", _, v8, rfl, rfl, rfl, rfl⟩ ?_ ?_
        · rintro j σ H3 hj ⟨x, z, v8', rfl, rfl, hx, hlx⟩
          refine ⟨_, rfl, _, rfl, _, rfl, a, ns, z, rfl, sm.seq hS, fun ch c1 c2 => ?_⟩
          refine ⟨_, _, rfl, rfl, szb_le (by rw [hx]; show j + 1 ≤ 10000; omega), ?_⟩
          refine ⟨_, rfl, _, _, rfl, rfl, _, _, rfl, rfl, .inr ⟨by decide, by decide⟩, _, _, rfl, rfl, (by show (0 : Int) < 2147483647; decide), ?_⟩
          exact ⟨_, _, _, rfl, rfl, by rw [Str.length_append, hx]; rfl, lettersB_app hlx (lettersB_one (letters_of c1 c2))⟩
        · rintro σ H3 ⟨x, z, v8', rfl, rfl, hx, hlx⟩
          have hwx : wordB x = true := word_of (by omega) (by omega) hlx
          have hfl : ((rs ++ es).map V.str).all flatV = true := by rw [List.all_map]; exact List.all_eq_true.mpr fun _ _ => rfl
          have few := W.few
          refine ⟨_, rfl, _, rfl, l, _, rfl, .inl (SqL.of hL), rfl, hfl, _, rfl, ite2 (fun h => ?_) (fun h => iteF ⟨_, _, _, _, es, rfl, sm, hsl2, hL, W⟩)⟩
          have hn : x ∉ rs ++ es := inV_strs (by simpa using h)
          refine ⟨_, rfl, l, rfl, ⟨_, SqL.of hL⟩, ?_⟩
          refine comp_pure seq_list (by rw [List.length_map]; omega) (fun j => decide (((rs ++ es).getD j ⟨#[]⟩).length = x.length)) (fun _ j y _ => y = .str ((rs ++ es).getD j ⟨#[]⟩)) (fun H6 s6 => SqL.of (s6 _ _ hL)) (fun _ _ _ _ _ _ _ _ h => h) ?_ ?_
          · intro D2 j v H6 Z0 Z hD2 hv s6 _ k0 k1
            rw [List.getElem?_map] at hv
            cases e : (rs ++ es)[j]? with
            | none => rw [e] at hv; cases hv
            | some y =>
              rw [e] at hv
              cases hv
              rw [getF e] at k0 k1
              have hy := wordB_len (W.wd y (List.mem_of_getElem? e))
              refine ⟨_, rfl, y, rfl, szA (by omega), _, rfl, x, rfl, szA (by omega), rfl, _, rfl, ?_⟩
              rw [dec_len]
              refine ite2 (fun h => ?_) (fun h => ?_)
              · exact ⟨_, rfl, k1 _ _ (Same.refl' _) h rfl⟩
              · exact k0 _ (Same.refl' _) (Bool.eq_false_iff.mpr h)
          · intro D2 zs H6 hD2 hDs2 s6 pr2
            have e2 := pairedB_map pr2
            rw [List.length_map, pick_map V.str ⟨#[]⟩ (rs ++ es) fun y => decide (y.length = x.length)] at e2
            have hL6 := s6 _ _ hL
            have hz : zs.length = (ofL (rs ++ es) x.length).length := by rw [e2, List.length_map]; rfl
            refine ⟨D2, zs, rfl, .inl (SqL.of hDs2), _, _, rfl, rfl, _, rfl, ite2 (fun h5 => ?_) (fun _ => ⟨_, _, _, _, es, rfl, sm.trans s6, s6 _ _ hsl2, hL6, W⟩)⟩
            have h5 : (zs.length : Int) < 5 := of_decide_eq_true h5
            refine ⟨_, rfl, .inl ⟨rfl, _, SqL.of hL6⟩, _, rfl, l, _, _, rfl, rfl, hL6, szb_lt (by rw [List.length_map]; omega), ?_⟩
            exact ⟨_, _, _, _, es ++ [x], rfl, (sm.trans s6).upd2 hl, by rw [upd_ne nsl]; exact s6 _ _ hsl2, by rw [upd_same]; simp, W.more hn hwx (by omega) (by omega)⟩
      · rintro σ H2 ⟨v5, v6, v7, v8, es, rfl, sm, hsl2, hL, W⟩
        exact ⟨_, rfl, q l rs es H2 hl sm hL W⟩
    · refine ⟨_, rfl, a, ns, 3, rfl, s0.seq hS, _, _, rfl, rfl, (by show (0 : Int) < 4; decide), _, _, rfl, rfl, _, rfl, ite2 (fun _ => ?_) (fun _ => ?_)⟩
      · refine ⟨_, rfl, b, m, wd, rfl, s0.tup hT, S, fun g xs H1 hg s1 hG hR => ⟨g, rfl, ⟨_, SqL.of hG⟩, ?_⟩⟩
        have hlr := hR.length
        have h32 := rowsC_len m4 w4
        have hL1 := s1 _ _ hL0
        have ngl : g ≠ l := fun z => by rw [z, hL0] at hg; cases hg
        have sm1 := s0.trans s1
        refine for_list (xs := xs) (fun i σ H2 => ∃ (v4 : Option V) (rs : List Str), σ = [some (.ref a), some (.ref b), some (.int k), some (.ref l), v4, none, none, none, none] ∧ Same H H2 ∧ (∀ c o, c ≠ l → H1 c = some o → H2 c = some o) ∧ H2 l = some (.lst (rs.map V.str)) ∧ rs.Nodup ∧ (∀ x ∈ rs, wordB x = true) ∧ rs.length ≤ i)
          ⟨none, [], rfl, sm1, fun _ _ _ h => h, hL1, List.nodup_nil, fun _ z => absurd z List.not_mem_nil, Nat.le_refl _⟩ ?_ ?_ ?_
        · rintro i σ H2 _ ⟨v4, rs, rfl, sm, kp, _⟩
          exact SqL.of (kp _ _ ngl hG)
        · rintro i x σ H2 hx ⟨v4, rs, rfl, sm, kp, hL, hnd, hwd, hle⟩
          have hil := (List.getElem?_eq_some_iff.mp hx).1
          obtain ⟨r, hr', p, ys, rfl, _, hp, hc⟩ := Paired.get hR hx
          have mr := List.mem_of_getElem? hr'
          obtain ⟨r2, r9, hin⟩ := rowsC_in S mr
          have hcl := hc.length
          have npl : p ≠ l := fun z => by
            rw [z, hL1] at hp
            injection hp with hp
            injection hp with hp
            rw [← hp] at hcl
            have hcl : r.length = 0 := hcl
            omega
          have hp2 := kp _ _ npl hp
          have hc2 : CellsAt H2 r ys := CellsAt.off ⟨_, hL1⟩ kp hc
          have hfl : (rs.map V.str).all flatV = true := by rw [List.all_map]; exact List.all_eq_true.mpr fun _ _ => rfl
          refine ⟨_, rfl, _, rfl, b, p, m, wd, r, ys, rfl, sm.tup hT, S, hp2, hc2, by omega, fun c mc => ⟨(hin c mc).1, (hin c mc).2.1⟩, fun H3 s3 => ?_⟩
          have hL3 := s3 _ _ hL
          refine ⟨_, rfl, l, _, rfl, .inl (SqL.of hL3), rfl, hfl, _, rfl, ite2 (fun h => ?_) (fun h => ?_)⟩
          · have hn : patS m r ∉ rs := inV_strs (by simpa using h)
            refine ⟨_, rfl, .inl ⟨rfl, _, SqL.of hL3⟩, _, rfl, _, rfl, b, p, m, wd, r, ys, rfl, (sm.trans s3).tup hT, S, s3 _ _ hp2, hc2.mono s3, by omega, fun c mc => ⟨(hin c mc).1, (hin c mc).2.1⟩, fun H4 s4 => ?_⟩
            have s34 := s3.trans s4
            refine ⟨l, _, _, rfl, rfl, s4 _ _ hL3, szb_lt (by rw [List.length_map]; omega), ?_⟩
            refine ⟨_, rs ++ [patS m r], rfl, (sm.trans s34).upd2 hl, fun c o hc h => by rw [upd_ne hc]; exact s34 _ _ (kp c o hc h), by rw [upd_same, List.map_append]; rfl, nodup_snoc hnd hn, fun y my => ?_, by rw [List.length_append]; show _ + 1 ≤ _; omega⟩
            rcases List.mem_append.mp my with z | z
            · exact hwd y z
            · rw [List.mem_singleton.mp z]; exact rowWord S L mr
          · exact ⟨_, rs, rfl, sm.trans s3, fun c o hc h => s3 _ _ (kp c o hc h), hL3, hnd, hwd, by omega⟩
        · rintro σ H2 ⟨v4, rs, rfl, sm, kp, hL, hnd, hwd, hle⟩
          exact ⟨v4, rs, rfl, sm, hL, hnd, hwd, by omega⟩
      · exact ⟨none, [], rfl, s0, hL0, List.nodup_nil, fun _ z => absurd z List.not_mem_nil, Nat.zero_le _⟩
end
end Cw
namespace Cw
open PySem L2
/-! ### what a filling is -/
def textsS (l : List Str) (w : Nat) : List Str := (rowsC l w).map (patS l)
def dotB (l : List Str) : Bool := l.any fun x => decide (46 ∈ x.cps.toList)
def filB (ks : List Str) (l : List Str) (w : Nat) : Bool := !dotB l && (decide (textsS l w).Nodup && (textsS l w).all fun x => decide (x ∈ ks))
theorem cells_in {h w : Nat} {c : C2} (h1 : c.1 < h) (h2 : c.2 < w) : c ∈ cells h w := List.mem_of_getElem? (cells_get (w := w) h1 h2)
theorem free_dot {l : List Str} {w : Nat} (S : IsSheet l w) : (freeC l w).isEmpty = !dotB l := by
  cases e : dotB l with
  | true =>
    unfold dotB at e
    obtain ⟨x, mx, hx⟩ := List.any_eq_true.mp e
    have hx := of_decide_eq_true hx
    obtain ⟨i, hi, ei⟩ := List.getElem_of_mem mx
    obtain ⟨j, hj, ej⟩ := List.getElem_of_mem hx
    obtain ⟨y, hy, my, ly, ly', hyj⟩ := S.row hi
    have exy : y = x := by rw [List.getElem?_eq_getElem hi, ei] at hy; exact (Option.some.inj hy).symm
    subst exy
    have hjw : j < w := by omega
    have g := hyj j hjw
    rw [List.getElem?_eq_getElem hj, ej] at g
    have g := Option.some.inj g
    have m : (i, j) ∈ freeC l w := List.mem_filter.mpr ⟨cells_in hi hjw, by unfold isFreeC; exact decide_eq_true g.symm⟩
    cases z : freeC l w with
    | nil => rw [z] at m; cases m
    | cons _ _ => rfl
  | false =>
    cases z : freeC l w with
    | nil => rfl
    | cons c r =>
      have m : c ∈ freeC l w := by rw [z]; exact List.mem_cons_self ..
      obtain ⟨m1, m2⟩ := List.mem_filter.mp m
      obtain ⟨h1, h2⟩ := cells_mem m1
      obtain ⟨y, hy, my, ly, ly', hyj⟩ := S.row h1
      unfold isFreeC at m2
      have g := hyj c.2 h2
      rw [show sg l (c.1, c.2) = 46 from of_decide_eq_true m2] at g
      unfold dotB at e
      have := List.any_eq_false.mp e y my
      exact absurd (decide_eq_true (List.mem_of_getElem? g)) this
theorem has_key {kvs : List (Key × V)} (t : txtKeys kvs) (x : Str) : (valV kvs (Sum.inr x : Key)).isSome = decide (x ∈ keysS kvs) := by
  cases e : valV kvs (Sum.inr x : Key) with
  | none =>
    refine (decide_eq_false fun m => valV_not e ?_).symm
    unfold keysS at m
    obtain ⟨q, hq, eq⟩ := List.mem_map.mp m
    obtain ⟨y, ey⟩ := t q hq
    rw [ey] at eq
    have eq : y = x := eq
    exact List.mem_map.mpr ⟨q, hq, by rw [ey, eq]⟩
  | some v =>
    refine (decide_eq_true ?_).symm
    obtain ⟨q, hq, e1⟩ := List.mem_map.mp (valV_in e)
    unfold keysS
    exact List.mem_map.mpr ⟨q, hq, by rw [e1]⟩
theorem keysS_put {kvs : List (Key × V)} {x : Str} (v : V) (e : valV kvs (Sum.inr x : Key) = none) : keysS (putK kvs (Sum.inr x) v) = keysS kvs ++ [x] := by
  rw [putK_new v e]
  unfold keysS
  rw [List.map_append]
  rfl
theorem keysS_none {kvs : List (Key × V)} {x : Str} (n : x ∉ keysS kvs) : valV kvs (Sum.inr x : Key) = none := by
  cases e : valV kvs (Sum.inr x : Key) with
  | none => rfl
  | some v =>
    refine absurd ?_ n
    have m := valV_in e
    obtain ⟨q, hq, e1⟩ := List.mem_map.mp m
    unfold keysS
    exact List.mem_map.mpr ⟨q, hq, by rw [e1]⟩
theorem keysS_len (kvs : List (Key × V)) : (keysS kvs).length = kvs.length := by unfold keysS; rw [List.length_map]
theorem filB_yes {ks l : List Str} {w : Nat} (h1 : dotB l = false) (h2 : (textsS l w).Nodup) (h3 : ∀ x ∈ textsS l w, x ∈ ks) : filB ks l w = true := by
  unfold filB
  rw [h1, decide_eq_true h2, List.all_eq_true.mpr fun x m => decide_eq_true (h3 x m)]
  rfl
theorem filB_of {ks l : List Str} {w : Nat} (h : filB ks l w = true) : dotB l = false ∧ (textsS l w).Nodup ∧ ∀ x ∈ textsS l w, x ∈ ks := by
  unfold filB at h
  rw [Bool.and_eq_true, Bool.and_eq_true] at h
  exact ⟨by simpa using h.1, of_decide_eq_true h.2.1, fun x m => of_decide_eq_true (List.all_eq_true.mp h.2.2 x m)⟩
theorem filB_no {ks l : List Str} {w i : Nat} {x : Str} (hx : (textsS l w)[i]? = some x) (h : x ∈ (textsS l w).take i ∨ x ∉ ks) : filB ks l w = false := by
  refine Bool.eq_false_iff.mpr fun e => ?_
  obtain ⟨_, nd, h3⟩ := filB_of e
  rcases h with h | h
  · have h1 : ((textsS l w).take (i + 1)).Nodup := nd.sublist (List.take_sublist _ _)
    rw [List.take_add_one, hx, List.nodup_append] at h1
    exact h1.2.2 x h x (List.mem_singleton.mpr rfl) rfl
  · exact h (h3 x (List.mem_of_getElem? hx))
theorem texts_len (l : List Str) (w : Nat) : (textsS l w).length = (rowsL l w).length := by unfold textsS; rw [List.length_map, rowsC_eq, List.length_map]
theorem texts_get {l : List Str} {w i : Nat} {q : Nat × List C2} (h : (rowsL l w)[i]? = some q) : (textsS l w)[i]? = some (patS l q.2) := by
  unfold textsS
  rw [rowsC_eq, List.map_map, List.getElem?_map, h]
  rfl
/-! ### worths -/
def intVals (kvs : List (Key × V)) : Prop := ∀ q ∈ kvs, ∃ n, q.2 = V.int n
def wOf (kvs : List (Key × V)) (x : Str) : Int := match valV kvs (Sum.inr x : Key) with | some (.int n) => n | _ => 0
theorem valV_memq {kvs : List (Key × V)} {k : Key} {v : V} (h : valV kvs k = some v) : ∃ q ∈ kvs, q.1 = k ∧ q.2 = v := by
  unfold valV at h
  cases e : kvs.find? (fun kv => decide (kv.1 = k)) with
  | none => rw [e] at h; cases h
  | some q =>
    rw [e] at h
    exact ⟨q, List.mem_of_find?_eq_some e, of_decide_eq_true (by simpa using List.find?_some e), Option.some.inj h⟩
theorem wOf_val {kvs : List (Key × V)} {x : Str} (t : txtKeys kvs) (hi : intVals kvs) (m : x ∈ keysS kvs) : valV kvs (Sum.inr x : Key) = some (.int (wOf kvs x)) := by
  have := has_key t x
  rw [decide_eq_true m] at this
  cases e : valV kvs (Sum.inr x : Key) with
  | none => rw [e] at this; cases this
  | some v =>
    obtain ⟨q, hq, _, e2⟩ := valV_memq e
    obtain ⟨n, en⟩ := hi q hq
    have ev : v = .int n := by rw [← e2, en]
    unfold wOf
    rw [e, ev]
def sumW (kvs : List (Key × V)) (l : List Str) (w : Nat) : Int := ((textsS l w).map (wOf kvs)).sum
end Cw
namespace Cw
open PySem L2
section
variable {P : Program} {w : World} {K : PySem.W.Frag} {mg : Str → Option Value} {base : Heap} {f : Addr} {fd : FuncData}
def spIsF (K : PySem.W.Frag) (C : Addr) : Sp := fun vs H Q _ => ∃ (p d a : Addr) (kvs : List (Key × V)) (l : List Str) (w : Nat), vs = [.ref p, .ref a] ∧ BookAt C H p d kvs ∧ SqT K H a (l.map V.str) ∧ IsSheet l w ∧
  ∀ H', Same H H' → Q (.bl (filB (keysS kvs) l w)) H'
theorem sc_is_filling : FnScope ["book", "sheet", "seen", "row", "word"] ["book", "sheet"] (defScope (top 22)) := ⟨rfl, rfl, rfl, by decide +kernel, rfl, by decide +kernel, by decide +kernel⟩
theorem ok_isf {C : Addr} (F : Fun K "is_filling" "is_filling" (top 22) f fd) (Ffree_cells : Fn P w K mg base "free_cells" 3 (spFrees K)) (Frows_of : Fn P w K mg base "rows_of" 5 (spRows K)) (Fpattern : Fn P w K mg base "pattern" 2 (spPat K)) (MBook_has : Mt P w K mg base C "has" 1 (spBHas C) []) : FnOk P w K mg base CX0 6 f fd ["book", "sheet"] (spIsF K C) := by
  refine F.ok sc_is_filling (fun vs H Q E h => ?_) (fun cdv A outer s H vs Q E hr h => ?_)
  · obtain ⟨p, d, a, kvs, l, w, rfl, _⟩ := h
    rfl
  · obtain ⟨p, d, a, kvs, l, wd, rfl, hB, hT, S, q⟩ := h
    have hu1 := hu_of hr
    obtain ⟨⟨dx, hob⟩, hdc, hnd, htx⟩ := id hB
    refine ⟨_, (pss_cons (ps_if (pt_truth (pe_fn Ffree_cells (hr.mono (by decide)) (by rfl) (pa_cons (pv 1) pa_nil)) (by intro _; rfl))
      (pss_one (ps_ret pe_bl))
      pss_nil)
      (pss_cons (ps_set (i := 2) sc_is_filling.nd rfl (Or.inl rfl) pe_dnewK)
      (pss_cons (ps_for PassesOwn.never rfl (pi_list (pe_fn Frows_of (hr.mono (by decide)) (by rfl) (pa_cons (pv 1) pa_nil))) (pg_name (i := 3) sc_is_filling.nd rfl (Or.inl rfl))
      (pss_cons (ps_set (i := 4) sc_is_filling.nd rfl (Or.inl rfl) (pe_fn Fpattern (hr.mono (by decide)) (by rfl) (pa_cons (pv 1) (pa_cons (pe_ix ix_tup (pv 3) pe_int (fun _ _ => rfl)) pa_nil))))
        (pss_cons (ps_if (PW.pt (pw_or (pt_cmp (pc_din hu1 (pv 4) (pv 2))) (pw_or1 (pt_not (pt_val (pe_mt MBook_has (hr.mono (by decide)) (pv 0) (pa_cons (pv 4) pa_nil)))))))
        (pss_one (ps_ret pe_bl))
        pss_nil)
        (pss_one (ps_dput hu1 (pv 2) (pv 4) pe_bl rfl)))))
      (pss_one (ps_ret pe_bl))))), ?_⟩
    refine ⟨_, rfl, a, l, wd, rfl, hT, S, fun fp xs H1 hfp s1 hL hC => ⟨_, .inl ⟨xs, SqL.of hL, rfl⟩, ?_⟩⟩
    have exs : xs.isEmpty = !dotB l := by
      rw [← free_dot S]
      have := Paired.length hC
      cases xs with
      | nil => rw [List.length_eq_zero_iff.mp this]; rfl
      | cons y r =>
        cases z : freeC l wd with
        | nil => rw [z] at this; cases this
        | cons _ _ => rfl
    rw [exs, Bool.not_not]
    refine ite2 (fun hdot => ?_) (fun hdot => ?_)
    · have e : filB (keysS kvs) l wd = false := Bool.eq_false_iff.mpr fun e => by rw [(filB_of e).1] at hdot; cases hdot
      rw [e] at q
      exact q H1 s1
    · have hdot := Bool.eq_false_iff.mpr hdot
      intro sd hsd
      have t1 := s1.trans (Same.upd (o := HO.dK []) hsd)
      have hsd0 := s1.free hsd
      refine ⟨_, rfl, a, l, wd, rfl, t1.tup hT, S, fun g xs2 ys H2 hg s2 hL2 hA hD => ⟨g, rfl, ⟨_, SqL.of hL2⟩, ?_⟩⟩
      have hsd2 : H2 sd = some (.dK []) := s2 _ _ upd_same
      have t2 := t1.trans s2
      have hR := rows_both hA hD
      have hlr := Paired.length hR
      have h162 := rowsL_len S
      have htl := texts_len l wd
      clear hA hD s2 t1 hsd hL hC
      have ngs : g ≠ sd := ne_of hL2 hsd2 (by intro z; cases z)
      refine for_list (xs := xs2 ++ ys) (fun i σ H3 => ∃ (v3 v4 : Option V) (skv : List (Key × V)), σ = [some (.ref p), some (.ref a), some (.ref sd), v3, v4] ∧ Same H H3 ∧ (∀ b o, b ≠ sd → H2 b = some o → H3 b = some o) ∧ H3 sd = some (.dK skv) ∧ txtKeys skv ∧ keysS skv = (textsS l wd).take i ∧ (keysS skv).Nodup ∧ ∀ x ∈ keysS skv, x ∈ keysS kvs)
        ⟨none, none, [], rfl, t2, fun _ _ _ h => h, hsd2, fun q m => absurd m List.not_mem_nil, by rw [List.take_zero]; rfl, List.nodup_nil, fun x m => absurd m List.not_mem_nil⟩ (fun i σ H3 _ ⟨_, _, _, _, _, off, _⟩ => SqL.of (off _ _ ngs hL2)) ?_ ?_
      · rintro i y σ H3 hi ⟨v3, v4, skv, rfl, sm, off, hS3, tx3, hk3, nd3, in3⟩
        obtain ⟨rw_, hq, way, aa, t, xs3, rfl, g1, g2, g3⟩ := Paired.get hR hi
        have hin := rowsL_in (List.mem_of_getElem? hq)
        have g1 := off _ _ (ne_of g1 hsd2 (by intro z; cases z)) g1
        have g2 := off _ _ (ne_of g2 hsd2 (by intro z; cases z)) g2
        have g3 : CellsAt H3 rw_.2 xs3 := Paired.mapP g3 fun _ _ ⟨b, e, hb⟩ => ⟨b, e, off _ _ (ne_of hb hsd2 (by intro z; cases z)) hb⟩
        have hi2 : i < (rowsL l wd).length := (List.getElem?_eq_some_iff.mp hq).1
        have htx3 := texts_get hq
        refine ⟨_, rfl, _, rfl, aa, _, 2, .ref t, rfl, rfl, SqT.of g1, rfl, a, t, l, wd, rw_.2, xs3, rfl, sm.tup hT, S, g2, g3, by omega, fun c hc => ⟨(hin.2 c hc).1, (hin.2 c hc).2.1⟩, fun H4 s4 => ?_⟩
        revert htx3
        generalize patS l rw_.2 = x
        intro htx3
        have hS4 := s4 _ _ hS3
        have sm4 := sm.trans s4
        refine ⟨_, rfl, _, rfl, sd, _, rfl, DGet.k (k := Sum.inr x) hS4, _, rfl, ?_⟩
        rw [has_key tx3]
        by_cases hx : x ∈ keysS skv
        · rw [decide_eq_true hx]
          rw [filB_no htx3 (.inl (by rw [← hk3]; exact hx))] at q
          exact iteT (iteT (q H4 sm4))
        · rw [decide_eq_false hx]
          refine iteF ?_
          refine ⟨_, rfl, p, dx, _, rfl, sm4 _ _ hob, bookF_no _ (by decide +kernel), _, rfl, p, d, kvs, x, rfl, hB.mono sm4, _, rfl, ?_⟩
          rw [has_key htx]
          by_cases hy : x ∈ keysS kvs
          · rw [decide_eq_true hy]
            refine iteF ?_
            have hv := keysS_none hx
            have hsl : skv.length ≤ 200 := by rw [← keysS_len, hk3, List.length_take]; omega
            refine ⟨_, rfl, _, rfl, sd, _, rfl, DPut.k (k := Sum.inr x) hS4 (small1000 (by omega)), ?_⟩
            refine ⟨_, _, _, rfl, sm4.upd2 hsd0, fun b o hb h => ?_, upd_same, txt_put tx3 x _ hv, ?_, ?_, ?_⟩
            · rw [upd_ne hb]
              exact s4 _ _ (off b o hb h)
            · rw [keysS_put _ hv, hk3, List.take_add_one, htx3]
              rfl
            · rw [keysS_put _ hv]
              exact nd_snoc nd3 hx
            · intro z mz
              rw [keysS_put _ hv] at mz
              rcases List.mem_append.mp mz with m | m
              · exact in3 z m
              · rw [List.mem_singleton.mp m]
                exact hy
          · rw [decide_eq_false hy]
            rw [filB_no htx3 (.inr hy)] at q
            exact iteT (q H4 sm4)
      · rintro σ H3 ⟨v3, v4, skv, rfl, sm, off, hS3, tx3, hk3, nd3, in3⟩
        rw [List.take_of_length_le (by omega)] at hk3
        rw [hk3] at nd3 in3
        rw [filB_yes hdot nd3 in3] at q
        exact q H3 sm
def spWorthOf (K : PySem.W.Frag) (C : Addr) : Sp := fun vs H Q _ => ∃ (p d a : Addr) (kvs : List (Key × V)) (l : List Str) (w : Nat), vs = [.ref p, .ref a] ∧ BookAt C H p d kvs ∧ (∀ x ∈ keysS kvs, wordB x = true) ∧ intVals kvs ∧ SqT K H a (l.map V.str) ∧ IsSheet l w ∧ (∀ x ∈ textsS l w, x ∈ keysS kvs) ∧
  ∀ H', Same H H' → Q (.int (sumW kvs l w)) H'
theorem sc_worth_of : FnScope ["book", "sheet"] ["book", "sheet"] (defScope (top 23)) := ⟨rfl, rfl, rfl, by decide +kernel, rfl, by decide +kernel, by decide +kernel⟩
theorem ok_worthof {C : Addr} (B : Bl mg) (F : Fun K "worth_of" "worth_of" (top 23) f fd) (Frows_of : Fn P w K mg base "rows_of" 5 (spRows K)) (Fpattern : Fn P w K mg base "pattern" 2 (spPat K)) (MBook_worth : Mt P w K mg base C "worth" 5 (spBWorth C) []) : FnOk P w K mg base CX0 6 f fd ["book", "sheet"] (spWorthOf K C) := by
  refine F.ok sc_worth_of (fun vs H Q E h => ?_) (fun cdv A outer s H vs Q E hr h => ?_)
  · obtain ⟨p, d, a, kvs, l, w, rfl, _⟩ := h
    rfl
  · obtain ⟨p, d, a, kvs, l, wd, rfl, hB, hwd, hiv, hT, S, hin, q⟩ := h
    obtain ⟨⟨dx, hob⟩, hdc, hnd, htx⟩ := id hB
    refine ⟨_, (pss_one (ps_ret (pe_callB (call_sumI rfl) (by rfl) B.sum_ bt_sum (pa_cons (pe_comp (js := [0, 1]) (ns := ["book", "sheet"]) (pi_list (pe_fn Frows_of (hr.mono (by decide)) (by rfl) (pa_cons (pv 1) pa_nil))) rfl rfl rfl rfl (fun _ _ _ _ => pif_nil) (fun _ _ _ _ => (pe_mt MBook_worth (hr.mono (by decide)) (pv 1) (pa_cons (pe_fn Fpattern (hr.mono (by decide)) (by rfl) (pa_cons (pv 2) (pa_cons (pe_ixK (K := K) (rr := rIxT) rfl ix_tup (pv 0) pe_int (fun _ _ => rfl)) pa_nil))) pa_nil)))) pa_nil)))), ?_⟩
    refine ⟨_, rfl, a, l, wd, rfl, hT, S, fun g xs ys H1 hg s1 hL hA hD => ⟨g, rfl, ⟨_, SqL.of hL⟩, ?_⟩⟩
    have hR := rows_both hA hD
    have hlr := Paired.length hR
    have h162 := rowsL_len S
    have htl := texts_len l wd
    refine comp_map seq_list (by omega) (fun _ i y _ => y = .int (wOf kvs ((textsS l wd).getD i ⟨#[]⟩))) (fun H2 s2 => SqL.of (s2 _ _ hL)) (fun _ _ _ _ _ _ _ _ h => h) ?_ ?_
    · intro D i x H2 Z hD2 hx s2 _ k1
      obtain ⟨rw_, hq, way, aa, t, xs3, rfl, g1, g2, g3⟩ := Paired.get hR hx
      have hin2 := rowsL_in (List.mem_of_getElem? hq)
      have htx3 := texts_get hq
      have sm := s1.trans s2
      refine ⟨_, rfl, p, dx, _, rfl, sm _ _ hob, bookF_no _ (by decide +kernel), ?_⟩
      refine ⟨_, rfl, _, rfl, aa, _, 2, .ref t, rfl, rfl, SqT.of (s2 _ _ g1), rfl, a, t, l, wd, rw_.2, xs3, rfl, sm.tup hT, S, s2 _ _ g2, g3.mono s2, by omega, fun c hc => ⟨(hin2.2 c hc).1, (hin2.2 c hc).2.1⟩, fun H4 s4 => ?_⟩
      revert htx3
      generalize patS l rw_.2 = x
      intro htx3
      have mx := hin x (List.mem_of_getElem? htx3)
      exact ⟨p, d, kvs, x, _, rfl, hB.mono (sm.trans s4), hwd x mx, wOf_val htx hiv mx, fun H5 s5 => k1 _ _ (s4.trans s5) (by rw [getD_of htx3])⟩
    · intro D zs H2 hD2 hDs s2 pr
      have e := paired_map1 pr
      rw [← hlr, ← htl, map_getD1 (fun x => V.int (wOf kvs x))] at e
      have e1 : zs = ((textsS l wd).map (wOf kvs)).map V.int := by rw [e, List.map_map]; rfl
      rw [e1] at hDs
      exact ⟨D, _, rfl, SqL.of hDs, q H2 (s1.trans s2)⟩
end
end Cw
namespace Cw
open PySem L2
theorem joinE_cs : ∀ zs : List Str, (Str.join ⟨#[]⟩ zs).cps.toList = zs.flatMap fun x => x.cps.toList
  | [] => rfl
  | [x] => by simp [Str.join]
  | x :: y :: r => by
    have ih := joinE_cs (y :: r)
    show ((x ++ ⟨#[]⟩ ++ Str.join ⟨#[]⟩ (y :: r) : Str)).cps.toList = _
    rw [cs_app, cs_app, ih]
    simp
theorem dot_join (l : List Str) : decide (46 ∈ (Str.join ⟨#[]⟩ l).cps.toList) = dotB l := by
  rw [joinE_cs]
  unfold dotB
  rw [Bool.eq_iff_iff, decide_eq_true_iff, List.mem_flatMap, List.any_eq_true]
  constructor
  · rintro ⟨x, m, h⟩
    exact ⟨x, m, decide_eq_true h⟩
  · rintro ⟨x, m, h⟩
    exact ⟨x, m, of_decide_eq_true h⟩
theorem sum_lens {w : Nat} : ∀ {l : List Str}, (∀ x ∈ l, x.length = w) → (l.map (·.length)).sum = l.length * w
  | [], _ => by simp
  | x :: r, h => by
    rw [List.map_cons, List.sum_cons, sum_lens fun y m => h y (List.mem_cons_of_mem _ m), h x List.mem_cons_self, List.length_cons, Nat.succ_mul, Nat.add_comm]
theorem textsC_get {l : List Str} {w i : Nat} {r : List C2} (h : (rowsC l w)[i]? = some r) : (textsS l w)[i]? = some (patS l r) := by
  unfold textsS
  rw [List.getElem?_map, h]
  rfl
theorem dInN (i j : Nat) : decide (V.int (i : Int) = V.int (j : Int)) = decide (i = j) := by
  by_cases h : i = j
  · rw [h, decide_eq_true rfl, decide_eq_true rfl]
  · rw [decide_eq_false h, decide_eq_false]
    intro z
    injection z with z
    omega
section
variable {P : Program} {w : World} {K : PySem.W.Frag} {mg : Str → Option Value} {base : Heap} {f : Addr} {fd : FuncData}
def spLIsF (K : PySem.W.Frag) : Sp := fun vs H Q _ => ∃ (d a : Addr) (kvs : List (Key × V)) (l : List Str) (w : Nat), vs = [.ref d, .ref a] ∧ H d = some (.dK kvs) ∧ txtKeys kvs ∧ SqT K H a (l.map V.str) ∧ IsSheet l w ∧ ∀ H', Same H H' → Q (.bl (filB (keysS kvs) l w)) H'
theorem sc_law_is_filling : FnScope ["_law_words_here", "_law_sheet", "_law_texts"] ["_law_words_here", "_law_sheet"] (defScope (top 47)) := ⟨rfl, rfl, rfl, by decide +kernel, rfl, by decide +kernel, by decide +kernel⟩
theorem ok_lisf (B : Bl mg) (F : Fun K "_law_is_filling" "_law_is_filling" (top 47) f fd) (F_law_rows : Fn P w K mg base "_law_rows" 3 (spLRows K)) (F_law_text : Fn P w K mg base "_law_text" 1 (spLText K)) : FnOk P w K mg base CX0 4 f fd ["_law_words_here", "_law_sheet"] (spLIsF K) := by
  refine F.ok sc_law_is_filling (fun vs H Q E h => ?_) (fun cdv A outer s H vs Q E hr h => ?_)
  · obtain ⟨d, a, kvs, l, w, rfl, _⟩ := h
    rfl
  · obtain ⟨d, a, kvs, l, wd, rfl, hd, htx, hT, S, q⟩ := h
    have hu1 := hu_of hr
    refine ⟨_, (pss_cons (ps_setcomp (i := 2) sc_law_is_filling.nd rfl (Or.inl rfl) (js := [1]) (ns := ["_law_sheet"]) (pi_list (pe_fn F_law_rows (hr.mono (by decide)) (by rfl) (pa_cons (pv 1) pa_nil))) rfl rfl rfl rfl (fun _ _ _ _ => pif_nil) (fun _ _ _ _ => (pe_fn F_law_text (hr.mono (by decide)) (by rfl) (pa_cons (pv 1) (pa_cons (pv 0) pa_nil)))))
      (pss_cons (ps_if (PW.pt (pw_or (pt_cmpR op_in_str pe_str (pe_bm PySem.F.plainAttrs_str PySem.F.slot_str_join PySem.F.type_str_join mt_join pe_str (pa_cons (pe_callTy call_list_of (by rfl) B.list_ bt_list (pa_cons (pv 1) pa_nil)) pa_nil)) rfl) (pw_or1 (pt_cmpR op_ne (pe_callB call_lenS (by rfl) B.len_ bt_len (pa_cons (pe_callTy (call_setT rfl) (by rfl) B.set_ bt_set (pa_cons (pv 2) pa_nil)) pa_nil)) (pe_callB call_len_seq (by rfl) B.len_ bt_len (pa_cons (pv 2) pa_nil)) (nomark _)))))
      (pss_one (ps_ret pe_bl))
      pss_nil)
      (pss_one (ps_ret (pe_callB (call_all rfl) (by rfl) B.all_ bt_all (pa_cons (pe_comp (js := [0]) (ns := ["_law_words_here"]) (pi_list (pv 2)) rfl rfl rfl rfl (fun _ _ _ _ => pif_nil) (fun _ _ _ _ => (pe_cmp (pc_din (by exact hu1) (pv 0) (pv 1))))) pa_nil)))))), ?_⟩
    refine ⟨_, rfl, a, l, wd, rfl, hT, S, fun g xs H1 hg s1 hL hR => ⟨g, rfl, ⟨_, SqL.of hL⟩, ?_⟩⟩
    have hlr := Paired.length hR
    have h162 := rowsL_len S
    have htl := texts_len l wd
    have htc : (textsS l wd).length = (rowsC l wd).length := by unfold textsS; rw [List.length_map]
    refine comp_map seq_list (by omega) (fun _ i y _ => y = .str ((textsS l wd).getD i ⟨#[]⟩)) (fun H2 s2 => SqL.of (s2 _ _ hL)) (fun _ _ _ _ _ _ _ _ h => h) ?_ ?_
    · intro D i x H2 Z hD2 hx s2 _ k1
      obtain ⟨r, hr', p1, ys, rfl, _, hp, hc⟩ := Paired.get hR hx
      have hin := rowsC_in S (List.mem_of_getElem? hr')
      exact ⟨_, rfl, _, rfl, a, p1, l, wd, r, ys, rfl, (s1.trans s2).tup hT, S, s2 _ _ hp, hc.mono s2, by omega, fun c mc => ⟨(hin.2.2 c mc).1, (hin.2.2 c mc).2.1⟩, fun H3 s3 => k1 _ _ s3 (by rw [getD_of (textsC_get hr')])⟩
    · intro D zs H2 hD2 hDs s2 pr
      have e := paired_map1 pr
      rw [← hlr, ← htc, map_getD1 (fun x => V.str x)] at e
      rw [e] at hDs
      have sm := s1.trans s2
      clear pr e hR hL hD2
      refine ⟨rfl, _, rfl, a, _, rfl, .inr (sm.tup hT), fun lp hlp => ⟨_, lp, l, rfl, rfl, .inl (SqL.of upd_same), ?_, _, _, rfl, rfl, _, rfl, ?_⟩⟩
      · rw [sum_lens S.len, emptyS]
        have h9 := S.nine
        have w9 := S.w9
        have : l.length * wd ≤ 9 * 9 := Nat.mul_le_mul h9 w9
        show _ + _ * 0 ≤ _
        omega
      · have ef : (!(Builtin.Str.occurrences (Str.join (Str.ofString "") l) (Str.ofString ".") 0 (Str.join (Str.ofString "") l).length 1).isEmpty) = dotB l := by
          rw [← dot_join, freeS, emptyS]
          exact StrLaws.found_one _ 46
        rw [ef]
        have sm3 := sm.trans (Same.upd (o := HO.lst (l.map V.str)) hlp)
        have hDs3 := (Same.upd (o := HO.lst (l.map V.str)) hlp) _ _ hDs
        revert sm3 hDs3
        generalize upd H2 lp (.lst (l.map V.str)) = H3
        intro sm3 hDs3
        cases hdot : dotB l with
        | true =>
          have e : filB (keysS kvs) l wd = false := Bool.eq_false_iff.mpr fun e => by rw [(filB_of e).1] at hdot; cases hdot
          rw [e] at q
          exact iteT (iteT (q H3 sm3))
        | false =>
          refine iteF ?_
          refine ⟨_, rfl, D, textsS l wd, rfl, SqL.of hDs3, Nat.lt_of_le_of_lt (show (textsS l wd).length + 1 ≤ 1000 by omega) (by decide), fun st T c hst hc => ⟨st, T, c, rfl, upd_same, _, rfl, D, _, rfl, .inl (SqL.of ((Same.upd hst) _ _ hDs3)), rfl, _, rfl, ?_⟩⟩
          have sm4 := sm3.trans (Same.upd (o := HO.ext (setD P w st T c)) hst)
          have hDs4 := (Same.upd (o := HO.ext (setD P w st T c)) hst) _ _ hDs3
          rw [List.length_map, dInN]
          by_cases hnd : (textsS l wd).Nodup
          · rw [decide_eq_true (hc.mpr hnd)]
            refine iteF ?_
            refine ⟨_, rfl, D, rfl, ⟨_, SqL.of hDs4⟩, ?_⟩
            refine comp_map seq_list (by rw [List.length_map]; omega) (fun _ i y _ => y = .bl (decide ((textsS l wd).getD i ⟨#[]⟩ ∈ keysS kvs))) (fun H5 s5 => SqL.of (s5 _ _ hDs4)) (fun _ _ _ _ _ _ _ _ h => h) ?_ ?_
            · intro D2 i v H5 Z hD2 hv s5 _ k1
              rw [List.getElem?_map] at hv
              cases ex : (textsS l wd)[i]? with
              | none => rw [ex] at hv; cases hv
              | some x =>
                rw [ex] at hv
                cases hv
                exact ⟨_, rfl, _, rfl, d, _, rfl, DGet.k (k := Sum.inr x) ((sm4.trans s5) _ _ hd), k1 _ _ (Same.refl' _) (by rw [has_key htx, getD_of ex])⟩
            · intro D2 bs H5 hD2 hDs2 s5 pr2
              have e2 := paired_map1 pr2
              rw [List.length_map, map_getD1 (fun x => V.bl (decide (x ∈ keysS kvs)))] at e2
              have e3 : bs = ((textsS l wd).map fun x => decide (x ∈ keysS kvs)).map V.bl := by rw [e2, List.map_map]; rfl
              rw [e3] at hDs2
              refine ⟨D2, _, rfl, SqL.of hDs2, ?_⟩
              have ea : (((textsS l wd).map fun x => decide (x ∈ keysS kvs)).all id) = filB (keysS kvs) l wd := by
                unfold filB
                rw [hdot, decide_eq_true hnd, List.all_map]
                rfl
              rw [ea]
              exact q H5 (sm4.trans s5)
          · rw [decide_eq_false fun z => hnd (hc.mp z)]
            have e : filB (keysS kvs) l wd = false := Bool.eq_false_iff.mpr fun e => hnd (filB_of e).2.1
            rw [e] at q
            exact iteT (q _ sm4)
end
end Cw
namespace Cw
open PySem L2
structure WorthsP (kvs : List (Key × V)) (ws : List Str) : Prop where
  ks : keysS kvs = ws
  tx : txtKeys kvs
  iv : intVals kvs
  nd : (kvs.map (·.1)).Nodup
section
variable {P : Program} {w : World} {K : PySem.W.Frag} {mg : Str → Option Value} {base : Heap} {f : Addr} {fd : FuncData}
def spLWorths (K : PySem.W.Frag) : Sp := fun vs H Q _ => ∃ (a b : Addr) (ns : List Int) (ws : List Str), vs = [.ref a, .ref b] ∧ SqL K H a (ns.map V.int) ∧ SqL K H b (ws.map V.str) ∧ ws.Nodup ∧ ws.length ≤ 60 ∧
  ∀ (d : Addr) (kvs : List (Key × V)) (H' : Hp), H d = none → Same H H' → H' d = some (.dK kvs) → WorthsP kvs ws → Q (.ref d) H'
theorem sc_law_worths : FnScope ["_law_script", "_law_words_here", "_law_worths_here", "_law_cell", "_law_k"] ["_law_script", "_law_words_here"] (defScope (top 46)) := ⟨rfl, rfl, rfl, by decide +kernel, rfl, by decide +kernel, by decide +kernel⟩
theorem ok_lworths (B : Bl mg) (F : Fun K "_law_worths" "_law_worths" (top 46) f fd) (F_law_cell_at : Fn P w K mg base "_law_cell_at" 1 (spCell K)) : FnOk P w K mg base CX0 2 f fd ["_law_script", "_law_words_here"] (spLWorths K) := by
  refine F.ok sc_law_worths (fun vs H Q E h => ?_) (fun cdv A outer s H vs Q E hr h => ?_)
  · obtain ⟨a, b, ns, ws, rfl, _⟩ := h
    rfl
  · obtain ⟨a, b, ns, ws, rfl, hS, hW, hnd, h60, q⟩ := h
    have hu1 := hu_of hr
    refine ⟨_, (pss_cons (ps_set (i := 2) sc_law_worths.nd rfl (Or.inl rfl) pe_dnewK)
      (pss_cons (ps_set (i := 3) sc_law_worths.nd rfl (Or.inl rfl) (pe_fn F_law_cell_at (hr.mono (by decide)) (by rfl) (pa_cons (pv 0) (pa_cons pe_int pa_nil))))
      (pss_cons (ps_for PassesOwn.never rfl (pi_range1 (by rfl) B.range_ (pa_cons (pe_callB call_len_seq (by rfl) B.len_ bt_len (pa_cons (pv 1) pa_nil)) pa_nil)) (pg_name (i := 4) sc_law_worths.nd rfl (Or.inl rfl))
      (pss_one (ps_dput hu1 (pv 2) (pe_ix ix_list (pv 1) (pv 4) (fun _ _ => rfl)) (pe_op op_mod (pe_op op_mul (pe_op op_add (pe_op op_add (pe_op op_fdiv (pv 3) pe_int) (pe_op op_mul (pv 4) (pv 4))) pe_int) pe_int) (pe_ix ix_list (pe_lst (pa_cons pe_int (pa_cons pe_int (pa_cons pe_int (pa_cons (pe_op op_pow pe_int pe_int) pa_nil))))) (pe_op op_mod (pv 3) pe_int) (fun _ _ => rfl))) rfl)))
      (pss_one (ps_ret (pv 2)))))), ?_⟩
    intro d hd
    have t1 := Same.upd (o := HO.dK []) hd
    refine ⟨_, rfl, a, ns, 4, rfl, t1.seq hS, ?_⟩
    have c0 := Int.emod_nonneg (cellAt ns 4) (show (4 : Int) ≠ 0 by decide)
    have c1 := Int.emod_lt_of_pos (cellAt ns 4) (show (0 : Int) < 4 by decide)
    refine ⟨_, rfl, b, _, rfl, .inl (t1.seq hW), _, rfl, by rw [List.length_map]; omega, by rw [List.length_map]; omega, ?_⟩
    rw [Int.toNat_natCast, List.length_map]
    refine for_range0 (fun i σ H2 => ∃ v4 kvs, σ = [some (.ref a), some (.ref b), some (.ref d), some (.int (cellAt ns 4)), v4] ∧ Same H H2 ∧ H2 d = some (.dK kvs) ∧ WorthsP kvs (ws.take i))
      ⟨none, [], rfl, t1, upd_same, ⟨by rw [List.take_zero]; rfl, fun _ m => absurd m List.not_mem_nil, fun _ m => absurd m List.not_mem_nil, List.nodup_nil⟩⟩ ?_ ?_
    · rintro i σ H2 hi ⟨v4, kvs, rfl, sm, hd2, W⟩
      obtain ⟨x, hx⟩ : ∃ x, ws[i]? = some x := ⟨_, List.getElem?_eq_getElem hi⟩
      obtain ⟨m, hm, hm0, hm1⟩ : ∃ m : Int, atI [V.int 1, V.int 10, V.int 1000, V.int ((10 : Int) ^ (60 : Int).toNat)] (cellAt ns 4 % 4) = some (.int m) ∧ 0 < m ∧ True := by
        obtain ⟨k, hk⟩ := Int.eq_ofNat_of_zero_le c0
        rw [hk] at c1 ⊢
        have h4 : k < 4 := by omega
        match k, h4 with
        | 0, _ => exact ⟨1, rfl, by decide, trivial⟩
        | 1, _ => exact ⟨10, rfl, by decide, trivial⟩
        | 2, _ => exact ⟨1000, rfl, by decide, trivial⟩
        | 3, _ => exact ⟨_, rfl, by decide, trivial⟩
      refine ⟨_, rfl, _, _, rfl, rfl, ⟨by decide, by decide⟩, _, rfl, _, rfl, _, _, rfl, rfl, .inl ⟨by omega, by omega⟩, _, _, rfl, rfl, _, _, rfl, rfl, _, _, rfl, rfl, .inr ⟨by decide, by decide⟩, ?_⟩
      refine ⟨_, _, rfl, rfl, ⟨by decide, by decide, by decide⟩, (by show 4 ≤ sizeLine; decide), fun lp hlp => ?_⟩
      refine ⟨_, rfl, _, _, rfl, rfl, (by show (0 : Int) < 4; decide), lp, _, _, .int m, rfl, rfl, SqL.of upd_same, hm, _, _, rfl, rfl, hm0, ?_⟩
      have sL := Same.upd (o := HO.lst [V.int 1, V.int 10, V.int 1000, V.int ((10 : Int) ^ (60 : Int).toNat)]) hlp
      have sm2 := sm.trans sL
      have hd3 := sL _ _ hd2
      revert sm2 hd3
      generalize upd H2 lp (.lst [V.int 1, V.int 10, V.int 1000, V.int ((10 : Int) ^ (60 : Int).toNat)]) = H3
      intro sm2 hd3
      have etk : ws.take (i + 1) = ws.take i ++ [x] := by rw [List.take_add_one, hx]; rfl
      have hn : x ∉ ws.take i := by
        have h1 : (ws.take (i + 1)).Nodup := hnd.sublist (List.take_sublist _ _)
        rw [etk, List.nodup_append] at h1
        exact fun m => h1.2.2 x m x (List.mem_singleton.mpr rfl) rfl
      have hv := keysS_none (kvs := kvs) (x := x) (by rw [W.ks]; exact hn)
      have hkl : kvs.length ≤ 60 := by rw [← keysS_len, W.ks, List.length_take]; omega
      refine ⟨_, rfl, _, rfl, _, rfl, b, _, _, .str x, rfl, rfl, sm2.seq hW, row_at hx, d, _, rfl, DPut.k (k := Sum.inr x) hd3 (small1000 (by omega)), ?_⟩
      refine ⟨_, _, rfl, sm2.upd2 hd, upd_same, ⟨?_, txt_put W.tx x _ hv, ?_, nd_putK _ W.nd hv⟩⟩
      · rw [keysS_put _ hv, W.ks, etk]
      · rw [putK_new _ hv]
        intro y my
        rcases List.mem_append.mp my with z | z
        · exact W.iv y z
        · rw [List.mem_singleton.mp z]
          exact ⟨_, rfl⟩
    · rintro σ H2 ⟨v4, kvs, rfl, sm, hd2, W⟩
      rw [List.take_of_length_le (Nat.le_refl _)] at W
      exact ⟨_, rfl, q d kvs H2 hd sm hd2 W⟩
def spLBook (K : PySem.W.Frag) (C : Addr) : Sp := fun vs H Q _ => ∃ (d0 : Addr) (kvs : List (Key × V)) (ws : List Str), vs = [.ref d0] ∧ H d0 = some (.dK kvs) ∧ WorthsP kvs ws ∧ ws.length ≤ 60 ∧ (∀ x ∈ ws, wordB x = true) ∧
  ∀ (p d : Addr) (H' : Hp), H d = none → Same H H' → BookAt C H' p d kvs → Q (.ref p) H'
theorem sc_law_book : FnScope ["_law_worths_here", "_law_book_here", "_law_word"] ["_law_worths_here"] (defScope (top 48)) := ⟨rfl, rfl, rfl, by decide +kernel, rfl, by decide +kernel, by decide +kernel⟩
theorem ok_lbook {C : Addr} (F : Fun K "_law_book" "_law_book" (top 48) f fd) (NBook : Nw P w K mg base "Book" C 1 (spBInit C)) (MBook_put : Mt P w K mg base C "put" 4 (spBPut C) []) : FnOk P w K mg base CX0 5 f fd ["_law_worths_here"] (spLBook K C) := by
  refine F.ok sc_law_book (fun vs H Q E h => ?_) (fun cdv A outer s H vs Q E hr h => ?_)
  · obtain ⟨d0, kvs, ws, rfl, _⟩ := h
    rfl
  · obtain ⟨d0, kvs, ws, rfl, hd0, W, h60, hwd, q⟩ := h
    have hu1 := hu_of hr
    refine ⟨_, (pss_cons (ps_set (i := 1) sc_law_book.nd rfl (Or.inl rfl) (pe_nw0 NBook (hr.mono (by decide)) (by rfl)))
      (pss_cons (ps_frz (ps_for PassesOwn.never rfl (pi_dict (pv 0)) (pg_name (i := 2) sc_law_book.nd rfl (Or.inl rfl))
      (pss_one (ps_expr (pe_mt MBook_put (hr.mono (by decide)) (pv 1) (pa_cons (pv 2) (pa_cons (pe_dget hu1 (pv 0) (pv 2) (fun _ _ => rfl)) pa_nil)))))))
      (pss_one (ps_ret (pv 1))))), ?_⟩
    intro p dx0 nx0 ndx0 nex0
    refine ⟨p, dx0, rfl, upd_same, fun d H1 fd0 B0 kp0 => ⟨rfl, ?_⟩⟩
    have t1 : Same H (upd (upd H dx0 (.own p)) p (.ins C dx0 [])) := (Same.upd ndx0).trans (Same.upd (by rw [upd_ne (Ne.symm nex0)]; exact nx0))
    have t2 : Same H H1 := fun b o e => kp0 b o (t1 b o e) (ne_of_none e nx0)
    have hd : H d = none := t1.free fd0
    have hd1 := t2 _ _ hd0
    have nd0 : d ≠ d0 := fun z => by rw [z, hd0] at hd; cases hd
    have nlen : ws.length = kvs.length := by rw [← W.ks, keysS_len]
    refine ⟨d0, kvs, hd1, fun ob => ?_⟩
    refine ⟨_, rfl, d0, ob, kvs, rfl, upd_same, ?_⟩
    refine for_seq seq_dict (fun i σ H2 => ∃ v2, σ = [some (.ref d0), some (.ref p), v2] ∧ H2 d0 = some (.frz ob (.dK kvs)) ∧ BookAt C H2 p d (kvs.take i) ∧ ∀ b o, b ≠ d0 → H b = some o → H2 b = some o)
      ⟨none, rfl, upd_same, ?_, fun b o hb h => by rw [upd_ne hb]; exact t2 _ _ h⟩ (fun i σ H2 _ ⟨_, _, h, _⟩ => h) ?_ ?_
    · obtain ⟨⟨dx, h1⟩, h2, h3, h4⟩ := B0
      refine ⟨⟨dx, ?_⟩, ?_, h3, h4⟩
      · rw [upd_ne (ne_of h1 hd1 (by intro z; cases z))]
        exact h1
      · rw [upd_ne nd0]
        exact h2
    · rintro i y σ H2 hi ⟨v2, rfl, hf, S2, off⟩
      rw [List.getElem?_map] at hi
      cases e : kvs[i]? with
      | none => rw [e] at hi; cases hi
      | some kv =>
        rw [e] at hi
        obtain ⟨x, hx⟩ := W.tx kv (List.mem_of_getElem? e)
        have hy : kV kv.1 = y := Option.some.inj hi
        rw [hx] at hy
        subst hy
        have hi2 : i < kvs.length := (List.getElem?_eq_some_iff.mp e).1
        have etk : kvs.take (i + 1) = kvs.take i ++ [kv] := by rw [List.take_add_one, e]; rfl
        have hn : (Sum.inr x : Key) ∉ (kvs.take i).map (·.1) := by
          have h1 : ((kvs.take (i + 1)).map (·.1)).Nodup := W.nd.sublist ((List.take_sublist _ _).map _)
          rw [etk, List.map_append, List.nodup_append] at h1
          exact fun m => h1.2.2 _ m _ (by rw [← hx]; exact List.mem_singleton.mpr rfl) rfl
        have hv0 : valV (kvs.take i) (Sum.inr x : Key) = none := by
          cases z : valV (kvs.take i) (Sum.inr x : Key) with
          | none => rfl
          | some v => exact absurd (valV_in z) hn
        have hv1 : valV kvs (Sum.inr x : Key) = some kv.2 := by
          have es : kvs = kvs.take i ++ (kv :: kvs.drop (i + 1)) := by
            conv => lhs; rw [← List.take_append_drop (i + 1) kvs, etk]
            rw [List.append_assoc]
            rfl
          have : valV (kvs.take i ++ (kv :: kvs.drop (i + 1))) (Sum.inr x : Key) = some kv.2 := by
            unfold valV at hv0 ⊢
            rw [List.find?_append]
            cases z : (kvs.take i).find? (fun kv => decide (kv.1 = (Sum.inr x : Key))) with
            | some v => rw [z] at hv0; cases hv0
            | none =>
              rw [List.find?_cons, decide_eq_true hx]
              rfl
          rw [es]
          exact this
        have mx : x ∈ ws := by
          rw [← W.ks]
          unfold keysS
          exact List.mem_map.mpr ⟨kv, List.mem_of_getElem? e, by rw [hx]⟩
        obtain ⟨⟨dx, h1⟩, _⟩ := id S2
        refine ⟨_, rfl, p, dx, _, rfl, h1, bookF_no _ (by decide +kernel), _, rfl, _, rfl, _, rfl, d0, kv.2, rfl, .inl ⟨kvs, Sum.inr x, .inr ⟨ob, hf⟩, rfl, hv1.symm⟩, p, d, kvs.take i, x, kv.2, rfl, S2, hwd x mx, hv0, by rw [List.length_take]; omega, fun H3 S3 off3 => ?_⟩
        refine ⟨_, rfl, off3 _ _ (Ne.symm nd0) hf, ?_, fun b o hb h => off3 b o (fun z => by rw [z, hd] at h; cases h) (off b o hb h)⟩
        rw [etk]
        rw [putK_new _ hv0] at S3
        rw [show kv = (Sum.inr x, kv.2) from Prod.ext hx rfl]
        exact S3
    · rintro σ H2 ⟨v2, rfl, hf, S2, off⟩
      rw [List.length_map, List.take_of_length_le (Nat.le_refl _)] at S2
      refine ⟨hf, _, rfl, q p d _ hd (fun b o h => ?_) ?_⟩
      · by_cases hb : b = d0
        · rw [hb, upd_same, ← h, hb, hd0]
        · rw [upd_ne hb]
          exact off b o hb h
      · obtain ⟨⟨dx, h1⟩, h2, h3, h4⟩ := S2
        refine ⟨⟨dx, ?_⟩, ?_, h3, h4⟩
        · rw [upd_ne (ne_of h1 hf (by intro z; cases z))]
          exact h1
        · rw [upd_ne nd0]
          exact h2
end
end Cw
namespace Cw
open PySem L2
section
variable {P : Program} {w : World} {K : PySem.W.Frag} {mg : Str → Option Value} {base : Heap} {f : Addr} {fd : FuncData}
def spLHeld (K : PySem.W.Frag) (C : Addr) : Sp := fun vs H Q _ => ∃ (p d d0 a : Addr) (kvs : List (Key × V)) (ws : List Str) (l : List Str) (w : Nat), vs = [.ref p, .ref d0, .ref a] ∧ BookAt C H p d kvs ∧ H d0 = some (.dK kvs) ∧ WorthsP kvs ws ∧ (∀ x ∈ ws, wordB x = true) ∧ SqT K H a (l.map V.str) ∧ IsSheet l w ∧
  ∀ H', Same H H' → Q (.bl true) H'
theorem sc_law_held : FnScope ["_law_book_here", "_law_worths_here", "_law_sheet", "_law_due", "_law_found", "_law_total", "_law_cells", "_law_worth"] ["_law_book_here", "_law_worths_here", "_law_sheet"] (defScope (top 49)) := ⟨rfl, rfl, rfl, by decide +kernel, rfl, by decide +kernel, by decide +kernel⟩
theorem ok_lheld {C : Addr} (B : Bl mg) (F : Fun K "_law_held" "_law_held" (top 49) f fd) (F_law_is_filling : Fn P w K mg base "_law_is_filling" 4 (spLIsF K)) (Fis_filling : Fn P w K mg base "is_filling" 6 (spIsF K C)) (F_law_rows : Fn P w K mg base "_law_rows" 3 (spLRows K)) (F_law_text : Fn P w K mg base "_law_text" 1 (spLText K)) (Fworth_of : Fn P w K mg base "worth_of" 6 (spWorthOf K C)) : FnOk P w K mg base CX0 7 f fd ["_law_book_here", "_law_worths_here", "_law_sheet"] (spLHeld K C) := by
  refine F.ok sc_law_held (fun vs H Q E h => ?_) (fun cdv A outer s H vs Q E hr h => ?_)
  · obtain ⟨p, d, d0, a, kvs, ws, l, w, rfl, _⟩ := h
    rfl
  · obtain ⟨p, d, d0, a, kvs, ws, l, wd, rfl, hB, hd0, W, hwd, hT, S, q⟩ := h
    have hu1 := hu_of hr
    refine ⟨_, (pss_cons (ps_set (i := 3) sc_law_held.nd rfl (Or.inl rfl) (pe_fn F_law_is_filling (hr.mono (by decide)) (by rfl) (pa_cons (pv 1) (pa_cons (pv 2) pa_nil))))
      (pss_cons (ps_set (i := 4) sc_law_held.nd rfl (Or.inl rfl) (pe_fn Fis_filling (hr.mono (by decide)) (by rfl) (pa_cons (pv 0) (pa_cons (pv 2) pa_nil))))
      (pss_cons (ps_if (PW.pt (pw_or (pt_not (pt_val (pe_callB call_isi (by rfl) B.isinstance_ bt_isinstance (pa_cons (pv 4) (pa_cons (pe_bltn (v := .ty "bool") (by rfl) B.bool_ bt_bool rfl) pa_nil))))) (pw_or1 (pt_cmpR op_ne (pv 4) (pv 3) (nomark _)))))
      (pss_one (ps_ret pe_bl))
      pss_nil)
      (pss_cons (ps_if (pt_not (pt_val (pv 3)))
      (pss_one (ps_ret pe_bl))
      pss_nil)
      (pss_cons (ps_set (i := 5) sc_law_held.nd rfl (Or.inl rfl) pe_int)
      (pss_cons (ps_for PassesOwn.never rfl (pi_list (pe_fn F_law_rows (hr.mono (by decide)) (by rfl) (pa_cons (pv 2) pa_nil))) (pg_name (i := 6) sc_law_held.nd rfl (Or.inl rfl))
      (pss_one (ps_set (i := 5) sc_law_held.nd rfl (Or.inl rfl) (pe_op op_add (pv 5) (pe_dget hu1 (pv 1) (pe_fn F_law_text (hr.mono (by decide)) (by rfl) (pa_cons (pv 2) (pa_cons (pv 6) pa_nil))) (fun _ _ => rfl))))))
      (pss_cons (ps_set (i := 7) sc_law_held.nd rfl (Or.inl rfl) (pe_fn Fworth_of (hr.mono (by decide)) (by rfl) (pa_cons (pv 0) (pa_cons (pv 2) pa_nil))))
      (pss_one (ps_ret (pe_and (pe_callB call_isi (by rfl) B.isinstance_ bt_isinstance (pa_cons (pv 7) (pa_cons (pe_bltn (v := .ty "int") (by rfl) B.int_ bt_int rfl) pa_nil))) (pe_and (pe_not (pe_callB call_isi (by rfl) B.isinstance_ bt_isinstance (pa_cons (pv 7) (pa_cons (pe_bltn (v := .ty "bool") (by rfl) B.bool_ bt_bool rfl) pa_nil)))) (pe_one (pe_cmpR op_eq (pv 7) (pv 5) (nomark _)))))))))))))), ?_⟩
    refine ⟨_, rfl, _, rfl, d0, a, kvs, l, wd, rfl, hd0, W.tx, hT, S, fun H1 s1 => ?_⟩
    refine ⟨_, rfl, _, rfl, p, d, a, kvs, l, wd, rfl, hB.mono s1, s1.tup hT, S, fun H2 s2 => ?_⟩
    have sm := s1.trans s2
    cases hfb : filB (keysS kvs) l wd with
    | false =>
      refine ⟨_, rfl, _, _, _, true, ⟨rfl, .bl _, kit_same⟩, _, rfl, iteF ⟨_, rfl, _, rfl, rfl, _, rfl, ?_⟩⟩
      rw [decide_eq_true rfl]
      exact iteF ⟨_, rfl, _, rfl, iteT (q H2 sm)⟩
    | true =>
      refine ⟨_, rfl, _, _, _, true, ⟨rfl, .bl _, kit_same⟩, _, rfl, iteF ⟨_, rfl, _, rfl, rfl, _, rfl, ?_⟩⟩
      rw [decide_eq_true rfl]
      refine iteF ⟨_, rfl, _, rfl, iteF ?_⟩
      obtain ⟨_, _, hin⟩ := filB_of hfb
      refine ⟨_, rfl, a, l, wd, rfl, sm.tup hT, S, fun g xs H3 hg s3 hL hR => ⟨g, rfl, ⟨_, SqL.of hL⟩, ?_⟩⟩
      have sm3 := sm.trans s3
      have hlr := Paired.length hR
      have htc : (textsS l wd).length = (rowsC l wd).length := by unfold textsS; rw [List.length_map]
      refine for_list (xs := xs) (fun i σ H4 => ∃ v6, σ = [some (.ref p), some (.ref d0), some (.ref a), some (.bl true), some (.bl true), some (.int (((textsS l wd).take i).map (wOf kvs)).sum), v6, none] ∧ Same H3 H4)
        ⟨none, rfl, Same.refl' _⟩ (fun i σ H4 _ ⟨_, _, s4⟩ => SqL.of (s4 _ _ hL)) ?_ ?_
      · rintro i y σ H4 hi ⟨v6, rfl, s4⟩
        obtain ⟨r, hr', p1, ys, rfl, _, hp, hc⟩ := Paired.get hR hi
        have hinr := rowsC_in S (List.mem_of_getElem? hr')
        have sm4 := sm3.trans s4
        have htx3 := textsC_get hr'
        refine ⟨_, rfl, _, rfl, _, rfl, _, rfl, a, p1, l, wd, r, ys, rfl, sm4.tup hT, S, s4 _ _ hp, hc.mono s4, by omega, fun c mc => ⟨(hinr.2.2 c mc).1, (hinr.2.2 c mc).2.1⟩, fun H5 s5 => ?_⟩
        revert htx3
        generalize patS l r = x
        intro htx3
        have mx := hin x (List.mem_of_getElem? htx3)
        have hv := wOf_val W.tx W.iv mx
        refine ⟨d0, .int (wOf kvs x), rfl, hv ▸ DGet.k (k := Sum.inr x) ((sm4.trans s5) _ _ hd0), _, _, rfl, rfl, ?_⟩
        refine ⟨some (.ref p1), ?_, s4.trans s5⟩
        rw [List.take_add_one, htx3, List.map_append, List.sum_append]
        show _ = [_, _, _, _, _, some (V.int (_ + (wOf kvs x + 0))), _, _]
        rw [Int.add_zero]
        rfl
      · rintro σ H4 ⟨v6, rfl, s4⟩
        have sm4 := sm3.trans s4
        refine ⟨_, rfl, _, rfl, p, d, a, kvs, l, wd, rfl, hB.mono sm4, by rw [W.ks]; exact hwd, W.iv, sm4.tup hT, S, hin, fun H5 s5 => ?_⟩
        refine ⟨_, rfl, _, _, _, true, ⟨rfl, .int _, kit_same⟩, _, rfl, iteT ?_⟩
        refine ⟨_, rfl, _, _, _, false, ⟨rfl, .int _, kit_int_bool⟩, _, rfl, _, rfl, iteT ?_⟩
        refine ⟨_, rfl, _, rfl, rfl, ?_⟩
        rw [List.take_of_length_le (by omega), decide_eq_true (by rfl)]
        exact q H5 (sm4.trans s5)
end
end Cw
namespace Cw
open PySem L2
theorem tup_off {K : PySem.W.Frag} {H H' : Hp} {a d : Addr} {xs : List V} {kv : List (Key × V)} (hd : H d = some (.dK kv)) (off : ∀ b o, b ≠ d → H b = some o → H' b = some o) (h : SqT K H a xs) : SqT K H' a xs := by
  rcases h with (h | ⟨o, h⟩) | h
  · exact .inl (.inl (off _ _ (ne_of h hd (by intro z; cases z)) h))
  · exact .inl (.inr ⟨o, off _ _ (ne_of h hd (by intro z; cases z)) h⟩)
  · exact .inr h
theorem modNat (z : Int) {n : Nat} (h : 0 < n) : ∃ i : Nat, z % (n : Int) = i ∧ i < n := by
  have h1 := Int.emod_nonneg z (b := (n : Int)) (by omega)
  have h2 := Int.emod_lt_of_pos z (b := (n : Int)) (by omega)
  obtain ⟨k, hk⟩ := Int.eq_ofNat_of_zero_le h1
  exact ⟨k, hk, by omega⟩
def ShL (K : PySem.W.Frag) (H : Hp) (w : Nat) (zs : List V) : Prop := ∀ v ∈ zs, ∃ t m, v = .ref t ∧ SqT K H t (m.map V.str) ∧ IsSheet m w
theorem WorthsP.drop {kvs : List (Key × V)} {ws : List Str} (W : WorthsP kvs ws) (k : Key) : WorthsP (dropK kvs k) (keysS (dropK kvs k)) :=
  ⟨rfl, txt_drop W.tx k, fun q m => W.iv q (dropK_mem m), nd_dropK W.nd⟩
theorem keysS_drop {kvs : List (Key × V)} {k : Key} {x : Str} (m : x ∈ keysS (dropK kvs k)) : x ∈ keysS kvs := by
  unfold keysS at *
  obtain ⟨q, hq, e⟩ := List.mem_map.mp m
  exact List.mem_map.mpr ⟨q, dropK_mem hq, e⟩
def spLaw (K : PySem.W.Frag) : Sp := fun vs H Q _ => ∃ (a : Addr) (ns : List Int), vs = [.ref a] ∧ SqL K H a (ns.map V.int) ∧ ns.length ≤ 63 ∧ ∀ H', Q (.bl true) H'
section
variable {P : Program} {w : World} {K : PySem.W.Frag} {mg : Str → Option Value} {base : Heap} {f : Addr} {fd : FuncData}
theorem sc_law : FnScope ["_law_script", "_law_floor_here", "_law_filled_here", "_law_other", "_law_worths_here", "_law_book_here", "_law_line", "_law_column", "_law_sheets", "_law_sheet", "_law_word"] ["_law_script"] (defScope (top 50)) := ⟨rfl, rfl, rfl, by decide +kernel, rfl, by decide +kernel, by decide +kernel⟩
theorem ok_law {C : Addr} (B : Bl mg) (F : Fun K "law" "law" (top 50) f fd) (F_law_cell_at : Fn P w K mg base "_law_cell_at" 1 (spCell K)) (F_law_any_floor : Fn P w K mg base "_law_any_floor" 6 (spAny K)) (F_law_filled : Fn P w K mg base "_law_filled" 3 (spFilled K)) (F_law_words : Fn P w K mg base "_law_words" 4 (spLWords K)) (F_law_worths : Fn P w K mg base "_law_worths" 2 (spLWorths K)) (F_law_book : Fn P w K mg base "_law_book" 5 (spLBook K C)) (F_law_with : Fn P w K mg base "_law_with" 1 (spWith K)) (F_law_held : Fn P w K mg base "_law_held" 7 (spLHeld K C)) (MBook_drop : Mt P w K mg base C "drop" 5 (spBDrop C) []) : FnOk P w K mg base CX0 8 f fd ["_law_script"] (spLaw K) := by
  refine F.ok sc_law (fun vs H Q E h => ?_) (fun cdv A outer s H vs Q E hr h => ?_)
  · obtain ⟨a, ns, rfl, _⟩ := h
    rfl
  · obtain ⟨a, ns, rfl, hS, hlen, q⟩ := h
    have hu := hr.units
    have hu1 := hu_of hr
    refine ⟨_, (pss_cons (ps_set (i := 1) sc_law.nd rfl (Or.inl rfl) (pe_fn F_law_any_floor (hr.mono (by decide)) (by rfl) (pa_cons (pe_fn F_law_cell_at (hr.mono (by decide)) (by rfl) (pa_cons (pv 0) (pa_cons pe_int pa_nil))) pa_nil)))
      (pss_cons (ps_set (i := 2) sc_law.nd rfl (Or.inl rfl) (pe_fn F_law_filled (hr.mono (by decide)) (by rfl) (pa_cons (pv 0) (pa_cons (pv 1) (pa_cons (pe_fn F_law_cell_at (hr.mono (by decide)) (by rfl) (pa_cons (pv 0) (pa_cons pe_int pa_nil))) pa_nil)))))
      (pss_cons (ps_set (i := 3) sc_law.nd rfl (Or.inl rfl) (pe_fn F_law_filled (hr.mono (by decide)) (by rfl) (pa_cons (pv 0) (pa_cons (pv 1) (pa_cons (pe_fn F_law_cell_at (hr.mono (by decide)) (by rfl) (pa_cons (pv 0) (pa_cons pe_int pa_nil))) pa_nil)))))
      (pss_cons (ps_set (i := 4) sc_law.nd rfl (Or.inl rfl) (pe_fn F_law_worths (hr.mono (by decide)) (by rfl) (pa_cons (pv 0) (pa_cons (pe_fn F_law_words (hr.mono (by decide)) (by rfl) (pa_cons (pv 0) (pa_cons (pv 2) (pa_cons pe_int pa_nil)))) pa_nil))))
      (pss_cons (ps_set (i := 5) sc_law.nd rfl (Or.inl rfl) (pe_fn F_law_book (hr.mono (by decide)) (by rfl) (pa_cons (pv 4) pa_nil)))
      (pss_cons (ps_set (i := 6) sc_law.nd rfl (Or.inl rfl) (pe_op op_mod (pe_fn F_law_cell_at (hr.mono (by decide)) (by rfl) (pa_cons (pv 0) (pa_cons pe_int pa_nil))) (pe_callB call_len_seq (by rfl) B.len_ bt_len (pa_cons (pv 1) pa_nil))))
      (pss_cons (ps_set (i := 7) sc_law.nd rfl (Or.inl rfl) (pe_op op_mod (pe_op op_fdiv (pe_fn F_law_cell_at (hr.mono (by decide)) (by rfl) (pa_cons (pv 0) (pa_cons pe_int pa_nil))) pe_int) (pe_callB call_len_str (by rfl) B.len_ bt_len (pa_cons (pe_ix ix_tup (pv 1) pe_int (fun _ _ => rfl)) pa_nil))))
      (pss_cons (ps_set (i := 8) sc_law.nd rfl (Or.inl rfl) (pe_lst (pa_cons (pv 2) (pa_cons (pv 3) pa_nil))))
      (pss_cons (ps_join (ps_if (pt_cmpR op_ne (pe_ix ix_str (pe_ix ix_tup (pv 1) (pv 6) (fun _ _ => rfl)) (pv 7) (fun _ _ => rfl)) pe_str (nomark _))
      (pss_one (ps_set (i := 8) sc_law.nd rfl (Or.inl rfl) (pe_op op_cat (pv 8) (pe_lst (pa_cons (pe_fn F_law_with (hr.mono (by decide)) (by rfl) (pa_cons (pv 2) (pa_cons (pe_tup (pa_cons (pv 6) (pa_cons (pv 7) pa_nil))) (pa_cons pe_str pa_nil (hs := star_c rfl)) (hs := star_c rfl)) (hs := star_c rfl)) (he := star_c rfl) (hpl := star_p rfl)) (pa_cons (pe_fn F_law_with (hr.mono (by decide)) (by rfl) (pa_cons (pv 3) (pa_cons (pe_tup (pa_cons (pv 6) (pa_cons (pv 7) pa_nil))) (pa_cons pe_str pa_nil (hs := star_c rfl)) (hs := star_c rfl)) (hs := star_c rfl)) (he := star_c rfl) (hpl := star_p rfl)) pa_nil (hs := star_c rfl)) (hs := star_c rfl))))))
      pss_nil))
      (pss_cons (ps_for PassesOwn.never rfl (pi_list (pv 8)) (pg_name (i := 9) sc_law.nd rfl (Or.inl rfl))
      (pss_one (ps_if (pt_not (pt_val (pe_fn F_law_held (hr.mono (by decide)) (by rfl) (pa_cons (pv 5) (pa_cons (pv 4) (pa_cons (pv 9) pa_nil))))))
        (pss_one (ps_ret pe_bl))
        pss_nil)))
      (pss_cons (ps_join (ps_if (pt_cmpR (op_neE hu1) (pv 4) pe_dnewK (nomark _))
      (pss_cons (ps_set (i := 10) sc_law.nd rfl (Or.inl rfl) (pe_ix ix_list (pe_callB (call_sortedD rfl) (by rfl) B.sorted_ bt_sorted (pa_cons (pv 4) pa_nil)) (pe_op op_mod (pe_fn F_law_cell_at (hr.mono (by decide)) (by rfl) (pa_cons (pv 0) (pa_cons pe_int pa_nil))) (pe_callB call_lenD (by rfl) B.len_ bt_len (pa_cons (pv 4) pa_nil))) (fun _ _ => rfl)))
        (pss_cons (ps_expr (pe_dpop1 (pv 4) (pv 10) ⟨rfl, rfl, rfl, rfl⟩))
        (pss_one (ps_expr (pe_mt MBook_drop (hr.mono (by decide)) (pv 5) (pa_cons (pv 10) pa_nil))))))
      pss_nil))
      (pss_one (ps_ret (pe_and (pe_fn F_law_held (hr.mono (by decide)) (by rfl) (pa_cons (pv 5) (pa_cons (pv 4) (pa_cons (pv 2) pa_nil)))) (pe_one (pe_fn F_law_held (hr.mono (by decide)) (by rfl) (pa_cons (pv 5) (pa_cons (pv 4) (pa_cons (pv 3) pa_nil))))))))))))))))))), ?_⟩
    refine ⟨_, rfl, a, ns, 0, rfl, hS, _, rfl, fun fl l wd H1 s1 hFl FP => ?_⟩
    refine ⟨_, rfl, _, rfl, _, rfl, a, ns, 2, rfl, s1.seq hS, a, fl, ns, l, wd, _, rfl, s1.seq hS, SqT.of hFl, FP, fun fi m H2 s2 hFi FM => ?_⟩
    have hS2 := (s1.trans s2).seq hS
    have hFl2 := s2 _ _ hFl
    refine ⟨_, rfl, _, rfl, _, rfl, a, ns, 5, rfl, hS2, a, fl, ns, l, wd, _, rfl, hS2, SqT.of hFl2, FP, fun fo m2 H3 s3 hFo FO => ?_⟩
    refine ⟨_, rfl, _, rfl, _, rfl, a, fi, ns, m, wd, 8, rfl, s3.seq hS2, s3.tup hFi, FM.sh, FM.lets, by rw [FM.ln]; exact FP.h4, FP.w4, fun wl rs es H4 hwl s4 hW W => ?_⟩
    have hnd := W.nd
    have hw := W.wd
    have h47 := W.few
    revert hW hnd hw h47
    generalize rs ++ es = ws
    intro hW hnd hw h47
    clear W
    refine ⟨a, wl, ns, ws, rfl, (s3.trans s4).seq hS2, SqL.of hW, hnd, by omega, fun d0 kvs H5 hd0 s5 hD0 WP => ?_⟩
    refine ⟨_, rfl, d0, kvs, ws, rfl, hD0, WP, by omega, hw, fun p d H6 hd s6 BA => ?_⟩
    have s36 := s3.trans (s4.trans (s5.trans s6))
    have hS6 := s36.seq hS2
    have hFl6 := s36 _ _ hFl2
    have hFi6 := s36.tup hFi
    have hFo6 := (s4.trans (s5.trans s6)).tup hFo
    have hD6 := s6 _ _ hD0
    have ndd : d ≠ d0 := fun z => by rw [z, hD0] at hd; cases hd
    have Sm := FM.sh
    have So := FO.sh
    have lm : m.length = l.length := FM.ln
    have lo : m2.length = l.length := FO.ln
    have S := FP.sh
    clear hd hd0 s36 hFo hFi hFl hFl2 hS2 s1 s2 s3 s4 s5 s6 hwl hW hS FM FO
    have h9 := S.nine
    have w9 := S.w9
    obtain ⟨i, ei, hil⟩ := modNat (cellAt ns 6) (show 0 < (l.map V.str).length by rw [List.length_map]; exact S.one)
    refine ⟨_, rfl, a, ns, 6, rfl, hS6, _, rfl, fl, _, rfl, .inr (SqT.of hFl6), _, _, rfl, rfl, (by rw [List.length_map]; have := S.one; omega), ?_⟩
    dsimp only
    rw [ei]
    rw [List.length_map] at hil
    obtain ⟨x0, hx0, mx0, lx0, _⟩ := S.row (i := 0) S.one
    obtain ⟨j, ej, hjw⟩ := modNat (cellAt ns 6 / 4) (n := x0.length) (by rw [lx0]; exact S.w1)
    refine ⟨_, rfl, a, ns, 6, rfl, hS6, _, _, rfl, rfl, ⟨by decide, by decide⟩, _, rfl, fl, _, 0, .str x0, rfl, rfl, SqT.of hFl6, row_at hx0, x0, rfl, sz1_le (by omega), _, _, rfl, rfl, (by have := S.w1; omega), ?_⟩
    dsimp only
    rw [ej]
    rw [lx0] at hjw
    refine ⟨_, rfl, _, rfl, (by show 2 ≤ sizeLine; decide), fun sl hsl => ?_⟩
    have sA := Same.upd (o := HO.lst [V.ref fi, V.ref fo]) hsl
    have hslA := upd_at sA
    have sh0 : ShL K (upd H6 sl (.lst [V.ref fi, V.ref fo])) wd [V.ref fi, V.ref fo] := by
      intro v mv
      rcases List.mem_cons.mp mv with z | z
      · exact ⟨fi, m, z, sA.tup hFi6, Sm⟩
      · exact ⟨fo, m2, List.mem_singleton.mp z, sA.tup hFo6, So⟩
    revert sA hslA sh0
    generalize upd H6 sl (.lst [V.ref fi, V.ref fo]) = H7
    intro sA hslA sh0
    refine ⟨fun σ' H' => ∃ (sl : Addr) (zs : List V), σ' = [some (.ref a), some (.ref fl), some (.ref fi), some (.ref fo), some (.ref d0), some (.ref p), some (.int i), some (.int j), some (.ref sl), none, none] ∧ Same H6 H' ∧ H' sl = some (.lst zs) ∧ ShL K H' wd zs, ?_, ?_⟩
    · rintro σ' H8 ⟨sl, zs, rfl, s8, hZ, hSh⟩
      refine ⟨_, rfl, sl, rfl, ⟨_, SqL.of hZ⟩, ?_⟩
      refine for_list (xs := zs) (fun k σ H9 => ∃ v9, σ = [some (.ref a), some (.ref fl), some (.ref fi), some (.ref fo), some (.ref d0), some (.ref p), some (.int i), some (.int j), some (.ref sl), v9, none] ∧ Same H8 H9)
        ⟨none, rfl, Same.refl' _⟩ (fun k σ H9 _ ⟨_, _, s9⟩ => SqL.of (s9 _ _ hZ)) ?_ ?_
      · rintro k y σ H9 hk ⟨v9, rfl, s9⟩
        obtain ⟨t, m3, rfl, hT3, S3⟩ := hSh y (List.mem_of_getElem? hk)
        have s69 := s8.trans s9
        exact ⟨_, rfl, _, rfl, _, rfl, p, d, d0, t, kvs, ws, m3, wd, rfl, BA.mono s69, s69 _ _ hD6, WP, hw, s9.tup hT3, S3, fun HA sA2 => ⟨_, rfl, iteF ⟨_, rfl, s9.trans sA2⟩⟩⟩
      · rintro σ H9 ⟨v9, rfl, s9⟩
        have s69 := s8.trans s9
        have BA9 := BA.mono s69
        have hD9 := s69 _ _ hD6
        have hS9 := s69.seq hS6
        have hFi9 := s69.tup hFi6
        have hFo9 := s69.tup hFo6
        clear hSh hZ s8 s9 s69 sh0 hslA sA
        refine ⟨fun σ' H' => ∃ (v8 v9 v10 : Option V) (kvs' : List (Key × V)) (ws' : List Str), σ' = [some (.ref a), some (.ref fl), some (.ref fi), some (.ref fo), some (.ref d0), some (.ref p), some (.int i), some (.int j), v8, v9, v10] ∧ BookAt C H' p d kvs' ∧ H' d0 = some (.dK kvs') ∧ WorthsP kvs' ws' ∧ (∀ x ∈ ws', wordB x = true) ∧ SqT K H' fi (m.map V.str) ∧ SqT K H' fo (m2.map V.str), ?_, ?_⟩
        · rintro σ' HB ⟨v8, v9, v10, kvs', ws', rfl, BB, hDB, WB, hwB, hFiB, hFoB⟩
          exact ⟨_, rfl, _, rfl, _, rfl, p, d, d0, fi, kvs', ws', m, wd, rfl, BB, hDB, WB, hwB, hFiB, Sm, fun HC sC => ⟨_, rfl, iteT ⟨_, rfl, _, rfl, _, rfl, p, d, d0, fo, kvs', ws', m2, wd, rfl, BB.mono sC, sC _ _ hDB, WB, hwB, sC.tup hFoB, So, fun HD _ => q HD⟩⟩⟩
        · refine ⟨_, rfl, fun en hen => ⟨d0, en, kvs, rfl, rfl, (Same.upd hen) _ _ hD9, upd_same, _, rfl, ?_⟩⟩
          have sE := Same.upd (o := HO.dK []) hen
          have BAE := BA9.mono sE
          have hDE := sE _ _ hD9
          have hSE := sE.seq hS9
          have hFiE := sE.tup hFi9
          have hFoE := sE.tup hFo9
          revert BAE hDE hSE hFiE hFoE
          clear sE
          generalize upd H9 en (.dK []) = HE
          intro BAE hDE hSE hFiE hFoE
          cases hk0 : kvs.isEmpty with
          | true => exact iteF ⟨_, _, _, kvs, ws, rfl, BAE, hDE, WP, hw, hFiE, hFoE⟩
          | false =>
            refine iteT ?_
            have hkl : kvs.length = ws.length := by rw [← WP.ks, keysS_len]
            have hkp : 0 < kvs.length := by
              cases kvs with
              | nil => cases hk0
              | cons _ _ => exact Nat.succ_pos _
            have hsl2 : (sortS (keysS kvs)).length = kvs.length := by rw [(sortS_perm _).length_eq, keysS_len]
            obtain ⟨n, en2, hn⟩ := modNat (cellAt ns 7) hkp
            obtain ⟨x, hx⟩ : ∃ x, (sortS (keysS kvs))[n]? = some x := ⟨_, List.getElem?_eq_getElem (by omega)⟩
            have mx : x ∈ keysS kvs := (sortS_perm _).mem_iff.mp (List.mem_of_getElem? hx)
            have hv := wOf_val WP.tx WP.iv mx
            refine ⟨_, rfl, d0, kvs, rfl, hDE, WP.tx, by omega, fun so hso => ?_⟩
            have sO := Same.upd (o := HO.lst ((sortS (keysS kvs)).map V.str)) hso
            have hSO := upd_at sO
            have BAO := BAE.mono sO
            have hDO := sO _ _ hDE
            have hFiO := sO.tup hFiE
            have hFoO := sO.tup hFoE
            have hS0 := sO.seq hSE
            revert hSO BAO hDO hFiO hFoO hS0
            clear sO
            generalize upd HE so (.lst ((sortS (keysS kvs)).map V.str)) = HF
            intro hSO BAO hDO hFiO hFoO hS0
            refine ⟨_, rfl, a, ns, 7, rfl, hS0, _, rfl, d0, kvs, rfl, hDO, _, _, rfl, rfl, (by omega), ?_⟩
            dsimp only
            rw [en2]
            refine ⟨so, _, _, .str x, rfl, rfl, SqL.of hSO, row_at hx, ?_⟩
            refine ⟨_, rfl, d0, rfl, .inl ⟨kvs, .inl hDO⟩, _, rfl, kvs, Sum.inr x, _, hDO, rfl, hv, ?_⟩
            obtain ⟨⟨dx, hob⟩, hdc, hn1, hn2⟩ := BAO
            have npd : p ≠ d0 := ne_of hob hDO (by intro z; cases z)
            have off : ∀ b o, b ≠ d0 → HF b = some o → upd HF d0 (.dK (dropK kvs (Sum.inr x))) b = some o := fun b o hb h => by rw [upd_ne hb]; exact h
            have hob2 := off _ _ npd hob
            have BAP : BookAt C (upd HF d0 (.dK (dropK kvs (Sum.inr x)))) p d kvs := ⟨⟨dx, hob2⟩, off _ _ ndd hdc, hn1, hn2⟩
            have hFiP := tup_off hDO off hFiO
            have hFoP := tup_off hDO off hFoO
            have hDP : upd HF d0 (.dK (dropK kvs (Sum.inr x))) d0 = some (.dK (dropK kvs (Sum.inr x))) := upd_same
            revert hob2 BAP hFiP hFoP hDP
            clear off
            generalize upd HF d0 (.dK (dropK kvs (Sum.inr x))) = HG
            intro hob2 BAP hFiP hFoP hDP
            refine ⟨_, rfl, p, dx, _, rfl, hob2, bookF_no _ (by decide +kernel), _, rfl, p, d, kvs, x, _, rfl, BAP, hw x (by rw [← WP.ks]; exact mx), hv, fun HH BH off2 => ?_⟩
            refine ⟨_, _, _, _, _, rfl, BH, off2 _ _ (Ne.symm ndd) hDP, WP.drop _, fun y my => hw y (by rw [← WP.ks]; exact keysS_drop my), tup_off BAP.dc off2 hFiP, tup_off BAP.dc off2 hFoP⟩
    · obtain ⟨y, hy, my, ly, _, hyj⟩ := S.row hil
      refine ⟨_, rfl, _, rfl, fl, _, _, .str y, rfl, rfl, SqT.of (sA _ _ hFl6), row_at hy, _, rfl, y, _, _, rfl, rfl, sz1_le (by omega), atI_nat (hyj j hjw), rfl, _, rfl, ?_⟩
      refine ite2 (fun _ => ?_) (fun _ => ⟨sl, _, rfl, sA, hslA, sh0⟩)
      refine ⟨_, rfl, _, rfl, _, rfl, _, rfl, (by show 2 ≤ sizeLine; decide), fun q1 hq1 => ?_⟩
      have y1 := Same.upd (o := HO.tup [V.int (i : Int), V.int (j : Int)]) hq1
      refine ⟨fi, q1, m, wd, (i, j), 46, by rw [← freeS]; rfl, (sA.trans y1).tup hFi6, Sm.grid, SqT.of upd_same, by rw [lm]; exact hil, hjw, fun t1 H8 ht1 s8 hT1 => ?_⟩
      refine ⟨_, rfl, _, rfl, _, rfl, (by show 2 ≤ sizeLine; decide), fun q2 hq2 => ?_⟩
      have y2 := Same.upd (o := HO.tup [V.int (i : Int), V.int (j : Int)]) hq2
      have s7 := sA.trans (y1.trans (s8.trans y2))
      refine ⟨fo, q2, m2, wd, (i, j), 46, by rw [← freeS]; rfl, s7.tup hFo6, So.grid, SqT.of upd_same, by rw [lo]; exact hil, hjw, fun t2 H9 ht2 s9 hT2 => ?_⟩
      refine ⟨(by show 2 ≤ sizeLine; decide), fun l2 hl2 => ?_⟩
      have y3 := Same.upd (o := HO.lst [V.ref t1, V.ref t2]) hl2
      have sB := y1.trans (s8.trans (y2.trans (s9.trans y3)))
      refine ⟨sl, l2, _, _, rfl, rfl, sB _ _ hslA, upd_same, (by show 4 ≤ sizeLine; decide), fun l3 hl3 => ?_⟩
      have y4 := Same.upd (o := HO.lst ([V.ref fi, V.ref fo] ++ [V.ref t1, V.ref t2])) hl3
      refine ⟨l3, _, rfl, sA.trans (sB.trans y4), upd_same, ?_⟩
      intro v mv
      rcases List.mem_append.mp mv with z | z
      · obtain ⟨t, m3, e, h1, h2⟩ := sh0 v z
        exact ⟨t, m3, e, (sB.trans y4).tup h1, h2⟩
      · rcases List.mem_cons.mp z with z | z
        · exact ⟨t1, _, z, ((y2.trans (s9.trans y3)).trans y4).tup (SqT.of hT1), setC_sheet Sm (by rw [lm]; exact hil) hjw (.inr (.inl rfl))⟩
        · exact ⟨t2, _, List.mem_singleton.mp z, (y3.trans y4).tup (SqT.of hT2), setC_sheet So (by rw [lo]; exact hil) hjw (.inr (.inl rfl))⟩
end
end Cw
namespace Cw
open PySem L2
theorem all_mk {l : PySem.W.OpenLaw} {w : World} {K : PySem.W.Frag} {h : Heap} {mg : Str → Option Value} {fa : Addr} (X : K.In h) (G : h.Ns mainGlobals mg) (hfa : mg "law" = some (.ref fa))
    {CBook : Addr} (aCBook : PySem.W.nsIn K mainGlobals "Book" = some (some (.ref CBook)))
    (pgBook : PySem.W.plainGet K CBook Str.empty = true) (hdBook : PySem.W.hasDictIn K CBook = true) (poBook : PySem.W.plainOver K CBook = true) (saBook : PySem.W.findIn K (.ref CBook) "__setattr__" = some (some (.builtin "object.__setattr__"))) (mkBook : PySem.W.makesIn K CBook = true) (kcBook : PySem.W.keepIn K (.ref CBook) = true)
    (nBook_worths : PySem.W.findIn K (.ref CBook) "worths" = some none)
    {f0 : Addr} {od0 an0 : Option Addr} {sl0 : Array (Option Value)} {oc0 kV0 dc0 pm0 cd0 ct0 : Value}
    (a0 : PySem.W.nsIn K mainGlobals "_law_cell_at" = some (some (.ref f0)))
    (l0 : K.lookup f0 = some ⟨oc0, od0, .func (PySem.W.fnOf "_law_cell_at" "_law_cell_at" (defArgs (top 34)) (defBody (top 34)) (defScope (top 34)) .none kV0 dc0 pm0 an0 cd0 ct0), sl0⟩)
    (c0 : PySem.W.codeIn K cd0 "_law_cell_at" = true)
    (k0 : PySem.W.keepIn K (.ref f0) = true)
    {f1 : Addr} {od1 an1 : Option Addr} {sl1 : Array (Option Value)} {oc1 kV1 dc1 pm1 cd1 ct1 : Value}
    (a1 : PySem.W.nsIn K mainGlobals "sign_at" = some (some (.ref f1)))
    (l1 : K.lookup f1 = some ⟨oc1, od1, .func (PySem.W.fnOf "sign_at" "sign_at" (defArgs (top 12)) (defBody (top 12)) (defScope (top 12)) .none kV1 dc1 pm1 an1 cd1 ct1), sl1⟩)
    (c1 : PySem.W.codeIn K cd1 "sign_at" = true)
    (k1 : PySem.W.keepIn K (.ref f1) = true)
    {f2 : Addr} {od2 an2 : Option Addr} {sl2 : Array (Option Value)} {oc2 kV2 dc2 pm2 cd2 ct2 : Value}
    (a2 : PySem.W.nsIn K mainGlobals "is_open" = some (some (.ref f2)))
    (l2 : K.lookup f2 = some ⟨oc2, od2, .func (PySem.W.fnOf "is_open" "is_open" (defArgs (top 13)) (defBody (top 13)) (defScope (top 13)) .none kV2 dc2 pm2 an2 cd2 ct2), sl2⟩)
    (c2 : PySem.W.codeIn K cd2 "is_open" = true)
    (k2 : PySem.W.keepIn K (.ref f2) = true)
    {f3 : Addr} {od3 an3 : Option Addr} {sl3 : Array (Option Value)} {oc3 kV3 dc3 pm3 cd3 ct3 : Value}
    (a3 : PySem.W.nsIn K mainGlobals "all_cells" = some (some (.ref f3)))
    (l3 : K.lookup f3 = some ⟨oc3, od3, .func (PySem.W.fnOf "all_cells" "all_cells" (defArgs (top 11)) (defBody (top 11)) (defScope (top 11)) .none kV3 dc3 pm3 an3 cd3 ct3), sl3⟩)
    (c3 : PySem.W.codeIn K cd3 "all_cells" = true)
    (k3 : PySem.W.keepIn K (.ref f3) = true)
    {f4 : Addr} {od4 an4 : Option Addr} {sl4 : Array (Option Value)} {oc4 kV4 dc4 pm4 cd4 ct4 : Value}
    (a4 : PySem.W.nsIn K mainGlobals "open_cells" = some (some (.ref f4)))
    (l4 : K.lookup f4 = some ⟨oc4, od4, .func (PySem.W.fnOf "open_cells" "open_cells" (defArgs (top 9)) (defBody (top 9)) (defScope (top 9)) .none kV4 dc4 pm4 an4 cd4 ct4), sl4⟩)
    (c4 : PySem.W.codeIn K cd4 "open_cells" = true)
    (k4 : PySem.W.keepIn K (.ref f4) = true)
    {f5 : Addr} {od5 an5 : Option Addr} {sl5 : Array (Option Value)} {oc5 kV5 dc5 pm5 cd5 ct5 : Value}
    (a5 : PySem.W.nsIn K mainGlobals "is_open_within" = some (some (.ref f5)))
    (l5 : K.lookup f5 = some ⟨oc5, od5, .func (PySem.W.fnOf "is_open_within" "is_open_within" (defArgs (top 19)) (defBody (top 19)) (defScope (top 19)) .none kV5 dc5 pm5 an5 cd5 ct5), sl5⟩)
    (c5 : PySem.W.codeIn K cd5 "is_open_within" = true)
    (k5 : PySem.W.keepIn K (.ref f5) = true)
    {f6 : Addr} {od6 an6 : Option Addr} {sl6 : Array (Option Value)} {oc6 kV6 dc6 pm6 cd6 ct6 : Value}
    (a6 : PySem.W.nsIn K mainGlobals "row_from" = some (some (.ref f6)))
    (l6 : K.lookup f6 = some ⟨oc6, od6, .func (PySem.W.fnOf "row_from" "row_from" (defArgs (top 18)) (defBody (top 18)) (defScope (top 18)) .none kV6 dc6 pm6 an6 cd6 ct6), sl6⟩)
    (c6 : PySem.W.codeIn K cd6 "row_from" = true)
    (k6 : PySem.W.keepIn K (.ref f6) = true)
    {f7 : Addr} {od7 an7 : Option Addr} {sl7 : Array (Option Value)} {oc7 kV7 dc7 pm7 cd7 ct7 : Value}
    (a7 : PySem.W.nsIn K mainGlobals "rows_of" = some (some (.ref f7)))
    (l7 : K.lookup f7 = some ⟨oc7, od7, .func (PySem.W.fnOf "rows_of" "rows_of" (defArgs (top 17)) (defBody (top 17)) (defScope (top 17)) .none kV7 dc7 pm7 an7 cd7 ct7), sl7⟩)
    (c7 : PySem.W.codeIn K cd7 "rows_of" = true)
    (k7 : PySem.W.keepIn K (.ref f7) = true)
    {f8 : Addr} {od8 an8 : Option Addr} {sl8 : Array (Option Value)} {oc8 kV8 dc8 pm8 cd8 ct8 : Value}
    (a8 : PySem.W.nsIn K mainGlobals "pattern" = some (some (.ref f8)))
    (l8 : K.lookup f8 = some ⟨oc8, od8, .func (PySem.W.fnOf "pattern" "pattern" (defArgs (top 21)) (defBody (top 21)) (defScope (top 21)) .none kV8 dc8 pm8 an8 cd8 ct8), sl8⟩)
    (c8 : PySem.W.codeIn K cd8 "pattern" = true)
    (k8 : PySem.W.keepIn K (.ref f8) = true)
    {f9 : Addr} {od9 an9 : Option Addr} {sl9 : Array (Option Value)} {oc9 kV9 dc9 pm9 cd9 ct9 : Value}
    (a9 : PySem.W.nsIn K mainGlobals "free_cells" = some (some (.ref f9)))
    (l9 : K.lookup f9 = some ⟨oc9, od9, .func (PySem.W.fnOf "free_cells" "free_cells" (defArgs (top 10)) (defBody (top 10)) (defScope (top 10)) .none kV9 dc9 pm9 an9 cd9 ct9), sl9⟩)
    (c9 : PySem.W.codeIn K cd9 "free_cells" = true)
    (k9 : PySem.W.keepIn K (.ref f9) = true)
    {f10 : Addr} {od10 an10 : Option Addr} {sl10 : Array (Option Value)} {oc10 kV10 dc10 pm10 cd10 ct10 : Value}
    (a10 : PySem.W.nsIn K mainGlobals "is_letters" = some (some (.ref f10)))
    (l10 : K.lookup f10 = some ⟨oc10, od10, .func (PySem.W.fnOf "is_letters" "is_letters" (defArgs (top 26)) (defBody (top 26)) (defScope (top 26)) .none kV10 dc10 pm10 an10 cd10 ct10), sl10⟩)
    (c10 : PySem.W.codeIn K cd10 "is_letters" = true)
    (k10 : PySem.W.keepIn K (.ref f10) = true)
    {f11 : Addr} {od11 an11 : Option Addr} {sl11 : Array (Option Value)} {oc11 kV11 dc11 pm11 cd11 ct11 : Value}
    (a11 : PySem.W.nsIn K mainGlobals "is_word" = some (some (.ref f11)))
    (l11 : K.lookup f11 = some ⟨oc11, od11, .func (PySem.W.fnOf "is_word" "is_word" (defArgs (top 32)) (defBody (top 32)) (defScope (top 32)) .none kV11 dc11 pm11 an11 cd11 ct11), sl11⟩)
    (c11 : PySem.W.codeIn K cd11 "is_word" = true)
    (k11 : PySem.W.keepIn K (.ref f11) = true)
    {f12 : Addr} {od12 an12 : Option Addr} {sl12 : Array (Option Value)} {oc12 kV12 dc12 pm12 cd12 ct12 : Value}
    (a12 : PySem.W.nsIn K mainGlobals "need_word" = some (some (.ref f12)))
    (l12 : K.lookup f12 = some ⟨oc12, od12, .func (PySem.W.fnOf "need_word" "need_word" (defArgs (top 31)) (defBody (top 31)) (defScope (top 31)) .none kV12 dc12 pm12 an12 cd12 ct12), sl12⟩)
    (c12 : PySem.W.codeIn K cd12 "need_word" = true)
    (k12 : PySem.W.keepIn K (.ref f12) = true)
    {f13 : Addr} {od13 an13 : Option Addr} {sl13 : Array (Option Value)} {oc13 kV13 dc13 pm13 cd13 ct13 : Value}
    (a13 : PySem.W.findIn K (.ref CBook) "__init__" = some (some (.ref f13))) (i13 : PySem.W.isFn K (.ref f13) = true)
    (l13 : K.lookup f13 = some ⟨oc13, od13, .func (PySem.W.fnOf "__init__" "Book.__init__" (defArgs (inClass (top 30) 0)) (defBody (inClass (top 30) 0)) (defScope (inClass (top 30) 0)) .none kV13 dc13 pm13 an13 cd13 ct13), sl13⟩)
    (c13 : PySem.W.codeIn K cd13 "Book.__init__" = true)
    (k13 : PySem.W.keepIn K (.ref f13) = true)
    {T14 : Addr} {To14 : Option Addr} {Tn14 : Nat} {Ts14 : Array (Option Value)} {Tt14 : Tok}
    {f14 : Addr} {od14 an14 : Option Addr} {sl14 : Array (Option Value)} {oc14 kV14 dc14 pm14 cd14 ct14 : Value}
    (a14 : PySem.W.findIn K (.ref CBook) "put" = some (some (.ref f14))) (i14 : PySem.W.isFn K (.ref f14) = true)
    (l14 : K.lookup f14 = some ⟨oc14, od14, .func (PySem.W.fnOf "put" "Book.put" (defArgs (inClass (top 30) 1)) (defBody (inClass (top 30) 1)) (defScope (inClass (top 30) 1)) (.ref T14) kV14 dc14 pm14 an14 cd14 ct14), sl14⟩)
    (d14 : K.lookup T14 = some ⟨.type "tuple", To14, .seq #[.int 0 Tt14] Tn14, Ts14⟩)
    (c14 : PySem.W.codeIn K cd14 "Book.put" = true)
    (k14 : PySem.W.keepIn K (.ref f14) = true)
    {f15 : Addr} {od15 an15 : Option Addr} {sl15 : Array (Option Value)} {oc15 kV15 dc15 pm15 cd15 ct15 : Value}
    (a15 : PySem.W.findIn K (.ref CBook) "need_there" = some (some (.ref f15))) (i15 : PySem.W.isFn K (.ref f15) = true)
    (l15 : K.lookup f15 = some ⟨oc15, od15, .func (PySem.W.fnOf "need_there" "Book.need_there" (defArgs (inClass (top 30) 8)) (defBody (inClass (top 30) 8)) (defScope (inClass (top 30) 8)) .none kV15 dc15 pm15 an15 cd15 ct15), sl15⟩)
    (c15 : PySem.W.codeIn K cd15 "Book.need_there" = true)
    (k15 : PySem.W.keepIn K (.ref f15) = true)
    {f16 : Addr} {od16 an16 : Option Addr} {sl16 : Array (Option Value)} {oc16 kV16 dc16 pm16 cd16 ct16 : Value}
    (a16 : PySem.W.findIn K (.ref CBook) "drop" = some (some (.ref f16))) (i16 : PySem.W.isFn K (.ref f16) = true)
    (l16 : K.lookup f16 = some ⟨oc16, od16, .func (PySem.W.fnOf "drop" "Book.drop" (defArgs (inClass (top 30) 2)) (defBody (inClass (top 30) 2)) (defScope (inClass (top 30) 2)) .none kV16 dc16 pm16 an16 cd16 ct16), sl16⟩)
    (c16 : PySem.W.codeIn K cd16 "Book.drop" = true)
    (k16 : PySem.W.keepIn K (.ref f16) = true)
    {f17 : Addr} {od17 an17 : Option Addr} {sl17 : Array (Option Value)} {oc17 kV17 dc17 pm17 cd17 ct17 : Value}
    (a17 : PySem.W.findIn K (.ref CBook) "has" = some (some (.ref f17))) (i17 : PySem.W.isFn K (.ref f17) = true)
    (l17 : K.lookup f17 = some ⟨oc17, od17, .func (PySem.W.fnOf "has" "Book.has" (defArgs (inClass (top 30) 7)) (defBody (inClass (top 30) 7)) (defScope (inClass (top 30) 7)) .none kV17 dc17 pm17 an17 cd17 ct17), sl17⟩)
    (c17 : PySem.W.codeIn K cd17 "Book.has" = true)
    (k17 : PySem.W.keepIn K (.ref f17) = true)
    {f18 : Addr} {od18 an18 : Option Addr} {sl18 : Array (Option Value)} {oc18 kV18 dc18 pm18 cd18 ct18 : Value}
    (a18 : PySem.W.findIn K (.ref CBook) "worth" = some (some (.ref f18))) (i18 : PySem.W.isFn K (.ref f18) = true)
    (l18 : K.lookup f18 = some ⟨oc18, od18, .func (PySem.W.fnOf "worth" "Book.worth" (defArgs (inClass (top 30) 4)) (defBody (inClass (top 30) 4)) (defScope (inClass (top 30) 4)) .none kV18 dc18 pm18 an18 cd18 ct18), sl18⟩)
    (c18 : PySem.W.codeIn K cd18 "Book.worth" = true)
    (k18 : PySem.W.keepIn K (.ref f18) = true)
    {f19 : Addr} {od19 an19 : Option Addr} {sl19 : Array (Option Value)} {oc19 kV19 dc19 pm19 cd19 ct19 : Value}
    (a19 : PySem.W.nsIn K mainGlobals "_law_open" = some (some (.ref f19)))
    (l19 : K.lookup f19 = some ⟨oc19, od19, .func (PySem.W.fnOf "_law_open" "_law_open" (defArgs (top 35)) (defBody (top 35)) (defScope (top 35)) .none kV19 dc19 pm19 an19 cd19 ct19), sl19⟩)
    (c19 : PySem.W.codeIn K cd19 "_law_open" = true)
    (k19 : PySem.W.keepIn K (.ref f19) = true)
    {f20 : Addr} {od20 an20 : Option Addr} {sl20 : Array (Option Value)} {oc20 kV20 dc20 pm20 cd20 ct20 : Value}
    (a20 : PySem.W.nsIn K mainGlobals "_law_run" = some (some (.ref f20)))
    (l20 : K.lookup f20 = some ⟨oc20, od20, .func (PySem.W.fnOf "_law_run" "_law_run" (defArgs (top 36)) (defBody (top 36)) (defScope (top 36)) .none kV20 dc20 pm20 an20 cd20 ct20), sl20⟩)
    (c20 : PySem.W.codeIn K cd20 "_law_run" = true)
    (k20 : PySem.W.keepIn K (.ref f20) = true)
    {f21 : Addr} {od21 an21 : Option Addr} {sl21 : Array (Option Value)} {oc21 kV21 dc21 pm21 cd21 ct21 : Value}
    (a21 : PySem.W.nsIn K mainGlobals "_law_rows" = some (some (.ref f21)))
    (l21 : K.lookup f21 = some ⟨oc21, od21, .func (PySem.W.fnOf "_law_rows" "_law_rows" (defArgs (top 37)) (defBody (top 37)) (defScope (top 37)) .none kV21 dc21 pm21 an21 cd21 ct21), sl21⟩)
    (c21 : PySem.W.codeIn K cd21 "_law_rows" = true)
    (k21 : PySem.W.keepIn K (.ref f21) = true)
    {f22 : Addr} {od22 an22 : Option Addr} {sl22 : Array (Option Value)} {oc22 kV22 dc22 pm22 cd22 ct22 : Value}
    (a22 : PySem.W.nsIn K mainGlobals "_law_with" = some (some (.ref f22)))
    (l22 : K.lookup f22 = some ⟨oc22, od22, .func (PySem.W.fnOf "_law_with" "_law_with" (defArgs (top 38)) (defBody (top 38)) (defScope (top 38)) .none kV22 dc22 pm22 an22 cd22 ct22), sl22⟩)
    (c22 : PySem.W.codeIn K cd22 "_law_with" = true)
    (k22 : PySem.W.keepIn K (.ref f22) = true)
    {f23 : Addr} {od23 an23 : Option Addr} {sl23 : Array (Option Value)} {oc23 kV23 dc23 pm23 cd23 ct23 : Value}
    (a23 : PySem.W.nsIn K mainGlobals "_law_text" = some (some (.ref f23)))
    (l23 : K.lookup f23 = some ⟨oc23, od23, .func (PySem.W.fnOf "_law_text" "_law_text" (defArgs (top 44)) (defBody (top 44)) (defScope (top 44)) .none kV23 dc23 pm23 an23 cd23 ct23), sl23⟩)
    (c23 : PySem.W.codeIn K cd23 "_law_text" = true)
    (k23 : PySem.W.keepIn K (.ref f23) = true)
    {f24 : Addr} {od24 an24 : Option Addr} {sl24 : Array (Option Value)} {oc24 kV24 dc24 pm24 cd24 ct24 : Value}
    (a24 : PySem.W.nsIn K mainGlobals "_law_letter" = some (some (.ref f24)))
    (l24 : K.lookup f24 = some ⟨oc24, od24, .func (PySem.W.fnOf "_law_letter" "_law_letter" (defArgs (top 42)) (defBody (top 42)) (defScope (top 42)) .none kV24 dc24 pm24 an24 cd24 ct24), sl24⟩)
    (c24 : PySem.W.codeIn K cd24 "_law_letter" = true)
    (k24 : PySem.W.keepIn K (.ref f24) = true)
    {f25 : Addr} {od25 an25 : Option Addr} {sl25 : Array (Option Value)} {oc25 kV25 dc25 pm25 cd25 ct25 : Value}
    (a25 : PySem.W.nsIn K mainGlobals "_law_good" = some (some (.ref f25)))
    (l25 : K.lookup f25 = some ⟨oc25, od25, .func (PySem.W.fnOf "_law_good" "_law_good" (defArgs (top 39)) (defBody (top 39)) (defScope (top 39)) .none kV25 dc25 pm25 an25 cd25 ct25), sl25⟩)
    (c25 : PySem.W.codeIn K cd25 "_law_good" = true)
    (k25 : PySem.W.keepIn K (.ref f25) = true)
    {f26 : Addr} {od26 an26 : Option Addr} {sl26 : Array (Option Value)} {oc26 kV26 dc26 pm26 cd26 ct26 : Value}
    (a26 : PySem.W.nsIn K mainGlobals "_law_floor" = some (some (.ref f26)))
    (l26 : K.lookup f26 = some ⟨oc26, od26, .func (PySem.W.fnOf "_law_floor" "_law_floor" (defArgs (top 40)) (defBody (top 40)) (defScope (top 40)) .none kV26 dc26 pm26 an26 cd26 ct26), sl26⟩)
    (c26 : PySem.W.codeIn K cd26 "_law_floor" = true)
    (k26 : PySem.W.keepIn K (.ref f26) = true)
    {f27 : Addr} {od27 an27 : Option Addr} {sl27 : Array (Option Value)} {oc27 kV27 dc27 pm27 cd27 ct27 : Value}
    (a27 : PySem.W.nsIn K mainGlobals "_law_any_floor" = some (some (.ref f27)))
    (l27 : K.lookup f27 = some ⟨oc27, od27, .func (PySem.W.fnOf "_law_any_floor" "_law_any_floor" (defArgs (top 41)) (defBody (top 41)) (defScope (top 41)) .none kV27 dc27 pm27 an27 cd27 ct27), sl27⟩)
    (c27 : PySem.W.codeIn K cd27 "_law_any_floor" = true)
    (k27 : PySem.W.keepIn K (.ref f27) = true)
    {f28 : Addr} {od28 an28 : Option Addr} {sl28 : Array (Option Value)} {oc28 kV28 dc28 pm28 cd28 ct28 : Value}
    (a28 : PySem.W.nsIn K mainGlobals "_law_filled" = some (some (.ref f28)))
    (l28 : K.lookup f28 = some ⟨oc28, od28, .func (PySem.W.fnOf "_law_filled" "_law_filled" (defArgs (top 43)) (defBody (top 43)) (defScope (top 43)) .none kV28 dc28 pm28 an28 cd28 ct28), sl28⟩)
    (c28 : PySem.W.codeIn K cd28 "_law_filled" = true)
    (k28 : PySem.W.keepIn K (.ref f28) = true)
    {f29 : Addr} {od29 an29 : Option Addr} {sl29 : Array (Option Value)} {oc29 kV29 dc29 pm29 cd29 ct29 : Value}
    (a29 : PySem.W.nsIn K mainGlobals "_law_words" = some (some (.ref f29)))
    (l29 : K.lookup f29 = some ⟨oc29, od29, .func (PySem.W.fnOf "_law_words" "_law_words" (defArgs (top 45)) (defBody (top 45)) (defScope (top 45)) .none kV29 dc29 pm29 an29 cd29 ct29), sl29⟩)
    (c29 : PySem.W.codeIn K cd29 "_law_words" = true)
    (k29 : PySem.W.keepIn K (.ref f29) = true)
    {f30 : Addr} {od30 an30 : Option Addr} {sl30 : Array (Option Value)} {oc30 kV30 dc30 pm30 cd30 ct30 : Value}
    (a30 : PySem.W.nsIn K mainGlobals "is_filling" = some (some (.ref f30)))
    (l30 : K.lookup f30 = some ⟨oc30, od30, .func (PySem.W.fnOf "is_filling" "is_filling" (defArgs (top 22)) (defBody (top 22)) (defScope (top 22)) .none kV30 dc30 pm30 an30 cd30 ct30), sl30⟩)
    (c30 : PySem.W.codeIn K cd30 "is_filling" = true)
    (k30 : PySem.W.keepIn K (.ref f30) = true)
    {f31 : Addr} {od31 an31 : Option Addr} {sl31 : Array (Option Value)} {oc31 kV31 dc31 pm31 cd31 ct31 : Value}
    (a31 : PySem.W.nsIn K mainGlobals "worth_of" = some (some (.ref f31)))
    (l31 : K.lookup f31 = some ⟨oc31, od31, .func (PySem.W.fnOf "worth_of" "worth_of" (defArgs (top 23)) (defBody (top 23)) (defScope (top 23)) .none kV31 dc31 pm31 an31 cd31 ct31), sl31⟩)
    (c31 : PySem.W.codeIn K cd31 "worth_of" = true)
    (k31 : PySem.W.keepIn K (.ref f31) = true)
    {f32 : Addr} {od32 an32 : Option Addr} {sl32 : Array (Option Value)} {oc32 kV32 dc32 pm32 cd32 ct32 : Value}
    (a32 : PySem.W.nsIn K mainGlobals "_law_is_filling" = some (some (.ref f32)))
    (l32 : K.lookup f32 = some ⟨oc32, od32, .func (PySem.W.fnOf "_law_is_filling" "_law_is_filling" (defArgs (top 47)) (defBody (top 47)) (defScope (top 47)) .none kV32 dc32 pm32 an32 cd32 ct32), sl32⟩)
    (c32 : PySem.W.codeIn K cd32 "_law_is_filling" = true)
    (k32 : PySem.W.keepIn K (.ref f32) = true)
    {f33 : Addr} {od33 an33 : Option Addr} {sl33 : Array (Option Value)} {oc33 kV33 dc33 pm33 cd33 ct33 : Value}
    (a33 : PySem.W.nsIn K mainGlobals "_law_worths" = some (some (.ref f33)))
    (l33 : K.lookup f33 = some ⟨oc33, od33, .func (PySem.W.fnOf "_law_worths" "_law_worths" (defArgs (top 46)) (defBody (top 46)) (defScope (top 46)) .none kV33 dc33 pm33 an33 cd33 ct33), sl33⟩)
    (c33 : PySem.W.codeIn K cd33 "_law_worths" = true)
    (k33 : PySem.W.keepIn K (.ref f33) = true)
    {f34 : Addr} {od34 an34 : Option Addr} {sl34 : Array (Option Value)} {oc34 kV34 dc34 pm34 cd34 ct34 : Value}
    (a34 : PySem.W.nsIn K mainGlobals "_law_book" = some (some (.ref f34)))
    (l34 : K.lookup f34 = some ⟨oc34, od34, .func (PySem.W.fnOf "_law_book" "_law_book" (defArgs (top 48)) (defBody (top 48)) (defScope (top 48)) .none kV34 dc34 pm34 an34 cd34 ct34), sl34⟩)
    (c34 : PySem.W.codeIn K cd34 "_law_book" = true)
    (k34 : PySem.W.keepIn K (.ref f34) = true)
    {f35 : Addr} {od35 an35 : Option Addr} {sl35 : Array (Option Value)} {oc35 kV35 dc35 pm35 cd35 ct35 : Value}
    (a35 : PySem.W.nsIn K mainGlobals "_law_held" = some (some (.ref f35)))
    (l35 : K.lookup f35 = some ⟨oc35, od35, .func (PySem.W.fnOf "_law_held" "_law_held" (defArgs (top 49)) (defBody (top 49)) (defScope (top 49)) .none kV35 dc35 pm35 an35 cd35 ct35), sl35⟩)
    (c35 : PySem.W.codeIn K cd35 "_law_held" = true)
    (k35 : PySem.W.keepIn K (.ref f35) = true)
    {f36 : Addr} {od36 an36 : Option Addr} {sl36 : Array (Option Value)} {oc36 kV36 dc36 pm36 cd36 ct36 : Value}
    (a36 : PySem.W.nsIn K mainGlobals "law" = some (some (.ref f36)))
    (l36 : K.lookup f36 = some ⟨oc36, od36, .func (PySem.W.fnOf "law" "law" (defArgs (top 50)) (defBody (top 50)) (defScope (top 50)) .none kV36 dc36 pm36 an36 cd36 ct36), sl36⟩)
    (c36 : PySem.W.codeIn K cd36 "law" = true)
    (k36 : PySem.W.keepIn K (.ref f36) = true)
    {tSHUT : Tok} (sSHUT : PySem.W.nsIn K mainGlobals "SHUT" = some (some (.str "#" tSHUT)))
    {aACROSS : Addr} {odACROSS : Option Addr} {nACROSS : Nat} {slACROSS : Array (Option Value)} {tACROSS0 tACROSS1 : Tok}
    (sACROSS : PySem.W.nsIn K mainGlobals "ACROSS" = some (some (.ref aACROSS)))
    (lACROSS : K.lookup aACROSS = some ⟨.type "tuple", odACROSS, .seq #[.int 0 tACROSS0, .int 1 tACROSS1] nACROSS, slACROSS⟩)
    {aDOWN : Addr} {odDOWN : Option Addr} {nDOWN : Nat} {slDOWN : Array (Option Value)} {tDOWN0 tDOWN1 : Tok}
    (sDOWN : PySem.W.nsIn K mainGlobals "DOWN" = some (some (.ref aDOWN)))
    (lDOWN : K.lookup aDOWN = some ⟨.type "tuple", odDOWN, .seq #[.int 1 tDOWN0, .int 0 tDOWN1] nDOWN, slDOWN⟩)
    {tFREE : Tok} (sFREE : PySem.W.nsIn K mainGlobals "FREE" = some (some (.str "." tFREE)))
    {tLETTERS : Tok} (sLETTERS : PySem.W.nsIn K mainGlobals "LETTERS" = some (some (.str "abcdefghijklmnopqrstuvwxyz" tLETTERS)))
    {tLEAST_LETTERS : Tok} (sLEAST_LETTERS : PySem.W.nsIn K mainGlobals "LEAST_LETTERS" = some (some (.int 2 tLEAST_LETTERS)))
    {tMOST_LETTERS : Tok} (sMOST_LETTERS : PySem.W.nsIn K mainGlobals "MOST_LETTERS" = some (some (.int 9 tMOST_LETTERS)))
    (zlen : PySem.W.nsIn K mainGlobals "len" = some none)
    (zrange : PySem.W.nsIn K mainGlobals "range" = some none)
    (ztuple : PySem.W.nsIn K mainGlobals "tuple" = some none)
    (zlist : PySem.W.nsIn K mainGlobals "list" = some none)
    (zstr : PySem.W.nsIn K mainGlobals "str" = some none)
    (zisinstance : PySem.W.nsIn K mainGlobals "isinstance" = some none)
    (zall : PySem.W.nsIn K mainGlobals "all" = some none)
    (zsum : PySem.W.nsIn K mainGlobals "sum" = some none)
    (zset : PySem.W.nsIn K mainGlobals "set" = some none)
    (zbool : PySem.W.nsIn K mainGlobals "bool" = some none)
    (zint : PySem.W.nsIn K mainGlobals "int" = some none)
    (zsorted : PySem.W.nsIn K mainGlobals "sorted" = some none)
    : ∃ fd : FuncData, (∀ (s : Shared) (v : Value), BindsTo s fd ⟨[v], []⟩ [("_law_script", v)]) ∧ ∀ base : Heap, K.In base → base.Ns mainGlobals mg → FnOk l.prog w K mg base CX0 8 fa fd ["_law_script"] (spLaw K) := by
  have e := hfa.symm.trans (PySem.W.mg_of X G a36)
  cases e
  have B : Bl mg := ⟨PySem.W.mg_none_of X G zlen, PySem.W.mg_none_of X G zrange, PySem.W.mg_none_of X G ztuple, PySem.W.mg_none_of X G zlist, PySem.W.mg_none_of X G zstr, PySem.W.mg_none_of X G zisinstance, PySem.W.mg_none_of X G zall, PySem.W.mg_none_of X G zsum, PySem.W.mg_none_of X G zset, PySem.W.mg_none_of X G zbool, PySem.W.mg_none_of X G zint, PySem.W.mg_none_of X G zsorted⟩
  have cSHUT : Cn mg "SHUT" (.str "#") := ⟨_, PySem.W.mg_of X G sSHUT, _, rfl⟩
  have cACROSS : CnT K mg "ACROSS" [.int 0, .int 1] := ⟨_, ⟨_, PySem.W.mg_of X G sACROSS, rfl⟩, fun H => .inr ⟨_, _, _, lACROSS, rfl, rfl, (by show 2 ≤ sizeLine; decide), (.cons ⟨_, rfl⟩ (.cons ⟨_, rfl⟩ .nil))⟩⟩
  have cDOWN : CnT K mg "DOWN" [.int 1, .int 0] := ⟨_, ⟨_, PySem.W.mg_of X G sDOWN, rfl⟩, fun H => .inr ⟨_, _, _, lDOWN, rfl, rfl, (by show 2 ≤ sizeLine; decide), (.cons ⟨_, rfl⟩ (.cons ⟨_, rfl⟩ .nil))⟩⟩
  have cFREE : Cn mg "FREE" (.str ".") := ⟨_, PySem.W.mg_of X G sFREE, _, rfl⟩
  have cLETTERS : Cn mg "LETTERS" (.str letters) := ⟨_, PySem.W.mg_of X G sLETTERS, _, rfl⟩
  have cLEAST_LETTERS : Cn mg "LEAST_LETTERS" (.int 2) := ⟨_, PySem.W.mg_of X G sLEAST_LETTERS, _, rfl⟩
  have cMOST_LETTERS : Cn mg "MOST_LETTERS" (.int 9) := ⟨_, PySem.W.mg_of X G sMOST_LETTERS, _, rfl⟩
  have TBook : Cls K CBook := ⟨pgBook, hdBook, poBook, saBook⟩
  have F0 := fun_mk (st := (top 34)) l0 c0 k0
  have b0 := F0.binds (ps := ["_law_script", "_law_k"]) fun _ _ _ _ _ _ us hl => match us, hl with | [_, _], _ => rfl
  have F1 := fun_mk (st := (top 12)) l1 c1 k1
  have b1 := F1.binds (ps := ["sheet", "cell"]) fun _ _ _ _ _ _ us hl => match us, hl with | [_, _], _ => rfl
  have F2 := fun_mk (st := (top 13)) l2 c2 k2
  have b2 := F2.binds (ps := ["sheet", "cell"]) fun _ _ _ _ _ _ us hl => match us, hl with | [_, _], _ => rfl
  have F3 := fun_mk (st := (top 11)) l3 c3 k3
  have b3 := F3.binds (ps := ["sheet"]) fun _ _ _ _ _ _ us hl => match us, hl with | [_], _ => rfl
  have F4 := fun_mk (st := (top 9)) l4 c4 k4
  have b4 := F4.binds (ps := ["sheet"]) fun _ _ _ _ _ _ us hl => match us, hl with | [_], _ => rfl
  have F5 := fun_mk (st := (top 19)) l5 c5 k5
  have b5 := F5.binds (ps := ["sheet", "cell"]) fun _ _ _ _ _ _ us hl => match us, hl with | [_, _], _ => rfl
  have F6 := fun_mk (st := (top 18)) l6 c6 k6
  have b6 := F6.binds (ps := ["sheet", "cell", "way"]) fun _ _ _ _ _ _ us hl => match us, hl with | [_, _, _], _ => rfl
  have F7 := fun_mk (st := (top 17)) l7 c7 k7
  have b7 := F7.binds (ps := ["sheet"]) fun _ _ _ _ _ _ us hl => match us, hl with | [_], _ => rfl
  have F8 := fun_mk (st := (top 21)) l8 c8 k8
  have b8 := F8.binds (ps := ["sheet", "cells"]) fun _ _ _ _ _ _ us hl => match us, hl with | [_, _], _ => rfl
  have F9 := fun_mk (st := (top 10)) l9 c9 k9
  have b9 := F9.binds (ps := ["sheet"]) fun _ _ _ _ _ _ us hl => match us, hl with | [_], _ => rfl
  have F10 := fun_mk (st := (top 26)) l10 c10 k10
  have b10 := F10.binds (ps := ["thing", "least", "most"]) fun _ _ _ _ _ _ us hl => match us, hl with | [_, _, _], _ => rfl
  have F11 := fun_mk (st := (top 32)) l11 c11 k11
  have b11 := F11.binds (ps := ["thing"]) fun _ _ _ _ _ _ us hl => match us, hl with | [_], _ => rfl
  have F12 := fun_mk (st := (top 31)) l12 c12 k12
  have b12 := F12.binds (ps := ["thing"]) fun _ _ _ _ _ _ us hl => match us, hl with | [_], _ => rfl
  have F13 := fun_mk (st := (inClass (top 30) 0)) l13 c13 k13
  have b13 := F13.binds (ps := ["self"]) fun _ _ _ _ _ _ us hl => match us, hl with | [_], _ => rfl
  have F14 : FunD K "put" "Book.put" (inClass (top 30) 1) f14 _ _ := ⟨⟨_, _, _, _, _, _, _, _, _, _, rfl, l14, c14, _, _, _, d14⟩, k14⟩
  have b14 := F14.binds (ps := ["self", "word", "worth"]) (ds := []) fun _ _ _ _ _ _ _ _ us _ _ _ hT hl => match us, hl with | [_, _, _], _ => .of_defaults rfl hT rfl rfl rfl
  have e14 := F14.binds (ps := ["self", "word", "worth"]) (ds := [.int 0 _]) fun _ _ _ _ _ _ _ _ us _ _ _ hT hl => have hl2 : us.length = 2 := (by simpa using hl); match us, hl2 with | [_, _], _ => .of_defaults rfl hT rfl rfl rfl
  have F15 := fun_mk (st := (inClass (top 30) 8)) l15 c15 k15
  have b15 := F15.binds (ps := ["self", "word"]) fun _ _ _ _ _ _ us hl => match us, hl with | [_, _], _ => rfl
  have F16 := fun_mk (st := (inClass (top 30) 2)) l16 c16 k16
  have b16 := F16.binds (ps := ["self", "word"]) fun _ _ _ _ _ _ us hl => match us, hl with | [_, _], _ => rfl
  have F17 := fun_mk (st := (inClass (top 30) 7)) l17 c17 k17
  have b17 := F17.binds (ps := ["self", "word"]) fun _ _ _ _ _ _ us hl => match us, hl with | [_, _], _ => rfl
  have F18 := fun_mk (st := (inClass (top 30) 4)) l18 c18 k18
  have b18 := F18.binds (ps := ["self", "word"]) fun _ _ _ _ _ _ us hl => match us, hl with | [_, _], _ => rfl
  have F19 := fun_mk (st := (top 35)) l19 c19 k19
  have b19 := F19.binds (ps := ["_law_sheet", "_law_line", "_law_column"]) fun _ _ _ _ _ _ us hl => match us, hl with | [_, _, _], _ => rfl
  have F20 := fun_mk (st := (top 36)) l20 c20 k20
  have b20 := F20.binds (ps := ["_law_sheet", "_law_line", "_law_column", "_law_down"]) fun _ _ _ _ _ _ us hl => match us, hl with | [_, _, _, _], _ => rfl
  have F21 := fun_mk (st := (top 37)) l21 c21 k21
  have b21 := F21.binds (ps := ["_law_sheet"]) fun _ _ _ _ _ _ us hl => match us, hl with | [_], _ => rfl
  have F22 := fun_mk (st := (top 38)) l22 c22 k22
  have b22 := F22.binds (ps := ["_law_sheet", "_law_cell", "_law_sign"]) fun _ _ _ _ _ _ us hl => match us, hl with | [_, _, _], _ => rfl
  have F23 := fun_mk (st := (top 44)) l23 c23 k23
  have b23 := F23.binds (ps := ["_law_sheet", "_law_cells"]) fun _ _ _ _ _ _ us hl => match us, hl with | [_, _], _ => rfl
  have F24 := fun_mk (st := (top 42)) l24 c24 k24
  have b24 := F24.binds (ps := ["_law_script", "_law_number"]) fun _ _ _ _ _ _ us hl => match us, hl with | [_, _], _ => rfl
  have F25 := fun_mk (st := (top 39)) l25 c25 k25
  have b25 := F25.binds (ps := ["_law_sheet"]) fun _ _ _ _ _ _ us hl => match us, hl with | [_], _ => rfl
  have F26 := fun_mk (st := (top 40)) l26 c26 k26
  have b26 := F26.binds (ps := ["_law_cell"]) fun _ _ _ _ _ _ us hl => match us, hl with | [_], _ => rfl
  have F27 := fun_mk (st := (top 41)) l27 c27 k27
  have b27 := F27.binds (ps := ["_law_cell"]) fun _ _ _ _ _ _ us hl => match us, hl with | [_], _ => rfl
  have F28 := fun_mk (st := (top 43)) l28 c28 k28
  have b28 := F28.binds (ps := ["_law_script", "_law_floor_here", "_law_cell"]) fun _ _ _ _ _ _ us hl => match us, hl with | [_, _, _], _ => rfl
  have F29 := fun_mk (st := (top 45)) l29 c29 k29
  have b29 := F29.binds (ps := ["_law_script", "_law_filled_here", "_law_start"]) fun _ _ _ _ _ _ us hl => match us, hl with | [_, _, _], _ => rfl
  have F30 := fun_mk (st := (top 22)) l30 c30 k30
  have b30 := F30.binds (ps := ["book", "sheet"]) fun _ _ _ _ _ _ us hl => match us, hl with | [_, _], _ => rfl
  have F31 := fun_mk (st := (top 23)) l31 c31 k31
  have b31 := F31.binds (ps := ["book", "sheet"]) fun _ _ _ _ _ _ us hl => match us, hl with | [_, _], _ => rfl
  have F32 := fun_mk (st := (top 47)) l32 c32 k32
  have b32 := F32.binds (ps := ["_law_words_here", "_law_sheet"]) fun _ _ _ _ _ _ us hl => match us, hl with | [_, _], _ => rfl
  have F33 := fun_mk (st := (top 46)) l33 c33 k33
  have b33 := F33.binds (ps := ["_law_script", "_law_words_here"]) fun _ _ _ _ _ _ us hl => match us, hl with | [_, _], _ => rfl
  have F34 := fun_mk (st := (top 48)) l34 c34 k34
  have b34 := F34.binds (ps := ["_law_worths_here"]) fun _ _ _ _ _ _ us hl => match us, hl with | [_], _ => rfl
  have F35 := fun_mk (st := (top 49)) l35 c35 k35
  have b35 := F35.binds (ps := ["_law_book_here", "_law_worths_here", "_law_sheet"]) fun _ _ _ _ _ _ us hl => match us, hl with | [_, _, _], _ => rfl
  have F36 := fun_mk (st := (top 50)) l36 c36 k36
  have b36 := F36.binds (ps := ["_law_script"]) fun _ _ _ _ _ _ us hl => match us, hl with | [_], _ => rfl
  refine ⟨PySem.W.fnOf "law" "law" (defArgs (top 50)) (defBody (top 50)) (defScope (top 50)) .none kV36 dc36 pm36 an36 cd36 ct36, fun s v => .of_eq rfl, fun base _ _ => ?_⟩
  have N_law_cell_at : Fn l.prog w K mg base "_law_cell_at" 1 (spCell K) := ⟨_, _, _, ok_cell B F0, PySem.W.mg_of X G a0, k0, b0⟩
  have Nsign_at : Fn l.prog w K mg base "sign_at" 1 (spSign K) := ⟨_, _, _, ok_sign F1, PySem.W.mg_of X G a1, k1, b1⟩
  have Nis_open : Fn l.prog w K mg base "is_open" 2 (spOpen K) := ⟨_, _, _, ok_open F2 cSHUT Nsign_at, PySem.W.mg_of X G a2, k2, b2⟩
  have Nall_cells : Fn l.prog w K mg base "all_cells" 1 (spAll K) := ⟨_, _, _, ok_all B F3, PySem.W.mg_of X G a3, k3, b3⟩
  have Nopen_cells : Fn l.prog w K mg base "open_cells" 3 (spOpens K) := ⟨_, _, _, ok_opens F4 Nall_cells Nis_open, PySem.W.mg_of X G a4, k4, b4⟩
  have Nis_open_within : Fn l.prog w K mg base "is_open_within" 3 (spWithin K) := ⟨_, _, _, ok_within B F5 Nis_open, PySem.W.mg_of X G a5, k5, b5⟩
  have Nrow_from : Fn l.prog w K mg base "row_from" 4 (spRowFrom K) := ⟨_, _, _, ok_rowfrom B F6 Nis_open_within, PySem.W.mg_of X G a6, k6, b6⟩
  have Nrows_of : Fn l.prog w K mg base "rows_of" 5 (spRows K) := ⟨_, _, _, ok_rows F7 cACROSS cDOWN Nopen_cells Nrow_from, PySem.W.mg_of X G a7, k7, b7⟩
  have Npattern : Fn l.prog w K mg base "pattern" 2 (spPat K) := ⟨_, _, _, ok_pat F8 Nsign_at, PySem.W.mg_of X G a8, k8, b8⟩
  have Nfree_cells : Fn l.prog w K mg base "free_cells" 3 (spFrees K) := ⟨_, _, _, ok_frees F9 cFREE Nall_cells Nsign_at, PySem.W.mg_of X G a9, k9, b9⟩
  have Nis_letters : Fn l.prog w K mg base "is_letters" 1 (spLetters K) := ⟨_, _, _, ok_isletters B cLETTERS F10, PySem.W.mg_of X G a10, k10, b10⟩
  have Nis_word : Fn l.prog w K mg base "is_word" 2 spIsWord := ⟨_, _, _, ok_isword cLEAST_LETTERS cMOST_LETTERS F11 Nis_letters, PySem.W.mg_of X G a11, k11, b11⟩
  have Nneed_word : Fn l.prog w K mg base "need_word" 3 spNeedWord := ⟨_, _, _, ok_needword F12 Nis_word, PySem.W.mg_of X G a12, k12, b12⟩
  have NBook : Nw l.prog w K mg base "Book" CBook 1 (spBInit CBook) := ⟨_, _, _, ⟨mkBook, a13, i13, kcBook⟩, ok_binit F13 TBook nBook_worths, b13, PySem.W.mg_of X G aCBook⟩
  have MBook_put : Mt l.prog w K mg base CBook "put" 4 (spBPut CBook) [] := ⟨TBook, _, _, _, _, ⟨a14, i14, k14⟩, ok_bput F14 TBook nBook_worths Nneed_word, b14, .nil⟩
  have MBook_put_d : Mt l.prog w K mg base CBook "put" 4 (spBPut CBook) [.int 0] := ⟨TBook, _, _, _, _, ⟨a14, i14, k14⟩, ok_bput F14 TBook nBook_worths Nneed_word, e14, .cons ⟨_, rfl⟩ .nil⟩
  have MBook_need_there : Mt l.prog w K mg base CBook "need_there" 4 (spBThere CBook) [] := ⟨TBook, _, _, _, _, ⟨a15, i15, k15⟩, ok_bthere F15 TBook nBook_worths Nneed_word, b15, .nil⟩
  have MBook_drop : Mt l.prog w K mg base CBook "drop" 5 (spBDrop CBook) [] := ⟨TBook, _, _, _, _, ⟨a16, i16, k16⟩, ok_bdrop F16 TBook nBook_worths MBook_need_there, b16, .nil⟩
  have MBook_has : Mt l.prog w K mg base CBook "has" 1 (spBHas CBook) [] := ⟨TBook, _, _, _, _, ⟨a17, i17, k17⟩, ok_bhas F17 TBook nBook_worths, b17, .nil⟩
  have MBook_worth : Mt l.prog w K mg base CBook "worth" 5 (spBWorth CBook) [] := ⟨TBook, _, _, _, _, ⟨a18, i18, k18⟩, ok_bworth F18 TBook nBook_worths MBook_need_there, b18, .nil⟩
  have N_law_open : Fn l.prog w K mg base "_law_open" 1 (spLOpen K) := ⟨_, _, _, ok_lopen B F19, PySem.W.mg_of X G a19, k19, b19⟩
  have N_law_run : Fn l.prog w K mg base "_law_run" 2 (spLRun K) := ⟨_, _, _, ok_lrun F20 N_law_open, PySem.W.mg_of X G a20, k20, b20⟩
  have N_law_rows : Fn l.prog w K mg base "_law_rows" 3 (spLRows K) := ⟨_, _, _, ok_lrows B F21 N_law_run, PySem.W.mg_of X G a21, k21, b21⟩
  have N_law_with : Fn l.prog w K mg base "_law_with" 1 (spWith K) := ⟨_, _, _, ok_lwith B F22, PySem.W.mg_of X G a22, k22, b22⟩
  have N_law_text : Fn l.prog w K mg base "_law_text" 1 (spLText K) := ⟨_, _, _, ok_ltext F23, PySem.W.mg_of X G a23, k23, b23⟩
  have N_law_letter : Fn l.prog w K mg base "_law_letter" 2 (spLetter K) := ⟨_, _, _, ok_lletter F24 N_law_cell_at, PySem.W.mg_of X G a24, k24, b24⟩
  have N_law_good : Fn l.prog w K mg base "_law_good" 4 (spGood K) := ⟨_, _, _, ok_lgood B F25 N_law_rows, PySem.W.mg_of X G a25, k25, b25⟩
  have N_law_floor : Fn l.prog w K mg base "_law_floor" 5 (spFloor K) := ⟨_, _, _, ok_lfloor B F26 N_law_with N_law_good, PySem.W.mg_of X G a26, k26, b26⟩
  have N_law_any_floor : Fn l.prog w K mg base "_law_any_floor" 6 (spAny K) := ⟨_, _, _, ok_lany B F27 N_law_floor, PySem.W.mg_of X G a27, k27, b27⟩
  have N_law_filled : Fn l.prog w K mg base "_law_filled" 3 (spFilled K) := ⟨_, _, _, ok_lfilled B F28 N_law_with N_law_letter, PySem.W.mg_of X G a28, k28, b28⟩
  have N_law_words : Fn l.prog w K mg base "_law_words" 4 (spLWords K) := ⟨_, _, _, ok_lwords B F29 N_law_cell_at N_law_rows N_law_text N_law_letter, PySem.W.mg_of X G a29, k29, b29⟩
  have Nis_filling : Fn l.prog w K mg base "is_filling" 6 (spIsF K CBook) := ⟨_, _, _, ok_isf F30 Nfree_cells Nrows_of Npattern MBook_has, PySem.W.mg_of X G a30, k30, b30⟩
  have Nworth_of : Fn l.prog w K mg base "worth_of" 6 (spWorthOf K CBook) := ⟨_, _, _, ok_worthof B F31 Nrows_of Npattern MBook_worth, PySem.W.mg_of X G a31, k31, b31⟩
  have N_law_is_filling : Fn l.prog w K mg base "_law_is_filling" 4 (spLIsF K) := ⟨_, _, _, ok_lisf B F32 N_law_rows N_law_text, PySem.W.mg_of X G a32, k32, b32⟩
  have N_law_worths : Fn l.prog w K mg base "_law_worths" 2 (spLWorths K) := ⟨_, _, _, ok_lworths B F33 N_law_cell_at, PySem.W.mg_of X G a33, k33, b33⟩
  have N_law_book : Fn l.prog w K mg base "_law_book" 5 (spLBook K CBook) := ⟨_, _, _, ok_lbook F34 NBook MBook_put, PySem.W.mg_of X G a34, k34, b34⟩
  have N_law_held : Fn l.prog w K mg base "_law_held" 7 (spLHeld K CBook) := ⟨_, _, _, ok_lheld B F35 N_law_is_filling Nis_filling N_law_rows N_law_text Nworth_of, PySem.W.mg_of X G a35, k35, b35⟩
  exact ok_law B F36 N_law_cell_at N_law_any_floor N_law_filled N_law_words N_law_worths N_law_book N_law_with N_law_held MBook_drop
theorem walk {l : PySem.W.OpenLaw} {q : Program} {loose : List Str} {XP : (Str → Option Value) → Heap → Prop} {YP : World → Heap → Prop} {d : DefRec} {K : Params → PySem.W.Frag} (hn : l.most = some 63) (hdf : d.params.defaults = [])
    (hY : ∀ (w : World) (h : Heap), YP w h → (K w.params).In h)
    (F : ∀ (w : World) (mg : Str → Option Value) (fa : Addr) (h : Heap), (K w.params).In h → h.Ns mainGlobals mg → mg d.name = some (.ref fa) →
      ∃ fd : FuncData, (∀ (s : Shared) (u : Value), BindsTo s fd ⟨[u], []⟩ [("_law_script", u)]) ∧ ∀ base : Heap, (K w.params).In base → base.Ns mainGlobals mg → FnOk l.prog w (K w.params) mg base CX0 8 fa fd ["_law_script"] (spLaw (K w.params))) :
    PySem.W.WalkO q loose XP YP l.row.toRowW d [] (fun f vs => PySem.call f vs) :=
  L2.walk_of (n := 63) (k := 8) (x := "_law_script") (CX := fun _ => CX0) (sp := fun w => spLaw (K w.params)) hn (by decide) hdf ⟨rfl, by decide, by decide, rfl⟩ hY F (fun _ _ a ns hl _ hS => ⟨a, ns, rfl, hS, hl, fun _ => rfl⟩) fun _ _ _ _ _ z => z
end Cw
def PySem.W.Fast.tw17904304477722242944 : Unit := ()
def PySem.W.Fast.tw16549254163987460833 : Unit := ()
def PySem.W.Fast.tw11860683007611908802 : Unit := ()
def PySem.W.Fast.tw5614410188291782215 : Unit := ()
def PySem.W.Fast.tw15300285671852054700 : Unit := ()
def PySem.W.Fast.tw13551055607507881809 : Unit := ()
def PySem.W.Fast.tw1947973597382680788 : Unit := ()
def PySem.W.Fast.tw2499134372241389556 : Unit := ()
def PySem.W.Fast.tw13685723829296029654 : Unit := ()
def PySem.W.Fast.tw10388835073690443960 : Unit := ()
def PySem.W.Fast.tw1410527915269483930 : Unit := ()
def PySem.W.Fast.tw9110141934546925179 : Unit := ()
open PySem PySem.W PyProof.Rows
set_option maxRecDepth 100000 in
set_option maxHeartbeats 0 in
theorem PySem.Challenge.cw_crosswright_k22_what_is_a_filling_holds : PySem.Challenge.rw_crosswright_k22_what_is_a_filling.Holds := by
  w_on; o_law; k_head; (case hw => w_witness2)
  k_fill
  refine Cw.walk (l := PySem.Challenge.rw_crosswright_k22_what_is_a_filling) rfl rfl (fun w h Y => PySem.W.kIn_of Y) ?F
  case F =>
    intro w mg fa h KX G hmg
    refine' Cw.all_mk KX G hmg ?aCBook ?pgBook ?hdBook ?poBook ?saBook ?mkBook ?kcBook ?nBook_worths ?a0 ?l0 ?c0 ?k0 ?a1 ?l1 ?c1 ?k1 ?a2 ?l2 ?c2 ?k2 ?a3 ?l3 ?c3 ?k3 ?a4 ?l4 ?c4 ?k4 ?a5 ?l5 ?c5 ?k5 ?a6 ?l6 ?c6 ?k6 ?a7 ?l7 ?c7 ?k7 ?a8 ?l8 ?c8 ?k8 ?a9 ?l9 ?c9 ?k9 ?a10 ?l10 ?c10 ?k10 ?a11 ?l11 ?c11 ?k11 ?a12 ?l12 ?c12 ?k12 ?a13 ?i13 ?l13 ?c13 ?k13 ?a14 ?i14 ?l14 ?d14 ?c14 ?k14 ?a15 ?i15 ?l15 ?c15 ?k15 ?a16 ?i16 ?l16 ?c16 ?k16 ?a17 ?i17 ?l17 ?c17 ?k17 ?a18 ?i18 ?l18 ?c18 ?k18 ?a19 ?l19 ?c19 ?k19 ?a20 ?l20 ?c20 ?k20 ?a21 ?l21 ?c21 ?k21 ?a22 ?l22 ?c22 ?k22 ?a23 ?l23 ?c23 ?k23 ?a24 ?l24 ?c24 ?k24 ?a25 ?l25 ?c25 ?k25 ?a26 ?l26 ?c26 ?k26 ?a27 ?l27 ?c27 ?k27 ?a28 ?l28 ?c28 ?k28 ?a29 ?l29 ?c29 ?k29 ?a30 ?l30 ?c30 ?k30 ?a31 ?l31 ?c31 ?k31 ?a32 ?l32 ?c32 ?k32 ?a33 ?l33 ?c33 ?k33 ?a34 ?l34 ?c34 ?k34 ?a35 ?l35 ?c35 ?k35 ?a36 ?l36 ?c36 ?k36 ?sSHUT ?sACROSS ?lACROSS ?sDOWN ?lDOWN ?sFREE ?sLETTERS ?sLEAST_LETTERS ?sMOST_LETTERS ?zlen ?zrange ?ztuple ?zlist ?zstr ?zisinstance ?zall ?zsum ?zset ?zbool ?zint ?zsorted
    (case aCBook => k_is)
    (case pgBook => k_is)
    (case hdBook => k_is)
    (case poBook => k_is)
    (case saBook => k_is)
    (case mkBook => k_is)
    (case kcBook => k_is)
    (case nBook_worths => k_is)
    (case a0 => k_is)
    (case l0 => k_is)
    (case c0 => k_is)
    (case k0 => k_is)
    (case a1 => k_is)
    (case l1 => k_is)
    (case c1 => k_is)
    (case k1 => k_is)
    (case a2 => k_is)
    (case l2 => k_is)
    (case c2 => k_is)
    (case k2 => k_is)
    (case a3 => k_is)
    (case l3 => k_is)
    (case c3 => k_is)
    (case k3 => k_is)
    (case a4 => k_is)
    (case l4 => k_is)
    (case c4 => k_is)
    (case k4 => k_is)
    (case a5 => k_is)
    (case l5 => k_is)
    (case c5 => k_is)
    (case k5 => k_is)
    (case a6 => k_is)
    (case l6 => k_is)
    (case c6 => k_is)
    (case k6 => k_is)
    (case a7 => k_is)
    (case l7 => k_is)
    (case c7 => k_is)
    (case k7 => k_is)
    (case a8 => k_is)
    (case l8 => k_is)
    (case c8 => k_is)
    (case k8 => k_is)
    (case a9 => k_is)
    (case l9 => k_is)
    (case c9 => k_is)
    (case k9 => k_is)
    (case a10 => k_is)
    (case l10 => k_is)
    (case c10 => k_is)
    (case k10 => k_is)
    (case a11 => k_is)
    (case l11 => k_is)
    (case c11 => k_is)
    (case k11 => k_is)
    (case a12 => k_is)
    (case l12 => k_is)
    (case c12 => k_is)
    (case k12 => k_is)
    (case a13 => k_is)
    (case i13 => k_is)
    (case l13 => k_is)
    (case c13 => k_is)
    (case k13 => k_is)
    (case a14 => k_is)
    (case i14 => k_is)
    (case l14 => k_is)
    (case d14 => k_is)
    (case c14 => k_is)
    (case k14 => k_is)
    (case a15 => k_is)
    (case i15 => k_is)
    (case l15 => k_is)
    (case c15 => k_is)
    (case k15 => k_is)
    (case a16 => k_is)
    (case i16 => k_is)
    (case l16 => k_is)
    (case c16 => k_is)
    (case k16 => k_is)
    (case a17 => k_is)
    (case i17 => k_is)
    (case l17 => k_is)
    (case c17 => k_is)
    (case k17 => k_is)
    (case a18 => k_is)
    (case i18 => k_is)
    (case l18 => k_is)
    (case c18 => k_is)
    (case k18 => k_is)
    (case a19 => k_is)
    (case l19 => k_is)
    (case c19 => k_is)
    (case k19 => k_is)
    (case a20 => k_is)
    (case l20 => k_is)
    (case c20 => k_is)
    (case k20 => k_is)
    (case a21 => k_is)
    (case l21 => k_is)
    (case c21 => k_is)
    (case k21 => k_is)
    (case a22 => k_is)
    (case l22 => k_is)
    (case c22 => k_is)
    (case k22 => k_is)
    (case a23 => k_is)
    (case l23 => k_is)
    (case c23 => k_is)
    (case k23 => k_is)
    (case a24 => k_is)
    (case l24 => k_is)
    (case c24 => k_is)
    (case k24 => k_is)
    (case a25 => k_is)
    (case l25 => k_is)
    (case c25 => k_is)
    (case k25 => k_is)
    (case a26 => k_is)
    (case l26 => k_is)
    (case c26 => k_is)
    (case k26 => k_is)
    (case a27 => k_is)
    (case l27 => k_is)
    (case c27 => k_is)
    (case k27 => k_is)
    (case a28 => k_is)
    (case l28 => k_is)
    (case c28 => k_is)
    (case k28 => k_is)
    (case a29 => k_is)
    (case l29 => k_is)
    (case c29 => k_is)
    (case k29 => k_is)
    (case a30 => k_is)
    (case l30 => k_is)
    (case c30 => k_is)
    (case k30 => k_is)
    (case a31 => k_is)
    (case l31 => k_is)
    (case c31 => k_is)
    (case k31 => k_is)
    (case a32 => k_is)
    (case l32 => k_is)
    (case c32 => k_is)
    (case k32 => k_is)
    (case a33 => k_is)
    (case l33 => k_is)
    (case c33 => k_is)
    (case k33 => k_is)
    (case a34 => k_is)
    (case l34 => k_is)
    (case c34 => k_is)
    (case k34 => k_is)
    (case a35 => k_is)
    (case l35 => k_is)
    (case c35 => k_is)
    (case k35 => k_is)
    (case a36 => k_is)
    (case l36 => k_is)
    (case c36 => k_is)
    (case k36 => k_is)
    (case sSHUT => k_is)
    (case sACROSS => k_is)
    (case lACROSS => k_is)
    (case sDOWN => k_is)
    (case lDOWN => k_is)
    (case sFREE => k_is)
    (case sLETTERS => k_is)
    (case sLEAST_LETTERS => k_is)
    (case sMOST_LETTERS => k_is)
    (case zlen => k_is)
    (case zrange => k_is)
    (case ztuple => k_is)
    (case zlist => k_is)
    (case zstr => k_is)
    (case zisinstance => k_is)
    (case zall => k_is)
    (case zsum => k_is)
    (case zset => k_is)
    (case zbool => k_is)
    (case zint => k_is)
    (case zsorted => k_is)
#print axioms PySem.Challenge.cw_crosswright_k22_what_is_a_filling_holds

