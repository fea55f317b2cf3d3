import PyProof.Rows.All
import Wide.All
import OpenK.AllK
import Wide.FinOn
import Lean
import PyProof.EqAt
import PyProof.EqKinds
import PyProof.TupleCall
import PyProof.NeKinds
import PySem.Challenge.RW_crosswright_k72_a_working_shown
set_option Elab.async false
set_option linter.all false
set_option maxRecDepth 100000
/-! THE HAND LAYER, for ints, bools, texts, own classes, LISTS and tuples (index, slices, in, append, pop ..), calls, loops. Paste it whole ahead of your own text; what your proof does not reach may be deleted. -/
namespace L2
open PySem PySem.Spec PyProof.Rows

/-- a key: an int or a str -/
abbrev Key := Sum Int Str
def keyIs : Key → Value → Bool
  | .inl k, v => Value.isInt k v
  | .inr x, v => Value.isStrOf x v
def keyH (w : World) : Key → Int
  | .inl k => hashInt k
  | .inr x => hashStr w x
theorem keyIs_shape : ∀ {k : Key} {v : Value}, keyIs k v = true → (∃ i t, k = Sum.inl i ∧ v = Value.int i t) ∨ (∃ x t, k = Sum.inr x ∧ v = Value.str x t)
  | .inl i, v, h => by
    obtain ⟨t, e⟩ := Value.isInt_shape (k := i) (v := v) h
    exact .inl ⟨i, t, rfl, e⟩
  | .inr x, v, h => by
    obtain ⟨t, e⟩ := Value.isStrOf_shape (x := x) (v := v) h
    exact .inr ⟨x, t, rfl, e⟩
theorem keyIs_int (i : Int) (t : Tok) : keyIs (.inl i) (.int i t) = true := by simp [keyIs, Value.isInt]
theorem keyIs_str (x : Str) (t : Tok) : keyIs (.inr x) (.str x t) = true := by simp [keyIs, Value.isStrOf]
theorem key_ll (a b : Int) : decide ((Sum.inl a : Key) = Sum.inl b) = (a == b) := by
  by_cases e : a = b
  · subst e; simp
  · have h : ¬ (Sum.inl a : Key) = Sum.inl b := fun q => e (Sum.inl.inj q)
    rw [decide_eq_false h]
    exact (beq_eq_false_iff_ne.mpr e).symm
theorem key_rr (a b : Str) : decide ((Sum.inr a : Key) = Sum.inr b) = decide (a = b) := by
  by_cases e : a = b
  · subst e; simp
  · have h : ¬ (Sum.inr a : Key) = Sum.inr b := fun q => e (Sum.inr.inj q)
    rw [decide_eq_false h, decide_eq_false e]
theorem key_lr (a : Int) (b : Str) : decide ((Sum.inl a : Key) = Sum.inr b) = false := decide_eq_false (fun q => nomatch q)
theorem key_rl (a : Str) (b : Int) : decide ((Sum.inr a : Key) = Sum.inl b) = false := decide_eq_false (fun q => nomatch q)

def mixKind (prog : Program) (w : World) : PySem.KeyKind prog w Key where
  is := keyIs
  hash := keyH w
  inj := fun v a b ha hb => by
    rcases keyIs_shape ha with ⟨i, t, rfl, rfl⟩ | ⟨x, t, rfl, rfl⟩
    · rcases keyIs_shape hb with ⟨j, u, rfl, e⟩ | ⟨y, u, rfl, e⟩
      · injection e with e1 _; rw [e1]
      · exact nomatch e
    · rcases keyIs_shape hb with ⟨j, u, rfl, e⟩ | ⟨y, u, rfl, e⟩
      · exact nomatch e
      · injection e with e1 _; rw [e1]
  byValue := fun k v h => by
    rcases keyIs_shape h with ⟨i, t, rfl, rfl⟩ | ⟨x, t, rfl, rfl⟩ <;> rfl
  pyHash := fun hv h => by
    rcases keyIs_shape hv with ⟨i, t, rfl, rfl⟩ | ⟨x, t, rfl, rfl⟩
    · exact wpAny_pyHash_int h
    · exact wpAny_pyHash_str h
  eqBool := fun hu hv h => by
    rcases keyIs_shape hu with ⟨i, t, rfl, rfl⟩ | ⟨x, t, rfl, rfl⟩
    · rcases keyIs_shape hv with ⟨j, u, rfl, rfl⟩ | ⟨y, u, rfl, rfl⟩
      · rw [key_ll] at h; exact wpAny_eqBool_int h
      · rw [key_lr] at h; exact SeqAt.EqAt.int_str i t y u _ _ _ _ h
    · rcases keyIs_shape hv with ⟨j, u, rfl, rfl⟩ | ⟨y, u, rfl, rfl⟩
      · rw [key_rl] at h; exact SeqAt.EqAt.str_int x t j u _ _ _ _ h
      · rw [key_rr] at h; exact wpAny_eqBool_str h
  «strs» := fun k x t v h => by
    rcases keyIs_shape h with ⟨i, u, rfl, e⟩ | ⟨y, u, rfl, e⟩
    · exact nomatch e
    · injection e with e1 _
      subst e1
      cases v <;> rfl

theorem mixKind_int (prog : Program) (w : World) (i : Int) (t : Tok) : (mixKind prog w).is (.inl i) (.int i t) = true := keyIs_int i t
theorem mixKind_str (prog : Program) (w : World) (x : Str) (t : Tok) : (mixKind prog w).is (.inr x) (.str x t) = true := keyIs_str x t
end L2

namespace L2
open PySem PySem.Spec PyProof.Rows

/-- a value, without the heap -/
inductive V where
  | non | bl (b : Bool) | int (i : Int) | str (x : Str) | byt (b : Array UInt8) | flt (b : UInt64) | ref (a : Addr) | ty (n : String)
  deriving DecidableEq

def RelV : V → Value → Prop
  | .non, u => u = Value.none
  | .bl b, u => u = Value.bool b
  | .int i, u => ∃ t, u = Value.int i t
  | .str x, u => ∃ t, u = Value.str x t
  | .byt b, u => ∃ t, u = Value.bytes b t
  | .flt b, u => ∃ t, u = Value.float b t
  | .ref a, u => u = Value.ref a
  | .ty n, u => u = Value.type n

abbrev Vals : List V → List Value → Prop := Paired RelV
theorem Vals.length {xs : List V} {us : List Value} (r : Vals xs us) : xs.length = us.length := Paired.length r
theorem Vals.get : ∀ {xs : List V} {us : List Value} {i : Nat} {x : V}, Vals xs us → xs[i]? = some x → ∃ u, us[i]? = some u ∧ RelV x u
  | _, _, _, _, .nil, e => by simp at e
  | _, _, 0, _, .cons r _, e => by simp at e; subst e; exact ⟨_, rfl, r⟩
  | _, _, i + 1, x, .cons _ t, e => by
    obtain ⟨u, h1, h2⟩ := Vals.get (i := i) (x := x) t (by simpa using e)
    exact ⟨u, by simpa using h1, h2⟩
theorem Vals.set {x : V} {u : Value} (r : RelV x u) : ∀ {xs : List V} {us : List Value} (i : Nat), Vals xs us → Vals (xs.set i x) (us.set i u)
  | _, _, _, .nil => .nil
  | _, _, 0, .cons _ t => .cons r t
  | _, _, i + 1, .cons q t => .cons q (Vals.set r i t)
theorem Vals.append : ∀ {xs ys : List V} {us ws : List Value}, Vals xs us → Vals ys ws → Vals (xs ++ ys) (us ++ ws)
  | _, _, _, _, .nil, s => s
  | _, _, _, _, .cons r t, s => .cons r (Vals.append t s)
theorem Vals.take : ∀ {xs : List V} {us : List Value} (n : Nat), Vals xs us → Vals (xs.take n) (us.take n)
  | _, _, 0, _ => .nil
  | _, _, _ + 1, .nil => .nil
  | _, _, n + 1, .cons r t => .cons r (Vals.take n t)
theorem Vals.drop : ∀ {xs : List V} {us : List Value} (n : Nat), Vals xs us → Vals (xs.drop n) (us.drop n)
  | _, _, 0, r => r
  | _, _, _ + 1, .nil => .nil
  | _, _, n + 1, .cons _ t => Vals.drop n t
theorem Vals.none_of : ∀ {xs : List V} {us : List Value} {i : Nat}, Vals xs us → xs[i]? = none → us[i]? = none := fun {xs us i} r e => by
  have h1 := r.length
  have h2 : xs.length ≤ i := List.getElem?_eq_none_iff.mp e
  exact List.getElem?_eq_none_iff.mpr (by omega)

def RelO : Option V → Option Value → Prop
  | some v, some u => RelV v u
  | none, none => True
  | _, _ => False
def KV {κ : Type} : List (κ × V) → List (κ × Value) → Prop := Paired fun (p : κ × V) (q : κ × Value) => p.1 = q.1 ∧ RelV p.2 q.2

/-- a key of a dict (00_mix): an int or a text -/
def kV : Key → V
  | .inl i => .int i
  | .inr x => .str x

/-- what stands at a tracked address -/
inductive HO where
  /-- a list -/
  | lst (xs : List V)
  /-- a tuple (never changes) -/
  | tup (xs : List V)
  /-- a dict whose keys are ints and texts; one whose keys are tuples of ints and texts (the empty one is both) -/
  | dK (kvs : List (Key × V)) | dT (kvs : List (List Key × V))
  /-- a set of ints: its members, its size -/
  | set (S : Int → Bool) (n : Nat)
  /-- an instance of the class at C, its dict at dx, its attributes -/
  | ins (C dx : Addr) (fs : List (Str × V))
  /-- the dict of the instance at x -/
  | own (x : Addr)
  /-- the dict of an exception -/
  | xd (fs : List (Str × V))
  /-- a bound method, f of x -/
  | met (f x : Addr)
  /-- a range object lo, lo + 1, .. below hi -/
  | rng (lo hi : Int)
  /-- a thing that is known to the object (the script; a dict while a loop walks it): read, never written while it is so -/
  | frz (o : Obj) (u : HO)
  /-- a code object's table -/
  | tbl (ps : Array Value)
  /-- any other thing, by what is true of its one object (a def of one's own: SetO a S n := HO.ext fun h => ..) -/
  | ext (φ : Heap → Prop)

abbrev Hp := Addr → Option HO
def upd (H : Hp) (a : Addr) (o : HO) : Hp := fun b => if b = a then some o else H b
theorem upd_same {H : Hp} {a : Addr} {o : HO} : upd H a o a = some o := by unfold upd; rw [if_pos rfl]
theorem upd_ne {H : Hp} {a b : Addr} {o : HO} (h : b ≠ a) : upd H a o b = H b := by unfold upd; rw [if_neg h]
theorem ne_of_none {H : Hp} {a b : Addr} {o : HO} (h : H a = some o) (h' : H b = none) : a ≠ b := by
  intro e; subst e; rw [h] at h'; cases h'

section
variable (P : Program) (w : World)
def ObjOk (H : Hp) (h : Heap) (a : Addr) : HO → Prop
  | .lst xs => xs.length ≤ sizeLine ∧ ∃ (its : List Value) (n : Nat), Vals xs its ∧ h.get? a = some { cls := .type "list", data := .seq its.toArray n }
  | .tup xs => xs.length ≤ sizeLine ∧ ∃ its : List Value, Vals xs its ∧ IsTup h a its.toArray
  | .dK kvs => kvs.length ≤ sizeLine ∧ (a == sysModules) = false ∧ ∃ vs, KV kvs vs ∧ h.DictOf (mixKind P w) a vs
  | .dT kvs => kvs.length ≤ sizeLine ∧ (a == sysModules) = false ∧ ∃ xs : List (List Key × Addr × Value),
      Paired (fun (p : List Key × V) (q : List Key × Addr × Value) => p.1 = q.1 ∧ H q.2.1 = some (.tup (p.1.map kV)) ∧ RelV p.2 q.2.2) kvs xs ∧
      ∃ o es ep, h.get? a = some o ∧ o.ExactDict ∧ o.data = .dict es ep ∧ es.toList = xs.map (entryOfKey (tupleKind (mixKind P w))) ∧ (xs.map (·.1)).Nodup
  | .set S n => h.SetOf (intKind P w) a S n
  | .ins C dx fs => H dx = some (.own a) ∧ fs.length ≤ 1000 ∧ dx ≠ a ∧ h.get? a = some (PySem.W.instObj C dx) ∧
      ∃ mA, h.Ns1 dx mA ∧ (∀ f, RelO (fs.lookup f) (mA f)) ∧ PySem.Within mA (fs.map (·.1))
  | .own _ => ∃ o, h.get? a = some o
  | .xd fs => ∃ mA, h.Ns1 a mA ∧ ∀ f, RelO (fs.lookup f) (mA f)
  | .rng lo hi => ∃ t u v, h.get? a = some { cls := .type "range", data := .fields #[.int lo t, .int hi u, .int 1 v] }
  | .frz o u => h.get? a = some o ∧ ObjOk H h a u
  | .tbl ps => h.get? a = some { cls := .none, data := .fields ps }
  | .met f x => h.get? a = some (PySem.W.methodObj (.ref f) (.ref x))
  | .ext φ => φ h ∧ (∃ o, h.get? a = some o) ∧ ∀ h1 h2 : Heap, φ h1 → (∀ o, h1.get? a = some o → h2.get? a = some o) → φ h2
/-- the abstract heap is held -/
def HOk (H : Hp) (h : Heap) : Prop := ∀ a o, H a = some o → ObjOk P w H h a o
end

section
variable {P : Program} {w : World} {H H' : Hp} {h h' : Heap} {a : Addr} {o : HO}
theorem ObjOk.lt (x : ObjOk P w H h a o) : a < h.objs.size := by
  cases o with
  | lst xs => obtain ⟨_, _, _, _, e⟩ := x; exact Heap.lt_size e
  | tup xs => obtain ⟨_, _, _, p⟩ := x; exact p.lt
  | dK kvs => obtain ⟨_, _, _, _, o, _, _, e, _⟩ := x; exact Heap.lt_size e
  | dT kvs => obtain ⟨_, _, _, _, o, _, _, e, _⟩ := x; exact Heap.lt_size e
  | set S n => obtain ⟨o, _, _, _, e, _⟩ := x; exact Heap.lt_size e
  | ins C dx fs => obtain ⟨_, _, _, e, _⟩ := x; exact Heap.lt_size e
  | own y => obtain ⟨_, e⟩ := x; exact Heap.lt_size e
  | xd fs => obtain ⟨_, ⟨_, _, _, e, _⟩, _⟩ := x; exact Heap.lt_size e
  | rng lo hi => obtain ⟨_, _, _, e⟩ := x; exact Heap.lt_size e
  | frz ob u => obtain ⟨e, _⟩ := x; exact Heap.lt_size e
  | tbl ps => exact Heap.lt_size (show h.get? a = some _ from x)
  | met f y => exact Heap.lt_size (show h.get? a = some _ from x)
  | ext φ => obtain ⟨_, ⟨_, e⟩, _⟩ := x; exact Heap.lt_size e
theorem Paired.mapP {α β : Type} {F G : α → β → Prop} : ∀ {l₁ : List α} {l₂ : List β}, Paired F l₁ l₂ → (∀ a b, F a b → G a b) → Paired G l₁ l₂
  | _, _, .nil, _ => .nil
  | _, _, .cons r t, f => .cons (f _ _ r) (Paired.mapP t f)
/-- what an object's description leans on: its own object, its own dict, the tuples -/
theorem ObjOk.stay (x : ObjOk P w H h a o) (k : ∀ b u, (b = a ∨ H b = some (.own a)) → h.get? b = some u → h'.get? b = some u)
    (ho : ∀ b, H b = some (.own a) → H' b = some (.own a)) (ht : ∀ b xs, H b = some (.tup xs) → H' b = some (.tup xs)) : ObjOk P w H' h' a o := by
  induction o with
  | lst xs => obtain ⟨z, its, n, r, e⟩ := x; exact ⟨z, its, n, r, k _ _ (.inl rfl) e⟩
  | tup xs => obtain ⟨z, its, r, ob, e, c⟩ := x; exact ⟨z, its, r, ob, k _ _ (.inl rfl) e, c⟩
  | dK kvs => obtain ⟨z, y, vs, r, ob, es, ep, e, c⟩ := x; exact ⟨z, y, vs, r, ob, es, ep, k _ _ (.inl rfl) e, c⟩
  | dT kvs =>
    obtain ⟨z, y, xs, r, ob, es, ep, e, c⟩ := x
    exact ⟨z, y, xs, Paired.mapP r fun p q z => ⟨z.1, ht _ _ z.2.1, z.2.2⟩, ob, es, ep, k _ _ (.inl rfl) e, c⟩
  | set S n => obtain ⟨ob, es, ep, t, e, c⟩ := x; exact ⟨ob, es, ep, t, k _ _ (.inl rfl) e, c⟩
  | ins C dx fs =>
    obtain ⟨d, z, ne, e, mA, ⟨od, es, ep, e2, c⟩, r⟩ := x
    exact ⟨ho _ d, z, ne, k _ _ (.inl rfl) e, mA, ⟨od, es, ep, k _ _ (.inr d) e2, c⟩, r⟩
  | own y => obtain ⟨ob, e⟩ := x; exact ⟨ob, k _ _ (.inl rfl) e⟩
  | xd fs => obtain ⟨mA, ⟨od, es, ep, e, c⟩, r⟩ := x; exact ⟨mA, ⟨od, es, ep, k _ _ (.inl rfl) e, c⟩, r⟩
  | rng lo hi => obtain ⟨t, u, v, e⟩ := x; exact ⟨t, u, v, k _ _ (.inl rfl) e⟩
  | frz ob u ih => obtain ⟨e, q⟩ := x; exact ⟨k _ _ (.inl rfl) e, ih q⟩
  | tbl ps =>
    have e : h.get? a = some { cls := .none, data := .fields ps } := x
    show h'.get? a = some { cls := .none, data := .fields ps }
    exact k a _ (.inl rfl) e
  | met f y =>
    have e : h.get? a = some (PySem.W.methodObj (.ref f) (.ref y)) := x
    show h'.get? a = some (PySem.W.methodObj (.ref f) (.ref y))
    exact k a _ (.inl rfl) e
  | ext φ => obtain ⟨p, ⟨o, e⟩, st⟩ := x; exact ⟨st _ _ p fun o q => k _ _ (.inl rfl) q, ⟨o, k _ _ (.inl rfl) e⟩, st⟩
theorem HOk.lt (x : HOk P w H h) (e : H a = some o) : a < h.objs.size := (x a o e).lt
theorem HOk.fresh (x : HOk P w H h) (e : h.objs.size ≤ a) : H a = none := by
  cases q : H a with
  | none => rfl
  | some u => exact absurd (Nat.lt_of_lt_of_le (x.lt q) e) (Nat.lt_irrefl _)
/-- every object of the heap is kept -/
theorem HOk.kept (x : HOk P w H h) (k : ∀ b u, h.get? b = some u → h'.get? b = some u) : HOk P w H h' := fun a o e =>
  (x a o e).stay (fun b u _ q => k b u q) (fun _ q => q) fun _ _ q => q
/-- a new object is laid and tracked -/
theorem HOk.laid (x : HOk P w H h) (k : ∀ b u, h.get? b = some u → h'.get? b = some u) (hp : h.objs.size ≤ a) (new : ObjOk P w (upd H a o) h' a o) : HOk P w (upd H a o) h' := fun b u e => by
  have hn := x.fresh hp
  by_cases hb : b = a
  · subst hb; rw [upd_same] at e; cases e; exact new
  · rw [upd_ne hb] at e
    exact (x b u e).stay (fun c v _ q => k c v q) (fun c q => by rw [upd_ne (ne_of_none q hn)]; exact q) fun c xs q => by rw [upd_ne (ne_of_none q hn)]; exact q
end

/-- what may be read as u: it is u, or a known u -/
def Rd (H : Hp) (a : Addr) (u : HO) : Prop := H a = some u ∨ ∃ o, H a = some (.frz o u)
theorem Rd.of {H : Hp} {a : Addr} {u : HO} (h : H a = some u) : Rd H a u := .inl h
theorem Rd.ok {P : Program} {w : World} {H : Hp} {h : Heap} {a : Addr} {u : HO} (r : Rd H a u) (x : HOk P w H h) : ObjOk P w H h a u := by
  rcases r with r | ⟨o, r⟩
  · exact x a u r
  · obtain ⟨_, q⟩ := x a _ r
    exact q
/-- what may be written -/
def Mut : Option HO → Prop
  | some (.lst _) => True
  | some (.dK _) => True
  | some (.dT _) => True
  | some (.set _ _) => True
  | some (.ins _ _ _) => True
  | some (.ext _) => True
  | _ => False
section
variable {P : Program} {w : World} {H : Hp} {h h' : Heap} {x e : Addr} {o' : HO}
/-- the object at e is changed: x itself, or the dict of the instance x -/
theorem HOk.write (ok : HOk P w H h) (mu : Mut (H x)) (he : e = x ∨ H e = some (.own x)) (k : ∀ b u, b ≠ e → h.get? b = some u → h'.get? b = some u) (heo : ∃ u, h'.get? e = some u)
    (new : ObjOk P w (upd H x o') h' x o') : HOk P w (upd H x o') h' := fun b u q => by
  have nown : ∀ c y, H c = some (.own y) → c ≠ x := fun c y r z => by subst z; rw [r] at mu; exact mu
  have ntup : ∀ c xs, H c = some (.tup xs) → c ≠ x := fun c xs r z => by subst z; rw [r] at mu; exact mu
  by_cases hb : b = x
  · subst hb; rw [upd_same] at q; cases q; exact new
  · rw [upd_ne hb] at q
    by_cases hbe : b = e
    · have q' : H b = some (.own x) := by
        rcases he with z | z
        · exact absurd (hbe.trans z) hb
        · rw [hbe]; exact z
      rw [q] at q'; cases q'
      obtain ⟨v, hv⟩ := heo
      exact ⟨v, by rw [hbe]; exact hv⟩
    · refine (ok b u q).stay (fun c v hc r => k c v ?_ r) (fun c r => by rw [upd_ne (nown c b r)]; exact r) fun c xs r => by rw [upd_ne (ntup c xs r)]; exact r
      rcases hc with rfl | hc
      · exact hbe
      · rintro rfl
        rcases he with z | z
        · exact nown c b hc z
        · rw [hc] at z; cases z; exact hb rfl
end

/-! ### kept unless tracked; of the frames at fs (the callers') the slots may change (an exception that passes writes there); of the records at ex (iterators) nothing is said -/
structure Un (fs ex : List Addr) (H H' : Hp) (h h' : Heap) : Prop where
  keep : ∀ b o, h.get? b = some o → H b = none → b ∉ fs → b ∉ ex → h'.get? b = some o
  slot : ∀ b o, h.get? b = some o → H b = none → b ∈ fs → b ∉ ex → ∃ sl, h'.get? b = some { o with slots := sl }
  free : ∀ b o, h.get? b = some o → H b = none → b ∉ ex → H' b = none
  there : ∀ b o, h.get? b = some o → b ∉ ex → ∃ o', h'.get? b = some o'
  tups : ∀ b xs, H b = some (.tup xs) → H' b = some (.tup xs)
  frzs : ∀ b o u, H b = some (.frz o u) → H' b = some (.frz o u)
  tbls : ∀ b ps, H b = some (.tbl ps) → ∃ more, H' b = some (.tbl (ps ++ more))
section
variable {fs fs' ex ex' : List Addr} {H H1 H2 : Hp} {h h1 h2 h' : Heap} {a x e : Addr} {o : HO}
theorem Un.any (u : Un fs ex H H1 h h1) {b : Addr} {ob : Obj} (q : h.get? b = some ob) (n : H b = none) (hx : b ∉ ex) : ∃ sl, h1.get? b = some { ob with slots := sl } := by
  by_cases hb : b ∈ fs
  · exact u.slot b ob q n hb hx
  · exact ⟨ob.slots, u.keep b ob q n hb hx⟩
theorem Un.trans (a : Un fs ex H H1 h h1) (b : Un fs ex H1 H2 h1 h2) : Un fs ex H H2 h h2 where
  keep := fun c ob q n hc hx => b.keep c ob (a.keep c ob q n hc hx) (a.free c ob q n hx) hc hx
  slot := fun c ob q n hc hx => by
    obtain ⟨sl, e1⟩ := a.slot c ob q n hc hx
    obtain ⟨sl', e2⟩ := b.slot c _ e1 (a.free c ob q n hx) hc hx
    exact ⟨sl', e2⟩
  free := fun c ob q n hx => by
    obtain ⟨o', e1⟩ := a.there c ob q hx
    exact b.free c o' e1 (a.free c ob q n hx) hx
  there := fun c ob q hx => by
    obtain ⟨o', e1⟩ := a.there c ob q hx
    exact b.there c o' e1 hx
  tups := fun c xs q => b.tups c xs (a.tups c xs q)
  frzs := fun c ob xs q => b.frzs c ob xs (a.frzs c ob xs q)
  tbls := fun c ps q => by
    obtain ⟨m1, e1⟩ := a.tbls c ps q
    obtain ⟨m2, e2⟩ := b.tbls c _ e1
    exact ⟨m1 ++ m2, by rw [e2, Array.append_assoc]⟩
theorem Un.kept (k : ∀ b u, h.get? b = some u → h'.get? b = some u) : Un fs ex H H h h' :=
  ⟨fun b ob q _ _ _ => k b ob q, fun b ob q _ _ _ => ⟨ob.slots, k b ob q⟩, fun _ _ _ n _ => n, fun b ob q _ => ⟨ob, k b ob q⟩, fun _ _ q => q, fun _ _ _ q => q, fun _ ps q => ⟨#[], by rw [q]; simp⟩⟩
theorem Un.refl : Un fs ex H H h h := Un.kept fun _ _ q => q
theorem Un.laid (k : ∀ b u, h.get? b = some u → h'.get? b = some u) (hp : h.objs.size ≤ a) (hn : H a = none) : Un fs ex H (upd H a o) h h' where
  keep := fun b u q _ _ _ => k b u q
  slot := fun b u q _ _ _ => ⟨u.slots, k b u q⟩
  free := fun b u q n _ => by rw [upd_ne (Nat.ne_of_lt (Nat.lt_of_lt_of_le (Heap.lt_size q) hp))]; exact n
  there := fun b u q _ => ⟨u, k b u q⟩
  tups := fun b xs q => by rw [upd_ne (ne_of_none q hn)]; exact q
  frzs := fun b u xs q => by rw [upd_ne (ne_of_none q hn)]; exact q
  tbls := fun b ps q => ⟨#[], by rw [upd_ne (ne_of_none q hn), q]; simp⟩
theorem Un.write (mu : Mut (H x)) (he : e = x ∨ H e = some (.own x)) (k : ∀ b u, b ≠ e → h.get? b = some u → h'.get? b = some u) (heo : ∃ u, h'.get? e = some u) : Un fs ex H (upd H x o) h h' := by
  have hx : ∀ b, H b = none → b ≠ x := fun b n z => by subst z; rw [n] at mu; exact mu
  have hb : ∀ b, H b = none → b ≠ e := fun b n z => by
    subst z
    rcases he with r | r
    · exact hx b n r
    · rw [n] at r; cases r
  have hm : ∀ b u, H b = some u → ¬ Mut (some u) → b ≠ x := fun b u q nm z => by subst z; rw [q] at mu; exact nm mu
  refine ⟨fun b u q n _ _ => k b u (hb b n) q, fun b u q n _ _ => ⟨u.slots, k b u (hb b n) q⟩, fun b u q n _ => by rw [upd_ne (hx b n)]; exact n, fun b u q _ => ?_,
    fun b xs q => by rw [upd_ne (hm b _ q fun z => z)]; exact q, fun b u xs q => by rw [upd_ne (hm b _ q fun z => z)]; exact q, fun b ps q => ⟨#[], by rw [upd_ne (hm b _ q fun z => z), q]; simp⟩⟩
  by_cases hbe : b = e
  · subst hbe; exact heo
  · exact ⟨u, k b u hbe q⟩
theorem Un.mono (u : Un fs ex H H1 h h1) (hs : ∀ b ∈ fs, b ∈ fs') (hx : ∀ b ∈ ex, b ∈ ex') : Un fs' ex' H H1 h h1 :=
  ⟨fun b ob q n hb he => u.keep b ob q n (fun z => hb (hs b z)) fun z => he (hx b z), fun _ _ q n _ he => u.any q n fun z => he (hx _ z), fun b ob q n he => u.free b ob q n fun z => he (hx b z), fun b ob q he => u.there b ob q fun z => he (hx b z), u.tups, u.frzs, u.tbls⟩
end

/-! ### the heap without what is tracked -/
def trk (h : Heap) (H : Hp) : List Addr := (List.range h.objs.size).filter fun a => (H a).isSome
def hidT (h : Heap) (H : Hp) : Heap := PySem.W.hideAll h (trk h H)
theorem hidT_size (h : Heap) (H : Hp) : (hidT h H).objs.size = h.objs.size := PySem.W.hideAll_size _ _
theorem hidT_get {h : Heap} {H : Hp} {b : Addr} {o : Obj} (e : h.get? b = some o) (n : H b = none) : (hidT h H).get? b = some o :=
  PySem.W.hideAll_get _ e fun hm => by
    have q : (H b).isSome = true := (List.mem_filter.mp hm).2
    rw [n] at q; simp at q
theorem of_hidT {h : Heap} {H : Hp} {b : Addr} {o : Obj} (e : (hidT h H).get? b = some o) : h.get? b = some o ∧ H b = none := by
  have e' : h.get? b = some o := PySem.W.of_hideAll (trk h H) e
  refine ⟨e', ?_⟩
  cases q : H b with
  | none => rfl
  | some x =>
    have hm : b ∈ trk h H := List.mem_filter.mpr ⟨List.mem_range.mpr (Heap.lt_size e'), by simp [q]⟩
    have z : (hidT h H).get? b = none := PySem.W.hideAll_none (trk h H) hm
    rw [z] at e; cases e

/-! ### OpenK's ledger, filled with every new object but one -/
def allNews (g h : Heap) (L : Addr) : List (Addr × Obj) := (List.range h.objs.size).filterMap fun a => if a = L ∨ (g.get? a).isSome = true then none else (h.get? a).map fun o => (a, o)
def rest (g h : Heap) (L d : Addr) : List (Addr × Obj) := (allNews g h L).filter fun p => decide (p.1 ≠ d)
end L2

namespace L2
open PySem PySem.Spec PyProof.Rows

/-- the module's facts, over the base: the heap at the law's entry without what is tracked there -/
structure Mod (K : PySem.W.Frag) (mg : Str → Option Value) (base : Heap) : Prop where
  kin : K.In base
  glob : base.Ns mainGlobals mg
  blt : ∃ mb, base.Ns builtinsNs mb ∧ ∀ x : Str, x ≠ "__name__" → mb x = bootBuiltins x
  nolimit : base.NoLimit

/-- the context: a def's body (or a comprehension's block) running. base: fixed through the whole law; s₀, H₀: the entry; outer: the frames whose slots others may change (a def's callers); stack: all frames that run;
   ex: iterators that were made ahead of the entry and are walked here (a comprehension's); fn: the names whose cells were made at the entry (a def: all; a comprehension's block: its own); calm: not within an except suite; pn: pins that every state bears; xe: what is wanted of an exception that leaves the code -/
structure Cx where
  prog : Program
  w : World
  K : PySem.W.Frag
  mg : Str → Option Value
  base : Heap
  A : Around
  N : List Str
  s₀ : Shared
  H₀ : Hp
  env : Env
  outer : List Env
  stack : List Env
  ex : List Addr
  fn : Str → Bool
  calm : Bool
  pn : List (Addr × Obj)
  xe : Value → Shared → Prop
/-- the callers' frames -/
def frs (l : List Env) : List Addr := l.filterMap (·.frame)
abbrev Cx.fs (X : Cx) : List Addr := frs X.outer

def Vis (sc : Scope) (x : Str) : Prop := sc.names.lookup x = some .local ∨ sc.names.lookup x = some .cell ∨ sc.names.lookup x = some .free
def Loc (sc : Scope) (x : Str) : Prop := sc.names.lookup x = some .local ∨ sc.names.lookup x = some .cell
def Look (env : Env) (h : Heap) (m : Str → Option Value) (x : Str) (u : Value) : Prop :=
  (env.kindOf x = some .local ∧ m x = some u) ∨ ((env.kindOf x = some .cell ∨ env.kindOf x = some .free) ∧ ∃ c, env.cells.lookup x = some c ∧ h.IsCell c (some u))

structure Cx.Ok (X : Cx) : Prop where
  mod : Mod X.K X.mg X.base
  kind : X.env.scope.kind = .function
  glob : X.env.globals = mainGlobals
  blt : X.env.builtins = builtinsNs
  above : X.s₀.heap.objs.size ≤ X.env.locals
  inj : ∀ x y c, X.env.cells.lookup x = some c → X.env.cells.lookup y = some c → x = y
  has : ∀ x, (X.env.kindOf x = some .cell ∨ X.env.kindOf x = some .free) → ∃ c, X.env.cells.lookup x = some c
  cab : ∀ x c, X.fn x = true → X.env.cells.lookup x = some c → X.s₀.heap.objs.size ≤ c
  hd : X.calm = true → X.A.handled = none
  frames : X.A.frames = some X.stack
  stk : X.stack = X.outer ∨ (X.stack = X.env :: X.outer ∧ X.env.frame = some X.env.locals)
  exf : ∀ b ∈ X.ex, b ≠ X.env.locals ∧ ∀ x c, X.env.cells.lookup x = some c → c ≠ b
  bs : ∀ b o, X.base.get? b = some o → X.s₀.heap.get? b = some o ∧ X.H₀ b = none
  bsz : X.base.objs.size ≤ X.s₀.heap.objs.size
  noex : ∀ b o, X.base.get? b = some o → b ∉ X.ex
  exfs : ∀ b ∈ X.ex, b ∉ X.fs
  funs : X.s₀.heap.FunFrames X.base X.outer
  frf : ∀ b ∈ X.fs, X.H₀ b = none

structure Inv (X : Cx) (pins : List (Addr × Obj)) (σ : List (Option V)) (H : Hp) (s : Shared) : Prop where
  ok : X.Ok
  os : s.os = X.s₀.os
  bare : AllBare s.gens
  base : Un X.fs X.ex X.H₀ H X.s₀.heap s.heap
  loc : ∃ m, s.heap.Ns X.env.locals m ∧ ∀ (i : Nat) (x : Str) (v : V), X.N[i]? = some x → σ[i]? = some (some v) → Vis X.env.scope x → ∃ u, RelV v u ∧ Look X.env s.heap m x u
  cell : ∀ x c, X.env.cells.lookup x = some c → ∃ v, s.heap.IsCell c v
  free : H X.env.locals = none
  freeC : ∀ x c, X.env.cells.lookup x = some c → H c = none
  pin : ∀ p ∈ X.pn ++ pins, s.heap.get? p.1 = some p.2 ∧ H p.1 = none ∧ p.1 ≠ X.env.locals ∧ p.1 ∉ X.fs ∧ ∀ v, p.2.data ≠ .cell v
  hok : HOk X.prog X.w H s.heap
  len : σ.length = X.N.length

section
variable {X : Cx} {pins : List (Addr × Obj)} {σ : List (Option V)} {H H' : Hp} {s : Shared} {h' : Heap}

theorem Cx.Ok.nofr (ok : X.Ok) {b : Addr} {o : Obj} (e : X.base.get? b = some o) : b ∉ X.fs := fun hb => by
  have := (ok.funs.mem hb).1
  rw [e] at this; cases this
theorem Inv.bs (I : Inv X pins σ H s) : ∀ b o, X.base.get? b = some o → s.heap.get? b = some o ∧ H b = none := fun b o e =>
  ⟨I.base.keep b o (I.ok.bs b o e).1 (I.ok.bs b o e).2 (I.ok.nofr e) (I.ok.noex b o e), I.base.free b o (I.ok.bs b o e).1 (I.ok.bs b o e).2 (I.ok.noex b o e)⟩
theorem Inv.bk (I : Inv X pins σ H s) : ∀ b o, X.base.get? b = some o → s.heap.get? b = some o := fun b o e => (I.bs b o e).1
theorem Inv.mod (I : Inv X pins σ H s) : Mod X.K X.mg X.base := I.ok.mod
theorem Inv.kIn (I : Inv X pins σ H s) : X.K.In s.heap := I.ok.mod.kin.keeps I.bk
theorem Inv.nolimit (I : Inv X pins σ H s) : s.heap.NoLimit := I.ok.mod.nolimit.keeps I.bk
/-- the frame over the base: for OpenK's rules (K.In X.base is I.mod.kin) -/
theorem Inv.fr (I : Inv X pins σ H s) : ∃ m, Fr X.base X.env.locals s.heap m :=
  let ⟨m, hn, _⟩ := I.loc
  ⟨m, hn, I.bk, Nat.le_trans I.ok.bsz I.ok.above⟩
theorem Inv.lt (I : Inv X pins σ H s) : X.env.locals < s.heap.objs.size := let ⟨_, hn, _⟩ := I.loc; hn.lt
theorem Inv.sz (I : Inv X pins σ H s) : X.s₀.heap.objs.size ≤ s.heap.objs.size := Nat.le_trans I.ok.above (Nat.le_of_lt I.lt)
theorem Inv.nofs (I : Inv X pins σ H s) {a : Addr} (h : s.heap.objs.size ≤ a) : a ∉ X.fs := fun hb => by
  obtain ⟨_, o, ho, _⟩ := I.ok.funs.mem hb
  exact absurd (Nat.lt_of_lt_of_le (Heap.lt_size ho) (Nat.le_trans I.sz h)) (Nat.lt_irrefl _)
theorem Inv.cne (I : Inv X pins σ H s) : ∀ x c, X.env.cells.lookup x = some c → c ≠ X.env.locals := fun x c e z => by
  obtain ⟨v, o, ho, hd⟩ := I.cell x c e
  obtain ⟨m, ⟨o', es, ep, ho', hd', _⟩, _⟩ := I.loc
  rw [z, ho'] at ho; cases ho; rw [hd'] at hd; cases hd
theorem Inv.funs (I : Inv X pins σ H s) : s.heap.FunFrames X.base X.outer := by
  have all : ∀ (l : List Env), (∀ b ∈ frs l, b ∈ X.fs) → X.s₀.heap.FunFrames X.base l → s.heap.FunFrames X.base l := by
    intro l
    induction l with
    | nil => intro _ _; trivial
    | cons env r ih =>
      intro hs hl
      obtain ⟨hk, ⟨L, o, hf, hn, ho, hd⟩, hr⟩ := hl
      have hL : L ∈ X.fs := hs L (by unfold frs; rw [List.filterMap_cons, hf]; exact List.mem_cons_self)
      obtain ⟨sl, e⟩ := I.base.slot L o ho (I.ok.frf L hL) hL fun z => I.ok.exfs L z hL
      exact ⟨hk, ⟨L, _, hf, hn, e, hd⟩, ih (fun b hb => hs b (by unfold frs; rw [List.filterMap_cons, hf]; exact List.mem_cons_of_mem _ hb)) hr⟩
  exact all X.outer (fun _ hb => hb) I.ok.funs

/-- the frames that run, for a call -/
theorem Inv.stack (I : Inv X pins σ H s) : s.heap.FunFrames X.base X.stack := by
  rcases I.ok.stk with e | ⟨e, hf⟩
  · rw [e]; exact I.funs
  · rw [e]
    obtain ⟨m, hn, _⟩ := I.loc
    refine .cons (by rw [I.ok.kind]; decide) hf hn ?_ I.funs
    exact Heap.get?_none_of_le (Nat.le_trans I.ok.bsz I.ok.above)
theorem Inv.stkSub (I : Inv X pins σ H s) : ∀ b ∈ frs X.stack, b ∈ X.env.locals :: X.fs := fun b hb => by
  rcases I.ok.stk with e | ⟨e, hf⟩
  · rw [e] at hb; exact List.mem_cons_of_mem _ hb
  · rw [e] at hb
    unfold frs at hb
    rw [List.filterMap_cons, hf] at hb
    exact hb
theorem Inv.stkFree (I : Inv X pins σ H s) : ∀ b ∈ frs X.stack, H b = none := fun b hb => by
  rcases List.mem_cons.mp (I.stkSub b hb) with e | hb
  · rw [e]; exact I.free
  · obtain ⟨_, o, ho, _⟩ := I.ok.funs.mem hb
    exact I.base.free b o ho (I.ok.frf b hb) fun z => I.ok.exfs b z hb

/-- THE STEP: the untracked objects but the frame and the records at ch are kept (the callers' frames up to slots), the frame's map is kept, the new abstract heap is held -/
theorem Inv.step {g' : Array GenState} {t' : Nat} {d' : Drawn} {ch : List Addr} (I : Inv X pins σ H s)
    (hch : ∀ b ∈ ch, (b ∈ X.ex ∨ X.s₀.heap.objs.size ≤ b) ∧ b ≠ X.env.locals ∧ (∀ x c, X.env.cells.lookup x = some c → c ≠ b) ∧ ∀ p ∈ X.pn ++ pins, p.1 ≠ b)
    (keep : ∀ b o, b ≠ X.env.locals → b ∉ X.fs → b ∉ ch → s.heap.get? b = some o → H b = none → h'.get? b = some o)
    (slot : ∀ b o, b ≠ X.env.locals → b ∈ X.fs → b ∉ ch → s.heap.get? b = some o → H b = none → ∃ sl, h'.get? b = some { o with slots := sl }) (free : ∀ b o, b ∉ ch → s.heap.get? b = some o → H b = none → H' b = none)
    (there : ∀ b o, b ∉ ch → s.heap.get? b = some o → ∃ o', h'.get? b = some o')
    (tups : ∀ b xs, H b = some (.tup xs) → H' b = some (.tup xs)) (frzs : ∀ b o u, H b = some (.frz o u) → H' b = some (.frz o u)) (tbls : ∀ b ps, H b = some (.tbl ps) → ∃ more, H' b = some (.tbl (ps ++ more)))
    (ns : ∀ m, s.heap.Ns X.env.locals m → h'.Ns X.env.locals m) (hok : HOk X.prog X.w H' h') (hg : AllBare g') :
    Inv X pins σ H' { s with heap := h', gens := g', drawn := d', toks := t' } := by
  have neL : ∀ b o, X.s₀.heap.get? b = some o → b ≠ X.env.locals := fun b o e => Nat.ne_of_lt (Nat.lt_of_lt_of_le (Heap.lt_size e) I.ok.above)
  have neC : ∀ b o, X.s₀.heap.get? b = some o → b ∉ X.ex → b ∉ ch := fun b o e hx hb => by
    rcases (hch b hb).1 with z | z
    · exact hx z
    · exact absurd (Nat.lt_of_lt_of_le (Heap.lt_size e) z) (Nat.lt_irrefl _)
  have cellK : ∀ x c, X.env.cells.lookup x = some c → ∀ v, s.heap.IsCell c v → h'.IsCell c v := fun x c e v ⟨o, ho, hd⟩ => by
    have nch : c ∉ ch := fun z => (hch c z).2.2.1 x c e rfl
    by_cases hc : c ∈ X.fs
    · obtain ⟨sl, q⟩ := slot c o (I.cne x c e) hc nch ho (I.freeC x c e)
      exact ⟨_, q, hd⟩
    · exact ⟨o, keep c o (I.cne x c e) hc nch ho (I.freeC x c e), hd⟩
  refine ⟨I.ok, I.os, hg, ⟨fun b o e n hb hx => ?_, fun b o e n hb hx => ?_, fun b o e n hx => ?_, fun b o e hx => ?_, fun b xs e => tups b xs (I.base.tups b xs e), fun b o xs e => frzs b o xs (I.base.frzs b o xs e), fun b ps e => ?_⟩, ?_, fun x c e => ?_, ?_, fun x c e => ?_, fun p hp => ?_, hok, I.len⟩
  · exact keep b o (neL b o e) hb (neC b o e hx) (I.base.keep b o e n hb hx) (I.base.free b o e n hx)
  · obtain ⟨sl, e1⟩ := I.base.slot b o e n hb hx
    obtain ⟨sl', e2⟩ := slot b _ (neL b o e) hb (neC b o e hx) e1 (I.base.free b o e n hx)
    exact ⟨sl', e2⟩
  · obtain ⟨o', e1⟩ := I.base.there b o e hx
    exact free b o' (neC b o e hx) e1 (I.base.free b o e n hx)
  · obtain ⟨o', e1⟩ := I.base.there b o e hx
    exact there b o' (neC b o e hx) e1
  · obtain ⟨m1, e1⟩ := I.base.tbls b ps e
    obtain ⟨m2, e2⟩ := tbls b _ e1
    exact ⟨m1 ++ m2, by rw [e2, Array.append_assoc]⟩
  · obtain ⟨m, hn, hl⟩ := I.loc
    refine ⟨m, ns m hn, fun i x v e1 e2 e3 => ?_⟩
    obtain ⟨u, r, l⟩ := hl i x v e1 e2 e3
    refine ⟨u, r, ?_⟩
    rcases l with l | ⟨k, c, e, z⟩
    · exact .inl l
    · exact .inr ⟨k, c, e, cellK x c e _ z⟩
  · obtain ⟨v, z⟩ := I.cell x c e
    exact ⟨v, cellK x c e v z⟩
  · obtain ⟨m, ⟨o, _, _, ho, _⟩, _⟩ := I.loc
    exact free _ o (fun z => (hch _ z).2.1 rfl) ho I.free
  · obtain ⟨v, o, ho, hd⟩ := I.cell x c e
    exact free c o (fun z => (hch c z).2.2.1 x c e rfl) ho (I.freeC x c e)
  · obtain ⟨e, n, ne, nf, d⟩ := I.pin p hp
    have nch : p.1 ∉ ch := fun z => (hch p.1 z).2.2.2 p hp rfl
    exact ⟨keep p.1 p.2 ne nf nch e n, free p.1 p.2 nch e n, ne, nf, d⟩
/-- .. where the frame's own object is kept too -/
theorem Inv.un {t' : Nat} (I : Inv X pins σ H s) (u : Un X.fs [] H H' s.heap h') (hok : HOk X.prog X.w H' h') : Inv X pins σ H' { s with heap := h', toks := t' } := by
  obtain ⟨m, ⟨o, es, ep, ho, r⟩, _⟩ := id I.loc
  obtain ⟨sl, hL⟩ := u.any ho I.free (by simp)
  exact I.step (g' := s.gens) (d' := s.drawn) (ch := []) (fun _ z => nomatch z) (fun b o _ hb _ e n => u.keep b o e n hb (by simp)) (fun b o _ hb _ e n => u.slot b o e n hb (by simp)) (fun b o _ e n => u.free b o e n (by simp)) (fun b o _ e => u.there b o e (by simp)) u.tups u.frzs u.tbls (fun m' hm => by
    obtain ⟨o', es', ep', ho', r'⟩ := hm
    rw [ho] at ho'; cases ho'
    exact ⟨_, es', ep', hL, r'⟩) hok I.bare
/-- behind a call (or a comprehension's block): the slots of this frame may have changed too, the records at ch may have turned -/
theorem Inv.call {g' : Array GenState} {t' : Nat} {d' : Drawn} {ch : List Addr} (I : Inv X pins σ H s) (u : Un (frs X.stack) ch H H' s.heap h') (hok : HOk X.prog X.w H' h') (hg : AllBare g')
    (hch : ∀ b ∈ ch, (b ∈ X.ex ∨ X.s₀.heap.objs.size ≤ b) ∧ b ≠ X.env.locals ∧ (∀ x c, X.env.cells.lookup x = some c → c ≠ b) ∧ ∀ p ∈ X.pn ++ pins, p.1 ≠ b) :
    Inv X pins σ H' { s with heap := h', gens := g', drawn := d', toks := t' } := by
  obtain ⟨m, ⟨o, es, ep, ho, r⟩, _⟩ := id I.loc
  obtain ⟨sl, hL⟩ := u.any ho I.free fun z => (hch _ z).2.1 rfl
  exact I.step (ch := ch) hch (fun b o hL hb hc e n => u.keep b o e n (fun z => (List.mem_cons.mp (I.stkSub b z)).elim hL hb) hc) (fun b o _ _ hc e n => u.any e n hc) (fun b o hc e n => u.free b o e n hc) (fun b o hc e => u.there b o e hc) u.tups u.frzs u.tbls (fun m' hm => by
    obtain ⟨o', es', ep', ho', r'⟩ := hm
    rw [ho] at ho'; cases ho'
    exact ⟨_, es', ep', hL, r'⟩) hok hg
/-- an untracked record of ours (an iterator) has turned -/
theorem Inv.turned {t' : Nat} {it : Addr} (I : Inv X pins σ H s) (k : ∀ b o, b ≠ it → s.heap.get? b = some o → h'.get? b = some o) (hn : H it = none) (hL : it ≠ X.env.locals)
    (h1 : it ∈ X.ex ∨ X.s₀.heap.objs.size ≤ it) (h2 : ∀ x c, X.env.cells.lookup x = some c → c ≠ it) (h3 : ∀ p ∈ X.pn ++ pins, p.1 ≠ it) : Inv X pins σ H { s with heap := h', toks := t' } := by
  have nit : ∀ b u, H b = some u → b ≠ it := fun b u e z => by rw [z, hn] at e; cases e
  refine I.step (g' := s.gens) (d' := s.drawn) (ch := [it]) (fun b hb => ?_) (fun b o _ _ hc e _ => k b o (fun z => hc (by simp [z])) e) (fun b o _ _ hc e _ => ⟨o.slots, k b o (fun z => hc (by simp [z])) e⟩) (fun _ _ _ _ n => n)
    (fun b o hc e => ⟨o, k b o (fun z => hc (by simp [z])) e⟩) (fun _ _ e => e) (fun _ _ _ e => e) (fun b ps e => ⟨#[], by rw [e]; simp⟩) (fun m hm => ?_) (fun b u e => ?_) I.bare
  · have e : b = it := by simpa using hb
    subst e
    exact ⟨h1, hL, h2, h3⟩
  · obtain ⟨o, es, ep, ho, r⟩ := hm
    exact ⟨o, es, ep, k _ o (Ne.symm hL) ho, r⟩
  · refine (I.hok b u e).stay (fun c v hc q => k c v ?_ q) (fun _ q => q) fun _ _ q => q
    rcases hc with z | z
    · rw [z]; exact nit b u e
    · exact nit c _ z
theorem Inv.tok (I : Inv X pins σ H s) (t : Nat) : Inv X pins σ H { s with toks := t } := I.un (h' := s.heap) (t' := t) Un.refl I.hok
/-- all objects kept -/
theorem Inv.kept {t' : Nat} (I : Inv X pins σ H s) (k : ∀ b u, s.heap.get? b = some u → h'.get? b = some u) : Inv X pins σ H { s with heap := h', toks := t' } := I.un (Un.kept k) (I.hok.kept k)
/-- a new object laid and tracked -/
theorem Inv.laid {a : Addr} {o : HO} {t' : Nat} (I : Inv X pins σ H s) (k : ∀ b u, s.heap.get? b = some u → h'.get? b = some u) (hp : s.heap.objs.size ≤ a) (new : ObjOk X.prog X.w (upd H a o) h' a o) :
    Inv X pins σ (upd H a o) { s with heap := h', toks := t' } := I.un (Un.laid k hp (I.hok.fresh hp)) (I.hok.laid k hp new)
/-- an object written -/
theorem Inv.write {x e : Addr} {o : HO} {t' : Nat} (I : Inv X pins σ H s) (mu : Mut (H x)) (he : e = x ∨ H e = some (.own x)) (k : ∀ b u, b ≠ e → s.heap.get? b = some u → h'.get? b = some u) (heo : ∃ u, h'.get? e = some u)
    (new : ObjOk X.prog X.w (upd H x o) h' x o) : Inv X pins σ (upd H x o) { s with heap := h', toks := t' } := I.un (Un.write mu he k heo) (I.hok.write mu he k heo new)
theorem Inv.pins_of {pins' : List (Addr × Obj)} (I : Inv X pins σ H s) (h : ∀ p ∈ pins', s.heap.get? p.1 = some p.2 ∧ H p.1 = none ∧ p.1 ≠ X.env.locals ∧ p.1 ∉ X.fs ∧ ∀ v, p.2.data ≠ .cell v) : Inv X pins' σ H s :=
  ⟨I.ok, I.os, I.bare, I.base, I.loc, I.cell, I.free, I.freeC, fun p hp => (List.mem_append.mp hp).elim (fun z => I.pin p (List.mem_append_left _ z)) (h p), I.hok, I.len⟩

theorem nodup_ix {N : List Str} (hN : N.Nodup) {i j : Nat} {x : Str} (a : N[i]? = some x) (b : N[j]? = some x) : i = j := by
  obtain ⟨h1, e1⟩ := List.getElem?_eq_some_iff.mp a
  obtain ⟨h2, e2⟩ := List.getElem?_eq_some_iff.mp b
  exact (List.getElem_inj hN).mp (e1.trans e2.symm)

/-- a name is stored; what changed -/
theorem store_ok2 {M : Model} {A : Around} {E : Value → Shared → Prop} {i : Nat} {x : Str} {v : V} {u : Value} {Q : Unit → Shared → Prop} (I : Inv X pins σ H s) (hN : X.N.Nodup) (hi : X.N[i]? = some x) (hx : Loc X.env.scope x) (r : RelV v u)
    (h : ∀ s', Inv X pins (σ.set i (some v)) H s' → (∃ a, Heap.SameBut a s.heap s'.heap ∧ (a = X.env.locals ∨ X.env.cells.lookup x = some a)) → Q () s') (hf : X.fn x = true ∨ X.env.scope.names.lookup x = some .local := by first | exact .inl rfl | exact .inr rfl | assumption) : wpAny M A (storeName X.env x u) Q E s := by
  obtain ⟨m, hn, hl⟩ := id I.loc
  have hcls : (X.env.scope.kind == .class || (X.env.scope.kind == .module && X.env.locals != X.env.globals)) = false := by rw [I.ok.kind]; rfl
  have hiσ : i < σ.length := by rw [I.len]; exact (List.getElem?_eq_some_iff.mp hi).1
  have cne := I.cne
  have tracked : ∀ {a : Addr} {h' : Heap}, (∃ o, s.heap.get? a = some o ∧ H a = none) → Heap.SameBut a s.heap h' → HOk X.prog X.w H h' := fun {a h'} ha hs b ob e => by
    obtain ⟨_, _, hfree⟩ := ha
    refine (I.hok b ob e).stay (fun c w' hc q => (hs.2 c ?_).trans q) (fun _ q => q) fun _ _ q => q
    rintro rfl
    rcases hc with rfl | hc
    · rw [hfree] at e; cases e
    · rw [hfree] at hc; cases hc
  rcases hx with hk | hk
  · refine wpAny_storeName_local hk hn (fun h' hn' hs => ?_) hcls
    obtain ⟨oL, _, _, hoL, _⟩ := id hn
    refine h _ ⟨I.ok, I.os, I.bare, ⟨fun b o e n hb hx => ?_, fun b o e n hb hx => ?_, I.base.free, fun b o e hx => ?_, I.base.tups, I.base.frzs, I.base.tbls⟩, ⟨_, hn', fun j y v' e1 e2 e3 => ?_⟩, fun y c e => ?_, I.free, I.freeC, fun p hp => ?_, tracked ⟨oL, hoL, I.free⟩ hs, by simpa using I.len⟩ ⟨_, hs, .inl rfl⟩
    · exact (hs.2 b (Nat.ne_of_lt (Nat.lt_of_lt_of_le (Heap.lt_size e) I.ok.above))).trans (I.base.keep b o e n hb hx)
    · obtain ⟨sl, e1⟩ := I.base.slot b o e n hb hx
      exact ⟨sl, (hs.2 b (Nat.ne_of_lt (Nat.lt_of_lt_of_le (Heap.lt_size e) I.ok.above))).trans e1⟩
    · obtain ⟨o', e1⟩ := I.base.there b o e hx
      exact ⟨o', (hs.2 b (Nat.ne_of_lt (Nat.lt_of_lt_of_le (Heap.lt_size e) I.ok.above))).trans e1⟩
    · by_cases hj : j = i
      · subst hj
        rw [hi] at e1; cases e1
        rw [List.getElem?_set_self hiσ] at e2
        cases e2
        exact ⟨u, r, .inl ⟨hk, by simp⟩⟩
      · rw [List.getElem?_set_ne (Ne.symm hj)] at e2
        obtain ⟨u', r', q⟩ := hl j y v' e1 e2 e3
        refine ⟨u', r', ?_⟩
        rcases q with ⟨k, e⟩ | ⟨k, c, e, z⟩
        · refine .inl ⟨k, ?_⟩
          have : y ≠ x := fun e => hj (nodup_ix hN e1 (e ▸ hi))
          simp [this, e]
        · exact .inr ⟨k, c, e, z.sameBut hs (cne y c e)⟩
    · obtain ⟨w', z⟩ := I.cell y c e
      exact ⟨w', z.sameBut hs (cne y c e)⟩
    · obtain ⟨e, n, ne, nf, d⟩ := I.pin p hp
      exact ⟨(hs.2 p.1 ne).trans e, n, ne, nf, d⟩
  · have hfn : X.fn x = true := by
      rcases hf with z | z
      · exact z
      · rw [z] at hk; cases hk
    obtain ⟨c, hc⟩ := I.ok.has x (.inl hk)
    obtain ⟨w', z⟩ := I.cell x c hc
    refine wpAny_storeName_cell I.ok.kind hk hc z (fun h' hc' hs => ?_)
    obtain ⟨oc, hoc, hocd⟩ := id z
    refine h { s with heap := h' } ⟨I.ok, I.os, I.bare, ⟨fun b o e n hb hx => ?_, fun b o e n hb hx => ?_, I.base.free, fun b o e hx => ?_, I.base.tups, I.base.frzs, I.base.tbls⟩, ⟨m, hn.sameBut hs (Ne.symm (cne x c hc)), fun j y v' e1 e2 e3 => ?_⟩, fun y c' e => ?_, I.free, I.freeC, fun p hp => ?_, tracked ⟨oc, hoc, I.freeC x c hc⟩ hs, by simpa using I.len⟩ ⟨c, hs, .inr hc⟩
    · exact (hs.2 b (Nat.ne_of_lt (Nat.lt_of_lt_of_le (Heap.lt_size e) (I.ok.cab x c hfn hc)))).trans (I.base.keep b o e n hb hx)
    · obtain ⟨sl, e1⟩ := I.base.slot b o e n hb hx
      exact ⟨sl, (hs.2 b (Nat.ne_of_lt (Nat.lt_of_lt_of_le (Heap.lt_size e) (I.ok.cab x c hfn hc)))).trans e1⟩
    · obtain ⟨o', e1⟩ := I.base.there b o e hx
      exact ⟨o', (hs.2 b (Nat.ne_of_lt (Nat.lt_of_lt_of_le (Heap.lt_size e) (I.ok.cab x c hfn hc)))).trans e1⟩
    · by_cases hj : j = i
      · subst hj
        rw [hi] at e1; cases e1
        rw [List.getElem?_set_self hiσ] at e2
        cases e2
        exact ⟨u, r, .inr ⟨.inl hk, c, hc, hc'⟩⟩
      · rw [List.getElem?_set_ne (Ne.symm hj)] at e2
        obtain ⟨u', r', q⟩ := hl j y v' e1 e2 e3
        refine ⟨u', r', ?_⟩
        rcases q with q | ⟨k, c', e, z'⟩
        · exact .inl q
        · refine .inr ⟨k, c', e, z'.sameBut hs ?_⟩
          rintro rfl
          exact hj (nodup_ix hN e1 (I.ok.inj _ _ _ e hc ▸ hi))
    · by_cases hcc : c' = c
      · subst hcc; exact ⟨_, hc'⟩
      · obtain ⟨w2, z2⟩ := I.cell y c' e
        exact ⟨w2, z2.sameBut hs hcc⟩
    · obtain ⟨e, n, ne, nf, d⟩ := I.pin p hp
      refine ⟨(hs.2 p.1 ?_).trans e, n, ne, nf, d⟩
      intro q
      rw [q, hoc] at e
      have q' : oc = p.2 := Option.some.inj e
      exact d w' (by rw [← q']; exact hocd)
theorem store_ok {M : Model} {A : Around} {E : Value → Shared → Prop} {i : Nat} {x : Str} {v : V} {u : Value} {Q : Unit → Shared → Prop} (I : Inv X pins σ H s) (hN : X.N.Nodup) (hi : X.N[i]? = some x) (hx : Loc X.env.scope x) (r : RelV v u)
    (h : ∀ s', Inv X pins (σ.set i (some v)) H s' → Q () s') (hf : X.fn x = true ∨ X.env.scope.names.lookup x = some .local := by first | exact .inl rfl | exact .inr rfl | assumption) : wpAny M A (storeName X.env x u) Q E s :=
  store_ok2 I hN hi hx r (fun s' I' _ => h s' I') hf
/-- behind a call or a block, the state as it is -/
theorem Inv.call' {s' : Shared} {ch : List Addr} (I : Inv X pins σ H s) (ho : s'.os = s.os) (u : Un (frs X.stack) ch H H' s.heap s'.heap) (hok : HOk X.prog X.w H' s'.heap) (hg : AllBare s'.gens)
    (hch : ∀ b ∈ ch, (b ∈ X.ex ∨ X.s₀.heap.objs.size ≤ b) ∧ b ≠ X.env.locals ∧ (∀ x c, X.env.cells.lookup x = some c → c ≠ b) ∧ ∀ p ∈ X.pn ++ pins, p.1 ≠ b) : Inv X pins σ H' s' := by
  obtain ⟨h', g', d', t', o'⟩ := s'
  have e : o' = s.os := ho
  subst e
  exact I.call (g' := g') (t' := t') (d' := d') u hok hg hch
end

/-! ### the judgements -/
/-- an exception: its class, its own dict's address (where it has one), the abstract heap behind it -/
abbrev XK := Value → Option Addr → Hp → Prop
abbrev St := List (Option V)
abbrev VK := V → Hp → Prop
/-- an expression's reading; a test's; an argument list's -/
abbrev TE := St → Hp → VK → Prop
abbrev TT := St → Hp → (Bool → Hp → Prop) → Prop
abbrev TA := St → Hp → (List V → Hp → Prop) → Prop
/-- what is wanted behind a statement -/
structure Ends where
  nx : St → Hp → Prop
  rt : VK
  bk : St → Hp → Prop := fun _ _ => False
  ct : St → Hp → Prop := fun _ _ => False
abbrev TS := Ends → St → Hp → Prop

def EP (X : Cx) (pins : List (Addr × Obj)) (σ : St) (Q : VK) (u : Value) (s' : Shared) : Prop := ∃ v H', Inv X pins σ H' s' ∧ RelV v u ∧ Q v H'
def TP (X : Cx) (pins : List (Addr × Obj)) (σ : St) (Q : Bool → Hp → Prop) (b : Bool) (s' : Shared) : Prop := ∃ H', Inv X pins σ H' s' ∧ Q b H'
def AP (X : Cx) (pins : List (Addr × Obj)) (σ : St) (Q : List V → Hp → Prop) (us : List Value) (s' : Shared) : Prop := ∃ vs H', Inv X pins σ H' s' ∧ Vals vs us ∧ Q vs H'
def SP (X : Cx) (pins : List (Addr × Obj)) (D : Ends) (f : Flow) (s' : Shared) : Prop :=
  match f with
  | .next => ∃ σ' H', Inv X pins σ' H' s' ∧ D.nx σ' H'
  | .brk => ∃ σ' H', Inv X pins σ' H' s' ∧ D.bk σ' H'
  | .cont => ∃ σ' H', Inv X pins σ' H' s' ∧ D.ct σ' H'
  | .ret u => ∃ v σ' H', Inv X pins σ' H' s' ∧ RelV v u ∧ D.rt v H'

def PE (X : Cx) (e : Expr) (t : TE) : Prop :=
  ∀ (pins : List (Addr × Obj)) (s : Shared) (σ : St) (H : Hp) (Q : VK), Inv X pins σ H s → t σ H Q → wpAny (model X.prog X.w) X.A (eval e X.env) (EP X pins σ Q) X.xe s
def PT (X : Cx) (e : Expr) (t : TT) : Prop :=
  ∀ (pins : List (Addr × Obj)) (s : Shared) (σ : St) (H : Hp) (Q : Bool → Hp → Prop), Inv X pins σ H s → t σ H Q → wpAny (model X.prog X.w) X.A (isTrue e X.env (eval e X.env)) (TP X pins σ Q) X.xe s
/-- a test whatever its 'whole' is (and, or) -/
def PW (X : Cx) (e : Expr) (t : TT) : Prop :=
  ∀ (whole : Sem Value) (pins : List (Addr × Obj)) (s : Shared) (σ : St) (H : Hp) (Q : Bool → Hp → Prop), Inv X pins σ H s → t σ H Q → wpAny (model X.prog X.w) X.A (isTrue e X.env whole) (TP X pins σ Q) X.xe s
theorem PW.pt {X : Cx} {e : Expr} {t : TT} (h : PW X e t) : PT X e t := h _
/-- an argument list (no star), from the left -/
def PA (X : Cx) (es : List Expr) (t : TA) : Prop :=
  ∀ (pos : Pos) (pins : List (Addr × Obj)) (s : Shared) (σ : St) (H : Hp) (Q : List V → Hp → Prop), Inv X pins σ H s → t σ H Q → wpAny (model X.prog X.w) X.A (spliced (backTo pos (starEach es X.env))) (AP X pins σ Q) X.xe s
def PS (X : Cx) (st : Stmt) (t : TS) : Prop :=
  ∀ (pins : List (Addr × Obj)) (s : Shared) (σ : St) (H : Hp) (D : Ends), Inv X pins σ H s → t D σ H → wpAny (model X.prog X.w) X.A (exec st X.env) (SP X pins D) X.xe s
def PSs (X : Cx) (st : List Stmt) (t : TS) : Prop :=
  ∀ (pins : List (Addr × Obj)) (s : Shared) (σ : St) (H : Hp) (D : Ends), Inv X pins σ H s → t D σ H → wpAny (model X.prog X.w) X.A (execs st X.env) (SP X pins D) X.xe s
/-- weaken the end -/
theorem thn {α : Type} {t : Sem α} {Q Q' : α → Shared → Prop} {M : Model} {A : Around} {E : Value → Shared → Prop} {s : Shared} (h : wpAny M A t Q E s) (hQ : ∀ a s, Q a s → Q' a s) : wpAny M A t Q' E s := wpAny_mono h hQ fun _ _ x => x
end L2

namespace L2
open PySem PySem.Spec PyProof.Rows
section
variable {X : Cx}

/-! ### names and constants -/
def tVar (i : Nat) : TE := fun σ H Q => ∃ v, σ[i]? = some (some v) ∧ Q v H
def tC (v : V) : TE := fun _ H Q => Q v H
theorem pe_var {i : Nat} {x : Str} {pos : Pos} (hN : X.N[i]? = some x) (hv : Vis X.env.scope x) (hd : (x == ("__debug__" : Str)) = false := by decide) (hcd : (x == ("__classdict__" : Str)) = false := by decide) : PE X (.Name x pos) (tVar i) := by
  intro pins s σ H Q I h
  obtain ⟨v, e, h⟩ := h
  obtain ⟨m, hn, hl⟩ := I.loc
  obtain ⟨u, r, l⟩ := hl i x v hN e hv
  have fin : EP X pins σ Q u s := ⟨v, H, I, r, h⟩
  rcases l with ⟨hk, hm⟩ | ⟨hk, c, hc, hcell⟩
  · exact wpAny_Name (wpAny_loadName_local I.ok.kind hk hn hm fin) hd
  · rcases hk with hk | hk
    · exact wpAny_Name (wpAny_loadName_cell I.ok.kind hk hc hcell fin) hd
    · exact wpAny_Name (wpAny_loadName_free I.ok.kind hk hc hcell fin hcd) hd
theorem pe_int {i j pos} : PE X (.Constant (.int i) j pos) (tC (.int i)) := fun _ _ _ H _ I h => wpAny_Constant_int ⟨.int i, H, I.tok _, ⟨_, rfl⟩, h⟩
theorem pe_bl {b j pos} : PE X (.Constant (.bool b) j pos) (tC (.bl b)) := fun _ _ _ H _ I h => Constant_bool ⟨.bl b, H, I, rfl, h⟩
theorem pe_str {x j pos} : PE X (.Constant (.str x) j pos) (tC (.str x)) := fun _ _ _ H _ I h => Calls.Constant_str ⟨.str x, H, I.tok _, ⟨_, rfl⟩, h⟩

/-- a global name of the def -/
def Gl (X : Cx) (x : Str) : Prop := X.env.kindOf x = some .globalImplicit
theorem ld_glob {E : Value → Shared → Prop} {pins : List (Addr × Obj)} {s : Shared} {σ : St} {H : Hp} {x : Str} {u : Value} {pos : Pos} {Q : Value → Shared → Prop} (I : Inv X pins σ H s) (hg : Gl X x) (hm : X.mg x = some u) (h : Q u s)
    (hd : (x == ("__debug__" : Str)) = false := by decide) : wpAny (model X.prog X.w) X.A (eval (.Name x pos) X.env) Q E s :=
  Calls.Name_function_global I.ok.kind hg (Calls.loadGlobal_global (by rw [I.ok.glob]; exact I.mod.glob.keeps I.bk) hm h) hd
theorem ld_blt {E : Value → Shared → Prop} {pins : List (Addr × Obj)} {s : Shared} {σ : St} {H : Hp} {x : Str} {u : Value} {pos : Pos} {Q : Value → Shared → Prop} (I : Inv X pins σ H s) (hg : Gl X x) (hm : X.mg x = none) (hv : bootBuiltins x = some u) (h : Q u s)
    (hn : x ≠ "__name__" := by decide) (hd : (x == ("__debug__" : Str)) = false := by decide) : wpAny (model X.prog X.w) X.A (eval (.Name x pos) X.env) Q E s := by
  obtain ⟨mb, h1, h2⟩ := I.mod.blt
  exact Calls.Name_function_global I.ok.kind hg (Calls.loadGlobal_builtin (by rw [I.ok.glob]; exact I.mod.glob.keeps I.bk) hm (by rw [I.ok.blt]; exact h1.keeps I.bk) ((h2 x hn).trans hv) h) hd
/-- a module's constant, a class, a function, as a value -/
theorem pe_glob {x : Str} {v : V} {u : Value} {pos : Pos} (hg : Gl X x) (hm : X.mg x = some u) (r : RelV v u) (hd : (x == ("__debug__" : Str)) = false := by decide) : PE X (.Name x pos) (tC v) :=
  fun _ _ _ H _ I h => ld_glob I hg hm ⟨v, H, I, r, h⟩ hd
theorem pe_bltn {x : Str} {v : V} {u : Value} {pos : Pos} (hg : Gl X x) (hm : X.mg x = none) (hv : bootBuiltins x = some u) (r : RelV v u) (hn : x ≠ "__name__" := by decide) (hd : (x == ("__debug__" : Str)) = false := by decide) : PE X (.Name x pos) (tC v) :=
  fun _ _ _ H _ I h => ld_blt I hg hm hv ⟨v, H, I, r, h⟩ hn hd

/-! ### arithmetic -/
variable {a b : Expr} {ta tb : TE} {pos : Pos}
/-! ### comparisons -/
def PC (X : Cx) (op : CmpOp) (a b : Expr) (t : TE) : Prop :=
  ∀ (pins : List (Addr × Obj)) (s : Shared) (σ : St) (H : Hp) (Q : VK), Inv X pins σ H s → t σ H Q →
    wpAny (model X.prog X.w) X.A (eval a X.env) (fun v s₁ => wpAny (model X.prog X.w) X.A (eval b X.env) (fun u s₂ => wpAny (model X.prog X.w) X.A (compareOp op v u) (EP X pins σ Q) X.xe s₂) X.xe s₁) X.xe s
theorem nobehind (b : Expr) {op : CmpOp} (h : op ≠ .In) (h2 : op ≠ .NotIn) : behindInMarks op b = false := by
  have e1 : (op == CmpOp.In) = false := by cases op <;> first | rfl | exact absurd rfl h
  have e2 : (op == CmpOp.NotIn) = false := by cases op <;> first | rfl | exact absurd rfl h2
  cases b <;> simp [behindInMarks, e1, e2]
/-- a comparison as a value, as a test -/
def tB (t : TE) : TT := fun σ H Q => t σ H fun x H1 => ∃ c, x = .bl c ∧ Q c H1
theorem pe_cmp {op : CmpOp} {t : TE} (h : PC X op a b t) (h1 : behindInMarks op b = false := by first | exact nobehind _ (by decide) (by decide) | rfl) : PE X (.Compare a [op] [b] pos) t := fun pins s σ H Q I hw => wpAny_Compare1 (h pins s σ H Q I hw) h1
/-- an expression whose value is a bool, as a test -/
theorem pt_val {e : Expr} {t : TE} (h : PE X e t) (he : ∀ whole, isTrue e X.env whole = (do let v ← whole; standAt e.pos; holding [v] (truthy v)) := by intro _; rfl) : PT X e (tB t) := by
  intro pins s σ H Q I hw
  refine isTrue_plain (thn (h pins s σ H _ I hw) fun v s1 ⟨x, H1, I1, r1, q1⟩ => ?_) (he _)
  obtain ⟨d, rfl, q⟩ := q1
  cases r1
  exact wpAny_truthy_bool ⟨H1, I1, q⟩

/-! ### and, or, not -/
variable {tA tB' : TT} {rest : List Expr}
def tAnd (t u : TT) : TT := fun σ H Q => t σ H fun c H1 => if c = true then u σ H1 Q else Q false H1
def tOr (t u : TT) : TT := fun σ H Q => t σ H fun c H1 => if c = true then Q true H1 else u σ H1 Q
def tNot (t : TT) : TT := fun σ H Q => t σ H fun c H1 => Q (!c) H1
theorem pw_and1 (ha : PT X a tA) : PW X (.BoolOp .And [a] pos) tA := by
  intro wh pins s σ H Q I h
  refine isTrue_and (thn (ha pins s σ H Q I h) fun c s1 e => ?_)
  cases c with
  | true => exact isTrue_and_nil e
  | false => exact e
theorem pw_or1 (ha : PT X a tA) : PW X (.BoolOp .Or [a] pos) tA := by
  intro wh pins s σ H Q I h
  refine isTrue_or (thn (ha pins s σ H Q I h) fun c s1 e => ?_)
  cases c with
  | false => exact isTrue_or_nil e
  | true => exact e
theorem pw_and (ha : PT X a tA) (hb : PW X (.BoolOp .And (b :: rest) pos) tB') : PW X (.BoolOp .And (a :: b :: rest) pos) (tAnd tA tB') := by
  intro wh pins s σ H Q I h
  refine isTrue_and (thn (ha pins s σ H _ I h) fun c s1 ⟨H1, I1, q1⟩ => ?_)
  cases c with
  | true => exact hb wh pins s1 σ H1 Q I1 q1
  | false => exact ⟨H1, I1, q1⟩
theorem pw_or (ha : PT X a tA) (hb : PW X (.BoolOp .Or (b :: rest) pos) tB') : PW X (.BoolOp .Or (a :: b :: rest) pos) (tOr tA tB') := by
  intro wh pins s σ H Q I h
  refine isTrue_or (thn (ha pins s σ H _ I h) fun c s1 ⟨H1, I1, q1⟩ => ?_)
  cases c with
  | true => exact ⟨H1, I1, q1⟩
  | false => exact hb wh pins s1 σ H1 Q I1 q1
theorem pt_not (ha : PT X a tA) : PT X (.UnaryOp .Not a pos) (tNot tA) := by
  intro pins s σ H Q I h
  exact isTrue_not (ha pins s σ H (fun c H1 => Q (!c) H1) I h)
/-- .. as values (bools) -/
def tAndV (ta tb : TE) : TE := fun σ H Q => ta σ H fun x H1 => ∃ c, x = .bl c ∧ if c = true then tb σ H1 Q else Q (.bl false) H1
def tOrV (ta tb : TE) : TE := fun σ H Q => ta σ H fun x H1 => ∃ c, x = .bl c ∧ if c = true then Q (.bl true) H1 else tb σ H1 Q
theorem pe_one {op} {t : TE} (h : PE X a t) : PE X (.BoolOp op [a] pos) t := fun pins s σ H Q I hw => BoolOp_one (h pins s σ H Q I hw)
theorem pe_and (ha : PE X a ta) (hb : PE X (.BoolOp .And (b :: rest) pos) tb) : PE X (.BoolOp .And (a :: b :: rest) pos) (tAndV ta tb) := by
  intro pins s σ H Q I h
  refine BoolOp_and (thn (ha pins s σ H _ I h) fun v s1 ⟨x, H1, I1, r1, q1⟩ => ?_)
  obtain ⟨c, rfl, q1⟩ := q1
  cases r1
  refine wpAny_truthy_bool ?_
  cases c with
  | true => exact hb pins s1 σ H1 Q I1 q1
  | false => exact ⟨.bl false, H1, I1, rfl, q1⟩
theorem pe_or (ha : PE X a ta) (hb : PE X (.BoolOp .Or (b :: rest) pos) tb) : PE X (.BoolOp .Or (a :: b :: rest) pos) (tOrV ta tb) := by
  intro pins s σ H Q I h
  refine BoolOp_or (thn (ha pins s σ H _ I h) fun v s1 ⟨x, H1, I1, r1, q1⟩ => ?_)
  obtain ⟨c, rfl, q1⟩ := q1
  cases r1
  refine wpAny_truthy_bool ?_
  cases c with
  | false => exact hb pins s1 σ H1 Q I1 q1
  | true => exact ⟨.bl true, H1, I1, rfl, q1⟩
/-- a if t else b -/
def tIf (t : TT) (ta tb : TE) : TE := fun σ H Q => t σ H fun c H1 => if c = true then ta σ H1 Q else tb σ H1 Q
theorem pe_ifExp {c : Expr} (hc : PT X c tA) (ha : PE X a ta) (hb : PE X b tb) : PE X (.IfExp c a b pos) (tIf tA ta tb) := by
  intro pins s σ H Q I h
  refine wpAny_IfExp (thn (hc pins s σ H _ I h) fun d s1 ⟨H1, I1, q1⟩ => ?_)
  cases d with
  | true => exact ha pins s1 σ H1 Q I1 q1
  | false => exact hb pins s1 σ H1 Q I1 q1
end
end L2

namespace L2
open PySem PySem.Spec PyProof.Rows

/-! ### a list, a tuple that is read: tracked, frozen, or an object of the module -/
def SqL (K : PySem.W.Frag) (H : Hp) (a : Addr) (xs : List V) : Prop :=
  Rd H a (.lst xs) ∨
    ∃ (o : Obj) (its : Array Value) (n : Nat), K.lookup a = some o ∧ o.cls = .type "list" ∧ o.dict = none ∧ o.data = .seq its n ∧ its.size ≤ sizeLine ∧ Vals xs its.toList
def SqT (K : PySem.W.Frag) (H : Hp) (a : Addr) (xs : List V) : Prop :=
  Rd H a (.tup xs) ∨
    ∃ (o : Obj) (its : Array Value) (n : Nat), K.lookup a = some o ∧ o.cls = .type "tuple" ∧ o.data = .seq its n ∧ its.size ≤ sizeLine ∧ Vals xs its.toList
def absV : Value → Option V
  | .none => some .non
  | .bool b => some (.bl b)
  | .int i _ => some (.int i)
  | .str x _ => some (.str x)
  | .bytes b _ => some (.byt b)
  | .float b _ => some (.flt b)
  | .ref a => some (.ref a)
  | .type n => some (.ty n)
  | _ => none
theorem RelV.abs {x : V} {u : Value} (r : RelV x u) : absV u = some x := by
  cases x with
  | non => cases r; rfl
  | bl _ => cases r; rfl
  | int _ => obtain ⟨t, rfl⟩ := r; rfl
  | str _ => obtain ⟨t, rfl⟩ := r; rfl
  | byt _ => obtain ⟨t, rfl⟩ := r; rfl
  | flt _ => obtain ⟨t, rfl⟩ := r; rfl
  | ref _ => cases r; rfl
  | ty _ => cases r; rfl
theorem RelV.inj {x y : V} {u : Value} (r : RelV x u) (q : RelV y u) : x = y := Option.some.inj (r.abs.symm.trans q.abs)
theorem Vals.inj : ∀ {xs ys : List V} {us : List Value}, Vals xs us → Vals ys us → xs = ys
  | _, _, _, .nil, .nil => rfl
  | _, _, _, .cons r t, .cons r' t' => by rw [r.inj r', Vals.inj t t']
section
variable {X : Cx} {pins : List (Addr × Obj)} {σ : St} {H : Hp} {s : Shared} {a : Addr} {xs ys : List V}
theorem SqL.of {K : PySem.W.Frag} (h : H a = some (.lst xs)) : SqL K H a xs := .inl (.inl h)
theorem SqT.of {K : PySem.W.Frag} (h : H a = some (.tup xs)) : SqT K H a xs := .inl (.inl h)
theorem Inv.list (I : Inv X pins σ H s) (h : SqL X.K H a xs) : ∃ its : List Value, Vals xs its ∧ PlainL s.heap a its.toArray ∧ xs.length ≤ sizeLine := by
  rcases h with h | ⟨o, its, n, hk, hc, hd, hs, hz, r⟩
  · obtain ⟨z, its, n, r, e⟩ := h.ok I.hok
    exact ⟨its, r, ⟨_, n, e, rfl, rfl, rfl⟩, z⟩
  · refine ⟨its.toList, r, ⟨o, n, I.kIn a o hk, hc, hd, by simpa using hs⟩, ?_⟩
    have e := r.length
    simp only [Array.length_toList] at e
    omega
theorem Inv.tuple (I : Inv X pins σ H s) (h : SqT X.K H a xs) : ∃ its : List Value, Vals xs its ∧ IsTup s.heap a its.toArray ∧ xs.length ≤ sizeLine := by
  rcases h with h | ⟨o, its, n, hk, hc, hs, hz, r⟩
  · obtain ⟨z, its, r, p⟩ := h.ok I.hok
    exact ⟨its, r, p, z⟩
  · refine ⟨its.toList, r, ⟨o, I.kIn a o hk, hc, n, by simpa using hs⟩, ?_⟩
    have e := r.length
    simp only [Array.length_toList] at e
    omega
theorem Inv.list_inj (I : Inv X pins σ H s) (h : SqL X.K H a xs) (h' : SqL X.K H a ys) : xs = ys := by
  obtain ⟨its, r, ⟨o, n, e, _, _, d⟩, _⟩ := I.list h
  obtain ⟨its', r', ⟨o', n', e', _, _, d'⟩, _⟩ := I.list h'
  rw [e] at e'; cases e'
  rw [d] at d'
  injection d' with d1 _
  have : its = its' := by simpa using congrArg Array.toList d1
  subst this
  exact r.inj r'
theorem Inv.tuple_inj (I : Inv X pins σ H s) (h : SqT X.K H a xs) (h' : SqT X.K H a ys) : xs = ys := by
  obtain ⟨its, r, ⟨o, e, _, n, d⟩, _⟩ := I.tuple h
  obtain ⟨its', r', ⟨o', e', _, n', d'⟩, _⟩ := I.tuple h'
  rw [e] at e'; cases e'
  rw [d] at d'
  injection d' with d1 _
  have : its = its' := by simpa using congrArg Array.toList d1
  subst this
  exact r.inj r'
end

/-! ### another wish about exceptions -/
abbrev Cx.wish (X : Cx) (E : Value → Shared → Prop) : Cx := { X with xe := E }
/-- no exception leaves -/
abbrev Cx.nox (X : Cx) : Cx := X.wish fun _ _ => False
theorem Cx.Ok.wish {X : Cx} (ok : X.Ok) (E : Value → Shared → Prop) : (X.wish E).Ok :=
  ⟨ok.mod, ok.kind, ok.glob, ok.blt, ok.above, ok.inj, ok.has, ok.cab, ok.hd, ok.frames, ok.stk, ok.exf, ok.bs, ok.bsz, ok.noex, ok.exfs, ok.funs, ok.frf⟩
theorem Cx.Ok.unwish {X : Cx} {E : Value → Shared → Prop} (ok : (X.wish E).Ok) : X.Ok :=
  ⟨ok.mod, ok.kind, ok.glob, ok.blt, ok.above, ok.inj, ok.has, ok.cab, ok.hd, ok.frames, ok.stk, ok.exf, ok.bs, ok.bsz, ok.noex, ok.exfs, ok.funs, ok.frf⟩
section
variable {X : Cx} {pins : List (Addr × Obj)} {σ : St} {H : Hp} {s : Shared} {E : Value → Shared → Prop}
theorem Inv.wish (I : Inv X pins σ H s) (E : Value → Shared → Prop) : Inv (X.wish E) pins σ H s := ⟨I.ok.wish E, I.os, I.bare, I.base, I.loc, I.cell, I.free, I.freeC, I.pin, I.hok, I.len⟩
theorem Inv.unwish (I : Inv (X.wish E) pins σ H s) : Inv X pins σ H s := ⟨I.ok.unwish, I.os, I.bare, I.base, I.loc, I.cell, I.free, I.freeC, I.pin, I.hok, I.len⟩
theorem SP.unwish {D : Ends} {f : Flow} {s' : Shared} (h : SP (X.wish E) pins D f s') : SP X pins D f s' := by
  cases f with
  | next => obtain ⟨σ', H', I, q⟩ := h; exact ⟨σ', H', I.unwish, q⟩
  | brk => obtain ⟨σ', H', I, q⟩ := h; exact ⟨σ', H', I.unwish, q⟩
  | cont => obtain ⟨σ', H', I, q⟩ := h; exact ⟨σ', H', I.unwish, q⟩
  | ret u => obtain ⟨v, σ', H', I, r, q⟩ := h; exact ⟨v, σ', H', I.unwish, r, q⟩
theorem PE.nox {e : Expr} {t : TE} (h : PE X.nox e t) : PE X e t := fun pins s σ H Q I hw =>
  wpAny_mono (h pins s σ H Q (I.wish _) hw) (fun _ _ ⟨v, H', I', r, q⟩ => ⟨v, H', I'.unwish, r, q⟩) fun _ _ z => False.elim z
theorem PT.nox {e : Expr} {t : TT} (h : PT X.nox e t) : PT X e t := fun pins s σ H Q I hw =>
  wpAny_mono (h pins s σ H Q (I.wish _) hw) (fun _ _ ⟨H', I', q⟩ => ⟨H', I'.unwish, q⟩) fun _ _ z => False.elim z
theorem PSs.nox {st : List Stmt} {t : TS} (h : PSs X.nox st t) : PSs X st t := fun pins s σ H D I hw =>
  wpAny_mono (h pins s σ H D (I.wish _) hw) (fun _ _ q => q.unwish) fun _ _ z => False.elim z
end

/-! ### blocks and small statements -/
section
variable {X : Cx} {st : Stmt} {rest : List Stmt} {t u : TS} {e : Expr} {te : TE} {pos : Pos}
def tNext : TS := fun D σ H => D.nx σ H
def tSeq (t u : TS) : TS := fun D σ H => t { D with nx := u D } σ H
theorem pss_nil : PSs X [] tNext := fun _ _ σ H _ I h => wpAny_execs_nil ⟨σ, H, I, h⟩
theorem pss_cons (h1 : PS X st t) (h2 : PSs X rest u) : PSs X (st :: rest) (tSeq t u) := by
  intro pins s σ H D I h
  refine wpAny_execs_cons (thn (h1 pins s σ H { D with nx := u D } I h) fun f s1 q => ?_)
  cases f with
  | next =>
    obtain ⟨σ', H', I', q⟩ := q
    exact h2 pins s1 σ' H' D I' q
  | ret v => exact q
  | brk => exact q
  | cont => exact q
theorem pss_one (h1 : PS X st t) : PSs X [st] t := by
  intro pins s σ H D I h
  refine wpAny_execs_cons (thn (h1 pins s σ H D I h) fun f s1 q => ?_)
  cases f with
  | next => exact wpAny_execs_nil q
  | ret v => exact q
  | brk => exact q
  | cont => exact q
/-- in a def's body nothing is shown -/
theorem Inv.quiet {pins : List (Addr × Obj)} {σ : St} {H : Hp} {s : Shared} (I : Inv X pins σ H s) : interactive X.env = false := by simp [interactive, I.ok.kind]
/-- an expression whose value is dropped -/
def tDrop (te : TE) : TS := fun D σ H => te σ H fun _ H1 => D.nx σ H1
theorem ps_expr (he : PE X e te) (hs : swapsWith e none pos.line X.env = pure false := by rfl) : PS X (.Expr e pos) (tDrop te) := by
  intro pins s σ H D I h
  exact wpAny_Expr_any (thn (he pins s σ H _ I h) fun v s1 ⟨x, H1, I1, r1, q1⟩ => ⟨σ, H1, I1, q1⟩) I.quiet hs
def tRet (te : TE) : TS := fun D σ H => te σ H D.rt
theorem ps_ret (he : PE X e te) : PS X (.Return (some e) pos) (tRet te) := by
  intro pins s σ H D I h
  exact wpAny_Return_some (thn (he pins s σ H _ I h) fun v s1 ⟨x, H1, I1, r1, q1⟩ => ⟨x, σ, H1, I1, r1, q1⟩)
def tIfS (c : TT) (t u : TS) : TS := fun D σ H => c σ H fun b H1 => if b = true then t D σ H1 else u D σ H1
theorem ps_if {c : Expr} {a b : List Stmt} {tc : TT} (hc : PT X c tc) (ha : PSs X a t) (hb : PSs X b u) : PS X (.If c a b pos) (tIfS tc t u) := by
  intro pins s σ H D I h
  refine wpAny_If (thn (hc pins s σ H _ I h) fun d s1 ⟨H1, I1, q1⟩ => ?_)
  cases d with
  | true => exact ha pins s1 σ H1 D I1 q1
  | false => exact hb pins s1 σ H1 D I1 q1
/-- code that the proof never comes to -/
def tNever : TS := fun _ _ _ => False
theorem ps_never : PS X st tNever := fun _ _ _ _ _ _ h => h.elim
end

/-! ### targets -/
abbrev TG := V → St → Hp → (St → Hp → Prop) → Prop
abbrev TGs := List V → St → Hp → (St → Hp → Prop) → Prop
def PG (X : Cx) (target : Expr) (t : TG) : Prop :=
  ∀ (pins : List (Addr × Obj)) (s : Shared) (σ : St) (H : Hp) (v : V) (u : Value) (Q : St → Hp → Prop), Inv X pins σ H s → RelV v u → t v σ H Q →
    wpAny (model X.prog X.w) X.A (assign target X.env u) (fun _ s' => ∃ σ' H', Inv X pins σ' H' s' ∧ Q σ' H') X.xe s
/-- several targets, one after another -/
def PGs (X : Cx) (ts : List Expr) (t : TGs) : Prop :=
  ∀ (pins : List (Addr × Obj)) (s : Shared) (σ : St) (H : Hp) (vs : List V) (us : List Value) (Q : St → Hp → Prop), Inv X pins σ H s → Vals vs us → t vs σ H Q →
    wpAny (model X.prog X.w) X.A (assignInOrder ((assignEach ts X.env).map (·.2)) us) (fun _ s' => ∃ σ' H', Inv X pins σ' H' s' ∧ Q σ' H') X.xe s
section
variable {X : Cx} {pos : Pos}
def gName (i : Nat) : TG := fun v σ H Q => Q (σ.set i (some v)) H
theorem pg_name {i : Nat} {x : Str} (hN : X.N.Nodup) (hi : X.N[i]? = some x) (hx : Loc X.env.scope x) (hf : X.fn x = true ∨ X.env.scope.names.lookup x = some .local := by first | exact .inl rfl | exact .inr rfl | assumption) : PG X (.Name x pos) (gName i) := by
  intro pins s σ H v u Q I r h
  exact wpAny_assign_Name (store_ok I hN hi hx r (fun s' I' => ⟨_, H, I', h⟩) hf)
def gNil : TGs := fun vs σ H Q => vs = [] ∧ Q σ H
def gCons (t : TG) (u : TGs) : TGs := fun vs σ H Q => ∃ v r, vs = v :: r ∧ t v σ H fun σ' H' => u r σ' H' Q
theorem pgs_nil : PGs X [] gNil := by
  intro pins s σ H vs us Q I r h
  obtain ⟨e, h⟩ := h
  subst e
  cases r
  exact assignInOrder_nil ⟨σ, H, I, h⟩
theorem pgs_cons {e : Expr} {es : List Expr} {t : TG} {u : TGs} (h1 : PG X e t) (h2 : PGs X es u)
    (hs : (assignEach (e :: es) X.env).map (·.2) = assign e X.env :: (assignEach es X.env).map (·.2) := by rfl) : PGs X (e :: es) (gCons t u) := by
  intro pins s σ H vs us Q I r h
  obtain ⟨v, vr, e1, h⟩ := h
  subst e1
  cases r with
  | cons r rr =>
    rw [hs]
    refine assignInOrder_cons (thn (h1 pins s σ H _ _ _ I r h) fun _ s1 ⟨σ1, H1, I1, q1⟩ => ?_)
    exact h2 pins s1 σ1 H1 _ _ Q I1 rr q1
/-- (a, b, ..) = a tuple of that length -/
def gTup (K : PySem.W.Frag) (n : Nat) (t : TGs) : TG := fun v σ H Q => ∃ a xs, v = .ref a ∧ SqT K H a xs ∧ xs.length = n ∧ t xs σ H Q
theorem pg_tup {es : List Expr} {k : Nat} {t : TGs} {n : Nat} (hc : X.calm = true) (h : PGs X es t)
    (hn : (assignEach es X.env).length = n := by rfl) (hst : (assignEach es X.env).findIdx? (·.1) = none := by rfl) : PG X (.Tuple es k pos) (gTup X.K n t) := by
  intro pins s σ H v u Q I r hw
  obtain ⟨a, xs, e1, hq, hl, hw⟩ := hw
  subst e1
  cases r
  obtain ⟨its, rv, ht, hz⟩ := I.tuple hq
  refine assign_Tuple_tuple (I.ok.hd hc) ht (by simp [hn, ← hl, rv.length]) hst fun h' hx => ?_
  have I1 : Inv X pins σ H { s with heap := h' } := I.kept (t' := s.toks) fun b o e => hx b o (Nat.ne_of_lt (Heap.lt_size e)) e
  exact h pins _ σ H xs _ Q I1 (by simpa using rv) hw
/-- target = value -/
def tAsg (te : TE) (g : TG) : TS := fun D σ H => te σ H fun x H1 => g x σ H1 D.nx
/-- name = value -/
theorem ps_set {i : Nat} {x : Str} {e : Expr} {te : TE} {pos' : Pos} (hN : X.N.Nodup) (hi : X.N[i]? = some x) (hx : Loc X.env.scope x) (he : PE X e te) (hs : swapsWith e (some (.Name x pos')) pos.line X.env = pure false := by rfl) (hf : X.fn x = true ∨ X.env.scope.names.lookup x = some .local := by first | exact .inl rfl | exact .inr rfl | assumption) :
    PS X (.Assign [.Name x pos'] e pos) (tAsg te (gName i)) := by
  intro pins s σ H D I h
  refine wpAny_Assign_Name (thn (he pins s σ H _ I h) fun v s1 ⟨y, H1, I1, r1, q1⟩ => ?_) hs
  exact store_ok I1 hN hi hx r1 (fun s2 I2 => ⟨_, H1, I2, q1⟩) hf
end

/-! ### while -/
section
variable {X : Cx} {pos : Pos}
/-- the invariant W with its measure -/
def tWhile (c : TT) (tb : TS) : TS := fun D σ H => ∃ W : Nat → St → Hp → Prop, (∃ m, W m σ H) ∧ ∀ m σ H, W m σ H →
  c σ H fun b H1 => if b = true then ∃ N : St → Hp → Prop, (∀ σ' H', N σ' H' → ∃ m', m' < m ∧ W m' σ' H') ∧ tb { D with nx := N, ct := N, bk := D.nx } σ H1 else D.nx σ H1
theorem ps_while {c : Expr} {body : List Stmt} {tc : TT} {tb : TS} (hp : PassesOwn (model X.prog X.w) X.A X.env X.xe) (hc : PT X c tc) (hb : PSs X body tb) : PS X (.While c body [] pos) (tWhile tc tb) := by
  intro pins s σ H D I h
  obtain ⟨W, ⟨m0, w0⟩, turn⟩ := h
  refine wpAny_While (codeAny_whileLoop (fun n s' => ∃ σ' H', Inv X pins σ' H' s' ∧ W n σ' H') ?_ m0 ⟨σ, H, I, w0⟩)
  rintro n s1 ⟨σ1, H1, I1, w1⟩
  refine wpAny_passesOwn hp (thn (hc pins s1 σ1 H1 _ I1 (turn n σ1 H1 w1)) fun b s2 ⟨H2, I2, q2⟩ => ?_)
  cases b with
  | true =>
    obtain ⟨N, hN, q2⟩ := q2
    rw [if_pos rfl]
    refine wpAny_passesOwn hp (thn (hb pins s2 σ1 H2 _ I2 q2) fun f s3 q3 => ?_)
    cases f with
    | next =>
      obtain ⟨σ3, H3, I3, n3⟩ := q3
      obtain ⟨m', hm, w3⟩ := hN σ3 H3 n3
      exact ⟨m', hm, σ3, H3, I3, w3⟩
    | cont =>
      obtain ⟨σ3, H3, I3, n3⟩ := q3
      obtain ⟨m', hm, w3⟩ := hN σ3 H3 n3
      exact ⟨m', hm, σ3, H3, I3, w3⟩
    | brk => exact q3
    | ret v => exact q3
  | false =>
    rw [if_neg Bool.false_ne_true]
    exact wpAny_execs_nil ⟨σ1, H2, I2, q2⟩
end

/-! ### what a loop or a comprehension walks -/
/-- at turn i: it yields x (the heap may grow), or it stops -/
structure It where
  go : Nat → Hp → Prop
  yld : Nat → Hp → V → Hp → Prop
  stop : Nat → Hp → Prop
/-- the iterator's own objects may turn: they are not the frame's, not pinned, younger than the entry (or a comprehension's own) -/
def FpOk (X : Cx) (pins : List (Addr × Obj)) (H : Hp) (b : Addr) : Prop :=
  H b = none ∧ b ≠ X.env.locals ∧ b ∉ X.fs ∧ (b ∈ X.ex ∨ X.s₀.heap.objs.size ≤ b) ∧ (∀ x c, X.env.cells.lookup x = some c → c ≠ b) ∧ ∀ p ∈ X.pn ++ pins, p.1 ≠ b
theorem Inv.fpOk {X : Cx} {pins : List (Addr × Obj)} {σ : St} {H H' : Hp} {s : Shared} {b : Addr} (I : Inv X pins σ H s) (hb : s.heap.objs.size ≤ b) (hn : H' b = none) : FpOk X pins H' b := by
  refine ⟨hn, Nat.ne_of_gt (Nat.lt_of_lt_of_le I.lt hb), I.nofs hb, .inr (Nat.le_trans I.sz hb), fun x c e z => ?_, fun p hp z => ?_⟩
  · obtain ⟨v, q⟩ := I.cell x c e
    exact absurd (Nat.lt_of_lt_of_le q.lt (by rw [z]; exact hb)) (Nat.lt_irrefl _)
  · exact absurd (Nat.lt_of_lt_of_le (Heap.lt_size (I.pin p hp).1) (by rw [z]; exact hb)) (Nat.lt_irrefl _)
structure Turn (P : Program) (w : World) (K : PySem.W.Frag) (tg : Expr) (J : It) (fp : List Addr) (it : Addr) (tn : Nat → Heap → Prop) : Prop where
  mem : it ∈ fp
  obj : ∀ i h, tn i h → ∀ b ∈ fp, ∃ o, h.get? b = some o ∧ ∀ v, o.data ≠ .cell v
  keep : ∀ i h h', tn i h → (∀ b ∈ fp, ∀ o, h.get? b = some o → h'.get? b = some o) → tn i h'
  item : ∀ (X : Cx), X.prog = P → X.w = w → X.K = K → X.calm = true → ∀ (i : Nat) (pins : List (Addr × Obj)) (s : Shared) (σ : St) (H : Hp) (E : Value → Shared → Prop), Inv X pins σ H s → (∀ b ∈ fp, FpOk X pins H b) → tn i s.heap → J.go i H →
    wpAny (model P w) X.A (pyNext (.ref it)) (fun r s1 => ∃ u, r = some u ∧
      wpAny (model P w) X.A (letOwnedTupleGo tg (.ref it) u) (fun _ s2 => ∃ x H', Inv X pins σ H' s2 ∧ RelV x u ∧ J.yld i H x H' ∧ tn (i + 1) s2.heap ∧ ∀ b ∈ fp, H' b = none) E s1) E s
  done : ∀ (X : Cx), X.prog = P → X.w = w → X.K = K → X.calm = true → ∀ (i : Nat) (pins : List (Addr × Obj)) (s : Shared) (σ : St) (H : Hp) (E : Value → Shared → Prop), Inv X pins σ H s → (∀ b ∈ fp, FpOk X pins H b) → tn i s.heap → J.stop i H →
    wpAny (model P w) X.A (pyNext (.ref it)) (fun r s1 => r = none ∧ Inv X pins σ H s1) E s
  self : ∀ (A : Around) (i : Nat) (s : Shared) (Q : Value → Shared → Prop) (E : Value → Shared → Prop), tn i s.heap → Q (.ref it) s → wpAny (model P w) A (pyIter (.ref it)) Q E s
abbrev TI := St → Hp → (It → Hp → Prop) → Prop
/-- an iterator has come -/
def PIE (X : Cx) (pins : List (Addr × Obj)) (σ : St) (tg : Expr) (R : It → Hp → Prop) (itv : Value) (s2 : Shared) : Prop :=
  ∃ (it : Addr) (fp : List Addr) (tn : Nat → Heap → Prop) (J : It) (H' : Hp), itv = .ref it ∧ Inv X pins σ H' s2 ∧ Turn X.prog X.w X.K tg J fp it tn ∧ tn 0 s2.heap ∧ (∀ b ∈ fp, FpOk X pins H' b) ∧ R J H'
def PI (X : Cx) (tg iter : Expr) (wi : TI) : Prop :=
  ∀ (pins : List (Addr × Obj)) (s : Shared) (σ : St) (H : Hp) (R : It → Hp → Prop), Inv X pins σ H s → wi σ H R →
    wpAny (model X.prog X.w) X.A (eval iter X.env) (fun v s1 => wpAny (model X.prog X.w) X.A (pyIter v) (PIE X pins σ tg R) X.xe s1) X.xe s

/-- the step ahead of the store is nothing for an iterator that keeps no tuple -/
theorem go_of {M : Model} {A : Around} {E : Value → Shared → Prop} {s : Shared} {tg : Expr} {it : Addr} {u : Value} {o : Obj} {n : String} {vs : Array Value} {Q : Unit → Shared → Prop} (ho : s.heap.get? it = some o) (hc : o.cls = .type n) (hd : o.data = .fields vs)
    (hn : ["enumerate", "zip", "dict_itemiterator", "dict_reverseitemiterator", "odict_iterator", "itertools.zip_longest", "itertools.pairwise"].contains n = false) (hQ : Q () s) : wpAny M A (letOwnedTupleGo tg (.ref it) u) Q E s := by
  unfold letOwnedTupleGo
  cases tg <;> first
    | exact wpAny_pure hQ
    | (cases u <;> first
        | exact wpAny_pure hQ
        | (refine wpAny_bind (wpAny_load ho ?_)
           rw [hc, hd]
           show wpAny M A (if (["enumerate", "zip", "dict_itemiterator", "dict_reverseitemiterator", "odict_iterator", "itertools.zip_longest", "itertools.pairwise"].contains n && vs[0]? == some (rawInt _)) = true then _ else _) Q E s
           rw [if_neg (by intro h; rw [hn, Bool.false_and] at h; cases h)]
           exact wpAny_pure hQ))

/-- the list at a, as it stands at each turn (a loop may append to it) -/
def Itl (K : PySem.W.Frag) (a : Addr) : It :=
  ⟨fun i H => ∃ xs x, SqL K H a xs ∧ xs[i]? = some x, fun i H x H' => H' = H ∧ ∀ xs, SqL K H a xs → xs[i]? = some x, fun i H => ∃ xs, SqL K H a xs ∧ xs.length ≤ i⟩
def Itt (K : PySem.W.Frag) (a : Addr) : It :=
  ⟨fun i H => ∃ xs x, SqT K H a xs ∧ xs[i]? = some x, fun i H x H' => H' = H ∧ ∀ xs, SqT K H a xs → xs[i]? = some x, fun i H => ∃ xs, SqT K H a xs ∧ xs.length ≤ i⟩
/-- lo, lo + 1, .. (n of them) -/
def Itr (lo : Int) (n : Nat) : It := ⟨fun i _ => i < n, fun i H x H' => H' = H ∧ x = .int (lo + i), fun i _ => n ≤ i⟩
theorem turn_list {P : Program} {w : World} {K : PySem.W.Frag} {tg : Expr} (a it : Addr) : Turn P w K tg (Itl K a) [it] it (fun i h => h.IsListIter it a i) where
  mem := by simp
  obj := fun i h st b hb => by
    have e : b = it := by simpa using hb
    subst e
    obtain ⟨o, e, c, d⟩ := st
    exact ⟨o, e, fun v z => by rw [d] at z; cases z⟩
  keep := fun i h h' st k => st.at fun o e => k it (by simp) o e
  item := by
    intro X hP hw hK hc i pins s σ H E I hf st hg
    subst hP hw hK
    obtain ⟨xs, x, hq, hx⟩ := hg
    obtain ⟨its, rv, p, hz⟩ := I.list hq
    obtain ⟨u, hu, ru⟩ := rv.get hx
    obtain ⟨f0, f1, f2, f3, f4, f5⟩ := hf it (by simp)
    refine wpAny_pyNext_list_item st p.isList (x := u) (by simpa using hu) fun h' st' sb => ?_
    have I1 : Inv X pins σ H { s with heap := h' } := I.turned (t' := s.toks) (fun b o hb e => (sb.2 b hb).trans e) f0 f1 f3 f4 f5
    obtain ⟨o, e, c, d⟩ := id st'
    exact ⟨u, rfl, go_of (s := { s with heap := h' }) e c d (by decide) ⟨x, H, I1, ru, ⟨rfl, fun ys hy => by rw [I.list_inj hy hq]; exact hx⟩, st', fun b hb => (hf b hb).1⟩⟩
  done := by
    intro X hP hw hK hc i pins s σ H E I hf st hg
    subst hP hw hK
    obtain ⟨xs, hq, hx⟩ := hg
    obtain ⟨its, rv, p, hz⟩ := I.list hq
    obtain ⟨f0, f1, f2, f3, f4, f5⟩ := hf it (by simp)
    have hl := rv.length
    exact wpAny_pyNext_list_end (I.ok.hd hc) st p.isList (by simp; omega) fun h' eb => ⟨rfl, I.turned (t' := s.toks) (fun b o hb e => eb b o hb e) f0 f1 f3 f4 f5⟩
  self := fun _ _ _ _ _ st h => wpAny_pyIter_listiter st h
theorem turn_tuple {P : Program} {w : World} {K : PySem.W.Frag} {tg : Expr} (a it : Addr) : Turn P w K tg (Itt K a) [it] it (fun i h => h.IsTupleIter it a i) where
  mem := by simp
  obj := fun i h st b hb => by
    have e : b = it := by simpa using hb
    subst e
    obtain ⟨o, e, c, d⟩ := st
    exact ⟨o, e, fun v z => by rw [d] at z; cases z⟩
  keep := fun i h h' st k => st.at fun o e => k it (by simp) o e
  item := by
    intro X hP hw hK hc i pins s σ H E I hf st hg
    subst hP hw hK
    obtain ⟨xs, x, hq, hx⟩ := hg
    obtain ⟨its, rv, p, hz⟩ := I.tuple hq
    obtain ⟨u, hu, ru⟩ := rv.get hx
    obtain ⟨f0, f1, f2, f3, f4, f5⟩ := hf it (by simp)
    refine wpAny_pyNext_tuple_item st (show s.heap.IsTuple a its.toArray from p) (x := u) (by simpa using hu) fun h' st' sb => ?_
    have I1 : Inv X pins σ H { s with heap := h' } := I.turned (t' := s.toks) (fun b o hb e => (sb.2 b hb).trans e) f0 f1 f3 f4 f5
    obtain ⟨o, e, c, d⟩ := id st'
    exact ⟨u, rfl, go_of (s := { s with heap := h' }) e c d (by decide) ⟨x, H, I1, ru, ⟨rfl, fun ys hy => by rw [I.tuple_inj hy hq]; exact hx⟩, st', fun b hb => (hf b hb).1⟩⟩
  done := by
    intro X hP hw hK hc i pins s σ H E I hf st hg
    subst hP hw hK
    obtain ⟨xs, hq, hx⟩ := hg
    obtain ⟨its, rv, p, hz⟩ := I.tuple hq
    obtain ⟨f0, f1, f2, f3, f4, f5⟩ := hf it (by simp)
    have hl := rv.length
    exact wpAny_pyNext_tuple_end (I.ok.hd hc) st (show s.heap.IsTuple a its.toArray from p) (by simp; omega) fun h' eb => ⟨rfl, I.turned (t' := s.toks) (fun b o hb e => eb b o hb e) f0 f1 f3 f4 f5⟩
  self := fun _ _ _ _ _ st h => wpAny_pyIter_tupleiter st h
theorem turn_range {P : Program} {w : World} {K : PySem.W.Frag} {tg : Expr} (it : Addr) (lo : Int) (n : Nat) : Turn P w K tg (Itr lo n) [it] it (fun i h => IsRangeIter h it (lo + (i : Nat) * 1) ((n : Int) - (i : Nat)) 1) where
  mem := by simp
  obj := fun i h st b hb => by
    have e : b = it := by simpa using hb
    subst e
    exact ⟨_, st, fun v z => by
      have z' : Data.fields _ = Data.cell v := z
      cases z'⟩
  keep := fun i h h' st k => k it (by simp) _ st
  item := by
    intro X hP hw hK hc i pins s σ H E I hf st hg
    subst hP hw hK
    obtain ⟨f0, f1, f2, f3, f4, f5⟩ := hf it (by simp)
    have W := Walks.range (prog := X.prog) (w := X.w) (I.ok.hd hc) it lo 1 n
    refine W.item i s _ _ hg st fun v h' tk hv st' kk => ?_
    obtain ⟨t, rfl⟩ := hv
    have I1 : Inv X pins σ H { s with heap := h', toks := tk } := I.turned (fun b o hb e => kk b o (by simpa using hb) e) f0 f1 f3 f4 f5
    refine ⟨_, rfl, go_of (s := { s with heap := h', toks := tk }) (n := "range_iterator") st' rfl rfl (by decide) ⟨.int (lo + i), H, I1, ⟨t, ?_⟩, ⟨rfl, rfl⟩, st', fun b hb => (hf b hb).1⟩⟩
    rw [Int.mul_one]
  done := by
    intro X hP hw hK hc i pins s σ H E I hf st hg
    subst hP hw hK
    obtain ⟨f0, f1, f2, f3, f4, f5⟩ := hf it (by simp)
    exact wpAny_pyNext_range_end (I.ok.hd hc) st (by have : n ≤ i := hg; omega) fun h' eb => ⟨rfl, I.turned (t' := s.toks) (fun b o hb e => eb b o hb e) f0 f1 f3 f4 f5⟩
  self := fun _ _ _ _ _ st h => wpAny_pyIter_rangeiter st h
end L2

namespace L2
open PySem PySem.Spec PyProof.Rows
section
variable {X : Cx} {tg : Expr}
def iList (K : PySem.W.Frag) (tl : TE) : TI := fun σ H R => tl σ H fun x H1 => ∃ a, x = .ref a ∧ (∃ xs, SqL K H1 a xs) ∧ R (Itl K a) H1
def iTup (K : PySem.W.Frag) (tl : TE) : TI := fun σ H R => tl σ H fun x H1 => ∃ a, x = .ref a ∧ (∃ xs, SqT K H1 a xs) ∧ R (Itt K a) H1
theorem pi_list {l : Expr} {tl : TE} (hl : PE X l tl) : PI X tg l (iList X.K tl) := by
  intro pins s σ H R I h
  refine thn (hl pins s σ H _ I h) fun v s1 ⟨x, H1, I1, r1, q1⟩ => ?_
  obtain ⟨a, e, ⟨xs, hq⟩, q⟩ := q1
  subst e
  cases r1
  obtain ⟨its, rv, p, hz⟩ := I1.list hq
  refine wpAny_pyIter_list p.isList ?_
  refine ⟨s1.heap.objs.size, [s1.heap.objs.size], _, _, H1, rfl, I1.kept (t' := s1.toks) fun b o e => Heap.get?_push_of_some _ e, turn_list a _, ⟨_, Heap.get?_push_size _ rfl, rfl, rfl⟩, fun b hb => ?_, q⟩
  have e : b = s1.heap.objs.size := by simpa using hb
  subst e
  exact I1.fpOk (Nat.le_refl _) (I1.hok.fresh (Nat.le_refl _))
theorem pi_tup {l : Expr} {tl : TE} (hl : PE X l tl) : PI X tg l (iTup X.K tl) := by
  intro pins s σ H R I h
  refine thn (hl pins s σ H _ I h) fun v s1 ⟨x, H1, I1, r1, q1⟩ => ?_
  obtain ⟨a, e, ⟨xs, hq⟩, q⟩ := q1
  subst e
  cases r1
  obtain ⟨its, rv, p, hz⟩ := I1.tuple hq
  refine wpAny_pyIter_tuple (show s1.heap.IsTuple a its.toArray from p) ?_
  refine ⟨s1.heap.objs.size, [s1.heap.objs.size], _, _, H1, rfl, I1.kept (t' := s1.toks) fun b o e => Heap.get?_push_of_some _ e, turn_tuple a _, ⟨_, Heap.get?_push_size _ rfl, rfl, rfl⟩, fun b hb => ?_, q⟩
  have e : b = s1.heap.objs.size := by simpa using hb
  subst e
  exact I1.fpOk (Nat.le_refl _) (I1.hok.fresh (Nat.le_refl _))
/-- a range object just made, walked -/
theorem range_it {pins : List (Addr × Obj)} {σ : St} {H : Hp} {s : Shared} {R : It → Hp → Prop} {E : Value → Shared → Prop} {lo hi : Int} {t u v : Tok} {tk : Nat} (I : Inv X pins σ H s) (h1 : -(2 ^ 62) ≤ lo) (h2 : lo < 2 ^ 62) (h3 : -(2 ^ 62) ≤ hi) (h4 : hi < 2 ^ 62)
    (q : R (Itr lo (hi - lo).toNat) H) : wpAny (model X.prog X.w) X.A (pyIter (.ref s.heap.objs.size)) (PIE X pins σ tg R) E { s with heap := s.heap.push { cls := .type "range", data := .fields #[.int lo t, .int hi u, .int 1 v] }, toks := tk } := by
  refine wpAny_pyIter_range (IsRange.new ..) (small_one h1 h2 h3 h4) ?_
  have I1 : Inv X pins σ H { s with heap := s.heap.push { cls := .type "range", data := .fields #[.int lo t, .int hi u, .int 1 v] }, toks := tk } := I.kept fun b o e => Heap.get?_push_of_some _ e
  refine ⟨(s.heap.push { cls := .type "range", data := .fields #[.int lo t, .int hi u, .int 1 v] }).objs.size, [(s.heap.push { cls := .type "range", data := .fields #[.int lo t, .int hi u, .int 1 v] }).objs.size], _, _, H, rfl,
    I1.kept (t' := tk) fun b o e => Heap.get?_push_of_some _ e, turn_range _ lo (hi - lo).toNat, ?_, fun b hb => ?_, q⟩
  · have e1 : lo + ((0 : Nat) : Int) * 1 = lo := by simp
    have e2 : (((hi - lo).toNat : Nat) : Int) - ((0 : Nat) : Int) = Builtin.Range.rangeSize lo hi 1 := by rw [rangeSize_one]; split <;> omega
    show IsRangeIter _ _ (lo + ((0 : Nat) : Int) * 1) ((((hi - lo).toNat : Nat) : Int) - ((0 : Nat) : Int)) 1
    rw [e1, e2]
    exact Heap.get?_push_size _ rfl
  · have e : b = (s.heap.push { cls := .type "range", data := .fields #[.int lo t, .int hi u, .int 1 v] }).objs.size := by simpa using hb
    subst e
    exact I1.fpOk (Nat.le_refl _) (I1.hok.fresh (Nat.le_refl _))
def iRng1 (ta : TA) : TI := fun σ H R => ta σ H fun vs H1 => ∃ j : Int, vs = [.int j] ∧ -(2 ^ 62) ≤ j ∧ j < 2 ^ 62 ∧ R (Itr 0 j.toNat) H1
theorem pi_range1 {a : Expr} {ta : TA} {p pos : Pos} (hg : Gl X "range") (hm : X.mg "range" = none) (ha : PA X [a] ta) (hs : starEach [a] X.env = [(false, eval a X.env)] := by rfl) : PI X tg (.Call (.Name "range" p) [a] [] pos) (iRng1 ta) := by
  intro pins s σ H R I h
  refine Call_ (ld_blt I hg hm boot_range (PyProof.Rows.callWith_type1 (thn (ha pos pins s σ H _ I h) fun us s1 ⟨vs, H1, I1, r1, q1⟩ => ?_) hs rfl))
  obtain ⟨j, e, q1, q2, q⟩ := q1
  subst e
  cases r1 with
  | cons r rr =>
    cases rr
    obtain ⟨t, rfl⟩ := r
    exact call_range_1 (range_it I1 (by omega) (by omega) q1 q2 (by simpa using q))
/-! ### for -/
/-- W: the invariant by the turn and a measure; N: what the body is to reach -/
def tFor (wi : TI) (g : TG) (tb : TS) : TS := fun D σ H => wi σ H fun J H1 => ∃ W : Nat → Nat → St → Hp → Prop, (∃ m, W 0 m σ H1) ∧ ∀ i m σ H, W i m σ H →
  (J.stop i H ∧ D.nx σ H) ∨ (J.go i H ∧ ∃ N : St → Hp → Prop, (∀ σ' H', N σ' H' → ∃ m', m' < m ∧ W (i + 1) m' σ' H') ∧ ∀ x H', J.yld i H x H' → g x σ H' fun σ2 H2 => tb { D with nx := N, ct := N, bk := D.nx } σ2 H2)
/-- the records at fp as they stand -/
def pinsAt (fp : List Addr) (h : Heap) : List (Addr × Obj) := fp.filterMap fun b => (h.get? b).map fun o => (b, o)
theorem mem_pinsAt {fp : List Addr} {h : Heap} {b : Addr} {o : Obj} (hb : b ∈ fp) (e : h.get? b = some o) : (b, o) ∈ pinsAt fp h := List.mem_filterMap.mpr ⟨b, hb, by rw [e]; rfl⟩
theorem of_pinsAt {fp : List Addr} {h : Heap} {p : Addr × Obj} (hp : p ∈ pinsAt fp h) : p.1 ∈ fp ∧ h.get? p.1 = some p.2 := by
  obtain ⟨b, hb, e⟩ := List.mem_filterMap.mp hp
  cases q : h.get? b with
  | none => rw [q] at e; cases e
  | some o =>
    rw [q] at e
    have e' : (b, o) = p := Option.some.inj e
    subst e'
    exact ⟨hb, q⟩
theorem Inv.pinned {pins : List (Addr × Obj)} {σ : St} {H : Hp} {s : Shared} {fp : List Addr} (I : Inv X pins σ H s) (hf : ∀ b ∈ fp, FpOk X pins H b) (ho : ∀ b ∈ fp, ∃ o, s.heap.get? b = some o ∧ ∀ v, o.data ≠ .cell v) : Inv X (pins ++ pinsAt fp s.heap) σ H s :=
  I.pins_of fun p hp => (List.mem_append.mp hp).elim (fun z => I.pin p (List.mem_append_right _ z)) fun z => by
    obtain ⟨hb, e⟩ := of_pinsAt z
    obtain ⟨f0, f1, f2, _⟩ := hf p.1 hb
    obtain ⟨o, e', d⟩ := ho p.1 hb
    rw [e] at e'; cases e'
    exact ⟨e, f0, f1, f2, d⟩
theorem Inv.unpinned {pins pl : List (Addr × Obj)} {σ : St} {H : Hp} {s : Shared} (I : Inv X (pins ++ pl) σ H s) : Inv X pins σ H s := I.pins_of fun p hp => I.pin p (List.mem_append_right _ (List.mem_append_left _ hp))
theorem ps_for {iter : Expr} {body : List Stmt} {wi : TI} {g : TG} {tb : TS} {pos : Pos} (hp : PassesOwn (model X.prog X.w) X.A X.env X.xe) (hc : X.calm = true) (hi : PI X tg iter wi) (hg : PG X tg g) (hb : PSs X body tb)
    (hs : ∀ x, foldedSetIterable iter X.env x = pure x := by intro _; rfl) : PS X (.For tg iter body [] pos) (tFor wi g tb) := by
  intro pins s σ H D I h
  refine wpAny_For (thn (hi pins s σ H _ I h) fun v s1 h1 => thn h1 fun itv s2 h2 => ?_) hs
  obtain ⟨it, fp, tn, J, H2, e, I2, T, st2, f2, W, ⟨m0, w0⟩, turn⟩ := h2
  subst e
  -- what stays true of the iterator's objects through the loop
  have stat : ∀ {H' : Hp}, (∀ b ∈ fp, H' b = none) → ∀ b ∈ fp, FpOk X pins H' b := fun hn b hb => ⟨hn b hb, (f2 b hb).2⟩
  refine codeAny_forLoop_any (fun n s' => ∃ i σ' H', Inv X pins σ' H' s' ∧ tn i s'.heap ∧ (∀ b ∈ fp, H' b = none) ∧ W i n σ' H') ?_ m0 ⟨0, σ, H2, I2, st2, fun b hb => (f2 b hb).1, w0⟩
  rintro n s3 ⟨i, σ3, H3, I3, st3, fr3, w3⟩
  rcases turn i n σ3 H3 w3 with ⟨stop, qn⟩ | ⟨go, N, hN, step⟩
  · refine wpAny_passesOwn hp (thn (T.done X rfl rfl rfl hc i pins s3 σ3 H3 X.xe I3 (stat fr3) st3 stop) fun r s4 ⟨hr, I4⟩ => ?_)
    subst hr
    exact wpAny_execs_nil ⟨σ3, H3, I4, qn⟩
  · refine wpAny_passesOwn hp (thn (T.item X rfl rfl rfl hc i pins s3 σ3 H3 X.xe I3 (stat fr3) st3 go) fun r s4 ⟨u, hr, h4⟩ => ?_)
    subst hr
    refine wpAny_passesOwn hp (thn h4 fun _ s5 ⟨x, H5, I5, r5, y5, st5, fr5⟩ => ?_)
    have I5' := I5.pinned (stat fr5) (T.obj _ _ st5)
    refine wpAny_passesOwn hp (thn (hg _ s5 σ3 H5 x u _ I5' r5 (step x H5 y5)) fun _ s6 ⟨σ6, H6, I6, q6⟩ => ?_)
    refine wpAny_passesOwn hp (thn (hb _ s6 σ6 H6 _ I6 q6) fun f s7 q7 => ?_)
    have again : ∀ {σ7 : St} {H7 : Hp}, Inv X (pins ++ pinsAt fp s5.heap) σ7 H7 s7 → N σ7 H7 → ∃ m, m < n ∧ ∃ i σ' H', Inv X pins σ' H' s7 ∧ tn i s7.heap ∧ (∀ b ∈ fp, H' b = none) ∧ W i m σ' H' := fun {σ7 H7} I7 n7 => by
      obtain ⟨m', hm, w7⟩ := hN σ7 H7 n7
      refine ⟨m', hm, i + 1, σ7, H7, I7.unpinned, T.keep _ _ _ st5 fun b hb o e => (I7.pin (b, o) (List.mem_append_right _ (List.mem_append_right _ (mem_pinsAt hb e)))).1, fun b hb => ?_, w7⟩
      obtain ⟨o, e, d⟩ := T.obj _ _ st5 b hb
      exact (I7.pin (b, o) (List.mem_append_right _ (List.mem_append_right _ (mem_pinsAt hb e)))).2.1
    cases f with
    | next => obtain ⟨σ7, H7, I7, n7⟩ := q7; exact again I7 n7
    | cont => obtain ⟨σ7, H7, I7, n7⟩ := q7; exact again I7 n7
    | brk => obtain ⟨σ7, H7, I7, q7⟩ := q7; exact ⟨σ7, H7, I7.unpinned, q7⟩
    | ret v => obtain ⟨x7, σ7, H7, I7, r7, q7⟩ := q7; exact ⟨x7, σ7, H7, I7.unpinned, r7, q7⟩
end

/-! ### the forms one uses -/
/-- over a list that the body leaves as it is -/
theorem for_list {K : PySem.W.Frag} {a : Addr} {xs : List V} {g : TG} {tb : TS} {D : Ends} {σ : St} {H : Hp} (Pv : Nat → St → Hp → Prop) (h0 : Pv 0 σ H) (hl : ∀ i σ H, i ≤ xs.length → Pv i σ H → SqL K H a xs)
    (hs : ∀ i x σ H, xs[i]? = some x → Pv i σ H → g x σ H fun σ2 H2 => tb { D with nx := Pv (i + 1), ct := Pv (i + 1), bk := D.nx } σ2 H2) (hd : ∀ σ H, Pv xs.length σ H → D.nx σ H) :
    ∃ W : Nat → Nat → St → Hp → Prop, (∃ m, W 0 m σ H) ∧ ∀ i m σ H, W i m σ H →
      ((Itl K a).stop i H ∧ D.nx σ H) ∨ ((Itl K a).go i H ∧ ∃ N : St → Hp → Prop, (∀ σ' H', N σ' H' → ∃ m', m' < m ∧ W (i + 1) m' σ' H') ∧ ∀ x H', (Itl K a).yld i H x H' → g x σ H' fun σ2 H2 => tb { D with nx := N, ct := N, bk := D.nx } σ2 H2) := by
  refine ⟨fun i m σ H => m = xs.length - i ∧ i ≤ xs.length ∧ Pv i σ H, ⟨xs.length, by simp, Nat.zero_le _, h0⟩, ?_⟩
  rintro i m σ H ⟨rfl, hi, p⟩
  have q := hl i σ H hi p
  by_cases hlt : i < xs.length
  · refine .inr ⟨⟨xs, xs[i], q, by simp [hlt]⟩, Pv (i + 1), fun σ' H' p' => ⟨xs.length - (i + 1), by omega, rfl, hlt, p'⟩, fun x H' y => ?_⟩
    obtain ⟨e, y⟩ := y
    subst e
    exact hs i x σ _ (y xs q) p
  · have e : i = xs.length := by omega
    subst e
    exact .inl ⟨⟨xs, q, Nat.le_refl _⟩, hd σ H p⟩
theorem for_tup {K : PySem.W.Frag} {a : Addr} {xs : List V} {g : TG} {tb : TS} {D : Ends} {σ : St} {H : Hp} (Pv : Nat → St → Hp → Prop) (h0 : Pv 0 σ H) (hl : ∀ i σ H, i ≤ xs.length → Pv i σ H → SqT K H a xs)
    (hs : ∀ i x σ H, xs[i]? = some x → Pv i σ H → g x σ H fun σ2 H2 => tb { D with nx := Pv (i + 1), ct := Pv (i + 1), bk := D.nx } σ2 H2) (hd : ∀ σ H, Pv xs.length σ H → D.nx σ H) :
    ∃ W : Nat → Nat → St → Hp → Prop, (∃ m, W 0 m σ H) ∧ ∀ i m σ H, W i m σ H →
      ((Itt K a).stop i H ∧ D.nx σ H) ∨ ((Itt K a).go i H ∧ ∃ N : St → Hp → Prop, (∀ σ' H', N σ' H' → ∃ m', m' < m ∧ W (i + 1) m' σ' H') ∧ ∀ x H', (Itt K a).yld i H x H' → g x σ H' fun σ2 H2 => tb { D with nx := N, ct := N, bk := D.nx } σ2 H2) := by
  refine ⟨fun i m σ H => m = xs.length - i ∧ i ≤ xs.length ∧ Pv i σ H, ⟨xs.length, by simp, Nat.zero_le _, h0⟩, ?_⟩
  rintro i m σ H ⟨rfl, hi, p⟩
  have q := hl i σ H hi p
  by_cases hlt : i < xs.length
  · refine .inr ⟨⟨xs, xs[i], q, by simp [hlt]⟩, Pv (i + 1), fun σ' H' p' => ⟨xs.length - (i + 1), by omega, rfl, hlt, p'⟩, fun x H' y => ?_⟩
    obtain ⟨e, y⟩ := y
    subst e
    exact hs i x σ _ (y xs q) p
  · have e : i = xs.length := by omega
    subst e
    exact .inl ⟨⟨xs, q, Nat.le_refl _⟩, hd σ H p⟩
theorem for_range {lo : Int} {n : Nat} {g : TG} {tb : TS} {D : Ends} {σ : St} {H : Hp} (Pv : Nat → St → Hp → Prop) (h0 : Pv 0 σ H)
    (hs : ∀ i σ H, i < n → Pv i σ H → g (.int (lo + i)) σ H fun σ2 H2 => tb { D with nx := Pv (i + 1), ct := Pv (i + 1), bk := D.nx } σ2 H2) (hd : ∀ σ H, Pv n σ H → D.nx σ H) :
    ∃ W : Nat → Nat → St → Hp → Prop, (∃ m, W 0 m σ H) ∧ ∀ i m σ H, W i m σ H →
      ((Itr lo n).stop i H ∧ D.nx σ H) ∨ ((Itr lo n).go i H ∧ ∃ N : St → Hp → Prop, (∀ σ' H', N σ' H' → ∃ m', m' < m ∧ W (i + 1) m' σ' H') ∧ ∀ x H', (Itr lo n).yld i H x H' → g x σ H' fun σ2 H2 => tb { D with nx := N, ct := N, bk := D.nx } σ2 H2) := by
  refine ⟨fun i m σ H => m = n - i ∧ i ≤ n ∧ Pv i σ H, ⟨n, by simp, Nat.zero_le _, h0⟩, ?_⟩
  rintro i m σ H ⟨rfl, hi, p⟩
  by_cases hlt : i < n
  · refine .inr ⟨hlt, Pv (i + 1), fun σ' H' p' => ⟨n - (i + 1), by omega, rfl, hlt, p'⟩, fun x H' y => ?_⟩
    obtain ⟨e, y⟩ := y
    subst e y
    exact hs i σ _ hlt p
  · have e : i = n := by omega
    subst e
    exact .inl ⟨Nat.le_refl _, hd σ H p⟩
end L2

namespace L2
open PySem PySem.Spec PyProof.Rows

abbrev R2 := V → V → Hp → VK → Prop
/-- a two-place operation on values: f is binaryOp op, inplaceOp op or compareOp op -/
def OpR (X : Cx) (f : Value → Value → Sem Value) (r : R2) : Prop :=
  ∀ (pins : List (Addr × Obj)) (s : Shared) (σ : St) (H : Hp) (x y : V) (v u : Value) (Q : VK), Inv X pins σ H s → RelV x v → RelV y u → r x y H Q →
    wpAny (model X.prog X.w) X.A (f v u) (EP X pins σ Q) X.xe s
/-- a call of a value that is known (a builtin, a type) with values -/
def CallR (X : Cx) (f : Value) (r : List V → Hp → VK → Prop) : Prop :=
  ∀ (pins : List (Addr × Obj)) (s : Shared) (σ : St) (H : Hp) (xs : List V) (us : List Value) (Q : VK), Inv X pins σ H s → Vals xs us → r xs H Q →
    wpAny (model X.prog X.w) X.A (call f us) (EP X pins σ Q) X.xe s
def tOp (r : R2) (ta tb : TE) : TE := fun σ H Q => ta σ H fun x H1 => tb σ H1 fun y H2 => r x y H2 Q
/-- ints in, under C, and a value out -/
def rI (C : Int → Int → Prop) (g : Int → Int → V) : R2 := fun x y H Q => ∃ i j, x = .int i ∧ y = .int j ∧ C i j ∧ Q (g i j) H
def rI0 (g : Int → Int → V) : R2 := fun x y H Q => ∃ i j, x = .int i ∧ y = .int j ∧ Q (g i j) H
section
variable {X : Cx} {a b c : Expr} {ta tb tc : TE} {pos : Pos}

theorem binT (ha : PE X a ta) (hb : PE X b tb) {pins : List (Addr × Obj)} {s : Shared} {σ : St} {H : Hp} {R : V → V → Hp → Prop} (I : Inv X pins σ H s)
    (h : ta σ H fun x H1 => tb σ H1 fun y H2 => R x y H2) {Q : Value → Shared → Prop} {f : Value → Value → Sem Value}
    (hf : ∀ v u s2 x y H2, Inv X pins σ H2 s2 → RelV x v → RelV y u → R x y H2 → wpAny (model X.prog X.w) X.A (f v u) Q X.xe s2) :
    wpAny (model X.prog X.w) X.A (eval a X.env) (fun v s₁ => wpAny (model X.prog X.w) X.A (eval b X.env) (fun u s₂ => wpAny (model X.prog X.w) X.A (f v u) Q X.xe s₂) X.xe s₁) X.xe s := by
  refine thn (ha pins s σ H _ I h) fun v s1 ⟨x, H1, I1, r1, q1⟩ => ?_
  refine thn (hb pins s1 σ H1 _ I1 q1) fun u s2 ⟨y, H2, I2, r2, q2⟩ => ?_
  exact hf v u s2 x y H2 I2 r1 r2 q2

theorem pe_op {op : Operator} {r : R2} (ho : OpR X (binaryOp op) r) (ha : PE X a ta) (hb : PE X b tb) : PE X (.BinOp a op b pos) (tOp r ta tb) := by
  intro pins s σ H Q I h
  exact wpAny_BinOp (binT ha hb I h fun v u s2 x y H2 I2 rx ry q => ho pins s2 σ H2 x y v u Q I2 rx ry q)
/-! ### ints -/
theorem opI {f : Value → Value → Sem Value} {C : Int → Int → Prop} {g : Int → Int → Int}
    (rule : ∀ (i j : Int) (t u : Tok) (s : Shared) (Q : Value → Shared → Prop) (E : Value → Shared → Prop), C i j → Q (.int (g i j) s.toks) { s with toks := s.toks + 1 } → wpAny (model X.prog X.w) X.A (f (.int i t) (.int j u)) Q E s) :
    OpR X f (rI C fun i j => .int (g i j)) := by
  intro pins s σ H x y v u Q I rx ry h
  obtain ⟨i, j, rfl, rfl, hc, q⟩ := h
  obtain ⟨t, rfl⟩ := rx
  obtain ⟨t', rfl⟩ := ry
  exact rule i j t t' s _ _ hc ⟨.int (g i j), H, I.tok _, ⟨_, rfl⟩, q⟩
theorem opI0 {f : Value → Value → Sem Value} {g : Int → Int → Int}
    (rule : ∀ (i j : Int) (t u : Tok) (s : Shared) (Q : Value → Shared → Prop) (E : Value → Shared → Prop), Q (.int (g i j) s.toks) { s with toks := s.toks + 1 } → wpAny (model X.prog X.w) X.A (f (.int i t) (.int j u)) Q E s) :
    OpR X f (rI0 fun i j => .int (g i j)) := by
  intro pins s σ H x y v u Q I rx ry h
  obtain ⟨i, j, rfl, rfl, q⟩ := h
  obtain ⟨t, rfl⟩ := rx
  obtain ⟨t', rfl⟩ := ry
  exact rule i j t t' s _ _ ⟨.int (g i j), H, I.tok _, ⟨_, rfl⟩, q⟩
theorem opB0 {f : Value → Value → Sem Value} {g : Int → Int → Bool}
    (rule : ∀ (i j : Int) (t u : Tok) (s : Shared) (Q : Value → Shared → Prop) (E : Value → Shared → Prop), Q (.bool (g i j)) s → wpAny (model X.prog X.w) X.A (f (.int i t) (.int j u)) Q E s) :
    OpR X f (rI0 fun i j => .bl (g i j)) := by
  intro pins s σ H x y v u Q I rx ry h
  obtain ⟨i, j, rfl, rfl, q⟩ := h
  obtain ⟨t, rfl⟩ := rx
  obtain ⟨t', rfl⟩ := ry
  exact rule i j t t' s _ _ ⟨.bl (g i j), H, I, rfl, q⟩

def CDiv (i j : Int) : Prop := 0 < j ∧ j < 1073741824
def CMul (i j : Int) : Prop := (-(2 ^ 64) < i ∧ i < 2 ^ 64) ∨ (-(2 ^ 64) < j ∧ j < 2 ^ 64)
theorem CMul.ok {i j : Int} (h : CMul i j) : IntMulOk i j := by
  rcases h with ⟨h1, h2⟩ | ⟨h1, h2⟩
  · exact .of_left (intBits_le_64 h1 h2)
  · exact .of_right (intBits_le_64 h1 h2)
theorem op_add : OpR X (binaryOp .Add) (rI0 fun i j => .int (i + j)) := opI0 fun _ _ _ _ _ _ _ q => add_int q
theorem op_mul : OpR X (binaryOp .Mult) (rI CMul fun i j => .int (i * j)) := opI fun _ _ _ _ _ _ _ hc q => mul_int q hc.ok
/-- // by a positive divisor -/
theorem op_fdiv : OpR X (binaryOp .FloorDiv) (rI CDiv fun i j => .int (i / j)) := opI fun i j _ _ _ _ _ hc q => by
  have h1 : (0 : Int) < j := hc.1
  have h2 : j < 1073741824 := hc.2
  exact floordiv_int (by omega) (by rw [Int.fdiv_eq_ediv_of_nonneg i (by omega)]; exact q) (.inl (PyProof.noPylong_small (by omega)))
/-- % by a positive divisor of any size -/
theorem op_mod : OpR X (binaryOp .Mod) (rI (fun _ j => 0 < j) fun i j => .int (i % j)) := opI fun i j _ _ _ _ _ hc q => by
  have h1 : (0 : Int) < j := hc
  exact mod_int' (by omega) (by rw [Int.fmod_eq_emod_of_nonneg i (by omega)]; exact q)
/-! ### bools among ints: n += (a < b) -/
end

/-! ### comparisons -/
/-- the scalars that == tells apart as data does -/
def scal : V → V → Bool
  | .non, .non => true | .non, .int _ => true | .int _, .non => true | .non, .bl _ => true | .bl _, .non => true | .non, .str _ => true | .str _, .non => true
  | .int _, .int _ => true | .bl _, .bl _ => true | .str _, .str _ => true | .byt _, .byt _ => true
  | .int _, .str _ => true | .str _, .int _ => true | .bl _, .str _ => true | .str _, .bl _ => true
  | _, _ => false
def rEq : R2 := fun x y H Q => scal x y = true ∧ Q (.bl (decide (x = y))) H
def rNe : R2 := fun x y H Q => scal x y = true ∧ Q (.bl (!decide (x = y))) H

theorem dec_int {i j : Int} : decide (V.int i = V.int j) = (i == j) := by
  rw [Bool.eq_iff_iff]
  simp
theorem dec_bl {i j : Bool} : decide (V.bl i = V.bl j) = (i == j) := by
  rw [Bool.eq_iff_iff]
  simp
theorem dec_str {i j : Str} : decide (V.str i = V.str j) = (i == j) := by
  rw [Bool.eq_iff_iff]
  simp
theorem dec_byt {i j : Array UInt8} : decide (V.byt i = V.byt j) = (i.toList == j.toList) := by
  rw [Bool.eq_iff_iff]
  cases i
  cases j
  simp

section
variable {X : Cx} {a b c : Expr} {ta tb tc : TE} {pos : Pos}
theorem fin_bl {pins : List (Addr × Obj)} {σ : St} {H : Hp} {s : Shared} {Q : VK} {k k' : Bool} (I : Inv X pins σ H s) (q : Q (.bl k) H) (e : k = k') : EP X pins σ Q (.bool k') s := by
  subst e
  exact ⟨.bl k, H, I, rfl, q⟩
theorem op_eq : OpR X (compareOp .Eq) rEq := by
  intro pins s σ H x y v u Q I rx ry h
  obtain ⟨hs, q⟩ := h
  cases x with
  | non =>
    cases rx
    cases y with
    | non => cases ry; exact PySem.EqNone.eq_none_none (fin_bl I q (by simp))
    | bl j => cases ry; exact PySem.EqNone.eq_none_bool (fin_bl I q (by simp))
    | int j => obtain ⟨t', rfl⟩ := ry; exact PySem.EqNone.eq_none_int (fin_bl I q (by simp))
    | str j => obtain ⟨t', rfl⟩ := ry; exact PySem.EqNone.eq_none_str (fin_bl I q (by simp))
    | _ => exact absurd (show false = true from hs) Bool.false_ne_true
  | bl i =>
    cases rx
    cases y with
    | non => cases ry; exact PySem.EqNone.eq_bool_none (fin_bl I q (by simp))
    | bl j => cases ry; exact eq_bool (fin_bl I q dec_bl)
    | str j => obtain ⟨t', rfl⟩ := ry; exact PySem.EqMixed.eq_bool_str (fin_bl I q (by simp))
    | _ => exact absurd (show false = true from hs) Bool.false_ne_true
  | int i =>
    obtain ⟨t, rfl⟩ := rx
    cases y with
    | non => cases ry; exact PySem.EqNone.eq_int_none (fin_bl I q (by simp))
    | int j => obtain ⟨t', rfl⟩ := ry; exact eq_int (fin_bl I q dec_int)
    | str j => obtain ⟨t', rfl⟩ := ry; exact PySem.EqMixed.eq_int_str (fin_bl I q (by simp))
    | _ => exact absurd (show false = true from hs) Bool.false_ne_true
  | str i =>
    obtain ⟨t, rfl⟩ := rx
    cases y with
    | non => cases ry; exact PySem.EqNone.eq_str_none (fin_bl I q (by simp))
    | bl j => cases ry; exact PySem.EqMixed.eq_str_bool (fin_bl I q (by simp))
    | int j => obtain ⟨t', rfl⟩ := ry; exact PySem.EqMixed.eq_str_int (fin_bl I q (by simp))
    | str j => obtain ⟨t', rfl⟩ := ry; exact eq_str (fin_bl I q dec_str)
    | _ => exact absurd (show false = true from hs) Bool.false_ne_true
  | byt i =>
    obtain ⟨t, rfl⟩ := rx
    cases y with
    | byt j => obtain ⟨t', rfl⟩ := ry; exact PySem.W.eq_bytes (fin_bl I q dec_byt)
    | _ => exact absurd (show false = true from hs) Bool.false_ne_true
  | _ => cases y <;> exact absurd (show false = true from hs) Bool.false_ne_true
theorem op_ne : OpR X (compareOp .NotEq) rNe := by
  intro pins s σ H x y v u Q I rx ry h
  obtain ⟨hs, q⟩ := h
  cases x with
  | non =>
    cases rx
    cases y with
    | non => cases ry; exact PySem.EqNone.ne_none_none (fin_bl I q (by simp))
    | bl j => cases ry; exact PySem.EqNone.ne_none_bool (fin_bl I q (by simp))
    | int j => obtain ⟨t', rfl⟩ := ry; exact PySem.EqNone.ne_none_int (fin_bl I q (by simp))
    | str j => obtain ⟨t', rfl⟩ := ry; exact PySem.EqNone.ne_none_str (fin_bl I q (by simp))
    | _ => exact absurd (show false = true from hs) Bool.false_ne_true
  | bl i =>
    cases rx
    cases y with
    | non => cases ry; exact PySem.EqNone.ne_bool_none (fin_bl I q (by simp))
    | bl j => cases ry; exact ne_bool (fin_bl I q (congrArg not dec_bl))
    | str j => obtain ⟨t', rfl⟩ := ry; exact PySem.EqMixed.ne_bool_str (fin_bl I q (by simp))
    | _ => exact absurd (show false = true from hs) Bool.false_ne_true
  | int i =>
    obtain ⟨t, rfl⟩ := rx
    cases y with
    | non => cases ry; exact PySem.EqNone.ne_int_none (fin_bl I q (by simp))
    | int j => obtain ⟨t', rfl⟩ := ry; exact ne_int (fin_bl I q (congrArg not dec_int))
    | str j => obtain ⟨t', rfl⟩ := ry; exact PySem.EqMixed.ne_int_str (fin_bl I q (by simp))
    | _ => exact absurd (show false = true from hs) Bool.false_ne_true
  | str i =>
    obtain ⟨t, rfl⟩ := rx
    cases y with
    | non => cases ry; exact PySem.EqNone.ne_str_none (fin_bl I q (by simp))
    | bl j => cases ry; exact PySem.EqMixed.ne_str_bool (fin_bl I q (by simp))
    | int j => obtain ⟨t', rfl⟩ := ry; exact PySem.EqMixed.ne_str_int (fin_bl I q (by simp))
    | str j => obtain ⟨t', rfl⟩ := ry; exact ne_str (fin_bl I q (congrArg not dec_str))
    | _ => exact absurd (show false = true from hs) Bool.false_ne_true
  | byt i =>
    obtain ⟨t, rfl⟩ := rx
    cases y with
    | byt j => obtain ⟨t', rfl⟩ := ry; exact PySem.W.ne_bytes (fin_bl I q (congrArg not dec_byt))
    | _ => exact absurd (show false = true from hs) Bool.false_ne_true
  | _ => cases y <;> exact absurd (show false = true from hs) Bool.false_ne_true

theorem op_lt : OpR X (compareOp .Lt) (rI0 fun i j => .bl (decide (i < j))) := opB0 fun _ _ _ _ _ _ _ q => lt_int q
theorem op_le : OpR X (compareOp .LtE) (rI0 fun i j => .bl (decide (i ≤ j))) := opB0 fun _ _ _ _ _ _ _ q => le_int q
/-- the one string within the other -/
theorem op_in_str : OpR X (compareOp .In) (fun x y H Q => ∃ i j, x = .str i ∧ y = .str j ∧ Q (.bl (!(Builtin.Str.occurrences j i 0 j.length 1).isEmpty)) H) := by
  intro pins s σ H x y v u Q I rx ry h
  obtain ⟨i, j, rfl, rfl, q⟩ := h
  obtain ⟨t, rfl⟩ := rx
  obtain ⟨t', rfl⟩ := ry
  exact in_str (fin_bl I q rfl)

/-- two rules for one operation: by cases -/
theorem OpR.or {f : Value → Value → Sem Value} {r r' : R2} (h : OpR X f r) (h' : OpR X f r') : OpR X f (fun x y H Q => r x y H Q ∨ r' x y H Q) := by
  intro pins s σ H x y v u Q I rx ry q
  rcases q with q | q
  · exact h pins s σ H x y v u Q I rx ry q
  · exact h' pins s σ H x y v u Q I rx ry q

theorem nomark (b : Expr) {op : CmpOp} (h : op ≠ .In := by decide) (h2 : op ≠ .NotIn := by decide) : behindInMarks op b = false := by
  have e1 : (op == CmpOp.In) = false := by cases op <;> first | rfl | exact absurd rfl h
  have e2 : (op == CmpOp.NotIn) = false := by cases op <;> first | rfl | exact absurd rfl h2
  cases b <;> simp [behindInMarks, e1, e2]
/-- a comparison as a value; hm: nomark b, or (for in, not in) by with_unfolding_all rfl -/
theorem pe_cmpR {op : CmpOp} {r : R2} (ho : OpR X (compareOp op) r) (ha : PE X a ta) (hb : PE X b tb) (hm : behindInMarks op b = false) : PE X (.Compare a [op] [b] pos) (tOp r ta tb) := by
  intro pins s σ H Q I h
  exact wpAny_Compare1 (binT ha hb I h fun v u s2 x y H2 I2 rx ry q => ho pins s2 σ H2 x y v u Q I2 rx ry q) hm
/-- a reading of a value as a test -/
def tTest (t : TE) : TT := fun σ H Q => t σ H fun x H' => ∃ k, x = .bl k ∧ Q k H'
theorem pt_cmpR {op : CmpOp} {r : R2} (ho : OpR X (compareOp op) r) (ha : PE X a ta) (hb : PE X b tb) (hm : behindInMarks op b = false) : PT X (.Compare a [op] [b] pos) (tTest (tOp r ta tb)) := by
  intro pins s σ H Q I h
  refine wpAny_isTrue_Compare1 (thn (ha pins s σ H _ I h) fun v s1 ⟨x, H1, I1, r1, q1⟩ => thn (hb pins s1 σ H1 _ I1 q1) fun u s2 ⟨y, H2, I2, r2, q2⟩ =>
    thn (ho pins s2 σ H2 x y v u _ I2 r1 r2 q2) fun c s3 ⟨z, H3, I3, r3, k, e, q3⟩ => ?_) hm
  subst e
  cases r3
  exact wpAny_truthy_bool ⟨H3, I3, q3⟩
/-- a op1 b op2 c -/
def tChain (r r' : R2) (ta tb tc : TE) : TE := fun σ H Q => ta σ H fun x H1 => tb σ H1 fun y H2 => r x y H2 fun z H3 => ∃ k, z = .bl k ∧
  (if k = true then tc σ H3 fun w' H4 => r' y w' H4 Q else Q (.bl false) H3)
theorem pe_chain {op op' : CmpOp} {r r' : R2} (ho : OpR X (compareOp op) r) (ho' : OpR X (compareOp op') r') (ha : PE X a ta) (hb : PE X b tb) (hc : PE X c tc)
    (hm : lastMarks [op, op'] [b, c] = false := by with_unfolding_all rfl) : PE X (.Compare a [op, op'] [b, c] pos) (tChain r r' ta tb tc) := by
  intro pins s σ H Q I h
  refine Compare_chain (thn (ha pins s σ H _ I h) fun v s1 ⟨x, H1, I1, r1, q1⟩ => chain_link (thn (hb pins s1 σ H1 _ I1 q1) fun u s2 ⟨y, H2, I2, r2, q2⟩ =>
    thn (ho pins s2 σ H2 x y v u _ I2 r1 r2 q2) fun d s3 ⟨z, H3, I3, r3, k, e, q3⟩ => ?_)) hm
  subst e
  cases r3
  refine wpAny_truthy_bool ?_
  cases k with
  | false => exact ite_ff ⟨.bl false, H3, I3, rfl, q3⟩
  | true => exact ite_tt (chain_last (thn (hc pins s3 σ H3 _ I3 q3) fun w' s4 ⟨z', H4, I4, r4, q4⟩ => ho' pins s4 σ H4 y z' u w' Q I4 r2 r4 q4))
theorem pt_chain {op op' : CmpOp} {r r' : R2} (ho : OpR X (compareOp op) r) (ho' : OpR X (compareOp op') r') (ha : PE X a ta) (hb : PE X b tb) (hc : PE X c tc)
    (hm : lastMarks [op, op'] [b, c] = false := by with_unfolding_all rfl) : PT X (.Compare a [op, op'] [b, c] pos) (tTest (tChain r r' ta tb tc)) := by
  intro pins s σ H Q I h
  refine isTrue_chain (thn (ha pins s σ H _ I h) fun v s1 ⟨x, H1, I1, r1, q1⟩ => test_link (thn (hb pins s1 σ H1 _ I1 q1) fun u s2 ⟨y, H2, I2, r2, q2⟩ =>
    thn (ho pins s2 σ H2 x y v u _ I2 r1 r2 q2) fun d s3 ⟨z, H3, I3, r3, k, e, q3⟩ => ?_)) hm
  subst e
  cases r3
  refine wpAny_truthy_bool ?_
  cases k with
  | false =>
    obtain ⟨k', e', q'⟩ := q3
    cases e'
    exact ite_ff ⟨H3, I3, q'⟩
  | true =>
    refine ite_tt (test_last (thn (hc pins s3 σ H3 _ I3 q3) fun w' s4 ⟨z', H4, I4, r4, q4⟩ => thn (ho' pins s4 σ H4 y z' u w' _ I4 r2 r4 q4) fun d' s5 ⟨z2, H5, I5, r5, k2, e2, q5⟩ => ?_))
    subst e2
    cases r5
    exact wpAny_truthy_bool ⟨H5, I5, q5⟩

/-! ### truth -/
theorem line63 : (sizeLine : Nat) < 2 ^ 63 := by rw [sizeLine_eq]; decide
/-! ### strs and bytes -/
theorem op_add_str : OpR X (binaryOp .Add) (fun x y H Q => ∃ i j, x = .str i ∧ y = .str j ∧ i.length + j.length ≤ sizeLine ∧ Q (.str (i ++ j)) H) := by
  intro pins s σ H x y v u Q I rx ry h
  obtain ⟨i, j, rfl, rfl, hz, q⟩ := h
  obtain ⟨t, rfl⟩ := rx
  obtain ⟨t', rfl⟩ := ry
  exact add_str (fun t' tk => ⟨.str (i ++ j), H, I.tok _, ⟨_, rfl⟩, q⟩) hz
/-! ### scalar builtins, by CallR -/
theorem vals1 {x : V} {us : List Value} (r : Vals [x] us) : ∃ u, us = [u] ∧ RelV x u := by
  cases r with
  | cons r1 r2 => cases r2; exact ⟨_, rfl, r1⟩
theorem vals2 {x y : V} {us : List Value} (r : Vals [x, y] us) : ∃ u w', us = [u, w'] ∧ RelV x u ∧ RelV y w' := by
  cases r with
  | cons r1 r2 =>
    cases r2 with
    | cons r3 r4 => cases r4; exact ⟨_, _, rfl, r1, r3⟩
end
end L2

namespace L2
open PySem PySem.Spec PyProof.Rows

/-! ### an instance, its attributes a map -/
structure ObjM (h : Heap) (x dx C : Addr) (mA : Str → Option Value) : Prop where
  obj : h.get? x = some (PySem.W.instObj C dx)
  ns : h.Ns1 dx mA
  ne : dx ≠ x

theorem lookIn_ns {h : Heap} {dx : Addr} {mA : Str → Option Value} (n : h.Ns1 dx mA) : ∃ od, h.get? dx = some od ∧ ∀ name, PySem.W.lookIn name od = some (mA name) := by
  obtain ⟨o, es, ep, ho, hd, hk, _, hm⟩ := n
  refine ⟨o, ho, fun name => ?_⟩
  have e := hm name
  unfold nsFind findBy at e
  rw [← Array.find?_toList] at e
  unfold PySem.W.lookIn
  rw [hd]
  dsimp only
  split
  · rename_i y q
    rw [q] at e
    exact congrArg some e
  · rename_i q
    rw [q] at e
    have a : es.toList.any (·.refKey) = false := by
      rw [List.any_eq_false]
      intro y hy
      obtain ⟨z, t, hkey⟩ := hk y (Array.mem_toList_iff.mp hy)
      simp [DictEntry.refKey, hkey]
    have a' : ¬ es.toList.any (·.refKey) = true := by rw [a]; exact Bool.false_ne_true
    rw [if_neg a']
    exact congrArg some e

theorem ObjM.look {h : Heap} {x dx C : Addr} {mA : Str → Option Value} (I : ObjM h x dx C mA) : ∃ od, PySem.W.InstAt h x (PySem.W.instObj C dx) C (some od) ∧ ∀ name, PySem.W.lookIn name od = some (mA name) :=
  let ⟨od, ho, hl⟩ := lookIn_ns I.ns
  ⟨od, ⟨I.obj, rfl, rfl, ho⟩, hl⟩

section
variable {prog : Program} {w : World} {A : Around} {E : Value → Shared → Prop} {s : Shared} {K : PySem.W.Frag} {x dx C f : Addr} {mA : Str → Option Value} {name : Str} {v : Value}

theorem get_map {expr : Bool} {Q : Value → Shared → Prop} (X : K.In s.heap) (I : ObjM s.heap x dx C mA) (hg : PySem.W.plainGet K C name = true) (hh : PySem.W.hasDictIn K C = true)
    (ha : PySem.W.findIn K (.ref C) name = some none) (hv : mA name = some v) (hv' : PySem.W.handedIn v = true) (h : Q v { s with toks := s.toks + 1 }) :
    wpAny (model prog w) A (getAttr (.ref x) name expr) Q E s := by
  obtain ⟨od, J, hl⟩ := I.look
  exact PySem.W.get_value X J (PySem.W.plainGet_of hg).1 (PySem.W.findObj_own hh ha rfl (by rw [hl, hv])) hv' h

theorem get_meth {pl : Sem Bool} {Q : Value × List Value → Shared → Prop} (X : K.In s.heap) (I : ObjM s.heap x dx C mA) (hg : PySem.W.plainGet K C name = true)
    (hf : PySem.W.findIn K (.ref C) name = some (some (.ref f))) (ht : PySem.W.isFn K (.ref f) = true) (hv : mA name = none) (h : Q (.ref f, [.ref x]) s) :
    wpAny (model prog w) A (getMethod (.ref x) name pl) Q E s := by
  obtain ⟨od, J, hl⟩ := I.look
  exact PySem.W.method_fn X J (PySem.W.plainGet_of hg).1 (PySem.W.plainGet_of hg).2 hf (beq_iff_eq.mp ht) (by show (PySem.W.lookIn name od).map (·.isSome) = some false; rw [hl, hv]; rfl) h

theorem set_map {ns : List Str} {Q : Unit → Shared → Prop} (X : K.In s.heap) (I : ObjM s.heap x dx C mA)
    (hs : PySem.W.findIn K (.ref C) "__setattr__" = some (some (.builtin "object.__setattr__"))) (hp : PySem.W.plainOver K C = true) (ht : PySem.W.takerIn K C name = some none) (hh : PySem.W.hasDictIn K C = true)
    (hw : PySem.Within mA ns) (hsz : ns.length ≤ sizeLine)
    (h : ∀ h', ObjM h' x dx C (fun y => if y = name then some v else mA y) → Heap.SameBut dx s.heap h' → Q () { s with heap := h', toks := s.toks + 2 }) :
    wpAny (model prog w) A (setAttr (.ref x) name v) Q E s := by
  obtain ⟨od, J, hl⟩ := I.look
  refine PySem.W.set_plain X J hs (PySem.W.osa_open (s := { s with toks := s.toks + 1 }) (r := none) X J hp ht fun b => ?_)
  obtain ⟨cd, hc, hd'⟩ := PySem.W.any_some hh
  have hx : s.heap.get? x = some ⟨.ref C, some dx, .plain, #[]⟩ := I.obj
  refine wpAny_bind (wpAny_pure (wpAny_bind (wpAny_bind (wpAny_loadPart hx (wpAny_bind (PySem.W.Looks.here (s := { s with toks := s.toks + 1 }) (PySem.W.looks_clsIn X hc) ?_))))))
  rw [hd']
  refine wpAny_pure (a := some dx) (wpAny_bind (wpAny_pure (wpAny_bind ?_)))
  refine wpAny_nsSet1 (s := { s with toks := s.toks + 1 }) I.ns fun h' hn2 hs2 => ?_
  obtain ⟨oD, esD, epD, hoD, hdD, hcD⟩ := hn2.count (PySem.Within.cons name v hw)
  refine wpAny_bind (wpAny_lookBehind hoD (by rw [hdD]; exact pastItsLine_dict (Nat.le_trans hcD (by rw [List.length_cons]; omega))) ?_)
  exact wpAny_pure (h _ ⟨(hs2.2 _ (Ne.symm I.ne)).trans I.obj, hn2, I.ne⟩ hs2)

/-- C(..): the dict at the heap's end, the instance behind it; then its __init__ -/
theorem make_map {R : Result → Shared → Prop} {vs : List Value} {kw : List (Str × Value)} (X : K.In s.heap) (hm : PySem.W.makesIn K C = true)
    (hi : PySem.W.findIn K (.ref C) "__init__" = some (some (.ref f))) (hf : PySem.W.typeIn K (.ref f) = some (.type "function"))
    (h : codeAny (model prog w) (A.under (.builtin "type.__call__" ⟨.ref C :: vs, kw⟩)) (.call (.ref f) ⟨.ref (s.heap.objs.size + 1) :: vs, kw⟩) (PySem.W.InitBack (s.heap.objs.size + 1) R)
      { s with heap := (s.heap.push PySem.W.emptyDict).push (PySem.W.instObj C s.heap.objs.size) }) :
    codeAny (model prog w) A (.call (.ref C) ⟨vs, kw⟩) R s := by
  obtain ⟨hh, g, d, t, os⟩ := s
  exact PySem.W.make_core (PySem.W.makes_of X hm) (PySem.W.looks_findIn X hi) (fun self => PySem.W.bind_fn X self hf) (.inl rfl) h
end

/-! ### the attributes as a list of pairs -/
def putF (f : Str) (v : V) : List (Str × V) → List (Str × V)
  | [] => [(f, v)]
  | (g, x) :: r => if g = f then (g, v) :: r else (g, x) :: putF f v r
theorem lookup_putF (f g : Str) (v : V) : ∀ fs : List (Str × V), (putF f v fs).lookup g = if g = f then some v else fs.lookup g
  | [] => by
    show List.lookup g [(f, v)] = _
    by_cases h : g = f
    · have hb : (g == f) = true := beq_iff_eq.mpr h
      simp only [List.lookup, hb, if_pos h]
    · have hb : (g == f) = false := beq_eq_false_iff_ne.mpr h
      simp only [List.lookup, hb, if_neg h]
  | (k, x) :: r => by
    have ih := lookup_putF f g v r
    rw [show putF f v ((k, x) :: r) = (if k = f then (k, v) :: r else (k, x) :: putF f v r) from rfl]
    by_cases hk : k = f
    · rw [if_pos hk]
      by_cases h : g = k
      · have hb : (g == k) = true := beq_iff_eq.mpr h
        simp only [List.lookup, hb, if_pos (h.trans hk)]
      · have hb : (g == k) = false := beq_eq_false_iff_ne.mpr h
        simp only [List.lookup, hb, if_neg (fun e : g = f => h (e.trans hk.symm))]
    · rw [if_neg hk]
      by_cases h : g = k
      · have hb : (g == k) = true := beq_iff_eq.mpr h
        simp only [List.lookup, hb, if_neg (fun e : g = f => hk (h.symm.trans e))]
      · have hb : (g == k) = false := beq_eq_false_iff_ne.mpr h
        simp only [List.lookup, hb]
        exact ih
theorem keys_putF (f : Str) (v : V) : ∀ fs : List (Str × V), f ∈ (putF f v fs).map (·.1) ∧ ∀ g, g ∈ fs.map (·.1) → g ∈ (putF f v fs).map (·.1)
  | [] => ⟨by simp [putF], fun g h => by simp at h⟩
  | (k, x) :: r => by
    obtain ⟨i1, i2⟩ := keys_putF f v r
    rw [show putF f v ((k, x) :: r) = (if k = f then (k, v) :: r else (k, x) :: putF f v r) from rfl]
    by_cases hk : k = f
    · rw [if_pos hk]
      subst hk
      exact ⟨by simp, fun g h => by simpa using h⟩
    · rw [if_neg hk]
      refine ⟨?_, fun g h => ?_⟩
      · rw [List.map_cons]
        exact List.mem_cons_of_mem _ i1
      · rw [List.map_cons] at h ⊢
        rcases List.mem_cons.mp h with e | e
        · exact List.mem_cons.mpr (.inl e)
        · exact List.mem_cons_of_mem _ (i2 g e)
theorem length_putF (f : Str) (v : V) : ∀ fs : List (Str × V), (putF f v fs).length ≤ fs.length + 1
  | [] => by simp [putF]
  | (k, x) :: r => by
    have ih := length_putF f v r
    rw [show putF f v ((k, x) :: r) = (if k = f then (k, v) :: r else (k, x) :: putF f v r) from rfl]
    by_cases hk : k = f
    · rw [if_pos hk, List.length_cons, List.length_cons]; omega
    · rw [if_neg hk, List.length_cons, List.length_cons]; omega

theorem RelO.some_of {v : V} {o : Option Value} (r : RelO (some v) o) : ∃ u, o = some u ∧ RelV v u := by
  cases o with
  | none => exact (show False from r).elim
  | some u => exact ⟨u, rfl, r⟩
theorem RelO.none_of {o : Option Value} (r : RelO none o) : o = none := by
  cases o with
  | none => rfl
  | some u => exact (show False from r).elim
theorem handed_of {v : V} {u : Value} (r : RelV v u) : PySem.W.handedIn u = true := by
  cases v with
  | non => cases (show u = Value.none from r); rfl
  | bl b => cases (show u = Value.bool b from r); rfl
  | int i => obtain ⟨t, e⟩ := (show ∃ t, u = Value.int i t from r); cases e; rfl
  | str x => obtain ⟨t, e⟩ := (show ∃ t, u = Value.str x t from r); cases e; rfl
  | byt b => obtain ⟨t, e⟩ := (show ∃ t, u = Value.bytes b t from r); cases e; rfl
  | flt b => obtain ⟨t, e⟩ := (show ∃ t, u = Value.float b t from r); cases e; rfl
  | ref a => cases (show u = Value.ref a from r); rfl
  | ty n => cases (show u = Value.type n from r); rfl

section
variable {P : Program} {w : World} {H H' : Hp} {h h' : Heap} {a C dx : Addr} {fs fs' : List (Str × V)}
theorem ins_get (hok : HOk P w H h) (e : H a = some (.ins C dx fs)) : ∃ mA, ObjM h a dx C mA ∧ (∀ f, RelO (fs.lookup f) (mA f)) ∧ PySem.Within mA (fs.map (·.1)) ∧ fs.length ≤ 1000 ∧ H dx = some (.own a) := by
  obtain ⟨d, z, ne, ob, mA, n, r, q⟩ := (show ObjOk P w H h a (.ins C dx fs) from hok a _ e)
  exact ⟨mA, ⟨ob, n, ne⟩, r, q, z, d⟩
end

/-! ### what of the text a class must have -/
structure Cls (K : PySem.W.Frag) (C : Addr) : Prop where
  pg : PySem.W.plainGet K C Str.empty = true
  hd : PySem.W.hasDictIn K C = true
  po : PySem.W.plainOver K C = true
  sa : PySem.W.findIn K (.ref C) "__setattr__" = some (some (.builtin "object.__setattr__"))
theorem Cls.get {K : PySem.W.Frag} {C : Addr} (c : Cls K C) (f : Str) : PySem.W.plainGet K C f = true := c.pg
/-- no class of it has the name -/
def NoAttr (K : PySem.W.Frag) (C : Addr) (f : Str) : Prop := PySem.W.findIn K (.ref C) f = some none
theorem NoAttr.taker {K : PySem.W.Frag} {C : Addr} {f : Str} (n : NoAttr K C f) : PySem.W.takerIn K C f = some none := by
  unfold PySem.W.takerIn
  rw [show PySem.W.findIn K (.ref C) f = some none from n]
  rfl
/-- a constant of the class -/
structure Con (K : PySem.W.Frag) (C : Addr) (f : Str) (v : V) (u : Value) : Prop where
  at_ : PySem.W.findIn K (.ref C) f = some (some u)
  rel : RelV v u
  get : PySem.W.specialIn K u "__get__" = some none
  cp : PySem.W.copiedNames.contains f = false
/-- a method: a plain def of the class or of one above it -/
structure Meth (K : PySem.W.Frag) (C : Addr) (m : Str) (f : Addr) : Prop where
  at_ : PySem.W.findIn K (.ref C) m = some (some (.ref f))
  fn : PySem.W.isFn K (.ref f) = true
  kp : PySem.W.keepIn K (.ref f) = true

section
variable {X : Cx} {pins : List (Addr × Obj)} {σ : St} {H : Hp} {s : Shared} {a C dx : Addr} {fs : List (Str × V)} {f : Str} {v : V} {A : Around} {E : Value → Shared → Prop}

theorem getattr_ok {b : Bool} {Q : Value → Shared → Prop} (I : Inv X pins σ H s) (e : H a = some (.ins C dx fs)) (c : Cls X.K C) (n : NoAttr X.K C f) (l : fs.lookup f = some v)
    (h : ∀ u s', Inv X pins σ H s' → RelV v u → Q u s') : wpAny (model X.prog X.w) A (getAttr (.ref a) f b) Q E s := by
  obtain ⟨mA, O, r, _, _, _⟩ := ins_get I.hok e
  obtain ⟨u, hu, ru⟩ := RelO.some_of (v := v) (o := mA f) (by rw [← l]; exact r f)
  exact get_map I.kIn O (c.get f) c.hd n hu (handed_of ru) (h u _ (I.tok _) ru)

theorem getmeth_ok {m : Str} {g : Addr} {pl : Sem Bool} {Q : Value × List Value → Shared → Prop} (I : Inv X pins σ H s) (e : H a = some (.ins C dx fs)) (c : Cls X.K C) (k : Meth X.K C m g) (l : fs.lookup m = none)
    (h : Q (.ref g, [.ref a]) s) : wpAny (model X.prog X.w) A (getMethod (.ref a) m pl) Q E s := by
  obtain ⟨mA, O, r, _, _, _⟩ := ins_get I.hok e
  have hn : mA m = none := RelO.none_of (by rw [← l]; exact r m)
  exact get_meth I.kIn O (c.get m) k.at_ k.fn hn h

theorem setattr_ok {y : V} {u : Value} {Q : Unit → Shared → Prop} (I : Inv X pins σ H s) (e : H a = some (.ins C dx fs)) (c : Cls X.K C) (n : NoAttr X.K C f) (hl : fs.length < 1000) (ry : RelV y u)
    (h : ∀ s', Inv X pins σ (upd H a (.ins C dx (putF f y fs))) s' → Q () s') : wpAny (model X.prog X.w) A (setAttr (.ref a) f u) Q E s := by
  obtain ⟨mA, O, r, wi, _, ho⟩ := ins_get I.hok e
  have hz : (fs.map (·.1)).length ≤ sizeLine := by rw [List.length_map, sizeLine_eq]; omega
  refine set_map I.kIn O c.sa c.po n.taker c.hd wi hz fun h' O' sb => h _ ?_
  have hd : ∃ o, h'.get? dx = some o := let ⟨o, _, _, e', _⟩ := O'.ns; ⟨o, e'⟩
  refine I.write (x := a) (e := dx) (by rw [e]; exact True.intro) (.inr ho) (fun b q hb z => (sb.2 b hb).trans z) hd ?_
  refine ⟨by rw [upd_ne O.ne]; exact ho, ?_, O.ne, O'.obj, _, O'.ns, fun g => ?_, fun g hg => ?_⟩
  · have := length_putF f y fs; omega
  · show RelO ((putF f y fs).lookup g) (if g = f then some u else mA g)
    rw [lookup_putF]
    by_cases q : g = f
    · rw [if_pos q, if_pos q]; exact ry
    · rw [if_neg q, if_neg q]; exact r g
  · by_cases q : g = f
    · rw [q]; exact (keys_putF f y fs).1
    · refine (keys_putF f y fs).2 g (wi g fun z => hg ?_)
      show (if g = f then some u else mA g) = none
      rw [if_neg q]; exact z

/-- a new instance, tracked, without attributes -/
theorem Inv.made (I : Inv X pins σ H s) : Inv X pins σ (upd (upd H s.heap.objs.size (.own (s.heap.objs.size + 1))) (s.heap.objs.size + 1) (.ins C s.heap.objs.size []))
    { s with heap := (s.heap.push PySem.W.emptyDict).push (PySem.W.instObj C s.heap.objs.size) } := by
  have e1 : (s.heap.push PySem.W.emptyDict).get? s.heap.objs.size = some PySem.W.emptyDict := Heap.get?_push_size s.heap rfl
  have e2 : ((s.heap.push PySem.W.emptyDict).push (PySem.W.instObj C s.heap.objs.size)).get? (s.heap.objs.size + 1) = some (PySem.W.instObj C s.heap.objs.size) := by
    have := Heap.get?_push_size (s.heap.push PySem.W.emptyDict) (o := PySem.W.instObj C s.heap.objs.size) rfl
    rwa [Heap.size_push] at this
  have e3 : (s.heap.push PySem.W.emptyDict).Ns s.heap.objs.size (fun _ => none) := ⟨PySem.W.emptyDict, #[], _, e1, rfl, (fun e he => absurd he (by simp)), fun _ => rfl⟩
  have I1 := I.laid (a := s.heap.objs.size) (o := .own (s.heap.objs.size + 1)) (h' := s.heap.push PySem.W.emptyDict) (t' := s.toks) (fun b u q => Heap.get?_push_of_some _ q) (Nat.le_refl _) ⟨_, e1⟩
  refine I1.laid (a := s.heap.objs.size + 1) (o := .ins C s.heap.objs.size []) (t' := s.toks) (fun b u q => Heap.get?_push_of_some _ q) (Nat.le_of_eq (Heap.size_push _ _)) ?_
  have ne : s.heap.objs.size ≠ s.heap.objs.size + 1 := Nat.ne_of_lt (Nat.lt_succ_self _)
  refine ⟨by rw [upd_ne ne, upd_same], Nat.zero_le _, ne, e2, fun _ => none, (Heap.Ns1.of_empty e3).at fun o q => Heap.get?_push_of_some _ q, fun _ => True.intro, fun y hy => absurd rfl hy⟩

/-- e.f where nothing but the object is asked: through attributeBase (super) and the last hold -/
theorem attr_of {prog : Program} {w : World} {env : Env} {e : Expr} {f : Str} {pos : Pos} {s : Shared} {Q : Value → Shared → Prop} (hb : attributeBase e f env (eval e env) = eval e env)
    (h : wpAny (model prog w) A (eval e env) (fun o s₁ => wpAny (model prog w) A (getAttr o f true) Q E s₁) E s) : wpAny (model prog w) A (eval (.Attribute e f pos) env) Q E s :=
  Attribute_any_ h (by rw [arm_eval_Attribute, hb])
end

/-! ### readings and rules -/
/-- e.f, an attribute of the instance -/
def tFld (K : PySem.W.Frag) (ta : TE) (f : Str) : TE := fun σ H Q => ta σ H fun x H1 => ∃ a C dx fs v, x = .ref a ∧ H1 a = some (.ins C dx fs) ∧ Cls K C ∧ NoAttr K C f ∧ fs.lookup f = some v ∧ Q v H1
/-- e.f = value -/
def sFld (K : PySem.W.Frag) (ta tv : TE) (f : Str) : TS := fun D σ H => tv σ H fun y H1 => ta σ H1 fun x H2 => ∃ a C dx fs, x = .ref a ∧ H2 a = some (.ins C dx fs) ∧ Cls K C ∧ NoAttr K C f ∧ fs.length < 1000 ∧
  D.nx σ (upd H2 a (.ins C dx (putF f y fs)))
section
variable {X : Cx} {o e value : Expr} {f : Str} {pos pos' tpos : Pos} {ta tv : TE}
theorem pe_fld (he : PE X e ta) (hb : attributeBase e f X.env (eval e X.env) = eval e X.env) : PE X (.Attribute e f pos) (tFld X.K ta f) := by
  intro pins s σ H Q I h
  refine attr_of hb (thn (he pins s σ H _ I h) fun u s1 ⟨x, H1, I1, rx, a, C, dx, fs, v, ex, ea, c, n, l, q⟩ => ?_)
  subst ex
  obtain rfl : u = Value.ref a := rx
  exact getattr_ok I1 ea c n l fun u' s2 I2 ru => ⟨v, H1, I2, ru, q⟩
theorem ps_fld (ha : PE X o ta) (hv : PE X value tv) (hs : swapsWith value (some (.Attribute o f pos')) pos.line X.env = pure false) : PS X (.Assign [.Attribute o f pos'] value pos) (sFld X.K ta tv f) := by
  intro pins s σ H D I h
  refine plainObj_wpAny_Assign_Attribute (thn (hv pins s σ H _ I h) fun u s1 ⟨y, H1, I1, ry, q⟩ => thn (ha pins s1 σ H1 _ I1 q) fun ov s2 ⟨x, H2, I2, rx, a, C, dx, fs, ex, ea, c, n, l, q2⟩ => ?_) hs
  subst ex
  obtain rfl : ov = Value.ref a := rx
  exact setattr_ok I2 ea c n l ry fun s3 I3 => ⟨σ, _, I3, q2⟩
end

/-! ### isinstance -/
section
variable {X : Cx} {pins : List (Addr × Obj)} {σ : St} {H : Hp} {s : Shared} {A : Around} {E : Value → Shared → Prop} {Q : Value → Shared → Prop} {c : Value} {b : Bool}
/-- the type of a value, as the fragment's deciders take it; for an instance its class -/
inductive TyOf (K : PySem.W.Frag) (H : Hp) : V → Value → Prop where
  | non : TyOf K H .non (.type "NoneType")
  | bl (x : Bool) : TyOf K H (.bl x) (.type "bool")
  | int (i : Int) : TyOf K H (.int i) (.type "int")
  | str (x : Str) : TyOf K H (.str x) (.type "str")
  | flt (x : UInt64) : TyOf K H (.flt x) (.type "float")
  | lst {a : Addr} {xs : List V} (e : H a = some (.lst xs)) : TyOf K H (.ref a) (.type "list")
  | frz {a : Addr} {o : Obj} {xs : List V} (e : H a = some (.frz o (.lst xs))) : TyOf K H (.ref a) (.type "list")
  | tup {a : Addr} {xs : List V} (e : H a = some (.tup xs)) : TyOf K H (.ref a) (.type "tuple")
  | dK {a : Addr} {kvs : List (Key × V)} (e : H a = some (.dK kvs)) : TyOf K H (.ref a) (.type "dict")
  | dT {a : Addr} {kvs : List (List Key × V)} (e : H a = some (.dT kvs)) : TyOf K H (.ref a) (.type "dict")
  | ins {a C dx : Addr} {fs : List (Str × V)} (e : H a = some (.ins C dx fs)) (cl : Cls K C) (ha : PySem.W.findIn K (.ref C) "__class__" = some (some (.builtin "object.__class__")))
      (hn : PySem.W.specialIn K (.builtin "object.__class__") "__get__" = some (some (.builtin "getset_descriptor.__get__"))) (htk : PySem.W.takesIn K (.builtin "object.__class__") = some true)
      (hm : PySem.W.mroIn K C (.type "object") = some true) : TyOf K H (.ref a) (.ref C)
/-- isinstance(x, c) for one class c, a built-in or an own one: kitOne's answer -/
theorem isinst_ok {x : V} {u t : Value} (I : Inv X pins σ H s) (rx : RelV x u) (ty : TyOf X.K H x t) (e : PySem.W.kitOne X.K t c = some b) (h : ∀ tk, Q (.bool b) { s with toks := tk }) :
    wpAny (model X.prog X.w) A (call (.builtin "isinstance") [u, c]) Q E s := by
  cases ty with
  | non => cases (show u = Value.none from rx); exact PySem.W.kia_one PySem.W.kitx_none I.kIn True.intro e (fun z => nomatch z) h
  | bl y => cases (show u = Value.bool y from rx); exact PySem.W.kia_one PySem.W.kitx_bool I.kIn True.intro e (fun z => nomatch z) h
  | int i => obtain ⟨t, q⟩ := (show ∃ t, u = Value.int i t from rx); cases q; exact PySem.W.kia_one PySem.W.kitx_int I.kIn True.intro e (fun z => nomatch z) h
  | str y => obtain ⟨t, q⟩ := (show ∃ t, u = Value.str y t from rx); cases q; exact PySem.W.kia_one PySem.W.kitx_str I.kIn True.intro e (fun z => nomatch z) h
  | flt y => obtain ⟨t, q⟩ := (show ∃ t, u = Value.float y t from rx); cases q; exact PySem.W.kia_one PySem.W.kitx_float I.kIn True.intro e (fun z => nomatch z) h
  | @lst a xs ea =>
    cases (show u = Value.ref a from rx)
    obtain ⟨_, _, n, _, h1⟩ := (show ObjOk X.prog X.w H s.heap a (.lst xs) from I.hok a _ ea)
    exact PySem.W.kia_one PySem.W.kitx_list I.kIn ⟨_, h1, rfl⟩ e (fun z => nomatch z) h
  | @frz a ob xs ea =>
    cases (show u = Value.ref a from rx)
    obtain ⟨_, _, _, n, _, h1⟩ := (show ObjOk X.prog X.w H s.heap a (.frz ob (.lst xs)) from I.hok a _ ea)
    exact PySem.W.kia_one PySem.W.kitx_list I.kIn ⟨_, h1, rfl⟩ e (fun z => nomatch z) h
  | @tup a xs ea =>
    cases (show u = Value.ref a from rx)
    obtain ⟨_, _, _, p⟩ := (show ObjOk X.prog X.w H s.heap a (.tup xs) from I.hok a _ ea)
    obtain ⟨o, h1, h2, _⟩ := p
    exact PySem.W.kia_one PySem.W.kitx_tuple I.kIn ⟨o, h1, h2⟩ e (fun z => nomatch z) h
  | @dK a kvs ea =>
    cases (show u = Value.ref a from rx)
    obtain ⟨_, _, vs, _, p⟩ := (show ObjOk X.prog X.w H s.heap a (.dK kvs) from I.hok a _ ea)
    obtain ⟨o, es, ep, h1, h2, _⟩ := p
    exact PySem.W.kia_one PySem.W.kitx_dict I.kIn ⟨o, h1, h2.1⟩ e (fun z => nomatch z) h
  | @dT a kvs ea =>
    cases (show u = Value.ref a from rx)
    obtain ⟨_, _, xs, _, o, es, ep, h1, h2, _⟩ := (show ObjOk X.prog X.w H s.heap a (.dT kvs) from I.hok a _ ea)
    exact PySem.W.kia_one PySem.W.kitx_dict I.kIn ⟨o, h1, h2.1⟩ e (fun z => nomatch z) h
  | @ins a C dx fs ea cl ha hn htk hm =>
    cases (show u = Value.ref a from rx)
    obtain ⟨mA, O, _⟩ := ins_get I.hok ea
    obtain ⟨od, J, _⟩ := O.look
    exact PySem.W.kia_one (PySem.W.kitx_own (cl.get _) cl.hd ha hn htk hm) I.kIn J e (fun z => nomatch z) h
end
end L2

namespace L2
open PySem PySem.Spec PyProof.Rows

/-! ### room -/
structure Room (k : Nat) (A : Around) : Prop where
  hd : A.handled = none
  dp : A.depth + 3 * k + 5 < recursionLimit
  un : A.units + 16 * k + 200 < cLine
  gd : A.guards = some []
theorem Room.mono {j k : Nat} {A : Around} (r : Room k A) (h : j ≤ k) : Room j A := ⟨r.hd, by have := r.dp; omega, by have := r.un; omega, r.gd⟩
theorem Room.deeper {k : Nat} {A : Around} (r : Room (k + 1) A) (env : Env) : Room k (A.deeper env) :=
  ⟨r.hd, by have := r.dp; show A.depth + 1 + 3 * k + 5 < _; omega, by have := r.un; show A.units + 3 + 16 * k + 200 < _; omega, r.gd⟩
theorem Room.in1 {k : Nat} {A : Around} (r : Room (k + 1) A) : Room k A.in1 :=
  ⟨r.hd, by have := r.dp; show A.depth + 3 * k + 5 < _; omega, by have := r.un; show A.units + 1 + 16 * k + 200 < _; omega, r.gd⟩
theorem make_depth {A : Around} {C : Addr} {us : List Value} {kw : List (Str × Value)} : (A.under (.builtin "type.__call__" ⟨.ref C :: us, kw⟩)).depth = A.depth + 1 := by
  first | rfl | simp [Around.under, Code.weight, Code.isCreation, Code.isGuard, Code.isCaller, Code.frames, Code.isFrame, guardIds]
theorem make_units {A : Around} {C : Addr} {us : List Value} {kw : List (Str × Value)} : (A.under (.builtin "type.__call__" ⟨.ref C :: us, kw⟩)).units = A.units + 1 := by
  first | rfl | simp [Around.under, Code.cUnits, Code.frames, Code.isFrame]
theorem Room.make {k : Nat} {A : Around} (r : Room (k + 1) A) (C : Addr) (us : List Value) (kw : List (Str × Value)) : Room k (A.under (.builtin "type.__call__" ⟨.ref C :: us, kw⟩)) :=
  ⟨r.hd, by have := r.dp; rw [make_depth]; omega, by have := r.un; rw [make_units]; omega, r.gd⟩
theorem Room.depth {k : Nat} {A : Around} (r : Room k A) : A.depth < recursionLimit := by have := r.dp; omega
theorem Room.units {k : Nat} {A : Around} (r : Room k A) : A.units + 64 < cLine := by have := r.un; omega
/-! ### argument lists and displays -/
def tNil : TA := fun _ H Q => Q [] H
def tCons (ta : TE) (tr : TA) : TA := fun σ H Q => ta σ H fun x H1 => tr σ H1 fun xs H2 => Q (x :: xs) H2
section
variable {X : Cx} {e : Expr} {es : List Expr} {te : TE} {t : TA} {pos : Pos}
theorem pa_nil : PA X [] tNil := fun _ _ _ _ H Q I h => Calls.spliced_nil ⟨[], H, I, .nil, h⟩
theorem pa_cons (ha : PE X e te) (hr : PA X es t) (hs : starEach (e :: es) X.env = (false, eval e X.env) :: starEach es X.env := by rfl) : PA X (e :: es) (tCons te t) := by
  intro pos pins s σ H Q I h
  rw [hs]
  show wpAny _ _ (spliced ((false, eval e X.env) :: backTo pos (starEach es X.env))) _ _ s
  refine Calls.spliced_cons (thn (ha pins s σ H _ I h) fun u s1 ⟨x, H1, I1, r1, q1⟩ => ?_)
  exact thn (hr pos pins s1 σ H1 _ I1 q1) fun us s2 ⟨xs, H2, I2, r2, q2⟩ => ⟨x :: xs, H2, I2, .cons r1 r2, q2⟩

/-- a tuple, a list of written items -/
def tTup (t : TA) : TE := fun σ H Q => t σ H fun xs H1 => xs.length ≤ sizeLine ∧ ∀ p, H1 p = none → Q (.ref p) (upd H1 p (.tup xs))
def tLst (t : TA) : TE := fun σ H Q => t σ H fun xs H1 => xs.length ≤ sizeLine ∧ ∀ p, H1 p = none → Q (.ref p) (upd H1 p (.lst xs))
theorem pe_tup {x1} (h : PA X es t) : PE X (.Tuple es x1 pos) (tTup t) := by
  intro pins s σ H Q I hq
  refine wpAny_Tuple_spliced (thn (h pos pins s σ H _ I hq) fun us s1 ⟨xs, H1, I1, r, z, q⟩ => ⟨by rw [← r.length]; exact z, ?_⟩)
  have hf : H1 s1.heap.objs.size = none := I1.hok.fresh (Nat.le_refl _)
  refine ⟨.ref s1.heap.objs.size, upd H1 s1.heap.objs.size (.tup xs), I1.laid (t' := s1.toks) (fun b u e => Heap.get?_push_of_some _ e) (Nat.le_refl _) ?_, rfl, q _ hf⟩
  exact ⟨z, us, r, ⟨_, Heap.get?_push_size _ rfl, rfl, _, rfl⟩⟩
theorem pe_lst (h : PA X es t) : PE X (.List es pos) (tLst t) := by
  intro pins s σ H Q I hq
  refine wpAny_List_spliced (thn (h pos pins s σ H _ I hq) fun us s1 ⟨xs, H1, I1, r, z, q⟩ => ⟨by rw [← r.length]; exact z, ?_⟩)
  have hf : H1 s1.heap.objs.size = none := I1.hok.fresh (Nat.le_refl _)
  refine ⟨.ref s1.heap.objs.size, upd H1 s1.heap.objs.size (.lst xs), I1.laid (t' := s1.toks) (fun b u e => Heap.get?_push_of_some _ e) (Nat.le_refl _) ?_, rfl, q _ hf⟩
  exact ⟨z, us, 0, r, Heap.get?_push_size _ rfl⟩
end

/-! ### what a def promises -/
/-- a def's promise: the bound arguments in the parameters' order, the heap, the wanted end, the wanted exception -/
abbrev Sp := List V → Hp → VK → XK → Prop
/-- how an exception lies behind a call (file 08 gives it): the callers' frames, abstract heap and state ahead of the call, the wish, the exception, the state -/
abbrev CXT := List Env → Hp → Shared → XK → Value → Shared → Prop

/-- the state at a call -/
structure Env0 (P : Program) (w : World) (K : PySem.W.Frag) (mg : Str → Option Value) (base : Heap) (A : Around) (outer : List Env) (s : Shared) (H : Hp) : Prop where
  frames : A.frames = some outer
  mod : Mod K mg base
  bs : ∀ b o, base.get? b = some o → s.heap.get? b = some o ∧ H b = none
  bsz : base.objs.size ≤ s.heap.objs.size
  funs : s.heap.FunFrames base outer
  frf : ∀ b ∈ frs outer, H b = none
  hok : HOk P w H s.heap
  bare : AllBare s.gens
/-- a call's end -/
def CE (outer : List Env) (P : Program) (w : World) (H : Hp) (s : Shared) (Q : VK) (u : Value) (s' : Shared) : Prop :=
  ∃ v H', s'.os = s.os ∧ AllBare s'.gens ∧ Un (frs outer) [] H H' s.heap s'.heap ∧ HOk P w H' s'.heap ∧ RelV v u ∧ Q v H'
def CR (CX : CXT) (outer : List Env) (P : Program) (w : World) (H : Hp) (s : Shared) (Q : VK) (E : XK) (r : Result) (s' : Shared) : Prop :=
  match r with
  | .ok (.ret u) => CE outer P w H s Q u s'
  | .ok _ => False
  | .error e => CX outer H s E e s'
structure FnOk (P : Program) (w : World) (K : PySem.W.Frag) (mg : Str → Option Value) (base : Heap) (CX : CXT) (k : Nat) (f : Addr) (fd : FuncData) (ps : List Str) (sp : Sp) : Prop where
  len : ∀ vs H Q E, sp vs H Q E → vs.length = ps.length
  run : ∀ (A : Around) (outer : List Env) (s : Shared) (H : Hp) (args : Args) (us : List Value) (vs : List V) (Q : VK) (E : XK), Room k A → Env0 P w K mg base A outer s H → BindsTo s fd args (ps.zip us) → Vals vs us → sp vs H Q E →
    codeAny (model P w) A (.call (.ref f) args) (CR CX outer P w H s Q E) s
theorem FnOk.mono {P : Program} {w : World} {K : PySem.W.Frag} {mg : Str → Option Value} {base : Heap} {CX : CXT} {j k : Nat} {f : Addr} {fd : FuncData} {ps : List Str} {sp : Sp} (F : FnOk P w K mg base CX j f fd ps sp) (h : j ≤ k) :
    FnOk P w K mg base CX k f fd ps sp := ⟨F.len, fun A outer s H args us vs Q E hr => F.run A outer s H args us vs Q E (hr.mono h)⟩
theorem Env0.make {P : Program} {w : World} {K : PySem.W.Frag} {mg : Str → Option Value} {base : Heap} {A : Around} {outer : List Env} {s : Shared} {H : Hp} (e : Env0 P w K mg base A outer s H) (C : Addr) (us : List Value) (kw : List (Str × Value)) :
    Env0 P w K mg base (A.under (.builtin "type.__call__" ⟨.ref C :: us, kw⟩)) outer s H := ⟨by first | exact e.frames | (simpa [Around.under, Code.envs, Code.isFrame, pushEnvs] using e.frames), e.mod, e.bs, e.bsz, e.funs, e.frf, e.hok, e.bare⟩
theorem Env0.in1 {P : Program} {w : World} {K : PySem.W.Frag} {mg : Str → Option Value} {base : Heap} {A : Around} {outer : List Env} {s : Shared} {H : Hp} (e : Env0 P w K mg base A outer s H) :
    Env0 P w K mg base A.in1 outer s H := ⟨e.frames, e.mod, e.bs, e.bsz, e.funs, e.frf, e.hok, e.bare⟩

section
variable {X : Cx} {pins : List (Addr × Obj)} {σ : St} {H : Hp} {s s' : Shared}
/-- from a body: what a callee wants -/
theorem Inv.env0 (I : Inv X pins σ H s) : Env0 X.prog X.w X.K X.mg X.base X.A X.stack s H :=
  ⟨I.ok.frames, I.ok.mod, I.bs, Nat.le_trans I.ok.bsz I.sz, I.stack, I.stkFree, I.hok, I.bare⟩
/-- behind a call -/
theorem Inv.after {Q : VK} {u : Value} (I : Inv X pins σ H s) (h : CE X.stack X.prog X.w H s Q u s') : EP X pins σ Q u s' := by
  obtain ⟨v, H', os, bare, un, hok, r, q⟩ := h
  obtain ⟨hh, g, d, t, os'⟩ := s'
  obtain rfl : os' = s.os := os
  exact ⟨v, H', I.call (h' := hh) (g' := g) (d' := d) (t' := t) (ch := []) un hok bare (fun b z => absurd z (by simp)), r, q⟩
end

/-! ### calls -/
/-- f(..): the written arguments, then the defaults dvs; E: what is wanted of an exception -/
def tCall (sp : Sp) (dvs : List V) (E : XK) (t : TA) : TE := fun σ H Q => t σ H fun vs H1 => sp (vs ++ dvs) H1 Q E
/-- o.m(..) of an instance of the class at C -/
def tMeth (C : Addr) (m : Str) (sp : Sp) (dvs : List V) (E : XK) (ta : TE) (t : TA) : TE := fun σ H Q => ta σ H fun x H1 => ∃ a dx fs, x = .ref a ∧ H1 a = some (.ins C dx fs) ∧ fs.lookup m = none ∧
  t σ H1 fun vs H2 => sp (x :: (vs ++ dvs)) H2 Q E
/-- C(..): a new instance and its dict, then __init__ -/
def tMake (C : Addr) (sp : Sp) (dvs : List V) (E : XK) (t : TA) : TE := fun σ H Q => t σ H fun vs H1 => ∀ x dx, H1 x = none → H1 dx = none → dx ≠ x →
  sp (.ref x :: (vs ++ dvs)) (upd (upd H1 dx (.own x)) x (.ins C dx [])) (fun v H2 => v = .non ∧ Q (.ref x) H2) E

/-- how the parameters are bound: us the positional arguments, kw the keywords' values by name, ds the defaults that fill up -/
def Binds (K : PySem.W.Frag) (fd : FuncData) (ps : List Str) (ds : List Value) : Prop :=
  ∀ (s : Shared) (us : List Value), K.In s.heap → (us ++ ds).length = ps.length → BindsTo s fd ⟨us, []⟩ (ps.zip (us ++ ds))
/-- every parameter is given -/
theorem Binds.all {K : PySem.W.Frag} {fd : FuncData} {ps : List Str} (h : ∀ us : List Value, us.length = ps.length → bindArgs fd ⟨us, []⟩ = pure (ps.zip us)) : Binds K fd ps [] := fun s us _ hl => by
  rw [List.append_nil] at hl ⊢
  exact .of_eq (h us hl)

/-- an exception of a callee reaches what this body wants of exceptions -/
def Passes (CX : CXT) (X : Cx) (E : XK) : Prop := ∀ (pins : List (Addr × Obj)) (σ : St) (H : Hp) (s : Shared) (e : Value) (s' : Shared), Inv X pins σ H s → CX X.stack H s E e s' → X.xe e s'

section
variable {X : Cx} {CX : CXT} {k : Nat} {f C : Addr} {fd : FuncData} {ps : List Str} {sp : Sp} {dvs : List V} {ds : List Value} {E : XK} {x m : Str} {p pos apos : Pos} {e o : Expr} {es : List Expr} {ta : TE} {t : TA}

/-- the callee runs -/
theorem run_fn {pins : List (Addr × Obj)} {σ : St} {H : Hp} {s : Shared} {Q : VK} {us : List Value} {vs : List V} (F : FnOk X.prog X.w X.K X.mg X.base CX k f fd ps sp) (hr : Room k X.A) (hb : Binds X.K fd ps ds) (hd : Vals dvs ds) (hx : Passes CX X E)
    (I : Inv X pins σ H s) (r : Vals vs us) (h : sp (vs ++ dvs) H Q E) : wpAny (model X.prog X.w) X.A (call (.ref f) us) (EP X pins σ Q) X.xe s := by
  have r2 : Vals (vs ++ dvs) (us ++ ds) := r.append hd
  have hl : (us ++ ds).length = ps.length := by rw [← r2.length]; exact F.len _ _ _ _ h
  refine wpAny_call (codeAny_mono (F.run X.A X.stack s H ⟨us, []⟩ (us ++ ds) (vs ++ dvs) Q E hr I.env0 (hb s us I.kIn hl) r2 h) fun r s' hq => ?_)
  cases r with
  | error e => exact hx pins σ H s e s' I hq
  | ok fl =>
    cases fl with
    | ret u => exact I.after hq
    | next => exact False.elim hq
    | brk => exact False.elim hq
    | cont => exact False.elim hq

theorem pe_call (F : FnOk X.prog X.w X.K X.mg X.base CX k f fd ps sp) (hr : Room k X.A) (hg : Gl X x) (hm : X.mg x = some (.ref f)) (hk : PySem.W.keepIn X.K (.ref f) = true) (hb : Binds X.K fd ps ds) (hd : Vals dvs ds) (hx : Passes CX X E)
    (ha : PA X (e :: es) t) (hdb : (x == ("__debug__" : Str)) = false := by decide) (he : starEach (e :: es) X.env = (false, eval e X.env) :: starEach es X.env := by rfl) (hpl : (backTo pos (starEach es X.env)).any (·.1) = false := by rfl) :
    PE X (.Call (.Name x p) (e :: es) [] pos) (tCall sp dvs E t) := by
  intro pins s σ H Q I h
  refine wpAny_Call_Name_kw (ld_glob I hg hm ?_ hdb)
  refine PySem.W.callWith_K (h₀ := X.base) I.ok.mod.kin hk (thn (ha pos pins s σ H _ I h) fun us s1 ⟨vs, H1, I1, r, q⟩ => ⟨I1.kIn, ?_⟩) he hpl
  exact run_fn F hr hb hd hx I1 r q
/-- o.m(e, ..) -/
theorem pe_meth {pl : Sem Bool} (he : PE X o ta) (c : Cls X.K C) (hm : Meth X.K C m f) (F : FnOk X.prog X.w X.K X.mg X.base CX k f fd ps sp) (hr : Room k X.A) (hb : Binds X.K fd ps ds) (hd : Vals dvs ds) (hx : Passes CX X E) (ha : PA X (e :: es) t)
    (hst : starEach (e :: es) X.env = (false, eval e X.env) :: starEach es X.env := by rfl) (hpl : (backTo pos (starEach es X.env)).any (·.1) = false := by rfl)
    (ht : eval (.Call (.Attribute o m apos) (e :: es) [] pos) X.env = (do
      let ov ← eval o X.env
      standAt apos.atName
      let (f, first) ← holding [ov] (getMethod ov m pl)
      callWith pos f first (backTo pos (starEach (e :: es) X.env)) (backToKw pos (keywordEach [] X.env))) := by rfl) :
    PE X (.Call (.Attribute o m apos) (e :: es) [] pos) (tMeth C m sp dvs E ta t) := by
  intro pins s σ H Q I h
  refine PySem.W.methodCall_KW (pl := pl) (thn (he pins s σ H _ I h) fun u s1 ⟨x, H1, I1, rx, a, dx, fs, ex, ea, l, q⟩ => ?_) ht
  subst ex
  obtain rfl : u = Value.ref a := rx
  refine getmeth_ok I1 ea c hm l ?_
  refine PySem.W.callWith_K (first := [.ref a]) (h₀ := X.base) I.ok.mod.kin hm.kp (thn (ha pos pins s1 σ H1 _ I1 q) fun us s2 ⟨vs, H2, I2, r, q2⟩ => ⟨I2.kIn, ?_⟩) hst hpl
  exact run_fn (us := .ref a :: us) (vs := .ref a :: vs) F hr hb hd hx I2 (.cons rfl r) q2
/-- o.m() -/
theorem pe_meth0 {pl : Sem Bool} (he : PE X o ta) (c : Cls X.K C) (hm : Meth X.K C m f) (F : FnOk X.prog X.w X.K X.mg X.base CX k f fd ps sp) (hr : Room k X.A) (hb : Binds X.K fd ps ds) (hd : Vals dvs ds) (hx : Passes CX X E)
    (ht : eval (.Call (.Attribute o m apos) [] [] pos) X.env = (do
      let ov ← eval o X.env
      standAt apos.atName
      let (f, first) ← holding [ov] (getMethod ov m pl)
      callWith pos f first (backTo pos (starEach [] X.env)) (backToKw pos (keywordEach [] X.env))) := by rfl) :
    PE X (.Call (.Attribute o m apos) [] [] pos) (tMeth C m sp dvs E ta tNil) := by
  intro pins s σ H Q I h
  refine PySem.W.methodCall_KW (pl := pl) (thn (he pins s σ H _ I h) fun u s1 ⟨x, H1, I1, rx, a, dx, fs, ex, ea, l, q⟩ => ?_) ht
  subst ex
  obtain rfl : u = Value.ref a := rx
  refine getmeth_ok I1 ea c hm l ?_
  exact PySem.W.callWith_K0 (first := [.ref a]) I1.kIn hm.kp (run_fn (us := [.ref a]) (vs := [.ref a]) F hr hb hd hx I1 (.cons rfl .nil) q)

/-- what a class must have to be made -/
structure Mk (K : PySem.W.Frag) (C f : Addr) : Prop where
  makes : PySem.W.makesIn K C = true
  init : PySem.W.findIn K (.ref C) "__init__" = some (some (.ref f))
  fn : PySem.W.isFn K (.ref f) = true
  kp : PySem.W.keepIn K (.ref C) = true

theorem run_make {pins : List (Addr × Obj)} {σ : St} {H : Hp} {s : Shared} {Q : VK} {us : List Value} {vs : List V} (M : Mk X.K C f) (F : FnOk X.prog X.w X.K X.mg X.base CX k f fd ps sp) (hr : Room (k + 1) X.A) (hb : Binds X.K fd ps ds) (hd : Vals dvs ds)
    (hx : Passes CX X E) (I : Inv X pins σ H s) (r : Vals vs us)
    (h : ∀ x dx, H x = none → H dx = none → dx ≠ x → sp (.ref x :: (vs ++ dvs)) (upd (upd H dx (.own x)) x (.ins C dx [])) (fun v H2 => v = .non ∧ Q (.ref x) H2) E) :
    wpAny (model X.prog X.w) X.A (call (.ref C) us) (EP X pins σ Q) X.xe s := by
  have hq := h (s.heap.objs.size + 1) s.heap.objs.size (I.hok.fresh (Nat.le_succ _)) (I.hok.fresh (Nat.le_refl _)) (Nat.ne_of_lt (Nat.lt_succ_self _))
  have I2 := Inv.made (C := C) I
  have r2 : Vals (V.ref (s.heap.objs.size + 1) :: (vs ++ dvs)) (Value.ref (s.heap.objs.size + 1) :: (us ++ ds)) := .cons rfl (r.append hd)
  have hl : (Value.ref (s.heap.objs.size + 1) :: us ++ ds).length = ps.length := by
    have e := r2.length
    rw [F.len _ _ _ _ hq] at e
    exact e.symm
  refine wpAny_call (make_map (f := f) I.kIn M.makes M.init (beq_iff_eq.mp M.fn) (codeAny_mono (F.run _ X.stack _ _ ⟨Value.ref (s.heap.objs.size + 1) :: us, []⟩ (Value.ref (s.heap.objs.size + 1) :: (us ++ ds)) _ _ E (hr.make C us [])
    (I2.env0.make C us []) (hb _ (Value.ref (s.heap.objs.size + 1) :: us) I2.kIn hl) r2 hq) fun r s' hq' => ?_))
  cases r with
  | error e => exact hx pins σ _ _ e s' I2 hq'
  | ok fl =>
    cases fl with
    | ret u =>
      obtain ⟨v, H', I3, rv, ev, q3⟩ := I2.after hq'
      subst ev
      exact ⟨rv, ⟨V.ref (s.heap.objs.size + 1), H', I3, rfl, q3⟩⟩
    | next => exact False.elim hq'
    | brk => exact False.elim hq'
    | cont => exact False.elim hq'
theorem pe_make (M : Mk X.K C f) (F : FnOk X.prog X.w X.K X.mg X.base CX k f fd ps sp) (hr : Room (k + 1) X.A) (hg : Gl X x) (hm : X.mg x = some (.ref C)) (hb : Binds X.K fd ps ds) (hd : Vals dvs ds) (hx : Passes CX X E)
    (ha : PA X (e :: es) t) (hdb : (x == ("__debug__" : Str)) = false := by decide) (he : starEach (e :: es) X.env = (false, eval e X.env) :: starEach es X.env := by rfl) (hpl : (backTo pos (starEach es X.env)).any (·.1) = false := by rfl) :
    PE X (.Call (.Name x p) (e :: es) [] pos) (tMake C sp dvs E t) := by
  intro pins s σ H Q I h
  refine wpAny_Call_Name_kw (ld_glob I hg hm ?_ hdb)
  refine PySem.W.callWith_K (h₀ := X.base) I.ok.mod.kin M.kp (thn (ha pos pins s σ H _ I h) fun us s1 ⟨vs, H1, I1, r, q⟩ => ⟨I1.kIn, ?_⟩) he hpl
  exact run_make M F hr hb hd hx I1 r q
end

/-! ### keywords -/
section
variable {X : Cx} {CX : CXT} {k : Nat} {f C : Addr} {fd : FuncData} {ps ks : List Str} {sp : Sp} {E : XK} {x m : Str} {p pos apos kpos : Pos} {e o : Expr} {es : List Expr} {kws : List Keyword} {te ta : TE} {t tk : TA} {nm : Option Str}
/-- how a call with keywords binds: g puts the positional values us and the keywords' values ws (names ks) in the parameters' order, defaults among them -/
structure KBinds (K : PySem.W.Frag) (fd : FuncData) (ps ks : List Str) (g : List Value → List Value → List Value) (gV : List V → List V → List V) : Prop where
  to : ∀ (s : Shared) (us ws : List Value), K.In s.heap → (g us ws).length = ps.length → BindsTo s fd ⟨us, ks.zip ws⟩ (ps.zip (g us ws))
  rel : ∀ {vs : List V} {us : List Value} {zs : List V} {ws : List Value}, Vals vs us → Vals zs ws → Vals (gV vs zs) (g us ws)
variable {g : List Value → List Value → List Value} {gV : List V → List V → List V}
end

/-! ### a def's body keeps its promise -/
/-- names: the parameters first -/
structure FnScope (N P : List Str) (sc : Scope) : Prop where
  kind : sc.kind = .function
  co : sc.isCoroutine = false
  gen : sc.isGenerator = false
  nd : N.Nodup
  pre : N.take P.length = P
  par : ∀ x ∈ P, sc.names.lookup x = some .local ∨ sc.names.lookup x = some .cell
  nofree : ∀ y ∈ sc.names, y.2 ≠ .free

theorem bindL_out {kindOf : Str → Option NameKind} {x : Str} : ∀ {binds : List (Str × Value)} {m : Str → Option Value}, (∀ v, (x, v) ∉ binds) → bindL kindOf binds m x = m x
  | [], _, _ => rfl
  | (n, v) :: r, m, h => by
    unfold bindL
    rw [bindL_out fun w hw => h w (List.mem_cons_of_mem _ hw)]
    split
    · have : x ≠ n := by rintro rfl; exact h v List.mem_cons_self
      simp [this]
    · rfl
theorem bindC_out {kindOf : Str → Option NameKind} {x : Str} : ∀ {binds : List (Str × Value)} {m : Str → Option Value}, (∀ v, (x, v) ∉ binds) → bindC kindOf binds m x = m x
  | [], _, _ => rfl
  | (n, v) :: r, m, h => by
    unfold bindC
    rw [bindC_out fun w hw => h w (List.mem_cons_of_mem _ hw)]
    split
    · rfl
    · have : x ≠ n := by rintro rfl; exact h v List.mem_cons_self
      simp [this]
theorem bindL_get {kindOf : Str → Option NameKind} {x : Str} {v : Value} : ∀ {P : List Str} {vs : List Value} {i : Nat} {m : Str → Option Value}, P.Nodup → P[i]? = some x → vs[i]? = some v → kindOf x = some .local →
    bindL kindOf (P.zip vs) m x = some v
  | [], _, _, _, _, h, _, _ => by simp at h
  | _ :: _, [], _, _, _, _, h, _ => by simp at h
  | p :: P, w :: vs, 0, m, nd, h1, h2, hk => by
    simp at h1 h2; subst h1; subst h2
    show bindL kindOf ((p, w) :: P.zip vs) m p = _
    unfold bindL
    rw [bindL_out fun v hv => (List.nodup_cons.mp nd).1 (List.of_mem_zip hv).1, if_pos hk]
    simp
  | p :: P, w :: vs, i + 1, m, nd, h1, h2, hk => by
    show bindL kindOf ((p, w) :: P.zip vs) m x = _
    unfold bindL
    exact bindL_get (i := i) (List.nodup_cons.mp nd).2 (by simpa using h1) (by simpa using h2) hk
theorem bindC_get {kindOf : Str → Option NameKind} {x : Str} {v : Value} : ∀ {P : List Str} {vs : List Value} {i : Nat} {m : Str → Option Value}, P.Nodup → P[i]? = some x → vs[i]? = some v → kindOf x ≠ some .local →
    bindC kindOf (P.zip vs) m x = some v
  | [], _, _, _, _, h, _, _ => by simp at h
  | _ :: _, [], _, _, _, _, h, _ => by simp at h
  | p :: P, w :: vs, 0, m, nd, h1, h2, hk => by
    simp at h1 h2; subst h1; subst h2
    show bindC kindOf ((p, w) :: P.zip vs) m p = _
    unfold bindC
    rw [bindC_out fun v hv => (List.nodup_cons.mp nd).1 (List.of_mem_zip hv).1, if_neg hk]
    simp
  | p :: P, w :: vs, i + 1, m, nd, h1, h2, hk => by
    show bindC kindOf ((p, w) :: P.zip vs) m x = _
    unfold bindC
    exact bindC_get (i := i) (List.nodup_cons.mp nd).2 (by simpa using h1) (by simpa using h2) hk

/-- the names' values at the entry -/
def start (N : List Str) (vs : List V) : St := vs.map some ++ List.replicate (N.length - vs.length) none

/-- the context of a def's body, at its entry; an exception leaves the frame, then lies as CX says -/
def cxOf (CX : CXT) (P : Program) (w : World) (K : PySem.W.Frag) (mg : Str → Option Value) (base : Heap) (N : List Str) (qual : Str) (scope : Scope) (f : Addr) (cd : Value) (A : Around) (outer : List Env) (s : Shared) (H : Hp) (E : XK) : Cx where
  prog := P
  w := w
  K := K
  mg := mg
  base := base
  A := A.deeper (envOfC qual scope s.heap.objs.size f cd)
  N := N
  s₀ := s
  H₀ := H
  env := envOfC qual scope s.heap.objs.size f cd
  outer := outer
  stack := envOfC qual scope s.heap.objs.size f cd :: outer
  ex := []
  calm := true
  fn := fun _ => true
  pn := []
  xe := fun e s' => wpAny (model P w) (A.deeper (envOfC qual scope s.heap.objs.size f cd)) (leaving (envOfC qual scope s.heap.objs.size f cd) e) (fun _ s'' => CX outer H s E e s'') (fun e' s'' => CX outer H s E e' s'') s'

theorem cell_has {sc : Scope} {n : Nat} {x : Str} (h : sc.names.lookup x = some .cell) : ∃ c, (cellsFrom n sc.names []).lookup x = some c := by
  have q := PySem.W.cellsFrom_some sc.names n [] (.inl h)
  exact Option.isSome_iff_exists.mp q

theorem inv_start {CX : CXT} {P : Program} {w : World} {K : PySem.W.Frag} {mg : Str → Option Value} {base : Heap} {N ps : List Str} {qual : Str} {scope : Scope} {f : Addr} {cd : Value} {A : Around} {outer : List Env} {s s1 : Shared} {H : Hp} {E : XK} {us : List Value} {vs : List V}
    (S : FnScope N ps scope) (hd : A.handled = none) (e0 : Env0 P w K mg base A outer s H) (hl : vs.length = ps.length) (r : Vals vs us)
    (x : InCallC s s.heap.objs.size (bindL (envOfC qual scope s.heap.objs.size f cd).kindOf (ps.zip us) fun _ => none) (cellsFrom (s.heap.objs.size + 1) scope.names []) (bindC (envOfC qual scope s.heap.objs.size f cd).kindOf (ps.zip us) fun _ => none) s1) :
    Inv (cxOf CX P w K mg base N qual scope f cd A outer s H E) [] (start N vs) H s1 := by
  have hpl : ps.length ≤ N.length := by have := congrArg List.length S.pre; rw [List.length_take] at this; omega
  obtain ⟨h1, tk, rfl, hk⟩ := x.done
  have noA : ∀ b : Addr, b ∉ (cxOf CX P w K mg base N qual scope f cd A outer s H E).ex := fun b z => absurd (show b ∈ ([] : List Addr) from z) (by simp)
  refine ⟨⟨e0.mod, S.kind, rfl, rfl, Nat.le_refl _, fun y z c h1 h2 => ?_, fun y hy => ?_, fun y c _ h => ?_, fun _ => hd, Around.frames_deeper e0.frames, .inr ⟨rfl, rfl⟩, fun b z => absurd z (noA b), e0.bs, e0.bsz, fun b _ _ => noA b, fun b z => absurd z (noA b), e0.funs, e0.frf⟩,
    rfl, e0.bare, Un.kept hk, ⟨_, x.toInCall.ns, fun i y v h1 h2 h3 => ?_⟩, fun y c h => ⟨_, x.cell y c h⟩, e0.hok.fresh (Nat.le_refl _), fun y c h => ?_, fun p hp => absurd (show p ∈ ([] : List (Addr × Obj)) from hp) (by simp), e0.hok.kept hk, ?_⟩
  · exact name_of_addr x.apart (PySem.mem_of_lookup h1) (PySem.mem_of_lookup h2)
  · have hy : scope.names.lookup y = some .cell ∨ scope.names.lookup y = some .free := hy
    rcases hy with hy | hy
    · exact cell_has hy
    · exact absurd rfl (S.nofree _ (PySem.mem_of_lookup hy))
  · exact Nat.le_of_lt (x.above y c (PySem.mem_of_lookup h))
  · have hi : i < vs.length := by
      unfold start at h2
      by_cases hi : i < vs.length
      · exact hi
      · rw [List.getElem?_append_right (by simpa using hi)] at h2
        rw [List.getElem?_replicate] at h2
        split at h2 <;> cases h2
    have ha : vs[i]? = some v := by
      unfold start at h2
      rw [List.getElem?_append_left (by simpa using hi), List.getElem?_map] at h2
      cases e : vs[i]? with
      | none => rw [e] at h2; cases h2
      | some a => rw [e] at h2; cases h2; rfl
    obtain ⟨u, hu, rv⟩ := r.get ha
    have hp : ps[i]? = some y := by
      rw [← S.pre, List.getElem?_take_of_lt (by omega)]; exact h1
    have ndP : ps.Nodup := by rw [← S.pre]; exact S.nd.sublist (List.take_sublist _ _)
    refine ⟨u, rv, ?_⟩
    rcases S.par y (List.mem_of_getElem? hp) with k | k
    · exact .inl ⟨k, bindL_get ndP hp hu k⟩
    · obtain ⟨c, e⟩ := cell_has (n := s.heap.objs.size + 1) k
      refine .inr ⟨.inl k, c, e, ?_⟩
      have q := x.cell y c e
      rw [bindC_get ndP hp hu (by show scope.names.lookup y ≠ _; rw [k]; decide)] at q
      exact q
  · exact e0.hok.fresh (Nat.le_of_lt (x.above y c (PySem.mem_of_lookup h)))
  · unfold start
    show _ = N.length
    rw [List.length_append, List.length_map, List.length_replicate]
    omega

/-- THE RULE: a def (or a method) of the text, by its body. The body's reading t is chosen for each entry; it is run at the parameters' values -/
theorem fn_of {CX : CXT} {P : Program} {w : World} {K : PySem.W.Frag} {mg : Str → Option Value} {base : Heap} {k : Nat} {f : Addr} {name qual : Str} {params : Arguments} {body : List Stmt} {scope : Scope} {dV kV doc pm cdv ct oc : Value} {an od : Option Addr}
    {osl : Array (Option Value)} {N ps : List Str} {sp : Sp} (lk : K.lookup f = some ⟨oc, od, .func (PySem.W.fnOf name qual params body scope dV kV doc pm an cdv ct), osl⟩) (hcd : PySem.W.codeIn K cdv qual = true) (S : FnScope N ps scope)
    (len : ∀ vs H Q E, sp vs H Q E → vs.length = ps.length)
    (hbody : ∀ (A : Around) (outer : List Env) (s : Shared) (H : Hp) (vs : List V) (Q : VK) (E : XK), Room k (A.deeper (envOfC qual scope s.heap.objs.size f cdv)) → sp vs H Q E →
      ∃ t, PSs (cxOf CX P w K mg base N qual scope f cdv A outer s H E) body t ∧ t { nx := fun _ H' => Q .non H', rt := Q } (start N vs) H) :
    FnOk P w K mg base CX (k + 1) f (PySem.W.fnOf name qual params body scope dV kV doc pm an cdv ct) ps sp := by
  refine ⟨len, fun A outer s H args us vs Q E hr e0 hb r hsp => ?_⟩
  have hl := len _ _ _ _ hsp
  have KX : K.In s.heap := e0.mod.kin.keeps fun b o e => (e0.bs b o e).1
  have lim : s.heap.NoLimit := e0.mod.nolimit.keeps fun b o e => (e0.bs b o e).1
  have hkind : ∀ y ∈ ps.zip us, scope.names.lookup y.1 = some .local ∨ (scope.names.lookup y.1 = some .cell ∧ ((cellsFrom (s.heap.objs.size + 1) scope.names []).lookup y.1).isSome = true) := fun ⟨n, v⟩ hy => by
    rcases S.par n (List.of_mem_zip hy).1 with q | q
    · exact .inl q
    · exact .inr ⟨q, PySem.W.cellsFrom_some _ _ _ (.inl q)⟩
  refine codeAny_call_function hr.depth (KX _ _ lk) rfl S.co S.gen rfl (PySem.W.codeRec_of KX hcd) (hb _ _ _ _ ?_)
  refine wpAny_newFunctionEnv_cells S.kind hkind fun env he s1 x => ?_
  subst he
  refine ⟨lim.keeps x.toInCall.keep, codeAny_func ?_⟩
  obtain ⟨t, ht, hq⟩ := hbody A outer s H vs Q E (hr.deeper _) hsp
  have I : Inv (cxOf CX P w K mg base N qual scope f cdv A outer s H E) [] (start N vs) H s1 := inv_start S hr.hd e0 hl r x
  refine wpAny_mono (ht [] s1 (start N vs) H _ I hq) (fun fl s' hs => ?_) fun e s' hs => hs
  have fin : ∀ {σ' : St} {H' : Hp} {v : V} {u : Value}, Inv (cxOf CX P w K mg base N qual scope f cdv A outer s H E) [] σ' H' s' → RelV v u → Q v H' → CE outer P w H s Q u s' :=
    fun {σ' H' v u} J rv q => ⟨v, H', J.os, J.bare, J.base, J.hok, rv, q⟩
  cases fl with
  | ret u =>
    obtain ⟨v, σ', H', J, rv, q⟩ := hs
    exact fin J rv q
  | next =>
    obtain ⟨σ', H', J, q⟩ := hs
    exact fin (v := V.non) (u := Value.none) J rfl q
  | brk =>
    obtain ⟨_, _, _, q⟩ := hs
    exact False.elim q
  | cont =>
    obtain ⟨_, _, _, q⟩ := hs
    exact False.elim q
end L2

namespace L2
open PySem PySem.Spec PyProof.Rows
section
variable {X : Cx} {x : Str} {p pos : Pos} {e : Expr} {es : List Expr} {t : TA} {id T : String} {r : List V → Hp → VK → Prop}

def tCB (r : List V → Hp → VK → Prop) (t : TA) : TE := fun σ H Q => t σ H fun vs H1 => r vs H1 Q
/-- f(e, ..), f a built-in function -/
theorem pe_callB (hc : CallR X (.builtin id) r) (hg : Gl X x) (hm : X.mg x = none) (hv : bootBuiltins x = some (.builtin id)) (ha : PA X (e :: es) t) (hn : x ≠ "__name__" := by decide) (hdb : (x == ("__debug__" : Str)) = false := by decide)
    (he : starEach (e :: es) X.env = (false, eval e X.env) :: starEach es X.env := by rfl) (hpl : (backTo pos (starEach es X.env)).any (·.1) = false := by rfl) : PE X (.Call (.Name x p) (e :: es) [] pos) (tCB r t) := by
  intro pins s σ H Q I h
  refine wpAny_Call_Name_kw (ld_blt I hg hm hv ?_ hn hdb)
  exact PyProof.Rows.callWith_builtin1 (thn (ha pos pins s σ H _ I h) fun us s1 ⟨vs, H1, I1, r1, q1⟩ => hc pins s1 σ H1 vs us Q I1 r1 q1) he hpl
/-- T(e, ..), T a built-in type -/
theorem pe_callTy (hc : CallR X (.type T) r) (hg : Gl X x) (hm : X.mg x = none) (hv : bootBuiltins x = some (.type T)) (ha : PA X (e :: es) t) (hn : x ≠ "__name__" := by decide) (hdb : (x == ("__debug__" : Str)) = false := by decide)
    (he : starEach (e :: es) X.env = (false, eval e X.env) :: starEach es X.env := by rfl) (hpl : (backTo pos (starEach es X.env)).any (·.1) = false := by rfl) : PE X (.Call (.Name x p) (e :: es) [] pos) (tCB r t) := by
  intro pins s σ H Q I h
  refine wpAny_Call_Name_kw (ld_blt I hg hm hv ?_ hn hdb)
  exact PyProof.Rows.callWith_type1 (thn (ha pos pins s σ H _ I h) fun us s1 ⟨vs, H1, I1, r1, q1⟩ => hc pins s1 σ H1 vs us Q I1 r1 q1) he hpl
end
end L2

namespace HT
open PySem PyProof.Rows

section
open PySem.SeqAt
open PySem.AutoSeq1 (wpAny_loadPart')
open PySem.MeetsSeq PySem.MeetsSeq2 PySem.MeetsSeq3

end

section
variable {prog : Program} {w : World} {A : Around} {E : Value → Shared → Prop} {s : Shared}

/-! ### t[a:b], not the whole -/
/-- a slice's bound as a place among n (d where it is left out) -/
def sIx (n d : Nat) : Option Int → Nat
  | none => d
  | some v => if v < 0 then (v + (n : Int)).toNat else min v.toNat n
theorem sIx_nat (n d k : Nat) : sIx n d (some (k : Int)) = min k n := by
  show (if (k : Int) < 0 then ((k : Int) + (n : Int)).toNat else min (k : Int).toNat n) = min k n
  rw [if_neg (by omega), Int.toNat_natCast]
theorem sIx_le (n d : Nat) (hd : d ≤ n) (o : Option Int) : sIx n d o ≤ n := by
  cases o with
  | none => exact hd
  | some v =>
    show (if v < 0 then (v + (n : Int)).toNat else min v.toNat n) ≤ n
    by_cases hv : v < 0
    · rw [if_pos hv]; omega
    · rw [if_neg hv]; exact Nat.min_le_right _ _
theorem clip_eq (v : Int) (n d : Nat) : (if v < 0 then max (v + (n : Int)) 0 else min v (n : Int)) = ((sIx n d (some v) : Nat) : Int) := by
  show (if v < 0 then max (v + (n : Int)) 0 else min v (n : Int)) = (((if v < 0 then (v + (n : Int)).toNat else min v.toNat n) : Nat) : Int)
  by_cases hv : v < 0
  · simp only [if_pos hv]; omega
  · simp only [if_neg hv]; omega
theorem adjust_gen (lo hi : Option Int) (n : Nat) : Builtin.Slice.sliceAdjust lo hi 1 (n : Int) = (((sIx n 0 lo : Nat) : Int), ((sIx n n hi : Nat) : Int)) := by
  have h1 : ¬ ((1 : Int) < 0) := by omega
  unfold Builtin.Slice.sliceAdjust
  simp only [h1, if_false]
  refine Prod.ext ?_ ?_
  · cases lo with
    | none => rfl
    | some v => exact clip_eq v n 0
  · cases hi with
    | none => rfl
    | some v => exact clip_eq v n n
theorem places_gen (i j : Nat) : Builtin.Slice.slicePlaces (i : Int) (j : Int) 1 = j - i := by
  unfold Builtin.Slice.slicePlaces
  have h1 : (1 : Int) > 0 := by omega
  simp only [h1, if_true, Int.ediv_one]
  split <;> omega
theorem slicePart_ {v : Value} {o : Option Int} {Q : Option Int → Shared → Prop} (p : IsPart v o) (h : Q o s) : wpAny (model prog w) A (Builtin.Slice.slicePartIndex v) Q E s := by
  cases p with
  | none => exact slicePart_none h
  | int i t => exact slicePart_int h
theorem sliceApplied_gen {sl : Addr} {vl vu : Value} {lo hi : Option Int} {n : Nat} {Q : Int × Int × Nat → Shared → Prop} (hs : s.heap.IsSliceOf sl vl vu .none) (pl : IsPart vl lo) (pu : IsPart vu hi)
    (h : Q (((sIx n 0 lo : Nat) : Int), 1, sIx n n hi - sIx n 0 lo) s) : wpAny (model prog w) A (Builtin.Slice.sliceApplied (.ref sl) (pure (n : Int))) Q E s := by
  obtain ⟨os, hos, hcs, hds⟩ := id hs
  unfold Builtin.Slice.sliceApplied Builtin.Slice.sliceFields
  refine wpAny_bind (wpAny_bind (wpAny_field hos hds (x := vl) rfl (wpAny_bind (wpAny_field hos hds (x := vu) rfl (wpAny_bind (wpAny_field hos hds (x := .none) rfl (wpAny_pure ?_)))))))
  refine wpAny_bind (slicePart_none ?_)
  show wpAny _ _ (if ((1 : Int) == 0) = true then _ else _) _ _ s
  rw [if_neg (by decide)]
  refine wpAny_bind (slicePart_ pl (wpAny_bind (slicePart_ pu (wpAny_bind (wpAny_pure ?_)))))
  show wpAny _ _ (match Builtin.Slice.sliceAdjust lo hi 1 (n : Int) with | (lo, hi) => pure (lo, (1 : Int), Builtin.Slice.slicePlaces lo hi 1)) _ _ s
  rw [adjust_gen lo hi n]
  show wpAny _ _ (pure (((sIx n 0 lo : Nat) : Int), (1 : Int), Builtin.Slice.slicePlaces ((sIx n 0 lo : Nat) : Int) ((sIx n n hi : Nat) : Int) 1)) _ _ s
  rw [places_gen]
  exact wpAny_pure h
theorem pick_gen (xs : Array Value) (i k : Nat) : ((List.range k).filterMap fun (m : Nat) => xs[((i : Int) + (m : Int) * 1).toNat]?).toArray = ((xs.toList.drop i).take k).toArray := by
  have e : (fun (m : Nat) => xs[((i : Int) + (m : Int) * 1).toNat]?) = fun m => xs[i + m]? := by
    funext m
    have : ((i : Int) + (m : Int) * 1).toNat = i + m := by omega
    rw [this]
  rw [e]
  have := pick_run xs i k
  rw [List.filterMap_map] at this
  have e2 : ((fun x => xs[x]?) ∘ fun x => i + x) = fun m => xs[i + m]? := rfl
  rw [e2] at this
  rw [this]

theorem getItem_tuple_cut {t sl : Addr} {items : Array Value} {vl vu : Value} {lo hi : Option Int} {Q : Value → Shared → Prop} (ht : IsTup s.heap t items) (hs : s.heap.IsSliceOf sl vl vu .none) (pl : IsPart vl lo) (pu : IsPart vu hi)
    (hw : ¬ (sIx items.size 0 lo = 0 ∧ sIx items.size items.size hi = items.size))
    (h : Q (.ref s.heap.objs.size) { s with heap := s.heap.push { cls := .type "tuple", data := .seq ((items.toList.drop (sIx items.size 0 lo)).take (sIx items.size items.size hi - sIx items.size 0 lo)).toArray } })
    (hsz : items.size ≤ sizeLine) : wpAny (model prog w) A (getItem (.ref t) (.ref sl)) Q E s := by
  have htake : sizeOk (.seq ((items.toList.drop (sIx items.size 0 lo)).take (sIx items.size items.size hi - sIx items.size 0 lo)).toArray) := by
    show ((items.toList.drop (sIx items.size 0 lo)).take (sIx items.size items.size hi - sIx items.size 0 lo)).toArray.size ≤ sizeLine
    rw [List.size_toArray, List.length_take, List.length_drop, Array.length_toList]
    omega
  have hj : sIx items.size items.size hi ≤ items.size := sIx_le _ _ (Nat.le_refl _) hi
  obtain ⟨os, hos, hcs, hds⟩ := id hs
  have hTs : s.TypeIs (.ref sl) "slice" := ⟨os, hos, hcs⟩
  unfold getItem
  try with_reducible refine wpAny_holding ?_
  first | refine wpAny_bind (wpAny_pure ?_) | skip
  refine wpAny_bind (wpAny_sequenceKey ht.typeIs (by decide) ?_)
  refine wpAny_bind (wpAny_callSpecial?_slot (name := Str.ofString "__getitem__") ht.typeIs PyProof.Rows.slot_tuple_getitem
    (wpAny_call_entry PyProof.Rows.slot_tuple_getitem ht.typeIs entry_tuple_getitem ?_ (args_tuple_getitem _ _)))
  show wpAny _ _ (Builtin.Tuple.tupleItemsOf (.ref t) >>= _) _ _ s
  refine wpAny_bind (tupleItemsOf_ ht ?_)
  refine wpAny_bind (wpAny_typeOf hTs ?_)
  rw [if_pos (by decide)]
  refine wpAny_bind (sliceApplied_gen hs pl pu ?_)
  have hno : ¬ ((((sIx items.size 0 lo : Nat) : Int) == 0 && (1 : Int) == 1 && (sIx items.size items.size hi - sIx items.size 0 lo) == items.size) = true) := by
    intro q
    rw [Bool.and_eq_true, Bool.and_eq_true] at q
    have q1 : ((sIx items.size 0 lo : Nat) : Int) = 0 := eq_of_beq q.1.1
    have q2 : sIx items.size items.size hi - sIx items.size 0 lo = items.size := eq_of_beq q.2
    exact hw ⟨by omega, by omega⟩
  show wpAny _ _ (if (((sIx items.size 0 lo : Nat) : Int) == 0 && (1 : Int) == 1 && (sIx items.size items.size hi - sIx items.size 0 lo) == items.size) = true then _ else _) _ _ s
  rw [if_neg hno, pick_gen]
  first
    | exact wpAny_bind (m := Builtin.Tuple.tupleExact _) (wpAny_newObj_type (wpAny_pure ⟨_, rfl, wpAny_pure h⟩) htake)
    | exact wpAny_bind (m := Builtin.Tuple.tupleExact _) (wpAny_newObj_type (wpAny_bind (wpAny_pure (wpAny_pure ⟨_, rfl, wpAny_pure h⟩))) htake)
    | exact wpAny_bind (wpAny_bind (m := Builtin.Tuple.tupleExact _) (wpAny_newObj_type (wpAny_pure (wpAny_pure ⟨_, rfl, wpAny_pure h⟩)) htake))
    | exact wpAny_bind (wpAny_bind (m := Builtin.Tuple.tupleExact _) (wpAny_newObj_type (wpAny_pure ⟨_, rfl, wpAny_pure h⟩) htake))
end
end HT

namespace L2
open PySem PySem.Spec PyProof.Rows

/-! ### the parts of a slice -/
abbrev TO := St → Hp → (Option Int → Hp → Prop) → Prop
/-- a slice's part (left out, or an int) -/
def PO (X : Cx) (e : Option Expr) (t : TO) : Prop :=
  ∀ (pins : List (Addr × Obj)) (s : Shared) (σ : St) (H : Hp) (Q : Option Int → Hp → Prop), Inv X pins σ H s → t σ H Q →
    wpAny (model X.prog X.w) X.A (evalPart e X.env) (fun u s' => ∃ o H', Inv X pins σ H' s' ∧ IsPart u o ∧ Q o H') X.xe s
def tNoPart : TO := fun _ H Q => Q none H
def tPart (t : TE) : TO := fun σ H Q => t σ H fun x H1 => ∃ i, x = .int i ∧ Q (some i) H1

section
variable {X : Cx} {e : Expr} {te : TE} {lo hi : Option Expr} {tl th : TO} {pos p2 : Pos}

theorem po_none : PO X none tNoPart := by
  intro pins s σ H Q I h
  rw [evalPart_none]
  exact wpAny_pure ⟨none, H, I, .none, h⟩
theorem po_some (h : PE X e te) : PO X (some e) (tPart te) := by
  intro pins s σ H Q I hw
  rw [evalPart_some]
  refine thn (h pins s σ H _ I hw) fun u s1 ⟨x, H1, I1, r1, q1⟩ => ?_
  obtain ⟨i, rfl, q⟩ := q1
  obtain ⟨t, rfl⟩ := r1
  exact ⟨some i, H1, I1, .int i t, q⟩

/-- what a slice of a value is, by values: the slice object stands at sl -/
def SlR (X : Cx) (r : V → Option Int → Option Int → Hp → VK → Prop) : Prop :=
  ∀ (pins : List (Addr × Obj)) (s : Shared) (σ : St) (H : Hp) (x : V) (v vl vu : Value) (lo hi : Option Int) (sl : Addr) (Q : VK), Inv X pins σ H s → RelV x v → s.heap.IsSliceOf sl vl vu .none → IsPart vl lo → IsPart vu hi → r x lo hi H Q →
    ∃ T id, typeLookup (.type T) "__getitem__" = pure (some (.builtin id)) ∧ s.TypeIs v T ∧ wpAny (model X.prog X.w) X.A (getItem v (.ref sl)) (EP X pins σ Q) X.xe s
theorem SlR.or {r r' : V → Option Int → Option Int → Hp → VK → Prop} (h : SlR X r) (h' : SlR X r') : SlR X (fun x lo hi H Q => r x lo hi H Q ∨ r' x lo hi H Q) := by
  intro pins s σ H x v vl vu lo hi sl Q I rx hs pl pu q
  rcases q with q | q
  · exact h pins s σ H x v vl vu lo hi sl Q I rx hs pl pu q
  · exact h' pins s σ H x v vl vu lo hi sl Q I rx hs pl pu q
def tSl (r : V → Option Int → Option Int → Hp → VK → Prop) (te : TE) (tl th : TO) : TE := fun σ H Q => te σ H fun x H1 => tl σ H1 fun l H2 => th σ H2 fun u H3 => r x l u H3 Q
/-- a[lo:hi], any a -/
theorem pe_slice {r : V → Option Int → Option Int → Hp → VK → Prop} (hr : SlR X r) (he : PE X e te) (hl : PO X lo tl) (hu : PO X hi th) : PE X (.Subscript e (.Slice lo hi none p2) pos) (tSl r te tl th) := by
  intro pins s σ H Q I h
  refine Subscript_ (thn (he pins s σ H _ I h) fun v s1 ⟨x, H1, I1, r1, q1⟩ => ?_)
  refine wpAny_Slice (thn (hl pins s1 σ H1 _ I1 q1) fun vl s2 ⟨l, H2, I2, pl, q2⟩ => thn (hu pins s2 σ H2 _ I2 q2) fun vu s3 ⟨u, H3, I3, pu, q3⟩ => ?_)
  rw [evalPart_none]
  refine wpAny_pure ?_
  have I4 : Inv X pins σ H3 { s3 with heap := s3.heap.push { cls := .type "slice", data := .fields #[vl, vu, .none] } } := I3.kept (t' := s3.toks) fun b ob q => Heap.get?_push_of_some _ q
  obtain ⟨T, id, hT, ht, hg⟩ := hr pins { s3 with heap := s3.heap.push { cls := .type "slice", data := .fields #[vl, vu, .none] } } σ H3 x v vl vu l u s3.heap.objs.size Q I4 r1 (Heap.IsSliceOf.new ..) pl pu q3
  show wpAny (model X.prog X.w) X.A (subscriptTail e (.Slice lo hi none p2) v (.ref s3.heap.objs.size)) (EP X pins σ Q) X.xe { s3 with heap := s3.heap.push { cls := .type "slice", data := .fields #[vl, vu, .none] } }
  exact tail_any (ops := [.ref s3.heap.objs.size, v]) ht hT hg (by with_unfolding_all rfl)

/-- the items of xs[lo:hi] -/
def cutV (xs : List V) (lo hi : Option Int) : List V := (xs.drop (HT.sIx xs.length 0 lo)).take (HT.sIx xs.length xs.length hi - HT.sIx xs.length 0 lo)
theorem cutV_length (xs : List V) (lo hi : Option Int) : (cutV xs lo hi).length ≤ xs.length := by
  unfold cutV
  rw [List.length_take, List.length_drop]
  omega
/-- t[lo:hi], not the whole of it (the whole would be t itself) -/
def rSlT (K : PySem.W.Frag) : V → Option Int → Option Int → Hp → VK → Prop := fun x lo hi H Q => ∃ a xs, x = .ref a ∧ SqT K H a xs ∧
  ¬ (HT.sIx xs.length 0 lo = 0 ∧ HT.sIx xs.length xs.length hi = xs.length) ∧ ∀ p, H p = none → Q (.ref p) (upd H p (.tup (cutV xs lo hi)))
theorem sl_tup : SlR X (rSlT X.K) := by
  intro pins s σ H x v vl vu lo hi sl Q I rx hs pl pu h
  obtain ⟨a, xs, rfl, hx, hw, q⟩ := h
  cases rx
  obtain ⟨its, r, ht, hz⟩ := I.tuple hx
  have hlen : its.toArray.size = xs.length := by rw [List.size_toArray]; exact r.length.symm
  refine ⟨"tuple", _, PyProof.Rows.slot_tuple_getitem.lookup, ht.typeIs, ?_⟩
  refine HT.getItem_tuple_cut ht hs pl pu (by rw [hlen]; exact hw) ?_ (by rw [hlen]; exact hz)
  rw [hlen]
  refine ⟨.ref s.heap.objs.size, _, I.laid (t' := s.toks) (o := .tup (cutV xs lo hi)) (fun b ob q => Heap.get?_push_of_some _ q) (Nat.le_refl _) ?_, rfl, q _ (I.hok.fresh (Nat.le_refl _))⟩
  exact ⟨Nat.le_trans (cutV_length xs lo hi) hz, _, (r.drop (HT.sIx xs.length 0 lo)).take (HT.sIx xs.length xs.length hi - HT.sIx xs.length 0 lo), IsTup.new _ _⟩

/-! ### t < u, t + u -/
end
end L2

namespace L2
open PySem PySem.Spec PyProof.Rows

/-! ### places -/
/-- the place that an index of any sign means -/
def ixN (n : Nat) (i : Int) : Option Nat := if 0 ≤ i then (if i < n then some i.toNat else none) else if -(n : Int) ≤ i then some (i + n).toNat else none
def atI {α : Type} (xs : List α) (i : Int) : Option α := (ixN xs.length i).bind fun j => xs[j]?
theorem ixN_seq {n : Nat} {i : Int} {j : Nat} (h : ixN n i = some j) : seqIndex? i n = some j ∧ j < n ∧ -(n : Int) ≤ i ∧ i < n := by
  unfold ixN at h
  by_cases h0 : 0 ≤ i
  · rw [if_pos h0] at h
    by_cases h1 : i < n
    · rw [if_pos h1] at h
      have e : i.toNat = j := Option.some.inj h
      exact ⟨by rw [seqIndex_of h0 h1, e], by omega, by omega, h1⟩
    · rw [if_neg h1] at h; cases h
  · rw [if_neg h0] at h
    by_cases h1 : -(n : Int) ≤ i
    · rw [if_pos h1] at h
      have e : (i + n).toNat = j := Option.some.inj h
      exact ⟨by rw [seqIndex_neg (by omega) h1, e], by omega, h1, by omega⟩
    · rw [if_neg h1] at h; cases h
theorem atI_get {α : Type} {xs : List α} {i : Int} {v : α} (h : atI xs i = some v) : ∃ j, seqIndex? i xs.length = some j ∧ xs[j]? = some v ∧ j < xs.length ∧ -(xs.length : Int) ≤ i ∧ i < xs.length := by
  unfold atI at h
  cases e : ixN xs.length i with
  | none => rw [e] at h; cases h
  | some j =>
    rw [e] at h
    obtain ⟨h1, h2, h3, h4⟩ := ixN_seq e
    exact ⟨j, h1, h, h2, h3, h4⟩
theorem atI_nat {α : Type} {xs : List α} {j : Nat} {v : α} (h : xs[j]? = some v) : atI xs (j : Int) = some v := by
  have hj : j < xs.length := (List.getElem?_eq_some_iff.mp h).1
  have e : ixN xs.length (j : Int) = some j := by
    unfold ixN
    rw [if_pos (by omega), if_pos (by omega)]; simp
  unfold atI; rw [e]; exact h
/-! ### what may be subscripted -/
/-- what stands as an index of a plain subscript -/
def PlainIx (b : Expr) : Prop := ∀ o i, subscripted b false o i = operate [o, i] (getItem o i)
/-- a subscript by values -/
def IxR (X : Cx) (r : R2) : Prop :=
  ∀ (value slice : Expr) (pins : List (Addr × Obj)) (s : Shared) (σ : St) (H : Hp) (x y : V) (v u : Value) (Q : VK), Inv X pins σ H s → RelV x v → RelV y u → r x y H Q →
    subscripted slice false v u = operate [v, u] (getItem v u) → wpAny (model X.prog X.w) X.A (subscriptTail value slice v u) (EP X pins σ Q) X.xe s
/-- a call of a builtin's method by values: the receiver, the arguments -/
def MtR (X : Cx) (id : String) (r : V → List V → Hp → VK → Prop) : Prop :=
  ∀ (pins : List (Addr × Obj)) (s : Shared) (σ : St) (H : Hp) (x : V) (xs : List V) (v : Value) (us : List Value) (Q : VK), Inv X pins σ H s → RelV x v → Vals xs us → r x xs H Q →
    wpAny (model X.prog X.w) X.A (call (.builtin id) (v :: us)) (EP X pins σ Q) X.xe s
section
variable {X : Cx} {a b : Expr} {ta tb : TE} {pos : Pos}
theorem IxR.or {r r' : R2} (h : IxR X r) (h' : IxR X r') : IxR X (fun x y H Q => r x y H Q ∨ r' x y H Q) := by
  intro value slice pins s σ H x y v u Q I rx ry q hs
  rcases q with q | q
  · exact h value slice pins s σ H x y v u Q I rx ry q hs
  · exact h' value slice pins s σ H x y v u Q I rx ry q hs
theorem MtR.or {id : String} {r r' : V → List V → Hp → VK → Prop} (h : MtR X id r) (h' : MtR X id r') : MtR X id (fun x xs H Q => r x xs H Q ∨ r' x xs H Q) := by
  intro pins s σ H x xs v us Q I rx rs q
  rcases q with q | q
  · exact h pins s σ H x xs v us Q I rx rs q
  · exact h' pins s σ H x xs v us Q I rx rs q
/-- a[b] -/
theorem pe_ix {r : R2} (hr : IxR X r) (ha : PE X a ta) (hb : PE X b tb) (hs : PlainIx b) : PE X (.Subscript a b pos) (tOp r ta tb) := by
  intro pins s σ H Q I h
  exact Subscript_ (binT ha hb I h fun v u s2 x y H2 I2 rx ry q => hr a b pins s2 σ H2 x y v u Q I2 rx ry q (hs _ _))

def rIxL (K : PySem.W.Frag) : R2 := fun x y H Q => ∃ p xs i v, x = .ref p ∧ y = .int i ∧ SqL K H p xs ∧ atI xs i = some v ∧ Q v H
def rIxT (K : PySem.W.Frag) : R2 := fun x y H Q => ∃ p xs i v, x = .ref p ∧ y = .int i ∧ SqT K H p xs ∧ atI xs i = some v ∧ Q v H
def rIxS : R2 := fun x y H Q => ∃ z i c, x = .str z ∧ y = .int i ∧ z.length ≤ sizeLine ∧ atI z.cps.toList i = some c ∧ Q (.str ⟨#[c]⟩) H
theorem ix_list : IxR X (rIxL X.K) := by
  intro value slice pins s σ H x y v u Q I rx ry h hs
  obtain ⟨p, xs, i, z, rfl, rfl, hq, he, q⟩ := h
  cases rx
  obtain ⟨t, rfl⟩ := ry
  obtain ⟨its, r, pl, hz⟩ := I.list hq
  obtain ⟨j, h1, h2, h3, h4, h5⟩ := atI_get he
  obtain ⟨w, ew, rw'⟩ := r.get h2
  have hl := r.length
  have hn := line63
  have fin : EP X pins σ Q w s := ⟨z, H, I, rw', q⟩
  by_cases h0 : 0 ≤ i
  · have hj : i.toNat = j := by
      rw [seqIndex_of h0 h5] at h1
      exact Option.some.inj h1
    exact item_listR pl.isList h0 (by omega) (by rw [hj]; simpa using ew) fin hs
  · have hj : (i + (its.toArray.size : Int)).toNat = j := by
      rw [seqIndex_neg (by omega) h4] at h1
      rw [List.size_toArray, ← hl]
      exact Option.some.inj h1
    exact subscriptTail_builtinR (x := w) pl.isList.typeIs slot_list_getitem.lookup
      (wpAny_getItem_list_neg (Q := fun r s' => r = w ∧ EP X pins σ Q r s') pl.isList (by omega) (by rw [List.size_toArray] <;> omega) (by omega) (by rw [hj]; simpa using ew) ⟨rfl, fin⟩) hs
theorem ix_tup : IxR X (rIxT X.K) := by
  intro value slice pins s σ H x y v u Q I rx ry h hs
  obtain ⟨p, xs, i, z, rfl, rfl, hq, he, q⟩ := h
  cases rx
  obtain ⟨t, rfl⟩ := ry
  obtain ⟨its, r, pl, hz⟩ := I.tuple hq
  obtain ⟨j, h1, h2, h3, h4, h5⟩ := atI_get he
  obtain ⟨w, ew, rw'⟩ := r.get h2
  have hl := r.length
  have hn := line63
  have fin : EP X pins σ Q w s := ⟨z, H, I, rw', q⟩
  exact subscriptTail_builtinR (x := w) pl.typeIs slot_tuple_getitem.lookup
    (getItem_tuple (j := j) (Q := fun r s' => r = w ∧ EP X pins σ Q r s') pl (by omega) (by omega) (by rw [List.size_toArray, ← hl]; exact h1) (by simpa using ew) ⟨rfl, fin⟩) hs
theorem ix_str : IxR X rIxS := by
  intro value slice pins s σ H x y v u Q I rx ry h hs
  obtain ⟨z, i, c, rfl, rfl, hz, he, q⟩ := h
  obtain ⟨t, rfl⟩ := rx
  obtain ⟨t', rfl⟩ := ry
  obtain ⟨j, h1, h2, h3, h4, h5⟩ := atI_get he
  have hl : z.cps.toList.length = z.length := by simp [Str.length]
  rw [hl] at h1 h4 h5
  have hn := line63
  exact tail_any (typeIs_str s z t) slot_str_getitem.lookup (getItem_str (c := c) (by
    have e1 : decide (i < -(2 ^ 63 : Int)) = false := decide_eq_false (by omega)
    have e2 : decide (i ≥ 2 ^ 63) = false := decide_eq_false (by omega)
    rw [e1, e2, Bool.or_false]) (by rw [h1]; simpa using h2) ⟨.str ⟨#[c]⟩, H, I.tok _, ⟨_, rfl⟩, q⟩) hs
/-! ### xs[i] = v, any sign -/
theorem Inv.lst {pins : List (Addr × Obj)} {σ : St} {H : Hp} {s : Shared} {p : Addr} {xs : List V} (I : Inv X pins σ H s) (h : H p = some (.lst xs)) :
    ∃ (its : List Value) (n : Nat), Vals xs its ∧ s.heap.get? p = some { cls := .type "list", data := .seq its.toArray n } ∧ xs.length ≤ sizeLine := by
  obtain ⟨z, its, n, r, e⟩ := I.hok p _ h
  exact ⟨its, n, r, e, z⟩
/-! ### slices -/
theorem slice_bounds (lo hi : Option Int) (n : Nat) : (sliceBounds lo hi none n).1 = ((HT.sIx n 0 lo : Nat) : Int) ∧ (sliceBounds lo hi none n).2.1 = ((HT.sIx n n hi : Nat) : Int) ∧ (sliceBounds lo hi none n).2.2 = 1 := by
  refine ⟨?_, ?_, rfl⟩
  · cases lo with
    | none => simp [sliceBounds, HT.sIx]
    | some i =>
      simp only [sliceBounds, HT.sIx, Option.getD_none, show (1 : Int) > 0 by decide, if_true]
      by_cases h : i < 0
      · simp only [h, if_true] <;> omega
      · simp only [h, if_false] <;> omega
  · cases hi with
    | none => simp [sliceBounds, HT.sIx]
    | some i =>
      simp only [sliceBounds, HT.sIx, Option.getD_none, show (1 : Int) > 0 by decide, if_true]
      by_cases h : i < 0
      · simp only [h, if_true] <;> omega
      · simp only [h, if_false] <;> omega
theorem slicePick_cut (its : List Value) (lo hi : Option Int) : slicePick its.toArray lo hi none = ((its.drop (HT.sIx its.length 0 lo)).take (HT.sIx its.length its.length hi - HT.sIx its.length 0 lo)).toArray := by
  obtain ⟨h1, h2, h3⟩ := slice_bounds lo hi its.toArray.size
  unfold slicePick
  rw [h1, h2, h3]
  simp only [sliceRange_one, pick_run, List.size_toArray] <;> rfl
/-- xs[lo:hi] of a list: a new list -/
def rSlL (K : PySem.W.Frag) : V → Option Int → Option Int → Hp → VK → Prop := fun x lo hi H Q => ∃ a xs, x = .ref a ∧ SqL K H a xs ∧ ∀ p, H p = none → Q (.ref p) (upd H p (.lst (cutV xs lo hi)))
theorem sl_list : SlR X (rSlL X.K) := by
  intro pins s σ H x v vl vu lo hi sl Q I rx hs pl pu h
  obtain ⟨a, xs, rfl, hx, q⟩ := h
  cases rx
  obtain ⟨its, r, ht, hz⟩ := I.list hx
  have hlen := r.length
  refine ⟨"list", _, slot_list_getitem.lookup, ht.isList.typeIs, ?_⟩
  refine wpAny_getItem_list_slice ht.isList hs pl pu .none (by simp) ?_ (by rw [List.size_toArray] <;> omega)
  rw [slicePick_cut, ← hlen]
  refine ⟨.ref s.heap.objs.size, _, I.laid (t' := s.toks) (o := .lst (cutV xs lo hi)) (fun b ob q => Heap.get?_push_of_some _ q) (Nat.le_refl _) ?_, rfl, q _ (I.hok.fresh (Nat.le_refl _))⟩
  exact ⟨Nat.le_trans (cutV_length xs lo hi) hz, _, 0, (r.drop (HT.sIx xs.length 0 lo)).take (HT.sIx xs.length xs.length hi - HT.sIx xs.length 0 lo), Heap.get?_push_size _ rfl⟩

/-! ### in, not in: flat items -/
def flatV : V → Bool
  | .non => true
  | .bl _ => true
  | .int _ => true
  | .str _ => true
  | _ => false
/-- == of flat values -/
def eqV : V → V → Bool
  | .non, .non => true
  | .bl a, .bl b => a == b
  | .bl a, .int b => (if a then 1 else 0) == b
  | .int a, .bl b => a == (if b then 1 else 0)
  | .int a, .int b => a == b
  | .str a, .str b => a == b
  | _, _ => false
theorem eqAt_V {A : Around} {s : Shared} {y x : V} {u v : Value} (ry : RelV y u) (rx : RelV x v) (fy : flatV y = true) (fx : flatV x = true) : SeqAt.EqAt A s u v (eqV y x) := by
  cases y with
  | non =>
    cases ry
    cases x with
    | non => cases rx; exact SeqAt.EqAt.same _
    | bl b => cases rx; exact SeqAt.EqAt.none_bool b
    | int b => obtain ⟨t, rfl⟩ := rx; exact SeqAt.EqAt.none_int b t
    | str b => obtain ⟨t, rfl⟩ := rx; exact SeqAt.EqAt.none_str b t
    | _ => exact absurd (show false = true from fx) Bool.false_ne_true
  | bl a =>
    cases ry
    cases x with
    | non => cases rx; exact SeqAt.EqAt.bool_none a
    | bl b => cases rx; exact SeqAt.EqAt.bool_bool a b
    | int b => obtain ⟨t, rfl⟩ := rx; exact SeqAt.EqAt.bool_int a b t
    | str b => obtain ⟨t, rfl⟩ := rx; exact SeqAt.EqAt.bool_str a b t
    | _ => exact absurd (show false = true from fx) Bool.false_ne_true
  | int a =>
    obtain ⟨t', rfl⟩ := ry
    cases x with
    | non => cases rx; exact SeqAt.EqAt.int_none a t'
    | bl b => cases rx; exact SeqAt.EqAt.int_bool a t' b
    | int b => obtain ⟨t, rfl⟩ := rx; exact SeqAt.EqAt.int_int a t' b t
    | str b => obtain ⟨t, rfl⟩ := rx; exact SeqAt.EqAt.int_str a t' b t
    | _ => exact absurd (show false = true from fx) Bool.false_ne_true
  | str a =>
    obtain ⟨t', rfl⟩ := ry
    cases x with
    | non => cases rx; exact SeqAt.EqAt.str_none a t'
    | bl b => cases rx; exact SeqAt.EqAt.str_bool a t' b
    | int b => obtain ⟨t, rfl⟩ := rx; exact SeqAt.EqAt.str_int a t' b t
    | str b => obtain ⟨t, rfl⟩ := rx; exact SeqAt.EqAt.str_str a t' b t
    | _ => exact absurd (show false = true from fx) Bool.false_ne_true
  | _ => exact absurd (show false = true from fy) Bool.false_ne_true
/-! ### len, list(x), tuple(x) of any list or tuple that is read -/
theorem call_len_seq : CallR X (.builtin "len") (fun xs H Q => ∃ p ys, xs = [.ref p] ∧ (SqL X.K H p ys ∨ SqT X.K H p ys) ∧ Q (.int ys.length) H) := by
  intro pins s σ H xs us Q I r h
  obtain ⟨p, ys, rfl, hq, q⟩ := h
  obtain ⟨u, rfl, rx⟩ := vals1 r
  cases rx
  have hn := line63
  rcases hq with hq | hq
  · obtain ⟨its, r', pl, hz⟩ := I.list hq
    have hlen := r'.length
    exact Calls.call_len_list pl.isList (by simp only [List.size_toArray] <;> omega) ⟨.int ys.length, H, I.tok _, ⟨s.toks + 1, by rw [List.size_toArray, hlen]⟩, q⟩
  · obtain ⟨its, r', pl, hz⟩ := I.tuple hq
    have hlen := r'.length
    exact len_tuple pl (by simp only [List.size_toArray] <;> omega) ⟨.int ys.length, H, I.tok _, ⟨s.toks + 1, by rw [List.size_toArray, hlen]⟩, q⟩
theorem call_len_str : CallR X (.builtin "len") (fun xs H Q => ∃ z, xs = [.str z] ∧ z.length ≤ sizeLine ∧ Q (.int z.length) H) := by
  intro pins s σ H xs us Q I r h
  obtain ⟨z, rfl, hz, q⟩ := h
  obtain ⟨u, rfl, t, rfl⟩ := vals1 r
  have hn := line63
  exact len_str (by omega) ⟨.int z.length, H, I.tok _, ⟨_, rfl⟩, q⟩
theorem CallR.or {f : Value} {r r' : List V → Hp → VK → Prop} (h : CallR X f r) (h' : CallR X f r') : CallR X f (fun xs H Q => r xs H Q ∨ r' xs H Q) := by
  intro pins s σ H xs us Q I rs q
  rcases q with q | q
  · exact h pins s σ H xs us Q I rs q
  · exact h' pins s σ H xs us Q I rs q
theorem call_tuple_of : CallR X (.type "tuple") (fun xs H Q => ∃ p ys, xs = [.ref p] ∧ ((SqL X.K H p ys ∧ ∀ l, H l = none → Q (.ref l) (upd H l (.tup ys))) ∨ (SqT X.K H p ys ∧ Q (.ref p) H))) := by
  intro pins s σ H xs us Q I r h
  obtain ⟨p, ys, rfl, h⟩ := h
  obtain ⟨u, rfl, rx⟩ := vals1 r
  cases rx
  rcases h with ⟨hq, q⟩ | ⟨hq, q⟩
  · obtain ⟨its, r', pl, hz⟩ := I.list hq
    have hlen := r'.length
    refine call_tuple_list pl.isList (fun h' kp => ?_) (by simp only [List.size_toArray] <;> omega)
    have I1 : Inv X pins σ H { s with heap := h' } := I.kept (t' := s.toks) kp
    have I2 : Inv X pins σ (upd H h'.objs.size (.tup ys)) { s with heap := h'.push { cls := .type "tuple", data := .seq its.toArray } } :=
      I1.laid (t' := s.toks) (fun b o e => Heap.get?_push_of_some _ e) (Nat.le_refl _) (show ObjOk X.prog X.w _ _ _ (.tup ys) from ⟨hz, its, r', IsTup.new _ _⟩)
    exact ⟨.ref h'.objs.size, _, I2, rfl, q _ (I1.hok.fresh (Nat.le_refl _))⟩
  · obtain ⟨its, r', pl, hz⟩ := I.tuple hq
    exact call_tuple_same pl ⟨.ref p, H, I, rfl, q⟩

/-! ### the call of a builtin's method: o.m(..) -/
/-- the value is of that builtin type -/
def tyV (K : PySem.W.Frag) (T : String) (x : V) (H : Hp) : Prop := match x with
  | .str _ => T = "str"
  | .int _ => T = "int"
  | .ref p => (T = "list" ∧ ∃ xs, SqL K H p xs) ∨ (T = "tuple" ∧ ∃ o, K.lookup p = some o ∧ o.cls = .type "tuple" ∧ o.dict = none) ∨
      (T = "dict" ∧ ((∃ kvs, H p = some (.dK kvs)) ∨ ∃ kvs, H p = some (.dT kvs))) ∨ (T = "set" ∧ ∃ S n, H p = some (.set S n))
  | _ => False
theorem tyV_is {pins : List (Addr × Obj)} {σ : St} {H : Hp} {s : Shared} {T : String} {x : V} {v : Value} (I : Inv X pins σ H s) (r : RelV x v) (ty : tyV X.K T x H) :
    s.TypeIs v T ∧ ∀ a, v = .ref a → ∃ ob, s.heap.get? a = some ob ∧ ob.dict = none := by
  cases x with
  | str z =>
    obtain ⟨t, rfl⟩ := r
    cases (show T = "str" from ty)
    exact ⟨typeIs_str s z t, fun _ e => nomatch e⟩
  | int i =>
    obtain ⟨t, rfl⟩ := r
    cases (show T = "int" from ty)
    exact ⟨typeIs_int s i t, fun _ e => nomatch e⟩
  | ref p =>
    cases r
    rcases ty with ⟨rfl, xs, hq⟩ | ⟨rfl, o, hk, hc, hd⟩ | ⟨rfl, hk⟩ | ⟨rfl, S, n, hk⟩
    · obtain ⟨its, _, pl, _⟩ := I.list hq
      refine ⟨pl.isList.typeIs, fun a e => ?_⟩
      cases e
      obtain ⟨o, n, e, c, hd, _⟩ := pl
      exact ⟨o, e, hd⟩
    · refine ⟨⟨o, I.kIn p o hk, hc⟩, fun a e => ?_⟩
      cases e
      exact ⟨o, I.kIn _ o hk, hd⟩
    · have z : ∃ o, s.heap.get? p = some o ∧ o.ExactDict := by
        rcases hk with ⟨kvs, hk⟩ | ⟨kvs, hk⟩
        · obtain ⟨_, _, _, _, o, _, _, e, ex, _⟩ := I.hok p _ hk
          exact ⟨o, e, ex⟩
        · obtain ⟨_, _, _, _, o, _, _, e, ex, _⟩ := I.hok p _ hk
          exact ⟨o, e, ex⟩
      obtain ⟨o, e, ex⟩ := z
      refine ⟨⟨o, e, ex.1⟩, fun a e2 => ?_⟩
      cases e2
      exact ⟨o, e, ex.2.1⟩
    · obtain ⟨o, _, _, _, e, ex, _⟩ := I.hok p _ hk
      refine ⟨⟨o, e, ex.1⟩, fun a e2 => ?_⟩
      cases e2
      exact ⟨o, e, ex.2.1⟩
  | _ => exact False.elim ty
def tBM (K : PySem.W.Frag) (T : String) (r : V → List V → Hp → VK → Prop) (to : TE) (t : TA) : TE := fun σ H Q => to σ H fun x H1 => tyV K T x H1 ∧ t σ H1 fun xs H2 => r x xs H2 Q
variable {o e : Expr} {es : List Expr} {to : TE} {t : TA} {name : Str} {apos cpos : Pos} {T id : String} {r : V → List V → Hp → VK → Prop}
theorem pe_bm (pa : PlainAttrs T) (slot : Slot T name id) (hty : typeOf (.builtin id) = pure (.type "method_descriptor")) (hm : MtR X id r) (ho : PE X o to) (ha : PA X (e :: es) t)
    (hbase : attributeBase o name X.env (eval o X.env) = eval o X.env := by rfl)
    (hfew : ((backTo cpos (starEach (e :: es) X.env)).all (fun x => !x.1) && (backToKw cpos (keywordEach [] X.env)).all (fun x => x.1.isSome)
      && decide ((e :: es).length + ([] : List Keyword).length + (if ([] : List Keyword).isEmpty then 0 else 1) < 30)) = true := by rfl)
    (hline : (apos.endLine == cpos.line) = true := by rfl) (hs : starEach (e :: es) X.env = (false, eval e X.env) :: starEach es X.env := by rfl) (hplain : (backTo cpos (starEach es X.env)).any (·.1) = false := by rfl) :
    PE X (.Call (.Attribute o name apos) (e :: es) [] cpos) (tBM X.K T r to t) := by
  intro pins s σ H Q I h
  refine wpAny_Call_method_late hbase hfew hline rfl (thn (ho pins s σ H _ I h) fun v s1 ⟨x, H1, I1, r1, ty, q1⟩ => ?_)
  obtain ⟨h1, h2⟩ := tyV_is I1 r1 ty
  refine ⟨T, id, pa, slot, hty, h1, h2, ?_⟩
  have hA := ha cpos pins s1 σ H1 _ I1 q1
  rw [hs] at hA ⊢
  refine Calls.callWith_builtin (by show (false || (backTo cpos (starEach es X.env)).any (·.1)) = false; rw [hplain] <;> rfl) (Calls.evalArgs_plain ?_)
  exact thn hA fun us s2 ⟨vs, H2, I2, r2, q2⟩ => hm pins s2 σ H2 x vs v us Q I2 r1 r2 q2
/- xs.append(e), list.index on a module's tuple .. are MtR facts of 06m -/
end
end L2

namespace L2
open PySem PySem.Spec PyProof.Rows

def MtM (X : Cx) (id : String) (r : V → List V → Hp → VK → Prop) : Prop :=
  ∀ (pins : List (Addr × Obj)) (s : Shared) (σ : St) (H : Hp) (x : V) (xs : List V) (v : Value) (us : List Value) (Q : VK), Inv X pins σ H s → RelV x v → Vals xs us → r x xs H Q →
    wpAny (model X.prog X.w) X.A (call (.builtin id) (v :: us)) (EP X pins σ Q) X.xe s

/-! ### lists of values -/
theorem Vals.one : ∀ {x : V} {us : List Value}, Vals [x] us → ∃ u, us = [u] ∧ RelV x u
  | _, _, .cons r .nil => ⟨_, rfl, r⟩
theorem Vals.two : ∀ {x y : V} {us : List Value}, Vals [x, y] us → ∃ u v, us = [u, v] ∧ RelV x u ∧ RelV y v
  | _, _, _, .cons r (.cons q .nil) => ⟨_, _, rfl, r, q⟩
theorem Vals.zero : ∀ {us : List Value}, Vals [] us → us = []
  | _, .nil => rfl
section
variable {X : Cx} {pins : List (Addr × Obj)} {σ : St} {H : Hp} {s : Shared} {l b : Addr} {xs ys zs : List V}

/-! ### the two steps: a tracked list is rewritten, a new list is laid -/
theorem Inv.lset {its its' : List Value} {n : Nat} {f : Array Value → Array Value} {t' : Nat} (I : Inv X pins σ H s) (hH : H l = some (.lst xs))
    (e : s.heap.get? l = some { cls := .type "list", data := .seq its.toArray n }) (hf : f its.toArray = its'.toArray) (hv : Vals ys its') (hz : ys.length ≤ sizeLine) :
    Inv X pins σ (upd H l (.lst ys)) { s with heap := s.heap.update l (Obj.mapSeq f), toks := t' } := by
  have q := PySem.IsL.update e f
  rw [hf] at q
  refine I.write (x := l) (e := l) (by rw [hH]; exact trivial) (.inl rfl) (fun b' u hb hu => (Heap.get?_update_other s.heap (Obj.mapSeq f) (Ne.symm hb)).trans hu) ⟨_, q⟩ ?_
  exact ⟨hz, its', _, hv, q⟩
theorem Inv.lnew {its : List Value} {t' : Nat} (I : Inv X pins σ H s) (hv : Vals ys its) (hz : ys.length ≤ sizeLine) :
    Inv X pins σ (upd H s.heap.objs.size (.lst ys)) { s with heap := s.heap.push { cls := .type "list", data := .seq its.toArray }, toks := t' } :=
  I.laid (fun _ _ q => Heap.get?_push_of_some _ q) (Nat.le_refl _) ⟨hz, its, 0, hv, Heap.get?_push_size _ rfl⟩
theorem Inv.fresh (I : Inv X pins σ H s) : H s.heap.objs.size = none := I.hok.fresh (Nat.le_refl _)
theorem Inv.lstM (I : Inv X pins σ H s) (hH : H l = some (.lst xs)) : xs.length ≤ sizeLine ∧ ∃ (its : List Value) (n : Nat), Vals xs its ∧ xs.length = its.length ∧ s.heap.get? l = some { cls := .type "list", data := .seq its.toArray n } := by
  obtain ⟨z, its, n, r, e⟩ := I.hok l _ hH
  exact ⟨z, its, n, r, r.length, e⟩

end

section
variable {X : Cx}

/-! ### methods -/
def rAppend : V → List V → Hp → VK → Prop := fun x vs H Q => ∃ l xs y, x = .ref l ∧ vs = [y] ∧ H l = some (.lst xs) ∧ xs.length < sizeLine ∧ Q .non (upd H l (.lst (xs ++ [y])))
theorem mt_append : MtM X "list.append" rAppend := by
  intro pins s σ H x vs v us Q I rx rv h
  obtain ⟨l, xs, y, rfl, rfl, hH, hz, q⟩ := h
  cases rx
  obtain ⟨u, rfl, ru⟩ := rv.one
  obtain ⟨z, its, n, r, hl, e⟩ := I.lstM hH
  refine call_meets F.slot_list_append ⟨_, e, rfl⟩ F.entry_list_append (F.args_list_append_2 _ _) (PySem.list_append l its.toArray n u (by rw [List.size_toArray]; omega)) ⟨e, ?_⟩
  refine ⟨.non, _, I.lset (its' := its ++ [u]) hH e (by simp) (r.append (.cons ru .nil)) ?_, rfl, q⟩
  rw [List.length_append, List.length_singleton]
  omega

/-! ### list + list, list += list, list * int -/
/-! ### del xs[i] -/
end

/-! ### xs[a:b] = ys -/
section
variable {prog : Program} {w : World} {A : Around} {E : Value → Shared → Prop} {s : Shared}
set_option maxRecDepth 100000 in
end

section
variable {X : Cx}
end
end L2

namespace L2
open PySem PySem.Spec PyProof.Rows

/-! ### lists of pairs as tables -/
section
variable {κ : Type} [DecidableEq κ]
def valV (kvs : List (κ × V)) (k : κ) : Option V := (kvs.find? fun kv => decide (kv.1 = k)).map (·.2)
/-- in its place, or at the end -/
def putK (kvs : List (κ × V)) (k : κ) (v : V) : List (κ × V) :=
  if (kvs.any fun kv => decide (kv.1 = k)) = true then kvs.map (fun kv => if kv.1 = k then (kv.1, v) else kv) else kvs ++ [(k, v)]
def dropK (kvs : List (κ × V)) (k : κ) : List (κ × V) := kvs.filter fun kv => decide (kv.1 ≠ k)

theorem valV_pos {p : κ × V} {r : List (κ × V)} {k : κ} (e : p.1 = k) : valV (p :: r) k = some p.2 := by simp [valV, List.find?_cons, e]
theorem valV_neg {p : κ × V} {r : List (κ × V)} {k : κ} (e : ¬ p.1 = k) : valV (p :: r) k = valV r k := by simp [valV, List.find?_cons, e]
theorem RelO.isSome_eq {o : Option V} {u : Option Value} (r : RelO o u) : o.isSome = u.isSome := by
  cases o with
  | none => cases u with
    | none => rfl
    | some _ => exact (show False from r).elim
  | some _ => cases u with
    | none => exact (show False from r).elim
    | some _ => rfl
theorem RelO.getD {o : Option V} {u : Option Value} {d : V} {d' : Value} (r : RelO o u) (rd : RelV d d') : RelV (o.getD d) (u.getD d') := by
  cases o with
  | none => cases u with
    | none => exact rd
    | some _ => exact (show False from r).elim
  | some _ => cases u with
    | none => exact (show False from r).elim
    | some _ => exact r

/-- raw tables of the same keys -/
theorem KV.val {kvs : List (κ × V)} {vs : List (κ × Value)} (r : KV kvs vs) (k : κ) : RelO (valV kvs k) (valueAt vs k) := by
  unfold KV at r
  induction r with
  | nil => exact True.intro
  | @cons p q ps qs h t ih =>
    obtain ⟨h1, h2⟩ := h
    by_cases e : p.1 = k
    · have e' : q.1 = k := h1.symm.trans e
      have b : valueAt (q :: qs) k = some q.2 := by simp [valueAt, List.find?_cons, e']
      rw [valV_pos e, b]; exact h2
    · have e' : ¬ q.1 = k := fun z => e (h1.trans z)
      have b : valueAt (q :: qs) k = valueAt qs k := by simp [valueAt, List.find?_cons, e']
      rw [valV_neg e, b]; exact ih
theorem KV.any {kvs : List (κ × V)} {vs : List (κ × Value)} (r : KV kvs vs) (k : κ) : (kvs.any fun kv => decide (kv.1 = k)) = vs.any fun kv => decide (kv.1 = k) := by
  unfold KV at r
  induction r with
  | nil => rfl
  | cons h t ih => rw [List.any_cons, List.any_cons, ih, h.1]
theorem KV.drop {kvs : List (κ × V)} {vs : List (κ × Value)} (r : KV kvs vs) (k : κ) : KV (dropK kvs k) (without vs k) := by
  unfold KV at r ⊢
  unfold dropK without
  induction r with
  | nil => exact .nil
  | @cons p q ps qs h t ih =>
    obtain ⟨h1, h2⟩ := h
    rw [List.filter_cons, List.filter_cons]
    by_cases e : p.1 = k
    · have a : ¬ decide (p.1 ≠ k) = true := by simp [e]
      have b : ¬ decide (q.1 ≠ k) = true := by simp [h1.symm.trans e]
      rw [if_neg a, if_neg b]; exact ih
    · have e' : ¬ q.1 = k := fun z => e (h1.trans z)
      have a : decide (p.1 ≠ k) = true := by simp [e]
      have b : decide (q.1 ≠ k) = true := by simp [e']
      rw [if_pos a, if_pos b]; exact .cons ⟨h1, h2⟩ ih
theorem KV.keys {kvs : List (κ × V)} {vs : List (κ × Value)} (r : KV kvs vs) : kvs.map (·.1) = vs.map (·.1) := by
  unfold KV at r
  induction r with
  | nil => rfl
  | cons h t ih => rw [List.map_cons, List.map_cons, ih, h.1]
theorem KV.length {kvs : List (κ × V)} {vs : List (κ × Value)} (r : KV kvs vs) : kvs.length = vs.length := Paired.length r
end


/-! ### a tracked dict, its keys ints and texts or tuples of these -/
theorem kV_is {P : Program} {w : World} {k : Key} {u : Value} (r : RelV (kV k) u) : (mixKind P w).is k u = true := by
  cases k with
  | inl i => obtain ⟨t, e⟩ := (show ∃ t, u = Value.int i t from r); subst e; exact mixKind_int P w i t
  | inr x => obtain ⟨t, e⟩ := (show ∃ t, u = Value.str x t from r); subst e; exact mixKind_str P w x t
/-- raw entries of a dict with tuple keys -/
abbrev KT (H : Hp) : List (List Key × V) → List (List Key × Addr × Value) → Prop := Paired fun p q => p.1 = q.1 ∧ H q.2.1 = some (.tup (p.1.map kV)) ∧ RelV p.2 q.2.2
theorem KT.val {H : Hp} {kvs : List (List Key × V)} {xs : List (List Key × Addr × Value)} (r : KT H kvs xs) (k : List Key) : RelO (valV kvs k) ((atKey xs k).map (·.2)) := by
  induction r with
  | nil => exact True.intro
  | @cons p q ps qs h t ih =>
    obtain ⟨h1, _, h2⟩ := h
    by_cases e : p.1 = k
    · have e' : q.1 = k := h1.symm.trans e
      have b : atKey (q :: qs) k = some q.2 := by simp [atKey, List.find?_cons, e']
      rw [valV_pos e, b]; exact h2
    · have e' : ¬ q.1 = k := fun z => e (h1.trans z)
      have b : atKey (q :: qs) k = atKey qs k := by simp [atKey, List.find?_cons, e']
      rw [valV_neg e, b]; exact ih
theorem KT.keeps {H H' : Hp} {kvs : List (List Key × V)} {xs : List (List Key × Addr × Value)} (r : KT H kvs xs) (ht : ∀ b ys, H b = some (.tup ys) → H' b = some (.tup ys)) : KT H' kvs xs :=
  Paired.mapP r fun _ _ z => ⟨z.1, ht _ _ z.2.1, z.2.2⟩

section
variable {P : Program} {w : World} {H : Hp} {h : Heap} {a : Addr}
end

/-- what the dict at a holds at the key y -/
def DGet (H : Hp) (a : Addr) (y : V) (r : Option V) : Prop :=
  (∃ kvs k, Rd H a (.dK kvs) ∧ y = kV k ∧ r = valV kvs k) ∨ ∃ kvs k b, Rd H a (.dT kvs) ∧ y = .ref b ∧ H b = some (.tup (k.map kV)) ∧ r = valV kvs k
/-- the heap behind a[y] = v -/
def DPut (H : Hp) (a : Addr) (y v : V) (H' : Hp) : Prop :=
  (∃ kvs k, H a = some (.dK kvs) ∧ y = kV k ∧ kvs.length < sizeLine ∧ H' = upd H a (.dK (putK kvs k v))) ∨
  ∃ kvs k b, H a = some (.dT kvs) ∧ y = .ref b ∧ H b = some (.tup (k.map kV)) ∧ kvs.length < sizeLine ∧ H' = upd H a (.dT (putK kvs k v))
theorem DGet.k {H : Hp} {a : Addr} {kvs : List (Key × V)} {k : Key} (e : H a = some (.dK kvs)) : DGet H a (kV k) (valV kvs k) := .inl ⟨kvs, k, .inl e, rfl, rfl⟩
theorem DGet.t {H : Hp} {a b : Addr} {kvs : List (List Key × V)} {k : List Key} (e : H a = some (.dT kvs)) (eb : H b = some (.tup (k.map kV))) : DGet H a (.ref b) (valV kvs k) := .inr ⟨kvs, k, b, .inl e, rfl, eb, rfl⟩
theorem DPut.k {H : Hp} {a : Addr} {kvs : List (Key × V)} {k : Key} {v : V} (e : H a = some (.dK kvs)) (hl : kvs.length < sizeLine) : DPut H a (kV k) v (upd H a (.dK (putK kvs k v))) := .inl ⟨kvs, k, e, rfl, hl, rfl⟩
theorem DPut.t {H : Hp} {a b : Addr} {kvs : List (List Key × V)} {k : List Key} {v : V} (e : H a = some (.dT kvs)) (eb : H b = some (.tup (k.map kV))) (hl : kvs.length < sizeLine) :
    DPut H a (.ref b) v (upd H a (.dT (putK kvs k v))) := .inr ⟨kvs, k, b, e, rfl, eb, hl, rfl⟩


section
variable {X : Cx} {pins : List (Addr × Obj)} {σ : St} {H : Hp} {s : Shared} {a : Addr} {y v : V} {u r : Value} {o : Option V} {A : Around} {E : Value → Shared → Prop}

end

section
variable {X : Cx} {pins : List (Addr × Obj)} {σ : St} {H : Hp} {s : Shared} {a : Addr} {kvs : List (Key × V)} {k : Key} {u : Value} {A : Around} {E : Value → Shared → Prop}
end


/-! ### readings and rules -/
/-- the element of a subscription, not a slice -/
def NoSl (i : Expr) : Prop := ∀ ov iv, subscripted i false ov iv = operate [ov, iv] (getItem ov iv)
theorem subD_of {prog : Program} {w : World} {A : Around} {E : Value → Shared → Prop} {s : Shared} {env : Env} {value slice : Expr} {pos : Pos} {T id : String} {Q : Value → Shared → Prop}
    (hl : typeLookup (.type T) "__getitem__" = pure (some (.builtin id))) (hs : NoSl slice)
    (h : wpAny (model prog w) A (eval value env) (fun o s₁ => wpAny (model prog w) A (eval slice env) (fun i s₂ => s₂.TypeIs o T ∧ wpAny (model prog w) A (getItem o i) Q E s₂) E s₁) E s) :
    wpAny (model prog w) A (eval (.Subscript value slice pos) env) Q E s := by
  refine Subscript_ (wpAny_mono h (fun o s₁ h₁ => wpAny_mono h₁ (fun i s₂ h₂ => ?_) fun _ _ x => x) fun _ _ x => x)
  obtain ⟨hT, h₂⟩ := h₂
  unfold subscriptTail
  refine wpAny_bind ?_
  rw [getitemInPython_of_ne hT.not_modules]
  refine wpAny_bind (wpAny_specialOf hT hl ?_)
  have fin : wpAny (model prog w) A (subscripted slice false o i) (fun r s₃ => wpAny (model prog w) A (letTemporaryGo value o r >>= fun _ => pure r) Q E s₃) E s₂ := by
    rw [hs o i]
    exact wpAny_operating (wpAny_mono h₂ (fun r s₃ h₃ => wpAny_bind (wpAny_letTemporaryGo (wpAny_pure h₃))) fun _ _ x => x)
  first
    | exact wpAny_pure (wpAny_bind fin)
    | exact wpAny_bind (wpAny_pure (wpAny_bind fin))
    | exact wpAny_bind fin

section
variable {X : Cx} {o i e value : Expr} {pos pos' tpos : Pos} {td ty tv : TE}
end


/-! ### displays -/
section
variable {X : Cx} {pos : Pos}
end

/-! ### methods -/
/-- a method call o.m(e) of a built-in, with one argument: what must be seen of the text -/
structure M1 (X : Cx) (o : Expr) (m : Str) (apos : Pos) (e : Expr) (cpos : Pos) : Prop where
  base : attributeBase o m X.env (eval o X.env) = eval o X.env
  few : ((backTo cpos (starEach [e] X.env)).all (fun x => !x.1) && (backToKw cpos (keywordEach [] X.env)).all (fun x => x.1.isSome)
    && decide (([e] : List Expr).length + ([] : List Keyword).length + (if ([] : List Keyword).isEmpty then 0 else 1) < 30)) = true
  line : (apos.endLine == cpos.line) = true
  trees : backTo cpos (starEach [e] X.env) = [(false, eval e X.env)]
structure M2 (X : Cx) (o : Expr) (m : Str) (apos : Pos) (e f : Expr) (cpos : Pos) : Prop where
  base : attributeBase o m X.env (eval o X.env) = eval o X.env
  few : ((backTo cpos (starEach [e, f] X.env)).all (fun x => !x.1) && (backToKw cpos (keywordEach [] X.env)).all (fun x => x.1.isSome)
    && decide (([e, f] : List Expr).length + ([] : List Keyword).length + (if ([] : List Keyword).isEmpty then 0 else 1) < 30)) = true
  line : (apos.endLine == cpos.line) = true
  trees : backTo cpos (starEach [e, f] X.env) = [(false, eval e X.env), (false, eval f X.env)]

section
variable {X : Cx} {pins : List (Addr × Obj)} {σ : St} {H : Hp} {s : Shared} {a : Addr} {y d : V} {u r : Value} {o : Option V} {A : Around} {E : Value → Shared → Prop}
end

section
variable {X : Cx} {o e f : Expr} {apos cpos : Pos} {td ty tx : TE}
end

/-! ### dict(d): a copy -/
section
variable {X : Cx} {pins : List (Addr × Obj)} {σ : St} {H : Hp} {s : Shared} {a : Addr} {kvs : List (Key × V)} {A : Around} {E : Value → Shared → Prop}
end


section
variable {X : Cx} {pins : List (Addr × Obj)} {σ : St} {H : Hp} {s : Shared} {a : Addr} {y : V} {u : Value} {A : Around} {E : Value → Shared → Prop}
end
end L2


namespace Att
open PySem PySem.W PySem.Calls PyProof.Rows

/-! ### the script -/
theorem ints_of_wellAll {P : Params} {h : Heap} : ∀ (ns : List Int) (vs : List Value), WellAll P h vs (ns.map WData.int) → IntsAre vs ns := by
  intro ns
  induction ns with
  | nil =>
    intro vs w
    rw [List.map_nil] at w
    cases w
    exact .nil
  | cons n ns ih =>
    intro vs w
    rw [List.map_cons] at w
    cases w with
    | cons a b =>
      cases a
      exact .cons _ _ (ih _ b)

theorem script_of {l : OpenLaw} {n : Nat} (hn : l.most = some n) {P : Params} {h : Heap} {args : List WData} {vals : List Value}
    (hpre : l.row.toRowW.claim.pre args = true) (hwl : WellAll P h vals args) :
    ∃ a vs ns, vals = [Value.ref a] ∧ args = [WData.list (ns.map WData.int)] ∧ h.get? a = some { cls := .type "list", data := .seq vs.toArray } ∧ IntsAre vs ns ∧ ns.length ≤ n := by
  have hsh : WShape.hasAll [] args [.list .int] = true := (pre_splitW hpre).1
  have hc : l.pre.holds [] { args := args } = true := (pre_splitW hpre).2
  obtain ⟨d, r, rfl, h1, h2⟩ := hasAllW_cons hsh
  obtain rfl := hasAllW_nil h2
  obtain ⟨xs, rfl, h3⟩ := hasW_list h1
  obtain ⟨ns, rfl⟩ := items_int h3
  have hlen : ns.length ≤ n := by
    unfold OpenLaw.pre at hc
    have h4 : (WTm.not (.lt (.lit (.int (n : Int))) (.len (.arg 0)))).holds [] { args := [.list (ns.map .int)] } = true := by
      have h4 := (holds_andW hc).1
      rw [hn] at h4
      exact h4
    have h5 := condW_of h4 (w_not (w_lt w_lit (w_len_list (w_arg rfl))))
    rw [List.length_map] at h5
    refine Nat.le_of_not_lt fun q => ?_
    have q' : (n : Int) < ((ns.length : Nat) : Int) := by omega
    first
      | (rw [decide_eq_true q'] at h5; exact absurd h5 (by decide))
      | (simp at h5; omega)
  cases hwl with
  | cons w1 w2 =>
    cases w2
    cases w1 with
    | list ho hall => exact ⟨_, _, ns, rfl, rfl, ho, ints_of_wellAll ns _ hall, hlen⟩

theorem post_true (l : OpenLaw) (args : List WData) : l.row.toRowW.claim.post args (.bool true) args = true :=
  postW_of (r := l.row.toRowW) (X := (true == true))
    (show WShape.has [] (.bool true) .bool = true by first | rfl | decide | simp [WShape.has, WShape.arms, WShape.armsAll])
    (show (WTm.eq .res (.lit (.bool true))).value [] { args := args, res := some (.bool true), after := args } = some (.bool (true == true)) from w_eq_bool (w_res rfl) w_lit) rfl

/-! ### the attachment: holds_open's last premise (the goal 'hc' behind k_head) from a wpAny of the law's body -/
/-- the same from a codeAny of the CALL (for a layer whose function contracts speak of calls) -/
theorem attach_call {l : OpenLaw} {n : Nat} {q : Program} {loose : List Str} {XP : (Str → Option Value) → Heap → Prop} {YP : World → Heap → Prop} {d : DefRec}
    (hn : l.most = some n) (hdf : d.params.defaults = [])
    (call : ∀ (w : World) (s₀ s₁ : Shared) (mg mb : Str → Option Value) (fa : Addr) (o : Obj) (pm cd doc : Value) (a : Addr) (vs : List Value) (ns : List Int),
      Ground q loose [] XP w s₀ mg mb s₁.heap → YP w s₁.heap →
      s₁.heap.get? fa = some o → o.data = .func (docDef d.name d.params d.body d.scope pm cd doc) → s₁.heap.CodeRec cd d.name → mg d.name = some (.ref fa) →
      s₁.heap.get? a = some { cls := .type "list", data := .seq vs.toArray } → IntsAre vs ns → ns.length ≤ n → s₁.gens = #[] →
      codeAny (model l.prog w) callerA (.call (.ref fa) ⟨[.ref a], []⟩) (fun r s' => r = .ok (.ret (.bool true)) ∧ OldK s₁.heap s'.heap ∧ s'.os = s₁.os ∧ AllBare s'.gens) s₁) :
    WalkO q loose XP YP l.row.toRowW d [] (fun f vs => PySem.call f vs) := by
  intro w s₀ s₁ mg mb G Y fa o pm cd doc dV kV ho hd hcd hD hmg hg args vals as hpre hlay hrd hwl hlo
  obtain rfl : dV = .none := Dflts.none hD hdf
  obtain rfl : kV = .none := Dflts.noKw hD
  obtain ⟨a, vs, ns, rfl, rfl, hobj, hints, hlen⟩ := script_of hn hpre hwl
  refine enter_call (codeAny_mono (call w s₀ s₁ mg mb fa o pm cd doc a vs ns G Y ho (fd_plain hd) hcd hmg hobj hints hlen hg) fun r s' hq => ?_)
  obtain ⟨rfl, h2, h3, h4⟩ := hq
  exact ⟨.inl ⟨.bool true, .bool true, [], rfl, fun _ => rfl, .bool true, post_true l _, fun _ => ⟨List.Pairwise.nil, fun _ hm => (nomatch hm)⟩⟩, h2, h3, h4⟩

/-! ### rules over ANY heap (no ledger) from facts about the written part K: the library's own take a ledger (News) for what they write -/
section
variable {prog : Program} {w : World} {A : Around} {E : Value → Shared → Prop} {s : Shared} {K : Frag}

/-! the whole heap as the ledger: makes every rule that writes through a ledger a rule over any heap -/
def ledger (h : Heap) (L d : Addr) : List (Addr × Obj) := (List.range h.objs.size).filterMap fun a => if a = L ∨ a = d then none else (h.get? a).map fun o => (a, o)
end
end Att

namespace L2
open PySem PySem.Spec PyProof.Rows

theorem vals_ints : ∀ {vs : List Value} {ns : List Int}, IntsAre vs ns → Vals (ns.map V.int) vs
  | _, _, .nil => .nil
  | _, _, .cons n t h => .cons ⟨t, rfl⟩ (vals_ints h)

/-- nothing is tracked but the script, known to the object (or it is an object of the module) -/
def Only (H : Hp) : Prop := ∀ b, H b = none ∨ ∃ o xs, H b = some (.frz o (.lst xs))

/-- THE HEAD: the law's promise, at the heap behind the top. F, the promise of the law's def, may use that base is part of the heap (so K.In base, base.Ns mainGlobals mg stand in Mod) -/
theorem law_call {P : Program} {w : World} {K : PySem.W.Frag} {mg mb : Str → Option Value} {CX : CXT} {k : Nat} {fa a : Addr} {fd : FuncData} {x : Str} {sp : Sp} {s₁ : Shared} {vs : List Value} {ns : List Int}
    (KX : K.In s₁.heap) (hns : s₁.heap.Ns mainGlobals mg) (hb : s₁.heap.Ns builtinsNs mb) (hbb : ∀ x : Str, x ≠ "__name__" → mb x = bootBuiltins x) (hlim : s₁.heap.NoLimit) (hg : s₁.gens = #[])
    (ha : s₁.heap.get? a = some { cls := .type "list", data := .seq vs.toArray }) (hi : IntsAre vs ns) (hl : ns.length ≤ sizeLine) (hr : Room k callerA)
    (F : ∀ base : Heap, K.In base → base.Ns mainGlobals mg → FnOk P w K mg base CX k fa fd [x] sp) (hbind : ∀ (s : Shared) (u : Value), BindsTo s fd ⟨[u], []⟩ [(x, u)])
    (hsp : ∀ H : Hp, Only H → SqL K H a (ns.map V.int) → sp [.ref a] H (fun v _ => v = .bl true) fun _ _ _ => False)
    (hCX : ∀ H e s', CX [] H s₁ (fun _ _ _ => False) e s' → False) :
    codeAny (model P w) callerA (.call (.ref fa) ⟨[.ref a], []⟩) (fun r s' => r = .ok (.ret (.bool true)) ∧ OldK s₁.heap s'.heap ∧ s'.os = s₁.os ∧ AllBare s'.gens) s₁ := by
  have rv := vals_ints hi
  have lenV := hi.length
  -- from an abstract heap in which nothing but the script may be tracked
  have core : ∀ H : Hp, Only H → SqL K H a (ns.map V.int) → HOk P w H s₁.heap → (∀ b, H b ≠ none → b = a) → (H a ≠ none → K.lookup a = none) →
      codeAny (model P w) callerA (.call (.ref fa) ⟨[.ref a], []⟩) (fun r s' => r = .ok (.ret (.bool true)) ∧ OldK s₁.heap s'.heap ∧ s'.os = s₁.os ∧ AllBare s'.gens) s₁ := by
    intro H hO hS hok hA hK
    have base_of : ∀ {b : Addr} {o : Obj}, s₁.heap.get? b = some o → H b = none → (hidT s₁.heap H).get? b = some o := fun e n => hidT_get e n
    have noA : ∀ {b : Addr} {o : Obj} {es : Array DictEntry} {ep : Nat}, s₁.heap.get? b = some o → o.data = .dict es ep → H b = none := fun {b o es ep} e d => by
      cases q : H b with
      | none => rfl
      | some u =>
        have e' : b = a := hA b (by rw [q]; simp)
        subst e'
        rw [ha] at e; cases e
        have d' : Data.seq vs.toArray _ = Data.dict es ep := d
        cases d'
    have nsK : ∀ {b : Addr} {m : Str → Option Value}, s₁.heap.Ns b m → (hidT s₁.heap H).Ns b m := fun {b m} ⟨o, es, ep, e, d, r⟩ => ⟨o, es, ep, base_of e (noA e d), d, r⟩
    have hKb : K.In (hidT s₁.heap H) := fun b o e => base_of (KX b o e) (by
      cases q : H b with
      | none => rfl
      | some u =>
        have e' : b = a := hA b (by rw [q]; simp)
        subst e'
        rw [hK (by rw [q]; simp)] at e; cases e)
    have hM : Mod K mg (hidT s₁.heap H) := ⟨hKb, nsK hns, ⟨mb, nsK hb, hbb⟩, let ⟨mc, h1, h2⟩ := hlim; ⟨mc, nsK h1, h2⟩⟩
    have e0 : Env0 P w K mg (hidT s₁.heap H) callerA [] s₁ H := ⟨rfl, hM, fun b o e => of_hidT e, Nat.le_of_eq (hidT_size _ _), trivial, fun b hb => absurd (show b ∈ ([] : List Addr) from hb) (by simp), hok, .of_eq hg⟩
    refine codeAny_mono ((F _ hKb (nsK hns)).run callerA [] s₁ H ⟨[.ref a], []⟩ [.ref a] [.ref a] _ _ hr e0 (hbind s₁ (.ref a)) (.cons rfl .nil) (hsp H hO hS)) fun r s' h => ?_
    cases r with
    | error e => exact (hCX H e s' h).elim
    | ok fl =>
      cases fl with
      | next => exact False.elim h
      | brk => exact False.elim h
      | cont => exact False.elim h
      | ret u =>
        obtain ⟨v, H', os, bare, un, hok', r', q⟩ := h
        have q' : v = .bl true := q
        subst q'
        obtain rfl : u = Value.bool true := r'
        refine ⟨rfl, OldK.of_keep fun b o e => ?_, os, bare⟩
        cases q : H b with
        | none => exact un.keep b o e q (by intro z; exact absurd (show b ∈ ([] : List Addr) from z) (by simp)) (by simp)
        | some u =>
          rcases hO b with z | ⟨ob, xs, z⟩
          · rw [q] at z; cases z
          · have z2 := un.frzs b ob _ z
            obtain ⟨e1, _⟩ := hok b _ z
            obtain ⟨e2, _⟩ := hok' b _ z2
            rw [e] at e1; cases e1
            exact e2
  cases hk : K.lookup a with
  | some o =>
    -- the script is one of the module's own objects
    have e := KX a o hk
    rw [ha] at e
    cases e
    refine core (fun _ => none) (fun _ => .inl rfl) (.inr ⟨_, vs.toArray, _, hk, rfl, rfl, rfl, by rw [List.size_toArray, lenV]; exact hl, by simpa using rv⟩) (fun b u z => by have z' : (none : Option HO) = some u := z; cases z') (fun b z => absurd rfl z) fun z => absurd rfl z
  | none =>
    refine core (fun b => if b = a then some (.frz { cls := .type "list", data := .seq vs.toArray } (.lst (ns.map V.int))) else none) (fun b => ?_) (.inl (.inr ⟨{ cls := .type "list", data := .seq vs.toArray }, if_pos rfl⟩)) (fun b u z => ?_) (fun b z => ?_) fun _ => hk
    · by_cases hb : b = a
      · exact .inr ⟨_, _, if_pos hb⟩
      · exact .inl (if_neg hb)
    · by_cases hb : b = a
      · have z' := (if_pos hb).symm.trans z
        cases z'
        subst hb
        exact ⟨ha, by rw [List.length_map]; exact hl, vs, _, rv, ha⟩
      · have z' := (if_neg hb).symm.trans z
        cases z'
    · by_cases hb : b = a
      · exact hb
      · exact absurd (if_neg hb) z
end L2

namespace L2
open PySem PySem.Spec PyProof.Rows

abbrev KOf {K : PySem.W.Frag} {h : Heap} (_ : K.In h) : PySem.W.Frag := K

/-- the goal that k_head leaves (case hc), from the law's promise. F gives the function object fd (K's own) once, then the promise over every base -/
theorem walk_of {l : PySem.W.OpenLaw} {n k : Nat} {q : Program} {loose : List Str} {XP : (Str → Option Value) → Heap → Prop} {YP : World → Heap → Prop} {d : DefRec} {K : Params → PySem.W.Frag} {CX : World → CXT} {sp : World → Sp} {x : Str}
    (hn : l.most = some n) (hn2 : n ≤ sizeLine) (hdf : d.params.defaults = []) (hr : Room k callerA)
    (hY : ∀ (w : World) (h : Heap), YP w h → (K w.params).In h)
    (F : ∀ (w : World) (mg : Str → Option Value) (fa : Addr) (h : Heap), (K w.params).In h → h.Ns mainGlobals mg → mg d.name = some (.ref fa) →
      ∃ fd : FuncData, (∀ (s : Shared) (u : Value), BindsTo s fd ⟨[u], []⟩ [(x, u)]) ∧
        ∀ base : Heap, (K w.params).In base → base.Ns mainGlobals mg → FnOk l.prog w (K w.params) mg base (CX w) k fa fd [x] (sp w))
    (hsp : ∀ (w : World) (H : Hp) (a : Addr) (ns : List Int), ns.length ≤ n → Only H → SqL (K w.params) H a (ns.map V.int) → sp w [.ref a] H (fun v _ => v = .bl true) fun _ _ _ => False)
    (hCX : ∀ (w : World) (H : Hp) (s : Shared) (e : Value) (s' : Shared), CX w [] H s (fun _ _ _ => False) e s' → False) :
    PySem.W.WalkO q loose XP YP l.row.toRowW d [] (fun f vs => PySem.call f vs) := by
  refine Att.attach_call hn hdf fun w s₀ s₁ mg mb fa o pm cd doc a vs ns G Y ho hd hcd hmg hobj hints hlen hg => ?_
  have KX := hY w _ Y
  obtain ⟨fd, hb, hF⟩ := F w mg fa _ KX G.T.g hmg
  exact law_call KX G.T.g G.T.b G.T.builtins G.T.nolimit hg hobj hints (Nat.le_trans hlen hn2) hr hF hb (fun H hO hS => hsp w H a ns hlen hO hS) fun H e s' => hCX w H s₁ e s'
end L2

/- THE LAST THEOREM (shape; LID, My.* are yours):
   My.Adr: a structure of the addresses that your layer names (classes, functions); My.Txt K t: a structure (Prop) of the equations over K;
   My.txt_mk : {K} {implicit addresses ..} (e1 : nsIn K mainGlobals "law" = some (some (.ref f))) (e2 : K.lookup f = some ⟨oc, od, .func (fnOf "law" "law" params body scope dV kV doc pm an cdv ct), sl⟩) (e3 : codeIn K cdv "law" = true) .. : ∃ t, My.Txt K t

set_option maxRecDepth 100000 in
set_option maxHeartbeats 0 in
theorem PySem.Challenge.cw_LID_holds : PySem.Challenge.rw_LID.Holds := by
  w_on; o_law; k_head; (case hw => w_witness2)
  k_fill
  refine L2.walk_of (l := PySem.Challenge.rw_LID) (n := 63) (k := 40) (x := "script") (CX := fun w => ..) (sp := fun _ => My.sp_law) rfl (by decide) rfl ⟨rfl, by decide, by decide⟩ (fun w h Y => PySem.W.kIn_of Y) ?F ?S ?C
  case F =>
    intro w mg fa h KX G hmg
    have T : ∃ t, My.Txt (L2.KOf KX) t := by
      dsimp only [L2.KOf]                          -- K must stand as «<heap const> w.params» for k_is
      refine' My.txt_mk ?e1 ?e2 ?e3 ..
      (case e1 => PySem.W.k_is)                    -- in the order: a name -> its address -> its object -> its parts
      (case e2 => PySem.W.k_is)
      ..
    obtain ⟨t, T⟩ := T
    have e0 := hmg.symm.trans (PySem.W.mg_of KX G T.law)
    cases e0                                       -- fa is the law's own address
    exact ⟨_, fun s u => .of_eq rfl, fun base kb nb => My.law_fn T kb nb⟩     -- if «.of_eq rfl» comes too early: refine' ⟨_, ?b, fun base kb nb => My.law_fn T kb nb⟩; exact fun s u => .of_eq rfl
  case S => exact fun w H a ns hl hO hS => ..
  case C => exact ..
(the tactic k_is has no namespace: write k_is) -/

/-! SHORT WORDS over the layer: a def of the text, its body, what a loop and a test want. -/
namespace L2
open PySem PySem.Spec PyProof.Rows

/-! ### the text by places -/
/-- the j-th statement of a class's body -/
def inClass (s : Stmt) (j : Nat) : Stmt := match s with
  | .ClassDef _ _ _ body _ _ _ _ _ _ _ => body.getD j (.Pass ⟨0, 0, 0, 0⟩)
  | _ => .Pass ⟨0, 0, 0, 0⟩
def defArgs (s : Stmt) : Arguments := match s with
  | .FunctionDef _ a _ _ _ _ _ _ _ _ => a
  | _ => { posonlyargs := [], args := [], vararg := none, kwonlyargs := [], kw_defaults := [], kwarg := none, defaults := [] }
def defBody (s : Stmt) : List Stmt := match s with
  | .FunctionDef _ _ b _ _ _ _ _ _ _ => b
  | _ => []
def defScope (s : Stmt) : Scope := match s with
  | .FunctionDef _ _ _ _ _ _ sc _ _ _ => sc
  | _ => { kind := .function, names := [], isGenerator := false, isCoroutine := false }

/-! ### no exception leaves a def -/
abbrev CX0 : CXT := fun _ _ _ _ _ _ => False
abbrev E0 : XK := fun _ _ _ => False
theorem pass0 {X : Cx} : Passes CX0 X E0 := fun _ _ _ _ _ _ _ h => h.elim

/-! ### a def (or method) of the text as it stands behind the top -/
structure Fun (K : PySem.W.Frag) (x qual : Str) (st : Stmt) (f : Addr) (fd : FuncData) : Prop where
  ex : ∃ (oc : Value) (od : Option Addr) (kV doc pm : Value) (an : Option Addr) (cdv ct : Value) (osl : Array (Option Value)),
    fd = PySem.W.fnOf x qual (defArgs st) (defBody st) (defScope st) .none kV doc pm an cdv ct ∧ K.lookup f = some ⟨oc, od, .func fd, osl⟩ ∧ PySem.W.codeIn K cdv qual = true
  kp : PySem.W.keepIn K (.ref f) = true
section
variable {P : Program} {w : World} {K : PySem.W.Frag} {mg : Str → Option Value} {base : Heap}
/-- THE RULE for a def: its body as a term of rules, and the reading of that term -/
theorem Fun.ok {x qual : Str} {st : Stmt} {f : Addr} {fd : FuncData} {N ps : List Str} {k : Nat} {sp : Sp} (F : Fun K x qual st f fd) (S : FnScope N ps (defScope st)) (len : ∀ vs H Q E, sp vs H Q E → vs.length = ps.length)
    (hbody : ∀ (cdv : Value) (A : Around) (outer : List Env) (s : Shared) (H : Hp) (vs : List V) (Q : VK) (E : XK), Room k (A.deeper (envOfC qual (defScope st) s.heap.objs.size f cdv)) → sp vs H Q E →
      ∃ t, PSs (cxOf CX0 P w K mg base N qual (defScope st) f cdv A outer s H E).nox (defBody st) t ∧ t { nx := fun _ H' => Q .non H', rt := Q } (start N vs) H) : FnOk P w K mg base CX0 (k + 1) f fd ps sp := by
  obtain ⟨oc, od, kV, doc, pm, an, cdv, ct, osl, rfl, lk, hcd⟩ := F.ex
  refine fn_of lk hcd S len fun A outer s H vs Q E hr hsp => ?_
  obtain ⟨t, h, q⟩ := hbody cdv A outer s H vs Q E hr hsp
  exact ⟨t, h.nox, q⟩
/-- how its arguments bind (no defaults): h is «fun _ _ _ _ _ _ us hl => match us, hl with | [_, _], _ => rfl», one _ a parameter -/
theorem Fun.binds {x qual : Str} {st : Stmt} {f : Addr} {fd : FuncData} {ps : List Str} (F : Fun K x qual st f fd)
    (h : ∀ (kV doc pm : Value) (an : Option Addr) (cdv ct : Value) (us : List Value), us.length = ps.length → bindArgs (PySem.W.fnOf x qual (defArgs st) (defBody st) (defScope st) .none kV doc pm an cdv ct) ⟨us, []⟩ = pure (ps.zip us)) : Binds K fd ps [] := by
  obtain ⟨oc, od, kV, doc, pm, an, cdv, ct, osl, rfl, lk, hcd⟩ := F.ex
  exact .all (h kV doc pm an cdv ct)
theorem fun_mk {x qual : Str} {st : Stmt} {f : Addr} {oc : Value} {od an : Option Addr} {osl : Array (Option Value)} {kV doc pm cdv ct : Value} (l : K.lookup f = some ⟨oc, od, .func (PySem.W.fnOf x qual (defArgs st) (defBody st) (defScope st) .none kV doc pm an cdv ct), osl⟩)
    (c : PySem.W.codeIn K cdv qual = true) (k : PySem.W.keepIn K (.ref f) = true) : Fun K x qual st f (PySem.W.fnOf x qual (defArgs st) (defBody st) (defScope st) .none kV doc pm an cdv ct) := ⟨⟨oc, od, kV, doc, pm, an, cdv, ct, osl, rfl, l, c⟩, k⟩
end
/-! ### expressions in short: the name that stands in the i-th slot -/
section
variable {X : Cx}
theorem pv (i : Nat) {x : Str} {pos : Pos} (hN : X.N[i]? = some x := by rfl) (hv : Vis X.env.scope x := by first | exact Or.inl rfl | exact Or.inr (Or.inl rfl) | exact Or.inr (Or.inr rfl)) (hd : (x == ("__debug__" : Str)) = false := by decide)
    (hcd : (x == ("__classdict__" : Str)) = false := by decide) : PE X (.Name x pos) (tVar i) := pe_var hN hv hd hcd
end

/-! ### tests -/
theorem iteF {A B : Prop} (h : B) : if false = true then A else B := by
  rw [if_neg Bool.false_ne_true]
  exact h
theorem iteT {A B : Prop} (h : A) : if true = true then A else B := by
  rw [if_pos rfl]
  exact h
theorem ite2 {c A B : Prop} [Decidable c] (h1 : c → A) (h2 : ¬ c → B) : if c then A else B := by
  by_cases h : c
  · rw [if_pos h]
    exact h1 h
  · rw [if_neg h]
    exact h2 h
/-! ### heaps -/
/-- all that was tracked is as it was -/
def Same (H H' : Hp) : Prop := ∀ b o, H b = some o → H' b = some o
theorem Same.refl (H : Hp) : Same H H := fun _ _ h => h
theorem Same.trans {H H1 H2 : Hp} (a : Same H H1) (b : Same H1 H2) : Same H H2 := fun c o h => b c o (a c o h)
theorem Same.free {H H' : Hp} (e : Same H H') {l : Addr} (h : H' l = Option.none) : H l = Option.none := by
  cases q : H l with
  | none => rfl
  | some o =>
    rw [e l o q] at h
    cases h
theorem Same.seq {K : PySem.W.Frag} {H H' : Hp} {a : Addr} {xs : List V} (e : Same H H') (h : SqL K H a xs) : SqL K H' a xs := by
  rcases h with (h | ⟨o, h⟩) | h
  · exact .inl (.inl (e _ _ h))
  · exact .inl (.inr ⟨o, e _ _ h⟩)
  · exact .inr h

/-! ### a dict's pairs: keys that differ -/
section
variable {κ : Type} [DecidableEq κ]
end
end L2

set_option maxHeartbeats 4000000
namespace L2
open PySem PySem.Spec PyProof.Rows

theorem Same.refl' (H : Hp) : Same H H := fun _ _ h => h
theorem Same.upd {H : Hp} {a : Addr} {o : HO} (h : H a = none) : Same H (upd H a o) := fun b u e => by rw [upd_ne (ne_of_none e h)]; exact e
theorem Same.upd2 {H H' : Hp} {a : Addr} {o : HO} (s : Same H H') (h : H a = none) : Same H (L2.upd H' a o) := fun b u e => by rw [upd_ne (ne_of_none e h)]; exact s b u e
theorem Same.tup {K : PySem.W.Frag} {H H' : Hp} {a : Addr} {xs : List V} (e : Same H H') (h : SqT K H a xs) : SqT K H' a xs := by
  rcases h with (h | ⟨o, h⟩) | h
  · exact .inl (.inl (e _ _ h))
  · exact .inl (.inr ⟨o, e _ _ h⟩)
  · exact .inr h

end L2

namespace L2
open PySem PySem.Spec PyProof.Rows

/-! ### a comprehension: its loop, the tuple of an iterator let go, no exception leaving -/
theorem comp_loop_go {prog : Program} {w : World} {A : Around} {R : Result → Shared → Prop} {s : Shared} {elt target iter : Expr} {ifs : List Expr} {scope : Scope} {pos : Pos} {it acc : Value} {env : Env} (I : Nat → Shared → Prop)
    (turn : ∀ n s, I n s → wpAny (model prog w) A (pyNext it) (fun r s₁ => match r with
      | none => R (.ok .next) s₁
      | some v => wpAny (model prog w) A (letOwnedTupleGo target it v) (fun _ s₂ => wpAny (model prog w) A (assign target env v) (fun _ s₃ =>
          wpAny (model prog w) A (forIn ifs true fun c r => if r = true then do let ok ← isTrue c env (eval c env); pure (ForInStep.yield ok) else pure (ForInStep.yield r)) (fun ok s₄ =>
            if ok = true then wpAny (model prog w) A (eval elt env) (fun x s₅ =>
              wpAny (model prog w) A (call (.builtin "list.append") [acc, x]) (fun _ s₆ => ∃ m, m < n ∧ I m s₆) (fun _ _ => False) s₅) (fun _ _ => False) s₄
            else ∃ m, m < n ∧ I m s₄) (fun _ _ => False) s₃) (fun _ _ => False) s₂) (fun _ _ => False) s₁) (fun _ _ => False) s)
    (n : Nat) (h : I n s) :
    codeAny (model prog w) A (.compLoop (.ListComp elt [⟨target, iter, ifs, 0⟩] scope pos) 0 it acc env) R s := by
  refine codeAny_loop rfl I (fun n s hI => ?_) n h
  show wpAny _ A ((compTurn (.ListComp elt [⟨target, iter, ifs, 0⟩] scope pos) 0 it acc env).onRaise (fun x => do noteFrame x env; theTreesLotGoes x)) _ _ s
  refine wpAny_noted ?_
  rw [compTurn_list]
  refine wpAny_bind (wpAny_standAt (wpAny_bind (wpAny_mono (turn n s hI) (fun r s₁ h₁ => ?_) fun _ _ f => f.elim)))
  cases r with
  | none => exact wpAny_pure h₁
  | some v =>
    refine wpAny_bind (wpAny_mono h₁ (fun _ s₂ h₂ => wpAny_bind (wpAny_mono h₂ (fun _ s₃ h₃ => wpAny_bind (wpAny_mono h₃ (fun ok s₄ h₄ => ?_) fun _ _ f => f.elim)) fun _ _ f => f.elim)) fun _ _ f => f.elim)
    cases ok with
    | false => exact wpAny_pure ⟨rfl, h₄⟩
    | true =>
      exact wpAny_bind (wpAny_bind (wpAny_mono h₄ (fun x s₅ h₅ => wpAny_bind (wpAny_mono h₅ (fun _ s₆ h₆ => wpAny_pure (wpAny_pure ⟨rfl, h₆⟩)) fun _ _ f => f.elim)) fun _ _ f => f.elim))

/-- the block's context: its own name first, then the frame's names that it reads -/
def cxC (X : Cx) (x : Str) (ns : List Str) (scope : Scope) (cl : List (Str × Addr)) (fp : List Addr) (pins : List (Addr × Obj)) (s : Shared) (H : Hp) : Cx where
  prog := X.prog
  w := X.w
  K := X.K
  mg := X.mg
  base := X.base
  A := X.A
  N := x :: ns
  s₀ := s
  H₀ := H
  env := compEnvC scope cl s.heap.objs.size X.env
  outer := X.stack
  stack := X.stack
  ex := fp
  fn := fun _ => false
  calm := X.calm
  pn := X.pn ++ pins
  xe := fun _ _ => False

/-- what the block's cells are: those of the frame -/
structure ClosOf (X : Cx) (scope : Scope) (cl : List (Str × Addr)) : Prop where
  clos : closureFor scope X.env = pure cl
  sub : ∀ x c, cl.lookup x = some c → X.env.cells.lookup x = some c
  all : ∀ x, ((relabel scope X.env).names.lookup x = some .cell ∨ (relabel scope X.env).names.lookup x = some .free) → ∃ c, cl.lookup x = some c
  kind : scope.kind = .function
  cell : ∀ y ∈ scope.names, y.2 ≠ .cell
  names : ∀ y ∈ scope.names, y.2 = .local → scope.names.lookup y.1 = some .local

/-- the cells that the block is given -/
def closL (cells : List (Str × Addr)) : List (Str × NameKind) → List (Str × Addr) → List (Str × Addr)
  | [], acc => acc
  | (n, k) :: r, acc => if k == .free then closL cells r ((n, (cells.lookup n).getD 0) :: acc) else closL cells r acc
theorem closureFor_eq {scope : Scope} {env : Env} (h : ∀ y ∈ scope.names, y.2 = .free → ∃ c, env.cells.lookup y.1 = some c) : closureFor scope env = pure (closL env.cells scope.names []) := by
  unfold closureFor
  suffices H : ∀ (l : List (Str × NameKind)) (acc : List (Str × Addr)), (∀ y ∈ l, y.2 = .free → ∃ c, env.cells.lookup y.1 = some c) →
      (forIn l acc (fun (x : Str × NameKind) (r : List (Str × Addr)) => (do
        let (name, kind) := x
        let cs := r
        if (kind == NameKind.free) = true then do
          let a ← cellOf env name
          pure (ForInStep.yield ((name, a) :: cs))
        else pure (ForInStep.yield cs) : Sem (ForInStep (List (Str × Addr))))) : Sem (List (Str × Addr))) = pure (closL env.cells l acc) by
    have := H scope.names [] h
    simp only at this ⊢
    first | (rw [this]; rfl) | exact this | (simp only [this]; rfl)
  intro l
  induction l with
  | nil => intro acc _; rfl
  | cons y r ih =>
    intro acc hy
    obtain ⟨n, k⟩ := y
    rw [List.forIn_cons]
    have hr : ∀ y ∈ r, y.2 = .free → ∃ c, env.cells.lookup y.1 = some c := fun y m => hy y (List.mem_cons_of_mem _ m)
    cases hk : (k == NameKind.free) with
    | false =>
      simp only [hk, Bool.false_eq_true, if_false, closL]
      exact ih acc hr
    | true =>
      obtain ⟨c, ec⟩ := hy (n, k) List.mem_cons_self (beq_iff_eq.mp hk)
      simp only [hk, if_true, closL, ec, Option.getD_some]
      have e : cellOf env n = pure c := by
        unfold cellOf
        rw [show env.cells.lookup n = some c from ec]
      rw [e]
      exact ih ((n, c) :: acc) hr
theorem closL_lookup (cells : List (Str × Addr)) (x : Str) : ∀ (l : List (Str × NameKind)) (acc : List (Str × Addr)), (∀ y ∈ l, y.2 = .free → ∃ c, cells.lookup y.1 = some c) → (∀ c, acc.lookup x = some c → cells.lookup x = some c) →
    (∀ c, (closL cells l acc).lookup x = some c → cells.lookup x = some c) ∧ (((x, NameKind.free) ∈ l ∨ ∃ c, acc.lookup x = some c) → ∃ c, (closL cells l acc).lookup x = some c)
  | [], acc, _, ha => ⟨ha, fun h => h.elim (fun z => nomatch z) id⟩
  | (n, k) :: r, acc, hy, ha => by
    have hr : ∀ y ∈ r, y.2 = .free → ∃ c, cells.lookup y.1 = some c := fun y m => hy y (List.mem_cons_of_mem _ m)
    unfold closL
    cases hk : (k == NameKind.free) with
    | false =>
      rw [if_neg Bool.false_ne_true]
      obtain ⟨h1, h2⟩ := closL_lookup cells x r acc hr ha
      refine ⟨h1, fun h => h2 ?_⟩
      rcases h with h | h
      · rcases List.mem_cons.mp h with z | z
        · cases z
          exact absurd hk (by decide)
        · exact .inl z
      · exact .inr h
    | true =>
      rw [if_pos rfl]
      obtain ⟨c, ec⟩ := hy (n, k) List.mem_cons_self (beq_iff_eq.mp hk)
      have ec : cells.lookup n = some c := ec
      rw [ec, Option.getD_some]
      have ha' : ∀ d, List.lookup x ((n, c) :: acc) = some d → cells.lookup x = some d := fun d e => by
        rw [List.lookup_cons] at e
        cases hx : x == n with
        | true => rw [hx] at e; cases e; rw [eq_of_beq hx]; exact ec
        | false => rw [hx] at e; exact ha d e
      obtain ⟨h1, h2⟩ := closL_lookup cells x r ((n, c) :: acc) hr ha'
      refine ⟨h1, fun h => h2 ?_⟩
      rcases h with h | ⟨d, h⟩
      · rcases List.mem_cons.mp h with z | z
        · cases z
          exact .inr ⟨c, by simp [List.lookup_cons]⟩
        · exact .inl z
      · refine .inr ?_
        rw [List.lookup_cons]
        cases hx : x == n with
        | true => exact ⟨c, rfl⟩
        | false => exact ⟨d, h⟩
/-- the names of a block, as its scope and the frame's have them -/
def compOk (x : Str) (ns : List Str) (names outer : List (Str × NameKind)) : Bool :=
  names.all (fun y => y.2 != .cell && (y.2 != .free || outer.lookup y.1 == some .cell) && (y.2 != .local || names.lookup y.1 == some .local)) && names.lookup x == some .local && ns.all (fun y => names.lookup y == some .free && y != x) && decide ns.Nodup
theorem mem_of_lookupK : ∀ {l : List (Str × NameKind)} {x : Str} {k : NameKind}, l.lookup x = some k → (x, k) ∈ l
  | [], _, _, h => by simp at h
  | (n, k') :: r, x, k, h => by
    rw [List.lookup_cons] at h
    cases hx : x == n with
    | true => rw [hx] at h; cases h; rw [eq_of_beq hx]; exact List.mem_cons_self
    | false => rw [hx] at h; exact List.mem_cons_of_mem _ (mem_of_lookupK h)
/-- what the relabelled scope says of a name -/
theorem lookup_relabel {scope : Scope} {env : Env} {x : Str} : (∀ k, (relabel scope env).names.lookup x = some k → scope.names.lookup x = some k ∨ (k = .cell ∧ scope.names.lookup x = some .free)) ∧
    (∀ k, scope.names.lookup x = some k → (relabel scope env).names.lookup x = some k ∨ (k = .free ∧ (relabel scope env).names.lookup x = some .cell)) := by
  show (∀ k, (scope.names.map fun (n, k) => if (k == NameKind.free && env.scope.kind == .function && env.kindOf n == some .cell) then (n, NameKind.cell) else (n, k)).lookup x = some k → _) ∧ (∀ k, _ → (scope.names.map fun (n, k) => if (k == NameKind.free && env.scope.kind == .function && env.kindOf n == some .cell) then (n, NameKind.cell) else (n, k)).lookup x = some k ∨ (_ ∧ (scope.names.map fun (n, k) => if (k == NameKind.free && env.scope.kind == .function && env.kindOf n == some .cell) then (n, NameKind.cell) else (n, k)).lookup x = some .cell))
  generalize scope.names = l
  induction l with
  | nil => exact ⟨fun k h => by simp at h, fun k h => by simp at h⟩
  | cons y r ih =>
    obtain ⟨n, k0⟩ := y
    rw [List.map_cons]
    cases hc : (k0 == NameKind.free && env.scope.kind == .function && env.kindOf n == some .cell) with
    | true =>
      simp only [hc, if_true, List.lookup_cons]
      have hf : k0 = .free := by
        rw [Bool.and_eq_true, Bool.and_eq_true] at hc
        exact beq_iff_eq.mp hc.1.1
      cases hx : x == n with
      | true => exact ⟨fun k h => by cases h; exact .inr ⟨rfl, by rw [hf]⟩, fun k h => by cases h; exact .inr ⟨hf, rfl⟩⟩
      | false => exact ih
    | false =>
      simp only [hc, Bool.false_eq_true, if_false, List.lookup_cons]
      cases hx : x == n with
      | true => exact ⟨fun k h => by cases h; exact .inl rfl, fun k h => by cases h; exact .inl rfl⟩
      | false => exact ih
theorem clos_of {X : Cx} {pins : List (Addr × Obj)} {σ : List (Option V)} {H : Hp} {s : Shared} {scope : Scope} {x : Str} {ns : List Str} (I : Inv X pins σ H s) (hk : scope.kind = .function) (ho : compOk x ns scope.names X.env.scope.names = true) :
    ClosOf X scope (closL X.env.cells scope.names []) ∧ (∀ y ∈ ns, X.env.scope.names.lookup y = some .cell) ∧ (∀ y ∈ ns, (relabel scope X.env).names.lookup y = some .cell ∨ (relabel scope X.env).names.lookup y = some .free) ∧ scope.names.lookup x = some .local ∧ (x :: ns).Nodup := by
  unfold compOk at ho
  simp only [Bool.and_eq_true, List.all_eq_true, Bool.or_eq_true, bne_iff_ne, beq_iff_eq, decide_eq_true_eq] at ho
  obtain ⟨⟨⟨h1, h2⟩, h3⟩, h4⟩ := ho
  have hfr : ∀ y ∈ scope.names, y.2 = .free → ∃ c, X.env.cells.lookup y.1 = some c := fun y m e => by
    rcases (h1 y m).1.2 with z | z
    · exact absurd e z
    · exact I.ok.has y.1 (.inl z)
  refine ⟨⟨closureFor_eq hfr, fun y c e => (closL_lookup X.env.cells y scope.names [] hfr (by simp)).1 c e, fun y hy => ?_, hk, fun y m => (h1 y m).1.1, fun y m e => ?_⟩, fun y m => ?_, fun y m => ?_, h2, List.nodup_cons.mpr ⟨fun m => (h3 x m).2 rfl, h4⟩⟩
  · refine (closL_lookup X.env.cells y scope.names [] hfr (by simp)).2 (.inl ?_)
    rcases hy with hy | hy
    · rcases lookup_relabel.1 _ hy with z | ⟨_, z⟩
      · exact absurd rfl (h1 _ (mem_of_lookupK z)).1.1
      · exact mem_of_lookupK z
    · rcases lookup_relabel.1 _ hy with z | ⟨z, _⟩
      · exact mem_of_lookupK z
      · cases z
  · rcases (h1 y m).2 with z | z
    · exact absurd e z
    · exact z
  · rcases (h1 _ (mem_of_lookupK (h3 y m).1)).1.2 with z | z
    · exact absurd rfl z
    · exact z
  · rcases lookup_relabel.2 _ (h3 y m).1 with z | ⟨_, z⟩
    · exact .inr z
    · exact .inl z

/-- the values of the names that it reads -/
def caps (js : List Nat) (σ : St) : St := js.map fun j => (σ[j]?).join

theorem inv_comp {X : Cx} {pins : List (Addr × Obj)} {σ : St} {H : Hp} {s : Shared} {h' : Heap} {tk : Nat} {x : Str} {ns : List Str} {js : List Nat} {scope : Scope} {cl : List (Str × Addr)} {fp : List Addr} {m : Str → Option Value} (I : Inv X pins σ H s)
    (L : ClosOf X scope cl) (hj : js.map (fun j => X.N[j]?) = ns.map some) (hvis : ∀ y ∈ ns, X.env.scope.names.lookup y = some .cell)
    (hin : ∀ y ∈ ns, (relabel scope X.env).names.lookup y = some .cell ∨ (relabel scope X.env).names.lookup y = some .free)
    (hf : ∀ b ∈ fp, FpOk X pins H b) (hfl : ∀ b ∈ fp, b < s.heap.objs.size) (hn : h'.Ns s.heap.objs.size m) (hk : ∀ b o, s.heap.get? b = some o → h'.get? b = some o) :
    Inv (cxC X x ns scope cl fp pins s H) [] (none :: caps js σ) H { s with heap := h', toks := tk } := by
  have len : js.length = ns.length := by have := congrArg List.length hj; simpa using this
  refine ⟨⟨I.ok.mod, L.kind, I.ok.glob, I.ok.blt, Nat.le_refl _, fun y z c h1 h2 => I.ok.inj y z c (L.sub _ _ h1) (L.sub _ _ h2), L.all, fun y c z _ => absurd (show false = true from z) Bool.false_ne_true, I.ok.hd, I.ok.frames, .inl rfl,
    fun b hb => ⟨Nat.ne_of_lt (hfl b hb), fun y c e => (hf b hb).2.2.2.2.1 y c (L.sub _ _ e)⟩, I.bs, Nat.le_trans I.ok.bsz I.sz, fun b o e hb => ?_, fun b hb z => ?_, I.stack, I.stkFree⟩,
    rfl, I.bare, Un.kept hk, ⟨m, hn, fun i y v e1 e2 _ => ?_⟩, fun y c e => ?_, I.fresh, fun y c e => I.freeC y c (L.sub _ _ e), fun p hp => ?_, I.hok.kept hk, ?_⟩
  · rcases (hf b hb).2.2.2.1 with z | z
    · exact I.ok.noex b o e z
    · exact absurd (Nat.lt_of_lt_of_le (Heap.lt_size (I.ok.bs b o e).1) z) (Nat.lt_irrefl _)
  · rcases List.mem_cons.mp (I.stkSub b z) with z | z
    · exact (hf b hb).2.1 z
    · exact (hf b hb).2.2.1 z
  · cases i with
    | zero => cases (show (some none : Option (Option V)) = some (some v) from e2)
    | succ k =>
      have e1 : ns[k]? = some y := e1
      have e2 : (caps js σ)[k]? = some (some v) := e2
      unfold caps at e2
      rw [List.getElem?_map] at e2
      cases ej : js[k]? with
      | none => rw [ej] at e2; cases e2
      | some j =>
        rw [ej] at e2
        have e2 : (σ[j]?).join = some v := Option.some.inj e2
        have e3 : σ[j]? = some (some v) := by
          cases q : σ[j]? with
          | none => rw [q] at e2; cases e2
          | some o => rw [q] at e2; rw [show o = some v from e2]
        have e4 : X.N[j]? = some y := by
          have q := congrArg (fun l => l[k]?) hj
          simp only [List.getElem?_map, ej, e1, Option.map_some] at q
          exact Option.some.inj q
        have my : y ∈ ns := List.mem_of_getElem? e1
        obtain ⟨m0, hn0, hl⟩ := I.loc
        obtain ⟨u, r, lk⟩ := hl j y v e4 e3 (.inr (.inl (hvis y my)))
        refine ⟨u, r, .inr ⟨hin y my, ?_⟩⟩
        obtain ⟨c, ec⟩ := L.all y (hin y my)
        rcases lk with ⟨k1, _⟩ | ⟨_, c', e5, e6⟩
        · have k2 : X.env.scope.names.lookup y = some .local := k1
          rw [hvis y my] at k2; cases k2
        · have := L.sub _ _ ec
          rw [e5] at this; cases this
          obtain ⟨o, ho, hd⟩ := e6
          exact ⟨c, ec, o, hk _ _ ho, hd⟩
  · obtain ⟨v, o, ho, hd⟩ := I.cell y c (L.sub _ _ e)
    exact ⟨v, o, hk _ _ ho, hd⟩
  · have hp : p ∈ X.pn ++ pins := by
      have hp : p ∈ (X.pn ++ pins) ++ [] := hp
      simpa using hp
    obtain ⟨e, n, nl, nf, d⟩ := I.pin p hp
    refine ⟨hk _ _ e, n, Nat.ne_of_lt (Heap.lt_size e), fun z => ?_, d⟩
    rcases List.mem_cons.mp (I.stkSub _ z) with z | z
    · exact nl z
    · exact nf z
  · show (none :: caps js σ).length = (x :: ns).length
    unfold caps
    rw [List.length_cons, List.length_cons, List.length_map, len]

/-- back in the frame -/
theorem Inv.uncomp {X : Cx} {pins pins' : List (Addr × Obj)} {σ σ' : St} {H H' : Hp} {s s' : Shared} {h2 : Heap} {x : Str} {ns : List Str} {scope : Scope} {cl : List (Str × Addr)} {fp : List Addr} (I : Inv X pins σ H s)
    (hf : ∀ b ∈ fp, FpOk X pins H b) (J : Inv (cxC X x ns scope cl fp pins s H) pins' σ' H' s') (hk : ∀ b o, b ≠ s.heap.objs.size → s'.heap.get? b = some o → h2.get? b = some o) :
    Inv X pins σ H' { s' with heap := h2 } := by
  have u : Un (frs X.stack) fp H H' s.heap s'.heap := J.base
  have ne : ∀ b o, s.heap.get? b = some o → b ≠ s.heap.objs.size := fun b o e => Nat.ne_of_lt (Heap.lt_size e)
  have fr : H' s.heap.objs.size = none := J.free
  refine I.call' (s' := { s' with heap := h2 }) (ch := fp) J.os ⟨fun b o e n h1 h2 => hk b o (ne b o e) (u.keep b o e n h1 h2), fun b o e n h1 h2 => ?_, u.free, fun b o e hx => ?_, u.tups, u.frzs, u.tbls⟩ (fun b o e => ?_) J.bare
    (fun b hb => ⟨(hf b hb).2.2.2.1, (hf b hb).2.1, (hf b hb).2.2.2.2.1, (hf b hb).2.2.2.2.2⟩)
  · obtain ⟨sl, q⟩ := u.slot b o e n h1 h2
    exact ⟨sl, hk _ _ (ne b o e) q⟩
  · obtain ⟨o', q⟩ := u.there b o e hx
    exact ⟨o', hk _ _ (ne b o e) q⟩
  · refine (J.hok b o e).stay (fun c v hc q => hk c v ?_ q) (fun _ q => q) fun _ _ q => q
    rcases hc with z | z
    · rw [z]; exact ne_of_none e fr
    · exact ne_of_none z fr

/-- the tests of a comprehension -/
def PIf (X : Cx) (ifs : List Expr) (t : TT) : Prop :=
  ∀ (pins : List (Addr × Obj)) (s : Shared) (σ : St) (H : Hp) (Q : Bool → Hp → Prop), Inv X pins σ H s → t σ H Q →
    wpAny (model X.prog X.w) X.A (forIn ifs true fun c r => if r = true then do let ok ← isTrue c X.env (eval c X.env); pure (ForInStep.yield ok) else pure (ForInStep.yield r)) (TP X pins σ Q) X.xe s
def tYes : TT := fun _ H Q => Q true H
theorem pif_nil {X : Cx} : PIf X [] tYes := fun _ _ _ H _ I h => wpAny_tests_nil ⟨H, I, h⟩
/-- [elt for x in iter if ..]: D the new list -/
def bComp (js : List Nat) (tt : TT) (te : TE) (σ : St) (J : It) (H1 : Hp) (Q : VK) : Prop :=
  ∀ D, H1 D = none → ∃ W : Nat → Nat → Hp → Prop, (∃ m, W 0 m (upd H1 D (.lst []))) ∧ ∀ i m H, W i m H →
    (J.stop i H ∧ Q (.ref D) H) ∨ (J.go i H ∧ ∀ x H', J.yld i H x H' → tt (some x :: caps js σ) H' fun b H2 => if b = true then te (some x :: caps js σ) H2 fun y H3 => ∃ ys, H3 D = some (.lst ys) ∧ ys.length < sizeLine ∧ ∃ m', m' < m ∧ W (i + 1) m' (upd H3 D (.lst (ys ++ [y])))
      else ∃ m', m' < m ∧ W (i + 1) m' H2)
def tComp (js : List Nat) (wi : TI) (tt : TT) (te : TE) : TE := fun σ H Q => wi σ H fun J H1 => bComp js tt te σ J H1 Q

section
variable {X : Cx} {x : Str} {px : Pos} {iter elt : Expr} {ifs : List Expr} {scope : Scope} {pos : Pos} {ns : List Str} {js : List Nat} {cl : List (Str × Addr)} {wi : TI} {tt : TT} {te : TE}

/-- the block, walked -/
theorem comp_block {pins : List (Addr × Obj)} {σ : St} {s₂ : Shared} {H₂ : Hp} {it : Addr} {fp : List Addr} {tn : Nat → Heap → Prop} {J : It} {Q : VK} {RR : Value → Addr → Result → Shared → Prop} {E : Value → Shared → Prop}
    (L : ClosOf X scope cl) (hc : X.calm = true) (hj : js.map (fun j => X.N[j]?) = ns.map some) (hvis : ∀ y ∈ ns, X.env.scope.names.lookup y = some .cell)
    (hin : ∀ y ∈ ns, (relabel scope X.env).names.lookup y = some .cell ∨ (relabel scope X.env).names.lookup y = some .free) (hx : scope.names.lookup x = some .local) (hnd : (x :: ns).Nodup)
    (ht : ∀ fp pins s H, PIf (cxC X x ns scope cl fp pins s H) ifs tt) (he : ∀ fp pins s H, PE (cxC X x ns scope cl fp pins s H) elt te)
    (I2 : Inv X pins σ H₂ s₂) (T : Turn X.prog X.w X.K (.Name x px) J fp it tn) (st2 : tn 0 s₂.heap) (f2 : ∀ b ∈ fp, FpOk X pins H₂ b) (hq : bComp js tt te σ J H₂ Q)
    (hRR : ∀ D H3 s', (∃ m, s'.heap.Ns (s₂.heap.objs.size + 1) m) → H3 (s₂.heap.objs.size + 1) = none → (∀ h2, (∀ b o, b ≠ s₂.heap.objs.size + 1 → s'.heap.get? b = some o → h2.get? b = some o) → Inv X pins σ H3 { s' with heap := h2 }) → Q (.ref D) H3 → RR (.ref D) (s₂.heap.objs.size + 1) (.ok .next) s') :
    wpAny (model X.prog X.w) X.A (newList []) (fun acc s₃ => wpAny (model X.prog X.w) X.A (newFunctionEnv scope X.env.globals cl [] X.env.qual none .none (some X.env)) (fun cenv s₄ =>
      codeAny (model X.prog X.w) X.A (.compStart (.ListComp elt [⟨.Name x px, iter, ifs, 0⟩] scope pos) 0 (.ref it) acc { cenv with scope := relabel scope X.env }) (RR acc cenv.locals) s₄) E s₃) E s₂ := by
  have hD : H₂ s₂.heap.objs.size = none := I2.fresh
  have I3 : Inv X pins σ (upd H₂ s₂.heap.objs.size (.lst [])) { s₂ with heap := s₂.heap.push { cls := .type "list", data := .seq ([] : List Value).toArray } } := I2.lnew (ys := []) (its := []) (t' := s₂.toks) .nil (Nat.zero_le _)
  obtain ⟨W, ⟨m0, w0⟩, turn⟩ := hq _ hD
  refine wpAny_newObj_type (wpAny_newFunctionEnv L.cell (by intro y hy; simp at hy) (fun h₁ hns₁ hsb₁ => ?_) L.kind)
  have hfl2 : ∀ b ∈ fp, b < s₂.heap.objs.size := fun b hb => let ⟨_, e, _⟩ := T.obj 0 _ st2 b hb; Heap.lt_size e
  have hsz3 : (s₂.heap.push { cls := .type "list", data := .seq ([] : List Value).toArray }).objs.size = s₂.heap.objs.size + 1 := Heap.size_push ..
  have hk3 : ∀ b o, (s₂.heap.push { cls := .type "list", data := .seq ([] : List Value).toArray }).get? b = some o → h₁.get? b = some o := fun b o e => hsb₁.extBut b o (Nat.ne_of_lt (Heap.lt_size e)) (Heap.get?_push_of_some _ e)
  have f3 : ∀ b ∈ fp, FpOk X pins (upd H₂ s₂.heap.objs.size (.lst [])) b := fun b hb => ⟨by rw [upd_ne (Nat.ne_of_lt (hfl2 b hb))]; exact (f2 b hb).1, (f2 b hb).2⟩
  have C0 := inv_comp (x := x) (tk := s₂.toks + ([] : List (Str × Value)).length) I3 L hj hvis hin f3 (fun b hb => Nat.lt_of_lt_of_le (hfl2 b hb) (by rw [hsz3]; exact Nat.le_succ _)) hns₁ hk3
  have st3 : tn 0 h₁ := T.keep _ _ _ st2 fun b hb o e => hk3 b o (Heap.get?_push_of_some _ e)
  generalize hs3 : ({ s₂ with heap := s₂.heap.push { cls := .type "list", data := .seq ([] : List Value).toArray } } : Shared) = s₃ at *
  have hsz : s₃.heap.objs.size = s₂.heap.objs.size + 1 := by rw [← hs3]; exact hsz3
  have loop : ∀ s₄ : Shared, s₄ = { s₃ with heap := h₁, toks := s₃.toks + ([] : List (Str × Value)).length } →
      codeAny (model X.prog X.w) X.A (.compLoop (.ListComp elt [⟨.Name x px, iter, ifs, 0⟩] scope pos) 0 (.ref it) (.ref s₂.heap.objs.size) (compEnvC scope cl s₃.heap.objs.size X.env)) (RR (.ref s₂.heap.objs.size) s₃.heap.objs.size) s₄ := by
    rintro s₄ rfl
    refine comp_loop_go (fun n s' => ∃ i v H', Inv (cxC X x ns scope cl fp pins s₃ (upd H₂ s₂.heap.objs.size (.lst []))) [] (v :: caps js σ) H' s' ∧ tn i s'.heap ∧ (∀ b ∈ fp, H' b = none) ∧ W i n H') ?_ m0
      ⟨0, none, _, by subst hs3; exact C0, st3, fun b hb => (f3 b hb).1, w0⟩
    rintro n s5 ⟨i, v5, H5, J5, st5, fr5, w5⟩
    have fpc : ∀ {H' : Hp}, (∀ b ∈ fp, H' b = none) → ∀ b ∈ fp, FpOk (cxC X x ns scope cl fp pins s₃ (upd H₂ s₂.heap.objs.size (.lst []))) [] H' b := fun hn b hb => by
      refine ⟨hn b hb, ?_, ?_, .inl hb, fun y c e => (f2 b hb).2.2.2.2.1 y c (L.sub _ _ e), fun p hp => ?_⟩
      · show b ≠ s₃.heap.objs.size
        rw [hsz]
        exact Nat.ne_of_lt (Nat.lt_succ_of_lt (hfl2 b hb))
      · intro z
        rcases List.mem_cons.mp (I2.stkSub b z) with z | z
        · exact (f2 b hb).2.1 z
        · exact (f2 b hb).2.2.1 z
      · have hp : p ∈ (X.pn ++ pins) ++ [] := hp
        exact (f2 b hb).2.2.2.2.2 p (by simpa using hp)
    rcases turn i n H5 w5 with ⟨stop, qn⟩ | ⟨go, step⟩
    · refine thn (T.done (cxC X x ns scope cl fp pins s₃ _) rfl rfl rfl hc i [] s5 _ H5 (fun _ _ => False) J5 (fpc fr5) st5 stop) fun r s6 ⟨hr, J6⟩ => ?_
      subst hr
      show RR _ _ (.ok .next) s6
      rw [hsz]
      refine hRR _ H5 s6 ?_ (by rw [← hsz]; exact J6.free) (fun h2 hk2 => ?_) qn
      · obtain ⟨mm, hn, _⟩ := J6.loc
        exact ⟨mm, by rw [← hsz]; exact hn⟩
      · refine Inv.uncomp I3 f3 J6 fun b o hb e => hk2 b o ?_ e
        rw [← hsz]; exact hb
    · refine thn (T.item (cxC X x ns scope cl fp pins s₃ _) rfl rfl rfl hc i [] s5 _ H5 (fun _ _ => False) J5 (fpc fr5) st5 go) fun r s6 ⟨u, hr, h6⟩ => ?_
      subst hr
      refine thn h6 fun _ s7 ⟨xv, H7, J7, r7, y7, st7, fr7⟩ => ?_
      have J7' := J7.pinned (fpc fr7) (T.obj _ _ st7)
      have hg : PG (cxC X x ns scope cl fp pins s₃ (upd H₂ s₂.heap.objs.size (.lst []))) (.Name x px) (gName 0) := pg_name hnd rfl (.inl (lookup_relabel_local hx)) (.inr (lookup_relabel_local hx))
      refine thn (hg _ s7 _ H7 xv u (fun σ' H' => σ' = some xv :: caps js σ ∧ H' = H7) J7' r7 ⟨rfl, rfl⟩) fun _ s8 ⟨σ8, H8, J8, e8, e8'⟩ => ?_
      subst e8 e8'
      have fin : ∀ {H' : Hp} {s' : Shared}, Inv (cxC X x ns scope cl fp pins s₃ (upd H₂ s₂.heap.objs.size (.lst []))) ([] ++ pinsAt fp s7.heap) (some xv :: caps js σ) H' s' → (∃ m', m' < n ∧ W (i + 1) m' H') →
          ∃ m', m' < n ∧ ∃ i v H', Inv (cxC X x ns scope cl fp pins s₃ (upd H₂ s₂.heap.objs.size (.lst []))) [] (v :: caps js σ) H' s' ∧ tn i s'.heap ∧ (∀ b ∈ fp, H' b = none) ∧ W i m' H' := fun {H' s'} J9 ⟨m', hm, w9⟩ => by
        refine ⟨m', hm, i + 1, some xv, H', J9.unpinned, T.keep _ _ _ st7 fun b hb o e => (J9.pin (b, o) (List.mem_append_right _ (List.mem_append_right _ (mem_pinsAt hb e)))).1, fun b hb => ?_, w9⟩
        obtain ⟨o, e, d⟩ := T.obj _ _ st7 b hb
        exact (J9.pin (b, o) (List.mem_append_right _ (List.mem_append_right _ (mem_pinsAt hb e)))).2.1
      refine thn (ht fp pins s₃ _ _ s8 _ H8 _ J8 (step xv H8 y7)) fun ok s9 ⟨H9, J9, q9⟩ => ?_
      cases ok with
      | false =>
        rw [if_neg Bool.false_ne_true] at q9 ⊢
        exact fin J9 q9
      | true =>
        rw [if_pos rfl] at q9 ⊢
        refine thn (he fp pins s₃ _ _ s9 _ H9 _ J9 q9) fun yv s10 ⟨y, H10, J10, r10, ys, hD10, hz, m', hm, w10⟩ => ?_
        refine thn (mt_append _ s10 _ H10 (.ref s₂.heap.objs.size) [y] _ [yv] (fun _ H' => H' = upd H10 s₂.heap.objs.size (.lst (ys ++ [y]))) J10 rfl (.cons r10 .nil) ⟨_, ys, y, rfl, rfl, hD10, hz, rfl⟩) fun _ s11 ⟨_, H11, J11, _, e11⟩ => ?_
        subst e11
        exact fin J11 ⟨m', hm, w10⟩
  have hcl := loop _ rfl
  have e0 : (newEnv scope s₃.heap.objs.size X.env.globals cl X.env.qual none .none (some X.env) 0).locals = s₃.heap.objs.size := rfl
  exact codeAny_compStart_list hcl (T.self _ 0 _ _ _ st3 hcl)
/-- [elt for x in iter if ..] -/
theorem pe_comp (hi : PI X (.Name x px) iter wi) (hc : X.calm = true) (hk : scope.kind = .function) (hj : js.map (fun j => X.N[j]?) = ns.map some) (ho : compOk x ns scope.names X.env.scope.names = true)
    (ht : ∀ fp pins s H, PIf (cxC X x ns scope (closL X.env.cells scope.names []) fp pins s H) ifs tt) (he : ∀ fp pins s H, PE (cxC X x ns scope (closL X.env.cells scope.names []) fp pins s H) elt te) (hs : ∀ x, foldedSetIterable iter X.env x = pure x := by intro _; rfl) :
    PE X (.ListComp elt [⟨.Name x px, iter, ifs, 0⟩] scope pos) (tComp js wi tt te) := by
  intro pins s σ H Q I h
  obtain ⟨L, hvis, hin, hx, hnd⟩ := clos_of I hk ho
  rw [eval_ListComp]
  refine wpAny_comprehension_free (use := none) rfl hs L.clos L.kind L.names (thn (hi pins s σ H _ I h) fun v s1 h1 => thn h1 fun itv s2 h2 => ?_)
  obtain ⟨it, fp, tn, J, H2, e, I2, T, st2, f2, hq⟩ := h2
  subst e
  refine comp_block (RR := fun acc C => compPost (model X.prog X.w) X.A X.xe none (EP X pins σ Q) acc C) L hc hj hvis hin hx hnd ht he I2 T st2 f2 hq ?_
  intro D H3 s' ⟨m, hn⟩ hfr hI q
  exact ⟨m, hn, fun h' sb => ⟨.ref D, H3, hI h' fun b o hb e => sb.extBut b o hb e, rfl, q⟩⟩

end
end L2

namespace L2
open PySem PySem.Spec PyProof.Rows

/-! ### data: what a value holds, to the ground -/
inductive D where
  | non
  | bl (b : Bool)
  | int (i : Int)
  | str (x : Str)
  | tup (ds : List D)
  | lst (ds : List D)

mutual
def At (K : PySem.W.Frag) (H : Hp) : D → V → Prop
  | .non, v => v = .non
  | .bl b, v => v = .bl b
  | .int i, v => v = .int i
  | .str x, v => v = .str x
  | .tup ds, v => ∃ a xs, v = .ref a ∧ SqT K H a xs ∧ AtL K H ds xs
  | .lst ds, v => ∃ a xs, v = .ref a ∧ SqL K H a xs ∧ AtL K H ds xs
def AtL (K : PySem.W.Frag) (H : Hp) : List D → List V → Prop
  | [], xs => xs = []
  | d :: ds, xs => ∃ x r, xs = x :: r ∧ At K H d x ∧ AtL K H ds r
end

mutual
theorem At.mono {K : PySem.W.Frag} {H H' : Hp} (s : Same H H') : ∀ (d : D) (v : V), At K H d v → At K H' d v
  | .non, _, h => h
  | .bl _, _, h => h
  | .int _, _, h => h
  | .str _, _, h => h
  | .tup ds, _, ⟨a, xs, e, q, l⟩ => ⟨a, xs, e, s.tup q, AtL.mono s ds xs l⟩
  | .lst ds, _, ⟨a, xs, e, q, l⟩ => ⟨a, xs, e, s.seq q, AtL.mono s ds xs l⟩
theorem AtL.mono {K : PySem.W.Frag} {H H' : Hp} (s : Same H H') : ∀ (ds : List D) (xs : List V), AtL K H ds xs → AtL K H' ds xs
  | [], _, h => h
  | d :: ds, _, ⟨x, r, e, h, t⟩ => ⟨x, r, e, At.mono s d x h, AtL.mono s ds r t⟩
end

theorem AtL.length {K : PySem.W.Frag} {H : Hp} : ∀ {ds : List D} {xs : List V}, AtL K H ds xs → xs.length = ds.length
  | [], _, h => by rw [show _ = [] from h]; rfl
  | _ :: ds, _, ⟨x, r, e, _, t⟩ => by rw [e, List.length_cons, List.length_cons, AtL.length t]

mutual
def deq : D → D → Bool
  | .non, .non => true
  | .bl a, .bl b => a == b
  | .bl a, .int b => (if a then 1 else 0) == b
  | .int a, .bl b => a == (if b then 1 else 0)
  | .int a, .int b => a == b
  | .str a, .str b => a == b
  | .tup a, .tup b => deqL a b
  | .lst a, .lst b => deqL a b
  | _, _ => false
def deqL : List D → List D → Bool
  | [], [] => true
  | a :: r, b :: t => deq a b && deqL r t
  | _, _ => false
end
mutual
def dep : D → Nat
  | .tup ds => depL ds + 1
  | .lst ds => depL ds + 1
  | _ => 0
def depL : List D → Nat
  | [] => 0
  | d :: r => max (dep d) (depL r)
end
mutual
theorem deq_refl : ∀ d : D, deq d d = true
  | .non => rfl
  | .bl b => by simp [deq]
  | .int i => by simp [deq]
  | .str x => by simp [deq]
  | .tup ds => by rw [deq]; exact deqL_refl ds
  | .lst ds => by rw [deq]; exact deqL_refl ds
theorem deqL_refl : ∀ ds : List D, deqL ds ds = true
  | [] => rfl
  | d :: r => by rw [deqL, deq_refl d, deqL_refl r]; rfl
end

/-- the item-wise answers -/
def zipB : List D → List D → List Bool
  | a :: r, b :: t => deq a b :: zipB r t
  | _, _ => []
theorem zipB_all : ∀ (ds es : List D), ((List.range (min ds.length es.length)).all (fun j => (zipB ds es).getD j true) && ds.length == es.length) = deqL ds es
  | [], [] => rfl
  | [], _ :: _ => rfl
  | _ :: _, [] => by simp [deqL]
  | a :: r, b :: t => by
    have ih := zipB_all r t
    have e : min (a :: r).length (b :: t).length = min r.length t.length + 1 := by simp only [List.length_cons]; omega
    rw [e, List.range_succ_eq_map, List.all_cons, List.all_map, deqL, ← ih]
    have e2 : ((a :: r).length == (b :: t).length) = (r.length == t.length) := by simp
    rw [e2]
    show (deq a b && _ && _) = _
    rw [Bool.and_assoc]
    rfl

section
variable {X : Cx} {pins : List (Addr × Obj)} {σ : St} {H : Hp} {s : Shared}
mutual
/-- one value holds one datum -/
theorem At.inj (I : Inv X pins σ H s) : ∀ (d e : D) (x : V), At X.K H d x → At X.K H e x → d = e
  | .non, e, x, h, g => by
    cases (show x = .non from h)
    cases e with
    | non => rfl
    | tup ds => obtain ⟨a, xs, z, _⟩ := g; cases z
    | lst ds => obtain ⟨a, xs, z, _⟩ := g; cases z
    | bl b => cases (show V.non = .bl b from g)
    | int b => cases (show V.non = .int b from g)
    | str b => cases (show V.non = .str b from g)
  | .bl k, e, x, h, g => by
    cases (show x = .bl k from h)
    cases e with
    | non => cases (show V.bl k = .non from g)
    | tup ds => obtain ⟨a, xs, z, _⟩ := g; cases z
    | lst ds => obtain ⟨a, xs, z, _⟩ := g; cases z
    | bl b => cases (show V.bl k = .bl b from g); rfl
    | int b => cases (show V.bl k = .int b from g)
    | str b => cases (show V.bl k = .str b from g)
  | .int k, e, x, h, g => by
    cases (show x = .int k from h)
    cases e with
    | non => cases (show V.int k = .non from g)
    | tup ds => obtain ⟨a, xs, z, _⟩ := g; cases z
    | lst ds => obtain ⟨a, xs, z, _⟩ := g; cases z
    | bl b => cases (show V.int k = .bl b from g)
    | int b => cases (show V.int k = .int b from g); rfl
    | str b => cases (show V.int k = .str b from g)
  | .str k, e, x, h, g => by
    cases (show x = .str k from h)
    cases e with
    | non => cases (show V.str k = .non from g)
    | tup ds => obtain ⟨a, xs, z, _⟩ := g; cases z
    | lst ds => obtain ⟨a, xs, z, _⟩ := g; cases z
    | bl b => cases (show V.str k = .bl b from g)
    | int b => cases (show V.str k = .int b from g)
    | str b => cases (show V.str k = .str b from g); rfl
  | .tup ds, e, x, h, g => by
    obtain ⟨a, xs, z, q, l⟩ := h
    subst z
    cases e with
    | non => cases (show V.ref a = .non from g)
    | bl b => cases (show V.ref a = .bl b from g)
    | int b => cases (show V.ref a = .int b from g)
    | str b => cases (show V.ref a = .str b from g)
    | tup es =>
      obtain ⟨b, ys, z, q', l'⟩ := g
      cases z
      have e := I.tuple_inj q q'
      subst e
      rw [AtL.inj I ds es xs l l']
    | lst es =>
      obtain ⟨b, ys, z, q', l'⟩ := g
      cases z
      obtain ⟨_, _, p1, _⟩ := I.tuple q
      obtain ⟨_, _, p2, _⟩ := I.list q'
      exact absurd rfl (SeqAt.ne_of_list_tuple p2.isList p1)
  | .lst ds, e, x, h, g => by
    obtain ⟨a, xs, z, q, l⟩ := h
    subst z
    cases e with
    | non => cases (show V.ref a = .non from g)
    | bl b => cases (show V.ref a = .bl b from g)
    | int b => cases (show V.ref a = .int b from g)
    | str b => cases (show V.ref a = .str b from g)
    | lst es =>
      obtain ⟨b, ys, z, q', l'⟩ := g
      cases z
      have e := I.list_inj q q'
      subst e
      rw [AtL.inj I ds es xs l l']
    | tup es =>
      obtain ⟨b, ys, z, q', l'⟩ := g
      cases z
      obtain ⟨_, _, p1, _⟩ := I.tuple q'
      obtain ⟨_, _, p2, _⟩ := I.list q
      exact absurd rfl (SeqAt.ne_of_list_tuple p2.isList p1)
theorem AtL.inj (I : Inv X pins σ H s) : ∀ (ds es : List D) (xs : List V), AtL X.K H ds xs → AtL X.K H es xs → ds = es
  | [], [], _, _, _ => rfl
  | [], _ :: _, xs, h, ⟨x, r, e, _⟩ => by rw [show xs = [] from h] at e; cases e
  | _ :: _, [], xs, ⟨x, r, e, _⟩, h => by rw [show xs = [] from h] at e; cases e
  | d :: ds, e :: es, xs, ⟨x, r, z, h, t⟩, ⟨y, q, z', h', t'⟩ => by
    subst z
    cases z'
    rw [At.inj I d e x h h', AtL.inj I ds es r t t']
end
mutual
theorem eqAt_D (I : Inv X pins σ H s) : ∀ (d e : D) (x y : V) (u v : Value) (A : Around) (n : Nat), dep d ≤ n → A.units + n < cLine → At X.K H d x → At X.K H e y → RelV x u → RelV y v → SeqAt.EqAt A s u v (deq d e)
  | .tup ds, .tup es, x, y, u, v, A, n, hn, hu, h, g, rx, ry => by
    by_cases same : x = y
    · subst same
      cases At.inj I _ _ x h g
      rw [deq_refl]
      obtain ⟨a, xs, rfl, _⟩ := h
      cases rx
      cases ry
      exact SeqAt.EqAt.same _
    · obtain ⟨a, xs, rfl, q, l⟩ := h
      obtain ⟨b, ys, rfl, q', l'⟩ := g
      cases rx
      cases ry
      obtain ⟨its, r, p, _⟩ := I.tuple q
      obtain ⟨its', r', p', _⟩ := I.tuple q'
      have hn : depL ds + 1 ≤ n := hn
      have l1 : its.length = ds.length := by rw [← r.length, l.length]
      have l2 : its'.length = es.length := by rw [← r'.length, l'.length]
      have R := SeqAt.RcAt.tuples (A := A) (s := s) (e := fun j => (zipB ds es).getD j true) p p' (by omega) fun j h1 h2 => by
        have h1' : j < its.length := by simpa using h1
        have h2' : j < its'.length := by simpa using h2
        have := eqAts_D I ds es xs ys its its' A.in1 (n - 1) (by omega) (by show A.units + 1 + (n - 1) < cLine; omega) l l' r r' j h1' h2'
        simpa using this
      have E := SeqAt.EqAt.of_refs (fun z => same (by rw [z])) R
      rw [List.size_toArray, List.size_toArray, l1, l2, zipB_all] at E
      exact E
  | .lst ds, .lst es, x, y, u, v, A, n, hn, hu, h, g, rx, ry => by
    by_cases same : x = y
    · subst same
      cases At.inj I _ _ x h g
      rw [deq_refl]
      obtain ⟨a, xs, rfl, _⟩ := h
      cases rx
      cases ry
      exact SeqAt.EqAt.same _
    · obtain ⟨a, xs, rfl, q, l⟩ := h
      obtain ⟨b, ys, rfl, q', l'⟩ := g
      cases rx
      cases ry
      obtain ⟨its, r, p, _⟩ := I.list q
      obtain ⟨its', r', p', _⟩ := I.list q'
      have hn : depL ds + 1 ≤ n := hn
      have l1 : its.length = ds.length := by rw [← r.length, l.length]
      have l2 : its'.length = es.length := by rw [← r'.length, l'.length]
      refine SeqAt.EqAt.of_refs (fun z => same (by rw [z])) ?_
      show SeqAt.RcAt A s (.ref a) (.ref b) (deqL ds es)
      rw [← zipB_all ds es]
      by_cases hl : ds.length = es.length
      · have R := SeqAt.RcAt.lists (A := A) (s := s) (e := fun j => (zipB ds es).getD j true) p.isList p'.isList (by rw [List.size_toArray, List.size_toArray, l1, l2, hl]) (by omega) fun j h1 h2 => by
          have h1' : j < its.length := by simpa using h1
          have h2' : j < its'.length := by simpa using h2
          have := eqAts_D I ds es xs ys its its' A.in1 (n - 1) (by omega) (by show A.units + 1 + (n - 1) < cLine; omega) l l' r r' j h1' h2'
          simpa using this
        rw [List.size_toArray, l1] at R
        rw [← hl, Nat.min_self, beq_self_eq_true, Bool.and_true]
        exact R
      · have R := SeqAt.RcAt.lists_lengths (A := A) (s := s) p.isList p'.isList (by rw [List.size_toArray, List.size_toArray, l1, l2]; simpa using hl) (by omega)
        rw [show (ds.length == es.length) = false by simpa using hl, Bool.and_false]
        exact R
  | .tup ds, .lst es, x, y, u, v, A, n, hn, hu, h, g, rx, ry => by
    obtain ⟨a, xs, rfl, q, l⟩ := h
    obtain ⟨b, ys, rfl, q', l'⟩ := g
    cases rx
    cases ry
    obtain ⟨its, r, p, _⟩ := I.tuple q
    obtain ⟨its', r', p', _⟩ := I.list q'
    exact SeqAt.EqAt.tuple_list p p'.isList (by omega)
  | .lst ds, .tup es, x, y, u, v, A, n, hn, hu, h, g, rx, ry => by
    obtain ⟨a, xs, rfl, q, l⟩ := h
    obtain ⟨b, ys, rfl, q', l'⟩ := g
    cases rx
    cases ry
    obtain ⟨its, r, p, _⟩ := I.list q
    obtain ⟨its', r', p', _⟩ := I.tuple q'
    exact SeqAt.EqAt.list_tuple p.isList p' (by omega)
  | .non, .non, x, y, u, v, A, n, hn, hu, h, g, rx, ry => by cases (show x = _ from h); cases (show y = _ from g); exact eqAt_V rx ry rfl rfl
  | .non, .bl _, x, y, u, v, A, n, hn, hu, h, g, rx, ry => by cases (show x = _ from h); cases (show y = _ from g); exact eqAt_V rx ry rfl rfl
  | .non, .int _, x, y, u, v, A, n, hn, hu, h, g, rx, ry => by cases (show x = _ from h); cases (show y = _ from g); exact eqAt_V rx ry rfl rfl
  | .non, .str _, x, y, u, v, A, n, hn, hu, h, g, rx, ry => by cases (show x = _ from h); cases (show y = _ from g); exact eqAt_V rx ry rfl rfl
  | .bl _, .non, x, y, u, v, A, n, hn, hu, h, g, rx, ry => by cases (show x = _ from h); cases (show y = _ from g); exact eqAt_V rx ry rfl rfl
  | .bl _, .bl _, x, y, u, v, A, n, hn, hu, h, g, rx, ry => by cases (show x = _ from h); cases (show y = _ from g); exact eqAt_V rx ry rfl rfl
  | .bl _, .int _, x, y, u, v, A, n, hn, hu, h, g, rx, ry => by cases (show x = _ from h); cases (show y = _ from g); exact eqAt_V rx ry rfl rfl
  | .bl _, .str _, x, y, u, v, A, n, hn, hu, h, g, rx, ry => by cases (show x = _ from h); cases (show y = _ from g); exact eqAt_V rx ry rfl rfl
  | .int _, .non, x, y, u, v, A, n, hn, hu, h, g, rx, ry => by cases (show x = _ from h); cases (show y = _ from g); exact eqAt_V rx ry rfl rfl
  | .int _, .bl _, x, y, u, v, A, n, hn, hu, h, g, rx, ry => by cases (show x = _ from h); cases (show y = _ from g); exact eqAt_V rx ry rfl rfl
  | .int _, .int _, x, y, u, v, A, n, hn, hu, h, g, rx, ry => by cases (show x = _ from h); cases (show y = _ from g); exact eqAt_V rx ry rfl rfl
  | .int _, .str _, x, y, u, v, A, n, hn, hu, h, g, rx, ry => by cases (show x = _ from h); cases (show y = _ from g); exact eqAt_V rx ry rfl rfl
  | .str _, .non, x, y, u, v, A, n, hn, hu, h, g, rx, ry => by cases (show x = _ from h); cases (show y = _ from g); exact eqAt_V rx ry rfl rfl
  | .str _, .bl _, x, y, u, v, A, n, hn, hu, h, g, rx, ry => by cases (show x = _ from h); cases (show y = _ from g); exact eqAt_V rx ry rfl rfl
  | .str _, .int _, x, y, u, v, A, n, hn, hu, h, g, rx, ry => by cases (show x = _ from h); cases (show y = _ from g); exact eqAt_V rx ry rfl rfl
  | .str _, .str _, x, y, u, v, A, n, hn, hu, h, g, rx, ry => by cases (show x = _ from h); cases (show y = _ from g); exact eqAt_V rx ry rfl rfl
  | .tup ds, .non, x, y, u, v, A, n, hn, hu, ⟨a, xs, z, q, l⟩, g, rx, ry => by subst z; cases rx; cases (show y = _ from g); cases ry; obtain ⟨its, r, p, _⟩ := I.tuple q; exact SeqAt.EqAt.tuple_none p (by omega)
  | .tup ds, .bl _, x, y, u, v, A, n, hn, hu, ⟨a, xs, z, q, l⟩, g, rx, ry => by subst z; cases rx; cases (show y = _ from g); cases ry; obtain ⟨its, r, p, _⟩ := I.tuple q; exact SeqAt.EqAt.tuple_bool _ p (by omega)
  | .tup ds, .int _, x, y, u, v, A, n, hn, hu, ⟨a, xs, z, q, l⟩, g, rx, ry => by subst z; cases rx; cases (show y = _ from g); obtain ⟨t, rfl⟩ := ry; obtain ⟨its, r, p, _⟩ := I.tuple q; exact SeqAt.EqAt.tuple_int _ _ p (by omega)
  | .tup ds, .str _, x, y, u, v, A, n, hn, hu, ⟨a, xs, z, q, l⟩, g, rx, ry => by subst z; cases rx; cases (show y = _ from g); obtain ⟨t, rfl⟩ := ry; obtain ⟨its, r, p, _⟩ := I.tuple q; exact SeqAt.EqAt.tuple_str _ _ p (by omega)
  | .lst ds, .non, x, y, u, v, A, n, hn, hu, ⟨a, xs, z, q, l⟩, g, rx, ry => by subst z; cases rx; cases (show y = _ from g); cases ry; obtain ⟨its, r, p, _⟩ := I.list q; exact SeqAt.EqAt.list_none p.isList (by omega)
  | .lst ds, .bl _, x, y, u, v, A, n, hn, hu, ⟨a, xs, z, q, l⟩, g, rx, ry => by subst z; cases rx; cases (show y = _ from g); cases ry; obtain ⟨its, r, p, _⟩ := I.list q; exact SeqAt.EqAt.list_bool _ p.isList (by omega)
  | .lst ds, .int _, x, y, u, v, A, n, hn, hu, ⟨a, xs, z, q, l⟩, g, rx, ry => by subst z; cases rx; cases (show y = _ from g); obtain ⟨t, rfl⟩ := ry; obtain ⟨its, r, p, _⟩ := I.list q; exact SeqAt.EqAt.list_int _ _ p.isList (by omega)
  | .lst ds, .str _, x, y, u, v, A, n, hn, hu, ⟨a, xs, z, q, l⟩, g, rx, ry => by subst z; cases rx; cases (show y = _ from g); obtain ⟨t, rfl⟩ := ry; obtain ⟨its, r, p, _⟩ := I.list q; exact SeqAt.EqAt.list_str _ _ p.isList (by omega)
  | .non, .tup ds, x, y, u, v, A, n, hn, hu, g, ⟨a, xs, z, q, l⟩, rx, ry => by subst z; cases ry; cases (show x = _ from g); cases rx; obtain ⟨its, r, p, _⟩ := I.tuple q; exact SeqAt.EqAt.none_tuple p (by omega)
  | .bl _, .tup ds, x, y, u, v, A, n, hn, hu, g, ⟨a, xs, z, q, l⟩, rx, ry => by subst z; cases ry; cases (show x = _ from g); cases rx; obtain ⟨its, r, p, _⟩ := I.tuple q; exact SeqAt.EqAt.bool_tuple _ p (by omega)
  | .int _, .tup ds, x, y, u, v, A, n, hn, hu, g, ⟨a, xs, z, q, l⟩, rx, ry => by subst z; cases ry; cases (show x = _ from g); obtain ⟨t, rfl⟩ := rx; obtain ⟨its, r, p, _⟩ := I.tuple q; exact SeqAt.EqAt.int_tuple _ _ p (by omega)
  | .str _, .tup ds, x, y, u, v, A, n, hn, hu, g, ⟨a, xs, z, q, l⟩, rx, ry => by subst z; cases ry; cases (show x = _ from g); obtain ⟨t, rfl⟩ := rx; obtain ⟨its, r, p, _⟩ := I.tuple q; exact SeqAt.EqAt.str_tuple _ _ p (by omega)
  | .non, .lst ds, x, y, u, v, A, n, hn, hu, g, ⟨a, xs, z, q, l⟩, rx, ry => by subst z; cases ry; cases (show x = _ from g); cases rx; obtain ⟨its, r, p, _⟩ := I.list q; exact SeqAt.EqAt.none_list p.isList (by omega)
  | .bl _, .lst ds, x, y, u, v, A, n, hn, hu, g, ⟨a, xs, z, q, l⟩, rx, ry => by subst z; cases ry; cases (show x = _ from g); cases rx; obtain ⟨its, r, p, _⟩ := I.list q; exact SeqAt.EqAt.bool_list _ p.isList (by omega)
  | .int _, .lst ds, x, y, u, v, A, n, hn, hu, g, ⟨a, xs, z, q, l⟩, rx, ry => by subst z; cases ry; cases (show x = _ from g); obtain ⟨t, rfl⟩ := rx; obtain ⟨its, r, p, _⟩ := I.list q; exact SeqAt.EqAt.int_list _ _ p.isList (by omega)
  | .str _, .lst ds, x, y, u, v, A, n, hn, hu, g, ⟨a, xs, z, q, l⟩, rx, ry => by subst z; cases ry; cases (show x = _ from g); obtain ⟨t, rfl⟩ := rx; obtain ⟨its, r, p, _⟩ := I.list q; exact SeqAt.EqAt.str_list _ _ p.isList (by omega)
theorem eqAts_D (I : Inv X pins σ H s) : ∀ (ds es : List D) (xs ys : List V) (us vs : List Value) (A : Around) (n : Nat), depL ds ≤ n → A.units + n < cLine → AtL X.K H ds xs → AtL X.K H es ys → Vals xs us → Vals ys vs →
    ∀ (j : Nat) (h1 : j < us.length) (h2 : j < vs.length), SeqAt.EqAt A s us[j] vs[j] ((zipB ds es).getD j true)
  | [], es, xs, ys, us, vs, A, n, hn, hu, h, g, r, r', j, h1, h2 => by
    rw [show xs = [] from h] at r
    cases r
    cases h1
  | d :: ds, [], xs, ys, us, vs, A, n, hn, hu, h, g, r, r', j, h1, h2 => by
    rw [show ys = [] from g] at r'
    cases r'
    cases h2
  | d :: ds, e :: es, xs, ys, us, vs, A, n, hn, hu, ⟨x, q, z, h, t⟩, ⟨y, q', z', h', t'⟩, r, r', j, h1, h2 => by
    subst z
    subst z'
    have hn : max (dep d) (depL ds) ≤ n := hn
    cases r with
    | cons r0 r1 =>
      cases r' with
      | cons r0' r1' =>
        cases j with
        | zero => exact eqAt_D I d e x y _ _ A n (by omega) hu h h' r0 r0'
        | succ j => exact eqAts_D I ds es q q' _ _ A n (by omega) hu t t' r1 r1' j (Nat.lt_of_succ_lt_succ h1) (Nat.lt_of_succ_lt_succ h2)
end

/-- ==, != of two tuples, two lists, to the ground -/
def rEqD (K : PySem.W.Frag) (neg : Bool) : R2 := fun x y H Q => ∃ d e, At K H d x ∧ At K H e y ∧ ((∃ ds es, d = .tup ds ∧ e = .tup es) ∨ (∃ ds es, d = .lst ds ∧ e = .lst es)) ∧ dep d ≤ 50 ∧ Q (.bl (if neg then !deq d e else deq d e)) H
end
section
variable {X : Cx}
theorem op_neD (hu : X.A.units + 64 < cLine) : OpR X (compareOp .NotEq) (rEqD X.K true) := by
  intro pins s σ H x y v u Q I rx ry h
  obtain ⟨d, e, h1, h2, hk, hd, q⟩ := h
  have q : Q (.bl (!deq d e)) H := q
  rcases hk with ⟨ds, es, rfl, rfl⟩ | ⟨ds, es, rfl, rfl⟩
  · obtain ⟨a, xs, rfl, p, l⟩ := h1
    obtain ⟨b, ys, rfl, p', l'⟩ := h2
    cases rx
    cases ry
    obtain ⟨its, r, t, _⟩ := I.tuple p
    obtain ⟨its', r', t', _⟩ := I.tuple p'
    have hd : depL ds + 1 ≤ 50 := hd
    have l1 : its.length = ds.length := by rw [← r.length, l.length]
    have l2 : its'.length = es.length := by rw [← r'.length, l'.length]
    refine SeqAt.RcNeAt.tuples (e := fun j => (zipB ds es).getD j true) t t' (by omega) (fun j h1 h2 => ?_) X.prog X.w X.xe _ ⟨.bl (!deqL ds es), H, I, ?_, q⟩
    · have h1' : j < its.length := by simpa using h1
      have h2' : j < its'.length := by simpa using h2
      have := eqAts_D I ds es xs ys its its' X.A.in1 49 (by omega) (by show X.A.units + 1 + 49 < cLine; omega) l l' r r' j h1' h2'
      simpa using this
    · show Value.bool _ = Value.bool _
      rw [List.size_toArray, List.size_toArray, l1, l2, zipB_all]
  · obtain ⟨a, xs, rfl, p, l⟩ := h1
    obtain ⟨b, ys, rfl, p', l'⟩ := h2
    cases rx
    cases ry
    obtain ⟨its, r, t, _⟩ := I.list p
    obtain ⟨its', r', t', _⟩ := I.list p'
    have hd : depL ds + 1 ≤ 50 := hd
    have l1 : its.length = ds.length := by rw [← r.length, l.length]
    have l2 : its'.length = es.length := by rw [← r'.length, l'.length]
    by_cases hl : ds.length = es.length
    · refine SeqAt.RcNeAt.lists (e := fun j => (zipB ds es).getD j true) t.isList t'.isList (by rw [List.size_toArray, List.size_toArray, l1, l2, hl]) (by omega) (fun j h1 h2 => ?_) X.prog X.w X.xe _ ⟨.bl (!deqL ds es), H, I, ?_, q⟩
      · have h1' : j < its.length := by simpa using h1
        have h2' : j < its'.length := by simpa using h2
        have := eqAts_D I ds es xs ys its its' X.A.in1 49 (by omega) (by show X.A.units + 1 + 49 < cLine; omega) l l' r r' j h1' h2'
        simpa using this
      · show Value.bool _ = Value.bool _
        rw [List.size_toArray, l1, ← zipB_all ds es, ← hl, Nat.min_self, beq_self_eq_true, Bool.and_true]
    · refine SeqAt.RcNeAt.lists_lengths t.isList t'.isList (by rw [List.size_toArray, List.size_toArray, l1, l2]; simpa using hl) (by omega) X.prog X.w X.xe _ ⟨.bl (!deqL ds es), H, I, ?_, q⟩
      show Value.bool _ = Value.bool _
      rw [← zipB_all ds es, show (ds.length == es.length) = false by simpa using hl, Bool.and_false]
      rfl
end
end L2

namespace L2
open PySem PySem.Spec PyProof.Rows
theorem bt_len : bootBuiltins "len" = some (.builtin "len") := by decide +kernel
theorem bt_all : bootBuiltins "all" = some (.builtin "all") := by decide +kernel
theorem bt_isinstance : bootBuiltins "isinstance" = some (.builtin "isinstance") := by decide +kernel
theorem bt_tuple : bootBuiltins "tuple" = some (.type "tuple") := by decide +kernel
theorem bt_str : bootBuiltins "str" = some (.type "str") := by decide +kernel
theorem bt_int : bootBuiltins "int" = some (.type "int") := by decide +kernel
/-! ### a def by its name -/
structure Fn (P : Program) (w : World) (K : PySem.W.Frag) (mg : Str → Option Value) (base : Heap) (x : Str) (k : Nat) (sp : Sp) : Prop where
  ex : ∃ (f : Addr) (fd : FuncData) (ps : List Str), FnOk P w K mg base CX0 k f fd ps sp ∧ mg x = some (.ref f) ∧ PySem.W.keepIn K (.ref f) = true ∧ Binds K fd ps []
section
variable {X : Cx} {x : Str} {p pos : Pos} {e : Expr} {es : List Expr} {t : TA} {sp : Sp} {k : Nat}
theorem pe_fn (F : Fn X.prog X.w X.K X.mg X.base x k sp) (hr : Room k X.A) (hg : Gl X x) (ha : PA X (e :: es) t) (hdb : (x == ("__debug__" : Str)) = false := by decide)
    (he : starEach (e :: es) X.env = (false, eval e X.env) :: starEach es X.env := by rfl) (hpl : (backTo pos (starEach es X.env)).any (·.1) = false := by rfl) : PE X (.Call (.Name x p) (e :: es) [] pos) (tCall sp [] E0 t) := by
  obtain ⟨f, fd, ps, G, hm, hk, hb⟩ := F.ex
  exact pe_call G hr hg hm hk hb .nil pass0 ha hdb he hpl
end

/-- a constant of the module -/
def Cn (mg : Str → Option Value) (x : Str) (v : V) : Prop := ∃ u, mg x = some u ∧ RelV v u
theorem pe_cn {X : Cx} {x : Str} {v : V} {pos : Pos} (h : Cn X.mg x v) (hg : Gl X x) (hd : (x == ("__debug__" : Str)) = false := by decide) : PE X (.Name x pos) (tC v) := by
  obtain ⟨u, hm, r⟩ := h
  exact pe_glob hg hm r hd

/-! ### isinstance -/
theorem call_isi {X : Cx} : CallR X (.builtin "isinstance") (fun xs H Q => ∃ x c t b, (xs = [x, .ty c] ∧ TyOf X.K H x t ∧ PySem.W.kitOne X.K t (.type c) = some b) ∧ Q (.bl b) H) := by
  intro pins s σ H xs us Q I r h
  obtain ⟨x, c, t, b, ⟨rfl, ty, e⟩, q⟩ := h
  obtain ⟨u, v, rfl, ru, rv⟩ := vals2 r
  cases rv
  exact isinst_ok I ru ty e fun tk => ⟨.bl b, H, I.tok tk, rfl, q⟩
theorem kit_same {K : PySem.W.Frag} {t : String} : PySem.W.kitOne K (.type t) (.type t) = some true := by
  unfold PySem.W.kitOne
  rw [if_pos (by simp)]
/-! ### all of a list of truths -/
theorem call_all {X : Cx} (hc : X.calm = true) : CallR X (.builtin "all") (fun xs H Q => ∃ (a : Addr) (bs : List Bool), xs = [.ref a] ∧ SqL X.K H a (bs.map V.bl) ∧ Q (.bl (bs.all id)) H) := by
  intro pins s σ H xs us Q I r h
  obtain ⟨l, bs, rfl, hq, q⟩ := h
  obtain ⟨u, rfl, ru⟩ := vals1 r
  cases ru
  obtain ⟨its, rv, pl, hz⟩ := I.list hq
  have hl := pl.isList
  have hh : X.A.handled = none := I.ok.hd hc
  have hlt : l < s.heap.objs.size := by obtain ⟨_, e, _⟩ := hl; exact Heap.lt_size e
  have hlen : its.length = bs.length := by rw [← rv.length, List.length_map]
  refine call_all_walk (wpAny_pyIter_list hl ?_)
  refine ⟨s.heap.objs.size, [s.heap.objs.size, l], [s.heap.objs.size], its.toArray.size, _, _, fun i => (bs[i]?).getD true, rfl, Walks.list (A := X.A.in1) hh _ l (Nat.ne_of_lt hlt) its.toArray,
    ⟨⟨_, Heap.get?_push_size _ rfl, rfl, rfl⟩, hl.push _⟩, fun i v s' Q' E' hP hQ => ?_, fun h' tk hk => ?_⟩
  · have hv : its[i]? = some v := by simpa using hP
    have hi : i < bs.length := by rw [← hlen]; exact (List.getElem?_eq_some_iff.mp hv).1
    obtain ⟨u', e1, e2⟩ := rv.get (i := i) (x := V.bl bs[i]) (by simp [hi])
    rw [hv] at e1
    cases e1
    have e2 : v = Value.bool bs[i] := e2
    subst e2
    simp only [List.getElem?_eq_getElem hi, Option.getD_some] at hQ
    exact wpAny_truthy_bool hQ
  · have e : ((List.range its.toArray.size).all fun i => (bs[i]?).getD true) = bs.all id := by
      rw [List.size_toArray, hlen]; exact LSm.range_all bs
    rw [e]
    exact ⟨.bl _, H, I.kept fun b o e => LSm.kept_iter hk b o e, rfl, q⟩

/-! ### text.split(sep), sep.join(texts) -/
theorem vals_strs {xs : List Str} : ∀ {us : List Value}, Vals (xs.map V.str) us → StrsAre us xs := by
  induction xs with
  | nil => intro us h; cases h; exact .nil
  | cons x r ih =>
    intro us h
    cases h with
    | cons q t =>
      obtain ⟨t', rfl⟩ := q
      exact .cons _ _ (ih t)
def rJoin (K : PySem.W.Frag) : V → List V → Hp → VK → Prop := fun x vs H Q => ∃ y a zs, x = .str y ∧ vs = [.ref a] ∧ (SqL K H a (zs.map V.str) ∨ SqT K H a (zs.map V.str)) ∧ (zs.map (·.length)).sum + zs.length * y.length ≤ 16777216 ∧ Q (.str (Str.join y zs)) H
theorem mt_join {X : Cx} : MtR X "str.join" (rJoin X.K) := by
  intro pins s σ H x vs v us Q I rx rv h
  obtain ⟨y, a, zs, rfl, rfl, hq, hz, q⟩ := h
  obtain ⟨t, rfl⟩ := rx
  obtain ⟨u, rfl, ru⟩ := rv.one
  cases ru
  have e : Txt.join y zs = Str.join y zs := StrLaws.glued_eq_join y zs
  rcases hq with hq | hq
  · obtain ⟨its, r, pl, _⟩ := I.list hq
    refine join_list pl.isList (by simpa using vals_strs r) hz fun t' k => ⟨.str (Str.join y zs), H, I.tok k, ⟨t', by rw [e]⟩, q⟩
  · obtain ⟨its, r, pl, _⟩ := I.tuple hq
    refine join_tuple pl (by simpa using vals_strs r) hz fun t' k => ⟨.str (Str.join y zs), H, I.tok k, ⟨t', by rw [e]⟩, q⟩

/-! ### walking the signs of a text -/
def Its (x : Str) : It := ⟨fun i _ => i < x.cps.size, fun i H v H' => H' = H ∧ ∃ c, x.cps.toList[i]? = some c ∧ v = .str ⟨#[c]⟩, fun i _ => i = x.cps.size⟩
theorem strIter_ok (x : Str) : ["enumerate", "zip", "dict_itemiterator", "dict_reverseitemiterator", "odict_iterator", "itertools.zip_longest", "itertools.pairwise"].contains (strIterType x) = false := by
  unfold strIterType
  split <;> decide
theorem walks_str {prog : Program} {w : World} {A : Around} (hh : A.handled = none) (I : Addr) (x : Str) (t : Tok) : Walks prog w A I [I] [I] x.cps.size (SignAt x) (fun i h => h.IsStrIter I (strIterType x) x t i) := by
  unfold strIterType
  split
  · exact Walks.strAscii hh I x t
  · exact Walks.strWide hh I x t
theorem self_str {prog : Program} {w : World} {A : Around} {I : Addr} {x : Str} {t : Tok} {i : Nat} {s : Shared} {Q : Value → Shared → Prop} {E : Value → Shared → Prop} (h : s.heap.IsStrIter I (strIterType x) x t i) (q : Q (.ref I) s) : wpAny (model prog w) A (pyIter (.ref I)) Q E s := by
  unfold strIterType at h
  split at h
  · exact wpAny_pyIter_striter_ascii h q
  · exact wpAny_pyIter_striter_wide h q
theorem turn_str {P : Program} {w : World} {K : PySem.W.Frag} {tg : Expr} (x : Str) (t : Tok) (it : Addr) : Turn P w K tg (Its x) [it] it (fun i h => h.IsStrIter it (strIterType x) x t i) where
  mem := by simp
  obj := fun i h st b hb => by
    have e : b = it := by simpa using hb
    subst e
    obtain ⟨o, e, c, d⟩ := st
    exact ⟨o, e, fun v z => by rw [d] at z; cases z⟩
  keep := fun i h h' st k => let ⟨o, ho, r⟩ := st; ⟨o, k it (by simp) o ho, r⟩
  item := by
    intro X hP hw hK hc i pins s σ H E I hf st hg
    subst hP hw hK
    obtain ⟨f0, f1, f2, f3, f4, f5⟩ := hf it (by simp)
    have W := walks_str (prog := X.prog) (w := X.w) (I.ok.hd hc) it x t
    refine W.item i s _ _ hg st fun v h' tk hv st' kk => ?_
    obtain ⟨c, u, hcu, rfl⟩ := hv
    have I1 : Inv X pins σ H { s with heap := h', toks := tk } := I.turned (fun b o hb e => kk b o (by simpa using hb) e) f0 f1 f3 f4 f5
    obtain ⟨o, e1, e2, e3⟩ := id st'
    refine ⟨_, rfl, go_of (s := { s with heap := h', toks := tk }) (n := strIterType x) e1 e2 e3 (strIter_ok x) ⟨.str ⟨#[c]⟩, H, I1, ⟨u, rfl⟩, ⟨rfl, c, by simpa using hcu, rfl⟩, st', fun b hb => (hf b hb).1⟩⟩
  done := by
    intro X hP hw hK hc i pins s σ H E I hf st hg
    subst hP hw hK
    obtain ⟨f0, f1, f2, f3, f4, f5⟩ := hf it (by simp)
    have hg : i = x.cps.size := hg
    subst hg
    have W := walks_str (prog := X.prog) (w := X.w) (I.ok.hd hc) it x t
    exact W.done s _ _ st fun h' tk kk => ⟨rfl, I.turned (fun b o hb e => kk b o (by simpa using hb) e) f0 f1 f3 f4 f5⟩
  self := fun _ _ _ _ _ st h => self_str st h
def iStr (tl : TE) : TI := fun σ H R => tl σ H fun x H1 => ∃ z, x = .str z ∧ R (Its z) H1
theorem pi_str {X : Cx} {tg l : Expr} {tl : TE} (hl : PE X l tl) : PI X tg l (iStr tl) := by
  intro pins s σ H R I h
  refine thn (hl pins s σ H _ I h) fun v s1 ⟨x, H1, I1, r1, q1⟩ => ?_
  obtain ⟨z, e, q⟩ := q1
  subst e
  obtain ⟨t, rfl⟩ := r1
  refine wpAny_pyIter_strU ?_
  refine ⟨s1.heap.objs.size, [s1.heap.objs.size], _, _, H1, rfl, I1.kept (t' := s1.toks) fun b o e => Heap.get?_push_of_some _ e, turn_str z t _, ⟨_, Heap.get?_push_size _ rfl, rfl, rfl⟩, fun b hb => ?_, q⟩
  have e : b = s1.heap.objs.size := by simpa using hb
  subst e
  exact I1.fpOk (Nat.le_refl _) I1.fresh

/-! ### what is walked, known from the start -/
structure SeqIt (J : It) (Ok : Hp → Prop) (vs : List V) : Prop where
  go : ∀ i H, Ok H → i < vs.length → J.go i H
  yld : ∀ i H x H', Ok H → i < vs.length → J.yld i H x H' → H' = H ∧ vs[i]? = some x
  stop : ∀ H, Ok H → J.stop vs.length H
theorem seq_str {x : Str} : SeqIt (Its x) (fun _ => True) (x.cps.toList.map fun c => V.str ⟨#[c]⟩) :=
  ⟨fun i H _ hi => (by simpa using hi : i < x.cps.size), fun i H v H' _ _ y => ⟨y.1, by
    obtain ⟨_, c, e1, e2⟩ := y
    rw [List.getElem?_map, e1, e2]
    all_goals rfl⟩, fun H _ => (by simp : (x.cps.toList.map fun c => V.str ⟨#[c]⟩).length = x.cps.size)⟩
/-- a comprehension that changes nothing: p the places kept, F what holds of each new item -/
theorem comp_pure {J : It} {Ok : Hp → Prop} {vs : List V} {js : List Nat} {tt : TT} {te : TE} {σ : St} {H1 : Hp} {Q : VK} (S : SeqIt J Ok vs) (hn : vs.length ≤ 10000) (p : Nat → Bool) (F : Addr → Nat → V → Hp → Prop) (hok : ∀ H, Same H1 H → Ok H)
    (mono : ∀ D i y H H', H1 D = none → (∃ o, H D = some (.lst o)) → (∀ b o, b ≠ D → H b = some o → H' b = some o) → F D i y H → F D i y H')
    (hs : ∀ D i x H (Z0 : Hp → Prop) (Z : V → Hp → Prop), H1 D = none → vs[i]? = some x → Same H1 H → (∃ o, H D = some (.lst o)) → (∀ H2, Same H H2 → p i = false → Z0 H2) → (∀ y H2, Same H H2 → p i = true → F D i y H2 → Z y H2) →
      tt (some x :: caps js σ) H fun b H2 => if b = true then te (some x :: caps js σ) H2 Z else Z0 H2)
    (hd : ∀ D ys H, H1 D = none → H D = some (.lst ys) → Same H1 H → Paired (fun i y => F D i y H) ((List.range vs.length).filter p) ys → Q (.ref D) H) : bComp js tt te σ J H1 Q := by
  intro D hD
  have hz : 10000 < sizeLine := by decide
  refine ⟨fun i m H => m = vs.length - i ∧ i ≤ vs.length ∧ ∃ ys, H D = some (.lst ys) ∧ Same H1 H ∧ Paired (fun i y => F D i y H) ((List.range i).filter p) ys, ⟨vs.length, by simp, Nat.zero_le _, [], upd_same, Same.upd hD, .nil⟩, ?_⟩
  rintro i m H ⟨rfl, hi, ys, hDs, sm, pr⟩
  have q := hok H sm
  by_cases hlt : i < vs.length
  · refine .inr ⟨S.go i H q hlt, fun x H' y => ?_⟩
    obtain ⟨e, yy⟩ := S.yld i H x H' q hlt y
    subst e
    have rng : List.range (i + 1) = List.range i ++ [i] := List.range_succ
    have ln : ys.length ≤ i := by
      have h1 := pr.length
      have h2 : ((List.range i).filter p).length ≤ (List.range i).length := List.length_filter_le _ _
      rw [List.length_range] at h2
      omega
    refine hs D i x H' _ _ hD yy sm ⟨ys, hDs⟩ (fun H2 s2 hp => ?_) (fun z H2 s2 hp hF => ?_)
    · refine ⟨vs.length - (i + 1), by omega, rfl, hlt, ys, s2 _ _ hDs, sm.trans s2, ?_⟩
      rw [rng, List.filter_append, List.filter_cons, if_neg (by rw [hp]; exact Bool.false_ne_true), List.filter_nil, List.append_nil]
      exact Paired.mapP pr fun j z f => mono D j z H' H2 hD ⟨ys, hDs⟩ (fun b o _ e => s2 b o e) f
    · refine ⟨ys, s2 _ _ hDs, by omega, vs.length - (i + 1), by omega, rfl, hlt, ys ++ [z], upd_same, (sm.trans s2).upd2 hD, ?_⟩
      have up : ∀ b o, b ≠ D → H2 b = some o → upd H2 D (.lst (ys ++ [z])) b = some o := fun b o hb e => by rw [upd_ne hb]; exact e
      rw [rng, List.filter_append, List.filter_cons, if_pos hp, List.filter_nil]
      refine Paired.snoc (Paired.mapP pr fun j z' f => ?_) (mono D i z H2 _ hD ⟨ys, s2 _ _ hDs⟩ up hF)
      exact mono D j z' H2 _ hD ⟨ys, s2 _ _ hDs⟩ up (mono D j z' H' H2 hD ⟨ys, hDs⟩ (fun b o _ e => s2 b o e) f)
  · have e : i = vs.length := by omega
    subst e
    exact .inl ⟨S.stop H q, hd D ys H hD hDs sm pr⟩
/-- .. without a test -/
theorem comp_map {J : It} {Ok : Hp → Prop} {vs : List V} {js : List Nat} {te : TE} {σ : St} {H1 : Hp} {Q : VK} (S : SeqIt J Ok vs) (hn : vs.length ≤ 10000) (F : Addr → Nat → V → Hp → Prop) (hok : ∀ H, Same H1 H → Ok H)
    (mono : ∀ D i y H H', H1 D = none → (∃ o, H D = some (.lst o)) → (∀ b o, b ≠ D → H b = some o → H' b = some o) → F D i y H → F D i y H')
    (hs : ∀ D i x H (Z : V → Hp → Prop), H1 D = none → vs[i]? = some x → Same H1 H → (∃ o, H D = some (.lst o)) → (∀ y H2, Same H H2 → F D i y H2 → Z y H2) → te (some x :: caps js σ) H Z)
    (hd : ∀ D ys H, H1 D = none → H D = some (.lst ys) → Same H1 H → Paired (fun i y => F D i y H) (List.range vs.length) ys → Q (.ref D) H) : bComp js tYes te σ J H1 Q := by
  refine comp_pure S hn (fun _ => true) F hok mono (fun D i x H Z0 Z h1 h2 h3 h4 _ k1 => iteT (B := Z0 H) (hs D i x H Z h1 h2 h3 h4 fun y H2 s f => k1 y H2 s rfl f)) fun D ys H h1 h2 h3 pr => hd D ys H h1 h2 h3 ?_
  rw [List.filter_eq_self.mpr (fun _ _ => rfl)] at pr
  exact pr
end L2

namespace L2
open PySem PySem.Spec PyProof.Rows
/-! ### enumerate over a list that stays -/
end L2
namespace L2
open PySem PySem.Spec PyProof.Rows
/-! ### x[lo:hi] of a text -/
def rSlS : V → Option Int → Option Int → Hp → VK → Prop := fun x lo hi H Q => ∃ z, x = .str z ∧ z.length ≤ sizeLine ∧ Q (.str (Txt.slice z lo hi)) H
theorem part_of {v : Value} {o : Option Int} (p : IsPart v o) : ∃ l : Option (Int × Tok), v = partValue l ∧ l.map (·.1) = o := by
  cases p with
  | none => exact ⟨none, rfl, rfl⟩
  | int i t => exact ⟨some (i, t), rfl, rfl⟩
theorem sl_str {X : Cx} : SlR X rSlS := by
  intro pins s σ H x v vl vu lo hi sl Q I rx hs pl pu h
  obtain ⟨z, rfl, hz, q⟩ := h
  obtain ⟨t, rfl⟩ := rx
  obtain ⟨l, rfl, rfl⟩ := part_of pl
  obtain ⟨u, rfl, rfl⟩ := part_of pu
  exact ⟨"str", _, F.slot_str_getitem.lookup, typeIs_str _ _ _, wpAny_getItem_str_slice (l := l) (u := u) (st := none) hs rfl
    (post_val_or_str ⟨Nat.le_trans (Txt.slice_le z _ _) hz, fun t' k => ⟨.str (Txt.slice z _ _), H, I.tok k, ⟨t', rfl⟩, q⟩⟩)⟩
end L2
namespace L2
open PySem PySem.Spec PyProof.Rows
/-- for i in range(n) -/
theorem for_range0 {n : Nat} {g : TG} {tb : TS} {D : Ends} {σ : St} {H : Hp} (Pv : Nat → St → Hp → Prop) (h0 : Pv 0 σ H)
    (hs : ∀ (i : Nat) σ H, i < n → Pv i σ H → g (.int (i : Int)) σ H fun σ2 H2 => tb { D with nx := Pv (i + 1), ct := Pv (i + 1), bk := D.nx } σ2 H2) (hd : ∀ σ H, Pv n σ H → D.nx σ H) :
    ∃ W : Nat → Nat → St → Hp → Prop, (∃ m, W 0 m σ H) ∧ ∀ i m σ H, W i m σ H →
      ((Itr 0 n).stop i H ∧ D.nx σ H) ∨ ((Itr 0 n).go i H ∧ ∃ N : St → Hp → Prop, (∀ σ' H', N σ' H' → ∃ m', m' < m ∧ W (i + 1) m' σ' H') ∧ ∀ x H', (Itr 0 n).yld i H x H' → g x σ H' fun σ2 H2 => tb { D with nx := N, ct := N, bk := D.nx } σ2 H2) :=
  for_range Pv h0 (fun i σ H hi p => by rw [Int.zero_add]; exact hs i σ H hi p) hd
theorem Paired.get {α β : Type} {R : α → β → Prop} : ∀ {l : List α} {m : List β} {i : Nat} {y : β}, Paired R l m → m[i]? = some y → ∃ x, l[i]? = some x ∧ R x y
  | _, _, _, _, .nil, e => by simp at e
  | _, _, 0, _, .cons r _, e => by simp at e; subst e; exact ⟨_, rfl, r⟩
  | _, _, i + 1, y, .cons _ t, e => by
    obtain ⟨x, h1, h2⟩ := Paired.get (i := i) (y := y) t (by simpa using e)
    exact ⟨x, by simpa using h1, h2⟩
end L2
namespace L2
open PySem PySem.Spec PyProof.Rows
/-! ### two ways that meet: I holds behind both -/
end L2

namespace L2
open PySem PySem.Spec PyProof.Rows
/-! ### reversed(t) of a tuple -/
def IsRv (h : Heap) (a l : Addr) (i : Int) : Prop := ∃ o, h.get? a = some o ∧ o.cls = .type "reversed" ∧ o.data = .fields #[.ref l, rawInt i]
theorem IsRv.typeIs {s : Shared} {a l : Addr} {i : Int} (x : IsRv s.heap a l i) : s.TypeIs (.ref a) "reversed" := let ⟨o, ho, hc, _⟩ := x; ⟨o, ho, hc⟩
theorem IsRv.at {h h' : Heap} {a l : Addr} {i : Int} (x : IsRv h a l i) (e : ∀ o, h.get? a = some o → h'.get? a = some o) : IsRv h' a l i := let ⟨o, ho, r⟩ := x; ⟨o, e _ ho, r⟩
section
variable {prog : Program} {w : World} {A : Around} {E : Value → Shared → Prop} {s : Shared}
end
/-! ### x[::-1] of a text -/
end L2

namespace L2
open PySem PySem.Spec PyProof.Rows
/-! ### what stands in the heap, looked up step by step -/
theorem szA {n : Nat} (h : n ≤ 10000) : n ≤ sizeLine := Nat.le_trans h (by decide)
theorem szB {n : Nat} (h : n ≤ 10000) : n < sizeLine := Nat.lt_of_le_of_lt h (by decide)
end L2

namespace L2
open PySem PySem.Spec PyProof.Rows
/-! ### a def with one default (a constant) -/
structure FunD (K : PySem.W.Frag) (x qual : Str) (st : Stmt) (f : Addr) (fd : FuncData) (d : Value) : Prop where
  ex : ∃ (oc : Value) (od : Option Addr) (T : Addr) (kV doc pm : Value) (an : Option Addr) (cdv ct : Value) (osl : Array (Option Value)),
    fd = PySem.W.fnOf x qual (defArgs st) (defBody st) (defScope st) (.ref T) kV doc pm an cdv ct ∧ K.lookup f = some ⟨oc, od, .func fd, osl⟩ ∧ PySem.W.codeIn K cdv qual = true ∧
    ∃ (od' : Option Addr) (n : Nat) (sl' : Array (Option Value)), K.lookup T = some ⟨.type "tuple", od', .seq #[d] n, sl'⟩
  kp : PySem.W.keepIn K (.ref f) = true
section
variable {P : Program} {w : World} {K : PySem.W.Frag} {mg : Str → Option Value} {base : Heap}
theorem FunD.ok {x qual : Str} {st : Stmt} {f : Addr} {fd : FuncData} {d : Value} {N ps : List Str} {k : Nat} {sp : Sp} (F : FunD K x qual st f fd d) (S : FnScope N ps (defScope st)) (len : ∀ vs H Q E, sp vs H Q E → vs.length = ps.length)
    (hbody : ∀ (cdv : Value) (A : Around) (outer : List Env) (s : Shared) (H : Hp) (vs : List V) (Q : VK) (E : XK), Room k (A.deeper (envOfC qual (defScope st) s.heap.objs.size f cdv)) → sp vs H Q E →
      ∃ t, PSs (cxOf CX0 P w K mg base N qual (defScope st) f cdv A outer s H E).nox (defBody st) t ∧ t { nx := fun _ H' => Q .non H', rt := Q } (start N vs) H) : FnOk P w K mg base CX0 (k + 1) f fd ps sp := by
  obtain ⟨oc, od, T, kV, doc, pm, an, cdv, ct, osl, rfl, lk, hcd, _⟩ := F.ex
  refine fn_of lk hcd S len fun A outer s H vs Q E hr hsp => ?_
  obtain ⟨t, h, q⟩ := hbody cdv A outer s H vs Q E hr hsp
  exact ⟨t, h.nox, q⟩
/-- how its arguments bind; n of them are given -/
theorem FunD.binds {x qual : Str} {st : Stmt} {f : Addr} {fd : FuncData} {d : Value} {ps : List Str} {ds : List Value} (F : FunD K x qual st f fd d)
    (h : ∀ (T : Addr) (kV doc pm : Value) (an : Option Addr) (cdv ct : Value) (s : Shared) (us : List Value) (od' : Option Addr) (n : Nat) (sl' : Array (Option Value)), s.heap.get? T = some ⟨.type "tuple", od', .seq #[d] n, sl'⟩ → (us ++ ds).length = ps.length →
      BindsTo s (PySem.W.fnOf x qual (defArgs st) (defBody st) (defScope st) (.ref T) kV doc pm an cdv ct) ⟨us, []⟩ (ps.zip (us ++ ds))) : Binds K fd ps ds := by
  obtain ⟨oc, od, T, kV, doc, pm, an, cdv, ct, osl, rfl, lk, hcd, od', n, sl', hT⟩ := F.ex
  intro s us KX hl
  exact h T kV doc pm an cdv ct s us od' n sl' (KX _ _ hT) hl
/-! ### a method by its name, a class by its name -/
structure Mt (P : Program) (w : World) (K : PySem.W.Frag) (mg : Str → Option Value) (base : Heap) (C : Addr) (m : Str) (k : Nat) (sp : Sp) (dvs : List V) : Prop where
  cl : Cls K C
  ex : ∃ (f : Addr) (fd : FuncData) (ps : List Str) (ds : List Value), Meth K C m f ∧ FnOk P w K mg base CX0 k f fd ps sp ∧ Binds K fd ps ds ∧ Vals dvs ds
structure Nw (P : Program) (w : World) (K : PySem.W.Frag) (mg : Str → Option Value) (base : Heap) (x : Str) (C : Addr) (k : Nat) (sp : Sp) : Prop where
  ex : ∃ (f : Addr) (fd : FuncData) (ps : List Str), Mk K C f ∧ FnOk P w K mg base CX0 k f fd ps sp ∧ Binds K fd ps [] ∧ mg x = some (.ref C)
end
section
variable {X : Cx} {C : Addr} {x m : Str} {p pos apos : Pos} {e o : Expr} {es : List Expr} {t : TA} {ta : TE} {sp : Sp} {k : Nat} {dvs : List V} {pl : Sem Bool}
theorem pe_mt (M : Mt X.prog X.w X.K X.mg X.base C m k sp dvs) (hr : Room k X.A) (he : PE X o ta) (ha : PA X (e :: es) t)
    (hst : starEach (e :: es) X.env = (false, eval e X.env) :: starEach es X.env := by rfl) (hpl : (backTo pos (starEach es X.env)).any (·.1) = false := by rfl)
    (ht : eval (.Call (.Attribute o m apos) (e :: es) [] pos) X.env = (do
      let ov ← eval o X.env
      standAt apos.atName
      let (f, first) ← holding [ov] (getMethod ov m pl)
      callWith pos f first (backTo pos (starEach (e :: es) X.env)) (backToKw pos (keywordEach [] X.env))) := by rfl) : PE X (.Call (.Attribute o m apos) (e :: es) [] pos) (tMeth C m sp dvs E0 ta t) := by
  obtain ⟨f, fd, ps, ds, hm, G, hb, hd⟩ := M.ex
  exact pe_meth he M.cl hm G hr hb hd pass0 ha hst hpl ht
theorem pe_mt0 (M : Mt X.prog X.w X.K X.mg X.base C m k sp dvs) (hr : Room k X.A) (he : PE X o ta)
    (ht : eval (.Call (.Attribute o m apos) [] [] pos) X.env = (do
      let ov ← eval o X.env
      standAt apos.atName
      let (f, first) ← holding [ov] (getMethod ov m pl)
      callWith pos f first (backTo pos (starEach [] X.env)) (backToKw pos (keywordEach [] X.env))) := by rfl) : PE X (.Call (.Attribute o m apos) [] [] pos) (tMeth C m sp dvs E0 ta tNil) := by
  obtain ⟨f, fd, ps, ds, hm, G, hb, hd⟩ := M.ex
  exact pe_meth0 he M.cl hm G hr hb hd pass0 ht
end
/-! ### x is not False -/
section
variable {X : Cx} {a : Expr} {ta : TE} {pos : Pos}
end
/-! ### within a comprehension: the module's objects told by name -/
section
variable {X : Cx} {K : PySem.W.Frag} {o e : Expr} {es : List Expr} {to : TE} {t : TA} {name : Str} {apos cpos pos : Pos} {T id : String}
end
end L2

namespace L2
open PySem PySem.Spec PyProof.Rows
/-! ### a dict of the module, with texts for keys, that is only read -/
structure GD (K : PySem.W.Frag) (w : World) (mg : Str → Option Value) (x : Str) (kvs : List (Key × V)) : Prop where
  ex : ∃ (a : Addr) (vs : List (Key × Value)), mg x = some (.ref a) ∧ (a == sysModules) = false ∧ KV kvs vs ∧ ∀ (P : Program) (h : Heap), K.In h → h.DictOf (mixKind P w) a vs
def entG (w : World) (q : Str × Tok × Addr) : DictEntry := ⟨hashStr w q.1, .str q.1 q.2.1, .ref q.2.2⟩
theorem gd_of {K : PySem.W.Frag} {w : World} {mg : Str → Option Value} {x : Str} {a : Addr} {n : Nat} (l : List (Str × Tok × Addr)) (hm : mg x = some (.ref a)) (ha : (a == sysModules) = false)
    (lk : K.lookup a = some { cls := .type "dict", data := .dict (l.map (entG w)).toArray n }) (nd : (l.map fun q => (Sum.inr q.1 : Key)).Nodup) : GD K w mg x (l.map fun q => (Sum.inr q.1, .ref q.2.2)) := by
  refine ⟨a, l.map fun q => (Sum.inr q.1, .ref q.2.2), hm, ha, ?_, fun P h X => ⟨_, _, _, X _ _ lk, ⟨rfl, rfl, rfl⟩, rfl, ?_, ?_, ?_⟩⟩
  · clear lk nd
    induction l with
    | nil => exact .nil
    | cons q r ih => exact .cons ⟨rfl, rfl⟩ ih
  · intro e he
    have he : e ∈ l.map (entG w) := by simpa using he
    obtain ⟨q, _, rfl⟩ := List.mem_map.mp he
    exact ⟨Sum.inr q.1, (kV_is (P := P) (w := w) (k := Sum.inr q.1) (u := .str q.1 q.2.1) ⟨_, rfl⟩), rfl⟩
  · show Pairs (mixKind P w) (l.map (entG w)) (l.map fun q => ((Sum.inr q.1 : Key), Value.ref q.2.2))
    clear lk nd
    induction l with
    | nil => exact .nil
    | cons q r ih => exact .cons (kV_is (P := P) (w := w) (k := Sum.inr q.1) (u := .str q.1 q.2.1) ⟨_, rfl⟩) rfl ih
  · rw [List.map_map]
    exact nd
section
variable {X : Cx} {x : Str} {pos pos' : Pos} {i : Expr} {ty : TE} {kvs : List (Key × V)}
/-- D[y], D a dict of the module -/
def tGGet (kvs : List (Key × V)) (ty : TE) : TE := fun σ H Q => ty σ H fun y H1 => ∃ k v, y = kV k ∧ valV kvs k = some v ∧ Q v H1
def tGIn (kvs : List (Key × V)) (ty : TE) : TE := fun σ H Q => ty σ H fun y H1 => ∃ k, y = kV k ∧ Q (.bl (valV kvs k).isSome) H1
theorem pe_gget (G : GD X.K X.w X.mg x kvs) (hg : Gl X x) (hi : PE X i ty) (hs : NoSl i) (hd : (x == ("__debug__" : Str)) = false := by decide) : PE X (.Subscript (.Name x pos') i pos) (tGGet kvs ty) := by
  intro pins s σ H Q I h
  obtain ⟨a, vs, hm, ha, rel, dd⟩ := G.ex
  refine subD_of PySem.F.slot_dict_getitem.lookup hs (thn (pe_glob (v := .ref a) hg hm rfl hd pins s σ H (fun x H1 => x = .ref a ∧ ty σ H1 fun y H2 => ∃ k v, y = kV k ∧ valV kvs k = some v ∧ Q v H2) I ⟨rfl, h⟩) fun u s1 ⟨x, H1, I1, rx, ex, q1⟩ => thn (hi pins s1 σ H1 _ I1 q1) fun iv s2 ⟨y, H2, I2, ry, k, v, ey, l, q2⟩ => ?_)
  subst ex ey
  obtain rfl : u = Value.ref a := rx
  have d2 := dd X.prog s2.heap I2.kIn
  obtain ⟨w', hw, rw'⟩ := RelO.some_of (v := v) (o := valueAt vs k) (by rw [← l]; exact rel.val k)
  exact ⟨d2.typeIs, wpAny_getItem_of (kV_is ry) d2.mapOf hw ⟨v, H2, I2.tok _, rw', q2⟩⟩
theorem pc_gin (G : GD X.K X.w X.mg x kvs) (hg : Gl X x) (hi : PE X i ty) (hd : (x == ("__debug__" : Str)) = false := by decide) : PC X .In i (.Name x pos') (tGIn kvs ty) := by
  intro pins s σ H Q I h
  obtain ⟨a, vs, hm, ha, rel, dd⟩ := G.ex
  refine thn (hi pins s σ H _ I h) fun iv s1 ⟨y, H1, I1, ry, k, ey, q1⟩ => thn (pe_glob (v := .ref a) hg hm rfl hd pins s1 σ H1 (fun x H2 => x = .ref a ∧ Q (.bl (valV kvs k).isSome) H2) I1 ⟨rfl, q1⟩) fun u s2 ⟨x, H2, I2, rx, ex, q2⟩ => ?_
  subst ex ey
  obtain rfl : u = Value.ref a := rx
  have d2 := dd X.prog s2.heap I2.kIn
  refine wpAny_in_of (kV_is ry) ha d2.mapOf ⟨.bl (valV kvs k).isSome, H2, I2.tok _, ?_, q2⟩
  rw [← (rel.val k).isSome_eq]
  rfl
/-! ### str(text or int), int(text of a number) -/
theorem call_strP : CallR X (.type "str") (fun xs H Q => (∃ y, xs = [.str y] ∧ Q (.str y) H) ∨ ∃ i, xs = [.int i] ∧ i.natAbs.log2 < 1920 ∧ Q (.str (toString i)) H) := by
  intro pins s σ H xs us Q I r h
  rcases h with ⟨y, rfl, q⟩ | ⟨i, rfl, hi, q⟩
  · obtain ⟨u, rfl, t, rfl⟩ := vals1 r
    exact P.str_of_str ⟨.str y, H, I, ⟨_, rfl⟩, q⟩
  · obtain ⟨u, rfl, t, rfl⟩ := vals1 r
    exact P.str_of_int hi ⟨.str (toString i), H, I.tok _, ⟨_, rfl⟩, q⟩
theorem call_intT : CallR X (.type "int") (fun xs H Q => ∃ n : Int, xs = [.str (Str.ofString (toString n))] ∧ 0 ≤ n ∧ n < 10 ^ 10 ∧ Q (.int n) H) := by
  intro pins s σ H xs us Q I r h
  obtain ⟨n, rfl, h0, h1, q⟩ := h
  obtain ⟨u, rfl, t, rfl⟩ := vals1 r
  exact PySem.W.KIN.call_num h0 h1 ⟨.int n, H, I.tok _, ⟨_, rfl⟩, q⟩
end
/-! ### an object made with arguments -/
theorem pe_nw {X : Cx} {C : Addr} {x : Str} {p pos : Pos} {e : Expr} {es : List Expr} {t : TA} {sp : Sp} {k : Nat} (N : Nw X.prog X.w X.K X.mg X.base x C k sp) (hr : Room (k + 1) X.A) (hg : Gl X x) (ha : PA X (e :: es) t) (hdb : (x == ("__debug__" : Str)) = false := by decide)
    (he : starEach (e :: es) X.env = (false, eval e X.env) :: starEach es X.env := by rfl) (hpl : (backTo pos (starEach es X.env)).any (·.1) = false := by rfl) : PE X (.Call (.Name x p) (e :: es) [] pos) (tMake C sp [] E0 t) := by
  obtain ⟨f, fd, ps, M, G, hb, hm⟩ := N.ex
  exact pe_make M G hr hg hm hb .nil pass0 ha hdb he hpl
/-! ### f"{e}s{f}t" -/
section
variable {X : Cx} {pos p1 p2 p3 p4 : Pos} {e f : Expr} {te tf : TE} {x y : Str} {k1 k2 : Nat}
def fm2 (a x b y : Str) : Str := (((Str.empty ++ a) ++ x) ++ b) ++ y
def tFm2 (te tf : TE) (x y : Str) : TE := fun σ H Q => te σ H fun u H1 => ∃ a, u = .str a ∧ a.length ≤ 1000 ∧ x.length ≤ 1000 ∧ tf σ H1 fun v H2 => ∃ b, v = .str b ∧ b.length ≤ 1000 ∧ y.length ≤ 1000 ∧ Q (.str (fm2 a x b y)) H2
theorem ln_app (a b : Str) : (a ++ b).length = a.length + b.length := by
  show (a.cps ++ b.cps).size = _
  rw [Array.size_append]
  rfl
theorem sl4 {n : Nat} (h : n ≤ 4000) : n ≤ sizeLine := Nat.le_trans h (by decide)
theorem pe_fmt2 (he : PE X e te) (hf : PE X f tf) (hc1 : PE X (.Constant (.str x) k1 p2) (tC (.str x))) (hc2 : PE X (.Constant (.str y) k2 p4) (tC (.str y))) :
    PE X (.JoinedStr [.FormattedValue e (-1) none p1, .Constant (.str x) k1 p2, .FormattedValue f (-1) none p3, .Constant (.str y) k2 p4] pos) (tFm2 te tf x y) := by
  intro pins s σ H Q I h
  have e0 : ∀ a : Str, (Str.empty ++ a).length = a.length := fun a => by rw [ln_app]; exact Nat.zero_add _
  refine JoinedStr_many (joinParts_cons (FormattedValue_plain (thn (he pins s σ H _ I h) fun u s1 ⟨v, H1, I1, r1, a, ea, ha, hx, q1⟩ => ?_)))
  subst ea
  obtain ⟨t, rfl⟩ := r1
  refine formatField_str (fun t' tk => ⟨sl4 (by rw [e0]; omega), ?_⟩) (sl4 (by omega))
  refine joinParts_cons (thn (hc1 pins _ σ H1 (fun v H2 => v = .str x ∧ H2 = H1) (I1.tok tk) ⟨rfl, rfl⟩) fun u s2 ⟨v, H2, I2, r2, ev, eh⟩ => ?_)
  subst ev eh
  obtain ⟨t2, rfl⟩ := r2
  refine ⟨sl4 (by rw [ln_app, e0]; omega), joinParts_cons (FormattedValue_plain (thn (hf pins s2 σ H2 _ I2 q1) fun u s3 ⟨v, H3, I3, r3, b, eb, hb, hy, q3⟩ => ?_))⟩
  subst eb
  obtain ⟨t3, rfl⟩ := r3
  refine formatField_str (fun t' tk => ⟨sl4 (by rw [ln_app, ln_app, e0]; omega), ?_⟩) (sl4 (by omega))
  refine joinParts_cons (thn (hc2 pins _ σ H3 (fun v H4 => v = .str y ∧ H4 = H3) (I3.tok tk) ⟨rfl, rfl⟩) fun u s4 ⟨v, H4, I4, r4, ev, eh⟩ => ?_)
  subst ev eh
  obtain ⟨t4, rfl⟩ := r4
  exact ⟨sl4 (by rw [ln_app, ln_app, ln_app, e0]; omega), joinParts_nil ⟨.str (fm2 a x b y), H4, I4.tok _, ⟨_, rfl⟩, q3⟩ (sl4 (by rw [ln_app, ln_app, ln_app, e0]; omega))⟩
end
end L2

namespace L2
open PySem PySem.Spec PyProof.Rows
/-! ### zip of two that are drawn from -/
structure Zap (z ti to i j : Addr) (f g : List Addr) : Prop where
  a1 : ti ≠ z
  a2 : to ≠ z
  a3 : i ≠ z
  a4 : j ≠ z
  a6 : to ≠ i
  a7 : to ≠ j
  a8 : i ≠ j
  b1 : z ∉ f
  b2 : to ∉ f
  b3 : j ∉ f
  c1 : z ∉ g
  c2 : to ∉ g
  c3 : i ∉ g
section
variable {prog : Program} {w : World} {A : Around} {E : Value → Shared → Prop} {s : Shared} {z ti to i j : Addr} {f g : List Addr} {n m k : Nat} {P R : Nat → Value → Prop} {S T : Nat → Heap → Prop} {a b : Value}
theorem mv {h h' : Heap} {U : Nat → Heap → Prop} {l : List Addr} {y : Addr} {q : Nat} (fr : ∀ i h h', U i h → (∀ b ∈ l, ∀ o, h.get? b = some o → h'.get? b = some o) → U i h') (hy : y ∉ l) (hs : Heap.SameBut y h h') (u : U q h) : U q h' :=
  fr q h h' u fun b hb o e => hs.extBut b o (fun x => hy (x ▸ hb)) e
theorem zw_item {Q : Value → Shared → Prop} (D1 : Draws prog w A i f n P S) (D2 : Draws prog w A j g m R T) (Z : Zap z ti to i j f g) (hz : IsZip s.heap z ti to .none) (ht : IsPair s.heap ti (.ref i) (.ref j)) (ho : IsPair s.heap to a b)
    (s1 : S k s.heap) (s2 : T k s.heap) (l1 : k < n) (l2 : k < m)
    (fin : ∀ h' tk x y, P k x → R k y → IsZip h' z ti to (rawInt s.heap.objs.size) → IsPair h' to x y → S (k + 1) h' → T (k + 1) h' → IsPair h' s.heap.objs.size x y → h'.objs.size = s.heap.objs.size + 1 →
      (∀ c o, c ≠ z → c ≠ to → c ≠ i → c ≠ j → s.heap.get? c = some o → h'.get? c = some o) → Q (.ref s.heap.objs.size) { s with heap := h', toks := tk }) :
    wpAny (model prog w) A (Builtin.«zip.__next__» ⟨[.ref z], []⟩) (fun r s' => ∃ v, r = .done (.ret v) ∧ Q v s') E s := by
  show wpAny _ _ (field (Value.ref z) 2 >>= _) _ _ s
  refine wpAny_bind (wpAny_field (i := 2) hz rfl (x := .bool false) rfl ?_)
  show wpAny _ _ (field (Value.ref z) 3 >>= _) _ _ s
  refine wpAny_bind (wpAny_field (i := 3) hz rfl (x := .ref ti) rfl (wpAny_bind (wpAny_seqItems ht rfl ?_)))
  show wpAny _ _ (Builtin.SmallTypes.ownedTupleIsFree (Value.ref z) >>= _) _ _ s
  refine wpAny_bind ?_
  unfold Builtin.SmallTypes.ownedTupleIsFree
  refine wpAny_bind (wpAny_field (i := 0) hz rfl (x := .none) rfl (wpAny_pure ?_))
  simp only [if_true]
  refine wpAny_bind (wpAny_rule (wpAny_bind (wpAny_field (i := 4) hz rfl (x := .ref to) rfl (wpAny_bind (wpAny_setField_rec hz (by simp) fun g1 y1 u1 => ?_)))))
  have y1 : IsZip g1 z ti to .ellipsis := y1
  refine wpAny_bind ?_
  simp only [List.zipIdx_cons, List.zipIdx_nil, List.forIn_cons, List.forIn_nil]
  -- the first
  refine wpAny_bind (wpAny_bind (wpAny_onRaise ?_))
  show wpAny _ _ (Builtin.SmallTypes.nextOf (Value.ref i) >>= _) _ _ _
  refine wpAny_bind (D1.item k { s with heap := g1 } _ _ l1 (mv D1.frame Z.b1 u1 s1) fun x g2 tk2 px s1' u2 => wpAny_pure ?_)
  have o2 : IsPair g2 to a b := u2.extBut _ _ Z.a6 (u1.extBut _ _ Z.a2 ho)
  refine wpAny_bind (wpAny_seqItems o2 rfl (wpAny_bind (wpAny_updateSeq_pair (s := { s with heap := g2, toks := tk2 }) o2 fun g3 o3 u3 => ?_)))
  have o3 : IsPair g3 to x b := o3
  refine wpAny_bind (wpAny_letGo (wpAny_pure ?_))
  -- the second
  refine wpAny_bind (wpAny_bind (wpAny_onRaise ?_))
  show wpAny _ _ (Builtin.SmallTypes.nextOf (Value.ref j) >>= _) _ _ _
  refine wpAny_bind (D2.item k { s with heap := g3, toks := tk2 } _ _ l2 (mv D2.frame Z.c2 u3 (mv D2.frame Z.c3 u2 (mv D2.frame Z.c1 u1 s2))) fun y g4 tk4 py s2' u4 => wpAny_pure ?_)
  have o4 : IsPair g4 to x b := u4.extBut _ _ Z.a7 o3
  refine wpAny_bind (wpAny_seqItems o4 rfl (wpAny_bind (wpAny_updateSeq_pair (s := { s with heap := g4, toks := tk4 }) o4 fun g5 o5 u5 => ?_)))
  have o5 : IsPair g5 to x y := o5
  refine wpAny_bind (wpAny_letGo (wpAny_pure (wpAny_pure ?_)))
  -- both
  refine wpAny_bind (wpAny_seqItems o5 rfl (wpAny_bind (wpAny_newTuple ?_)))
  have sz : g5.objs.size = s.heap.objs.size := by rw [u5.1, u4.1, u3.1, u2.1, u1.1]
  have y5 : IsZip g5 z ti to .ellipsis := u5.extBut _ _ (Ne.symm Z.a2) (u4.extBut _ _ (Ne.symm Z.a4) (u3.extBut _ _ (Ne.symm Z.a2) (u2.extBut _ _ (Ne.symm Z.a3) y1)))
  have zl : z < g5.objs.size := Heap.lt_size y5
  have kp : ∀ c o, c ≠ z → c ≠ to → c ≠ i → c ≠ j → s.heap.get? c = some o → g5.get? c = some o := fun c o d1 d2 d3 d4 q =>
    u5.extBut _ _ d2 (u4.extBut _ _ d4 (u3.extBut _ _ d2 (u2.extBut _ _ d3 (u1.extBut _ _ d1 q))))
  have r1 : S (k + 1) g5 := mv D1.frame Z.b2 u5 (mv D1.frame Z.b3 u4 (mv D1.frame Z.b2 u3 s1'))
  have r2 : T (k + 1) g5 := mv D2.frame Z.c2 u5 s2'
  show wpAny _ _ (Builtin.SmallTypes.ownedTupleHandOut (Value.ref z) (.ref g5.objs.size) >>= _) _ _ _
  refine wpAny_bind ?_
  unfold Builtin.SmallTypes.ownedTupleHandOut
  have y6 : IsZip (g5.push { cls := .type "tuple", data := .seq #[x, y] }) z ti to .ellipsis := Heap.get?_push_of_some _ y5
  refine wpAny_bind (wpAny_setField_rec (s := { s with heap := g5.push { cls := .type "tuple", data := .seq #[x, y] }, toks := tk4 }) y6 (by simp) fun g7 y7 u7 => ?_)
  have y7 : IsZip g7 z ti to (rawInt g5.objs.size) := y7
  refine wpAny_setField_rec (s := { s with heap := g7, toks := tk4 }) y7 (by simp) fun g8 y8 u8 => ?_
  have y8 : IsZip g8 z ti to (rawInt g5.objs.size) := y8
  have up : ∀ c o, c ≠ z → g5.get? c = some o → g8.get? c = some o := fun c o d q => u8.extBut _ _ d (u7.extBut _ _ d (Heap.get?_push_of_some _ q))
  have t8 : IsPair g8 g5.objs.size x y := u8.extBut _ _ (Nat.ne_of_gt zl) (u7.extBut _ _ (Nat.ne_of_gt zl) (Heap.get?_push_size _ rfl))
  have z8 : g8.objs.size = g5.objs.size + 1 := by rw [u8.1, u7.1, Heap.size_push]
  have w1 : S (k + 1) g8 := D1.frame _ g5 g8 r1 fun c hc o q => up c o (fun v => Z.b1 (v ▸ hc)) q
  have w2 : T (k + 1) g8 := D2.frame _ g5 g8 r2 fun c hc o q => up c o (fun v => Z.c1 (v ▸ hc)) q
  refine wpAny_pure ⟨_, rfl, ?_⟩
  show Q (.ref g5.objs.size) { s with heap := g8, toks := tk4 }
  rw [sz] at y8 t8 z8 ⊢
  exact fin g8 tk4 x y px py y8 (up _ _ Z.a2 o5) w1 w2 t8 z8 fun c o d1 d2 d3 d4 q => up c o d1 (kp c o d1 d2 d3 d4 q)
theorem zw_end {Q : Fin → Shared → Prop} (D1 : Draws prog w A i f n P S) (D2 : Draws prog w A j g m R T) (Z : Zap z ti to i j f g) (hz : IsZip s.heap z ti to .none) (ht : IsPair s.heap ti (.ref i) (.ref j)) (ho : IsPair s.heap to a b)
    (s1 : S k s.heap) (s2 : T k s.heap) (l : k = n ∨ (k < n ∧ k = m))
    (fin : ∀ h' tk e, (∀ c o, c ≠ z → c ≠ to → c ≠ i → c ≠ j → s.heap.get? c = some o → h'.get? c = some o) → (∃ o, h'.get? e = some o ∧ o.cls = .type "StopIteration") → E (.ref e) { s with heap := h', toks := tk }) :
    wpAny (model prog w) A (Builtin.«zip.__next__» ⟨[.ref z], []⟩) Q E s := by
  show wpAny _ _ (field (Value.ref z) 2 >>= _) _ _ s
  refine wpAny_bind (wpAny_field (i := 2) hz rfl (x := .bool false) rfl ?_)
  show wpAny _ _ (field (Value.ref z) 3 >>= _) _ _ s
  refine wpAny_bind (wpAny_field (i := 3) hz rfl (x := .ref ti) rfl (wpAny_bind (wpAny_seqItems ht rfl ?_)))
  show wpAny _ _ (Builtin.SmallTypes.ownedTupleIsFree (Value.ref z) >>= _) _ _ s
  refine wpAny_bind ?_
  unfold Builtin.SmallTypes.ownedTupleIsFree
  refine wpAny_bind (wpAny_field (i := 0) hz rfl (x := .none) rfl (wpAny_pure ?_))
  simp only [if_true]
  refine wpAny_bind (wpAny_rule (wpAny_bind (wpAny_field (i := 4) hz rfl (x := .ref to) rfl (wpAny_bind (wpAny_setField_rec hz (by simp) fun g1 y1 u1 => ?_)))))
  have y1 : IsZip g1 z ti to .ellipsis := y1
  refine wpAny_bind ?_
  simp only [List.zipIdx_cons, List.zipIdx_nil, List.forIn_cons, List.forIn_nil]
  refine wpAny_bind (wpAny_bind (wpAny_onRaise ?_))
  show wpAny _ _ (Builtin.SmallTypes.nextOf (Value.ref i) >>= _) _ _ _
  rcases l with l | ⟨l, l'⟩
  · subst l
    refine wpAny_bind (D1.done { s with heap := g1 } _ _ (mv D1.frame Z.b1 u1 s1) fun g2 e u2 he => ?_)
    obtain ⟨oe, e1, e2⟩ := he
    have y2 : IsZip g2 z ti to .ellipsis := u2 _ _ (Ne.symm Z.a3) y1
    have ez : e ≠ z := fun v => by
      subst v
      rw [y2] at e1
      cases e1
      simp at e2
    refine wpAny_setField_rec (s := { s with heap := g2 }) y2 (by simp) fun g3 _ u3 => fin g3 s.toks e (fun c o d1 _ d3 _ q => u3.extBut _ _ d1 (u2 _ _ d3 (u1.extBut _ _ d1 q))) ⟨oe, u3.extBut _ _ ez e1, e2⟩
  · subst l'
    refine wpAny_bind (D1.item k { s with heap := g1 } _ _ l (mv D1.frame Z.b1 u1 s1) fun x g2 tk2 px s1' u2 => wpAny_pure ?_)
    have o2 : IsPair g2 to a b := u2.extBut _ _ Z.a6 (u1.extBut _ _ Z.a2 ho)
    refine wpAny_bind (wpAny_seqItems o2 rfl (wpAny_bind (wpAny_updateSeq_pair (s := { s with heap := g2, toks := tk2 }) o2 fun g3 o3 u3 => ?_)))
    refine wpAny_bind (wpAny_letGo (wpAny_pure ?_))
    refine wpAny_bind (wpAny_bind (wpAny_onRaise ?_))
    show wpAny _ _ (Builtin.SmallTypes.nextOf (Value.ref j) >>= _) _ _ _
    refine wpAny_bind (D2.done { s with heap := g3, toks := tk2 } _ _ (mv D2.frame Z.c2 u3 (mv D2.frame Z.c3 u2 (mv D2.frame Z.c1 u1 s2))) fun g4 e u4 he => ?_)
    obtain ⟨oe, e1, e2⟩ := he
    have y4 : IsZip g4 z ti to .ellipsis := u4 _ _ (Ne.symm Z.a4) (u3.extBut _ _ (Ne.symm Z.a2) (u2.extBut _ _ (Ne.symm Z.a3) y1))
    have ez : e ≠ z := fun v => by
      subst v
      rw [y4] at e1
      cases e1
      simp at e2
    refine wpAny_setField_rec (s := { s with heap := g4, toks := tk2 }) y4 (by simp) fun g5 _ u5 => fin g5 tk2 e (fun c o d1 d2 d3 d4 q => u5.extBut _ _ d1 (u4 _ _ d4 (u3.extBut _ _ d2 (u2.extBut _ _ d3 (u1.extBut _ _ d1 q))))) ⟨oe, u5.extBut _ _ ez e1, e2⟩
end
end L2

namespace L2
open PySem PySem.Spec PyProof.Rows
section
variable {prog : Program} {w : World} {A : Around} {E : Value → Shared → Prop} {s : Shared} {z ti to i j : Addr} {f g : List Addr} {n m k : Nat} {P R : Nat → Value → Prop} {S T : Nat → Heap → Prop} {a b : Value}
theorem zn_item {Q : Option Value → Shared → Prop} (D1 : Draws prog w A.in1 i f n P S) (D2 : Draws prog w A.in1 j g m R T) (Z : Zap z ti to i j f g) (hz : IsZip s.heap z ti to .none) (ht : IsPair s.heap ti (.ref i) (.ref j)) (ho : IsPair s.heap to a b)
    (s1 : S k s.heap) (s2 : T k s.heap) (l1 : k < n) (l2 : k < m)
    (fin : ∀ h' tk x y, P k x → R k y → IsZip h' z ti to (rawInt s.heap.objs.size) → IsPair h' to x y → S (k + 1) h' → T (k + 1) h' → IsPair h' s.heap.objs.size x y → h'.objs.size = s.heap.objs.size + 1 →
      (∀ c o, c ≠ z → c ≠ to → c ≠ i → c ≠ j → s.heap.get? c = some o → h'.get? c = some o) → Q (some (.ref s.heap.objs.size)) { s with heap := h', toks := tk }) :
    wpAny (model prog w) A (pyNext (.ref z)) Q E s := by
  have tz : s.TypeIs (.ref z) "zip" := ⟨_, hz, rfl⟩
  unfold pyNext
  refine wpAny_bind (wpAny_attempt (wpAny_callSpecial?_slot (name := Str.ofString "__next__") tz F.slot_zip_next (wpAny_call_entry F.slot_zip_next tz F.entry_zip_next
      (zw_item D1 D2 Z hz ht ho s1 s2 l1 l2 fun h' tk x y p1 p2 p3 p4 p5 p6 p7 p8 p9 => wpAny_pure (fin h' tk x y p1 p2 p3 p4 p5 p6 p7 p8 p9)) (F.args_zip_next_1 _))))
theorem zn_end {Q : Option Value → Shared → Prop} (D1 : Draws prog w A.in1 i f n P S) (D2 : Draws prog w A.in1 j g m R T) (Z : Zap z ti to i j f g) (hz : IsZip s.heap z ti to .none) (ht : IsPair s.heap ti (.ref i) (.ref j)) (ho : IsPair s.heap to a b)
    (s1 : S k s.heap) (s2 : T k s.heap) (l : k = n ∨ (k < n ∧ k = m))
    (fin : ∀ h' tk, (∀ c o, c ≠ z → c ≠ to → c ≠ i → c ≠ j → s.heap.get? c = some o → h'.get? c = some o) → Q none { s with heap := h', toks := tk }) : wpAny (model prog w) A (pyNext (.ref z)) Q E s := by
  have tz : s.TypeIs (.ref z) "zip" := ⟨_, hz, rfl⟩
  unfold pyNext
  refine wpAny_bind (wpAny_attempt (wpAny_callSpecial?_slot (name := Str.ofString "__next__") tz F.slot_zip_next (wpAny_call_entry F.slot_zip_next tz F.entry_zip_next (zw_end D1 D2 Z hz ht ho s1 s2 l fun h' tk e kp he => ?_) (F.args_zip_next_1 _))))
  obtain ⟨o, e1, e2⟩ := he
  exact wpAny_bind (wpAny_isInstance (T := "StopIteration") (b := true) ⟨o, e1, e2⟩ isSubtype_stop (wpAny_pure (fin h' tk kp)))
/-! ### zip(a, b) itself -/
abbrev zA (h : Heap) (o1 o2 : Obj) : Heap := (h.push o1).push o2
abbrev zB (h : Heap) (o1 o2 : Obj) : Heap := (zA h o1 o2).push { cls := .type "tuple", data := .seq #[.ref h.objs.size, .ref (h.push o1).objs.size] }
abbrev zC (h : Heap) (o1 o2 : Obj) : Heap := (zB h o1 o2).push { cls := .type "tuple", data := .seq #[.none, .none] }
abbrev zD (h : Heap) (o1 o2 : Obj) : Heap := (zC h o1 o2).push { cls := .type "zip", data := .fields #[.none, .bool false, .bool false, .ref (zA h o1 o2).objs.size, .ref (zB h o1 o2).objs.size] }
theorem zw_new {v1 v2 : Value} {o1 o2 : Obj} {K1 K2 : Shared → Prop} (h1 : ∀ (prog : Program) (w : World) (A : Around) (E : Value → Shared → Prop) (s : Shared) (Q : Value → Shared → Prop), K1 s → Q (.ref s.heap.objs.size) { s with heap := s.heap.push o1 } → wpAny (model prog w) A (pyIter v1) Q E s)
    (h2 : ∀ (prog : Program) (w : World) (A : Around) (E : Value → Shared → Prop) (s : Shared) (Q : Value → Shared → Prop), K2 s → Q (.ref s.heap.objs.size) { s with heap := s.heap.push o2 } → wpAny (model prog w) A (pyIter v2) Q E s) :
    Meets (Builtin.«zip.__new__» ⟨[.type "zip", v1, v2], []⟩) (fun _ R s => K1 s ∧ K2 { s with heap := s.heap.push o1 } ∧ R (.ok (.ret (.ref (zC s.heap o1 o2).objs.size))) { s with heap := zD s.heap o1 o2 }) :=
  .of_wp fun prog w A R s h => by
    obtain ⟨hp, gg, dd, tk, os⟩ := s
    obtain ⟨k1, k2, h⟩ := h
    have sz := sub_zip
    have i1 := fun (E : Value → Shared → Prop) (A : Around) (Q : Value → Shared → Prop) => h1 prog w A E ⟨hp, gg, dd, tk, os⟩ Q k1
    have i2 := fun (E : Value → Shared → Prop) (A : Around) (Q : Value → Shared → Prop) => h2 prog w A E ⟨hp.push o1, gg, dd, tk, os⟩ Q k2
    wp_walk using i1 _ _ _, i2 _ _ _
    exact ⟨_, rfl, h⟩
end
end L2

namespace L2
open PySem PySem.Spec PyProof.Rows
section
variable {prog : Program} {w : World} {A : Around} {E : Value → Shared → Prop} {s : Shared}
theorem zw_call {v1 v2 : Value} {o1 o2 : Obj} {K1 K2 : Shared → Prop} {Q : Value → Shared → Prop} (h1 : ∀ (prog : Program) (w : World) (A : Around) (E : Value → Shared → Prop) (s : Shared) (Q : Value → Shared → Prop), K1 s → Q (.ref s.heap.objs.size) { s with heap := s.heap.push o1 } → wpAny (model prog w) A (pyIter v1) Q E s)
    (h2 : ∀ (prog : Program) (w : World) (A : Around) (E : Value → Shared → Prop) (s : Shared) (Q : Value → Shared → Prop), K2 s → Q (.ref s.heap.objs.size) { s with heap := s.heap.push o2 } → wpAny (model prog w) A (pyIter v2) Q E s)
    (k1 : K1 s) (k2 : K2 { s with heap := s.heap.push o1 }) (ho1 : o1.isFreed = false) (ho2 : o2.isFreed = false)
    (fin : ∀ h', IsZip h' (s.heap.objs.size + 4) (s.heap.objs.size + 2) (s.heap.objs.size + 3) .none → IsPair h' (s.heap.objs.size + 2) (.ref s.heap.objs.size) (.ref (s.heap.objs.size + 1)) → IsPair h' (s.heap.objs.size + 3) .none .none →
      h'.get? s.heap.objs.size = some o1 → h'.get? (s.heap.objs.size + 1) = some o2 → (∀ c o, s.heap.get? c = some o → h'.get? c = some o) → Q (.ref (s.heap.objs.size + 4)) { s with heap := h' }) :
    wpAny (model prog w) A (call (.type "zip") [v1, v2]) Q E s := by
  refine callType_new F.called_zip (by decide) (F.typeCall_zip_2 _ _) (F.newCall_zip_2 _ _) (fun obj => F.args_object_init_3 obj _ _) F.entry_zip_new (zw_new h1 h2) ⟨k1, k2, ?_⟩
  have y1 : (s.heap.push o1).objs.size = s.heap.objs.size + 1 := Heap.size_push ..
  have y2 : (zA s.heap o1 o2).objs.size = s.heap.objs.size + 2 := by rw [Heap.size_push, y1]
  have y3 : (zB s.heap o1 o2).objs.size = s.heap.objs.size + 3 := by rw [Heap.size_push, y2]
  have y4 : (zC s.heap o1 o2).objs.size = s.heap.objs.size + 4 := by rw [Heap.size_push, y3]
  have e5 : (zD s.heap o1 o2).get? (zC s.heap o1 o2).objs.size = some _ := Heap.get?_push_size _ rfl
  have e4 : (zD s.heap o1 o2).get? (zB s.heap o1 o2).objs.size = some _ := Heap.get?_push_of_some _ (Heap.get?_push_size _ rfl)
  have up3 : ∀ {c o}, (zA s.heap o1 o2).get? c = some o → (zD s.heap o1 o2).get? c = some o := fun q => Heap.get?_push_of_some _ (Heap.get?_push_of_some _ (Heap.get?_push_of_some _ q))
  have e3 : (zD s.heap o1 o2).get? (zA s.heap o1 o2).objs.size = some _ := Heap.get?_push_of_some _ (Heap.get?_push_of_some _ (Heap.get?_push_size _ rfl))
  have e2 : (zD s.heap o1 o2).get? (s.heap.push o1).objs.size = some o2 := up3 (Heap.get?_push_size _ ho2)
  have e1 : (zD s.heap o1 o2).get? s.heap.objs.size = some o1 := up3 (Heap.get?_push_of_some _ (Heap.get?_push_size _ ho1))
  show _ ∧ _
  rw [y2, y3, y4] at e5
  rw [y1, y2] at e3
  rw [y3] at e4
  rw [y1] at e2
  rw [y4]
  exact ⟨⟨_, e5, rfl⟩, fin _ e5 e3 e4 e1 e2 fun c o q => up3 (Heap.get?_push_of_some _ (Heap.get?_push_of_some _ q))⟩
end
theorem zap_new (n : Nat) : Zap (n + 4) (n + 2) (n + 3) n (n + 1) [n] [n + 1] ∧ (n + 2 : Nat) ≠ n + 3 ∧ (n + 2 : Nat) ≠ n ∧ (n + 2 : Nat) ≠ n + 1 := by
  have ne : ∀ a b : Nat, a ≠ b → (n + a : Nat) ≠ n + b := fun a b h => by omega
  have m1 : ∀ a b : Nat, a ≠ b → (n + a : Nat) ∉ [n + b] := fun a b h hm => ne a b h (List.mem_singleton.mp hm)
  exact ⟨⟨ne 2 4 (by decide), ne 3 4 (by decide), ne 0 4 (by decide), ne 1 4 (by decide), ne 3 0 (by decide), ne 3 1 (by decide), ne 0 1 (by decide), m1 4 0 (by decide), m1 3 0 (by decide), m1 1 0 (by decide), m1 4 1 (by decide), m1 3 1 (by decide), m1 0 1 (by decide)⟩, ne 2 3 (by decide), ne 2 0 (by decide), ne 2 1 (by decide)⟩
theorem bt_zip : bootBuiltins "zip" = some (.type "zip") := by decide +kernel
end L2

namespace L2
open PySem PySem.Spec PyProof.Rows
/-! ### zip of two tuples -/
section
variable {prog : Program} {w : World} {A : Around} {E : Value → Shared → Prop} {s : Shared} {it l : Addr} {i : Nat} {items : Array Value}
theorem nt_item {x : Value} {Q : Value → Shared → Prop} (hit : s.heap.IsTupleIter it l i) (hl : s.heap.IsTuple l items) (hx : items[i]? = some x) (hQ : ∀ h', h'.IsTupleIter it l (i + 1) → Heap.SameBut it s.heap h' → Q x { s with heap := h' }) : wpAny (model prog w) A (Builtin.SmallTypes.nextOf (.ref it)) Q E s := by
  obtain ⟨o, ho, hc, hd⟩ := id hit; obtain ⟨ol, hol, _, nl, hdl⟩ := hl
  unfold Builtin.SmallTypes.nextOf; refine wpAny_bind (wpAny_callSpecial?_slot (name := Str.ofString "__next__") hit.typeIs F.slot_tuple_iterator_next (wpAny_call_entry F.slot_tuple_iterator_next hit.typeIs F.entry_tuple_iterator_next ?_ (F.args_tuple_iterator_next_1 _)))
  show wpAny _ _ (field (.ref it) 0 >>= _) _ _ s; refine wpAny_bind (wpAny_field ho hd (x := .ref l) rfl ?_)
  show wpAny _ _ (if (Value.ref l == Value.none) = true then _ else _) _ _ s; rw [if_neg (show ¬ ((Value.ref l == Value.none) = true) from Bool.false_ne_true)]
  show wpAny _ _ (field (.ref it) 1 >>= _) _ _ s; refine wpAny_bind (wpAny_field ho hd (x := .int i 0) rfl ?_)
  show wpAny _ _ (seqItems? (.ref l) >>= _) _ _ s; refine wpAny_bind (wpAny_seqItems hol hdl ?_); simp only [Int.toNat_natCast, hx]
  refine wpAny_bind (wpAny_setField ho hd (by simp) (wpAny_pure ⟨x, rfl, wpAny_pure (hQ _ ⟨_, Heap.get?_update_self _ ho (Obj.isFreed_of_fields (Obj.data_mapFields hd _)), (Obj.cls_mapFields ..).trans hc, ?_⟩ (Heap.SameBut.update ..))⟩))
  rw [Obj.data_mapFields hd]; simp [rawInt]
theorem nt_end {Q : Value → Shared → Prop} (hh : A.handled = none) (hit : s.heap.IsTupleIter it l i) (hl : s.heap.IsTuple l items) (hx : items[i]? = none) (hE : ∀ h' e, Heap.ExtBut it s.heap h' → (∃ o, h'.get? e = some o ∧ o.cls = .type "StopIteration") → E (.ref e) { s with heap := h' }) : wpAny (model prog w) A (Builtin.SmallTypes.nextOf (.ref it)) Q E s := by
  obtain ⟨o, ho, hc, hd⟩ := id hit; obtain ⟨ol, hol, _, nl, hdl⟩ := hl
  unfold Builtin.SmallTypes.nextOf; refine wpAny_bind (wpAny_callSpecial?_slot (name := Str.ofString "__next__") hit.typeIs F.slot_tuple_iterator_next (wpAny_call_entry F.slot_tuple_iterator_next hit.typeIs F.entry_tuple_iterator_next ?_ (F.args_tuple_iterator_next_1 _)))
  show wpAny _ _ (field (.ref it) 0 >>= _) _ _ s; refine wpAny_bind (wpAny_field ho hd (x := .ref l) rfl ?_)
  show wpAny _ _ (if (Value.ref l == Value.none) = true then _ else _) _ _ s; rw [if_neg (show ¬ ((Value.ref l == Value.none) = true) from Bool.false_ne_true)]
  show wpAny _ _ (field (.ref it) 1 >>= _) _ _ s; refine wpAny_bind (wpAny_field ho hd (x := .int i 0) rfl ?_)
  show wpAny _ _ (seqItems? (.ref l) >>= _) _ _ s; refine wpAny_bind (wpAny_seqItems hol hdl ?_); simp only [Int.toNat_natCast, hx]
  refine wpAny_bind (wpAny_rule (wpAny_bind (wpAny_setField ho hd (by simp) ?_))); show wpAny _ _ (newExc (.type "StopIteration") [] >>= _) _ _ _
  refine wpAny_bind ?_; simp only [newExc, newTuple]; refine wpAny_bind (wpAny_newObj_type ?_ (by size_fits))
  refine wpAny_bind (m := firstArgMember _ _) (wpAny_of_eq (a := Value.none) (by first | rfl | (simp only [firstArgMember]; rfl)) (wpAny_newObj_type ?_ (by size_fits)))
  simp only [raiseNew]; refine wpAny_bind (wpAny_handled ?_)
  first | rw [show A.in1.handled = none from hh]; refine wpAny_bind (wpAny_pure (wpAny_throw ?_)) | rw [hh]; refine wpAny_bind (wpAny_pure (wpAny_throw ?_))
  exact hE _ _ (((Heap.SameBut.update ..).extBut.push _).push _) ⟨_, Heap.get?_push_size _ rfl, rfl⟩
end
theorem draws_tup {prog : Program} {w : World} {A : Around} (hh : A.handled = none) (it l : Addr) (hne : l ≠ it) (items : Array Value) :
    Draws prog w A it [it, l] items.size (fun i v => items[i]? = some v) (fun i h => h.IsTupleIter it l i ∧ h.IsTuple l items) where
  live := fun _ _ st => by obtain ⟨⟨o, ho, _⟩, _⟩ := st; exact ⟨o, ho⟩
  frame := fun _ _ _ st hk => by obtain ⟨⟨o, ho, r⟩, ⟨p, hp, q⟩⟩ := st; exact ⟨⟨o, hk it (by simp) o ho, r⟩, ⟨p, hk l (by simp) p hp, q⟩⟩
  item := fun i s Q E hi st hQ => nt_item st.1 st.2 (x := items[i]) (by simp [hi]) fun h' a b => hQ _ h' s.toks (by simp [hi]) ⟨a, st.2.extBut b.extBut hne⟩ b
  done := fun s Q E st hE => nt_end hh st.1 st.2 (by simp) hE
/-- a tuple that can be read is none of the addresses that an iterator keeps to itself -/
theorem sq_ne {X : Cx} {pins : List (Addr × Obj)} {σ : St} {H : Hp} {s : Shared} {a b : Addr} {xs : List V} (I : Inv X pins σ H s) (h : SqT X.K H a xs) (f : FpOk X pins H b) : a ≠ b := by
  intro z
  subst z
  rcases h with (h | ⟨o, h⟩) | ⟨o, its, n, hk, _⟩
  · rw [f.1] at h; cases h
  · rw [f.1] at h; cases h
  · have e := I.mod.kin a o hk
    rcases f.2.2.2.1 with h | h
    · exact I.ok.noex a o e h
    · exact absurd (Nat.lt_of_lt_of_le (Heap.lt_size (I.ok.bs a o e).1) h) (Nat.lt_irrefl _)
/-- two tuples, item by item -/
def Itzt (K : PySem.W.Frag) (ta tb : Addr) : It :=
  ⟨fun i H => ∃ xs ys x y, SqT K H ta xs ∧ SqT K H tb ys ∧ xs[i]? = some x ∧ ys[i]? = some y,
   fun i H v H' => ∃ p x y, H p = none ∧ v = .ref p ∧ (∀ xs, SqT K H ta xs → xs[i]? = some x) ∧ (∀ ys, SqT K H tb ys → ys[i]? = some y) ∧ H' = upd H p (.tup [x, y]),
   fun i H => ∃ xs ys, SqT K H ta xs ∧ SqT K H tb ys ∧ i = min xs.length ys.length⟩
theorem zmem {z i a : Addr} (h : z ∉ [i]) (n : a ≠ z) : z ∉ [i, a] := by
  intro m
  rcases List.mem_cons.mp m with e | m
  · exact h (by rw [e]; exact List.mem_singleton_self _)
  · exact n (List.mem_singleton.mp m).symm
theorem turn_zipt {P : Program} {w : World} {K : PySem.W.Frag} {elts : List Expr} {kk : Nat} {pos : Pos} (ta tb : Addr) (z ti to i j : Addr) (Z : Zap z ti to i j [i] [j]) (tto : ti ≠ to) (ti1 : ti ≠ i) (ti2 : ti ≠ j) :
    Turn P w K (.Tuple elts kk pos) (Itzt K ta tb) [z, ti, to, i, j] z (fun q h => IsZip h z ti to .none ∧ IsPair h ti (.ref i) (.ref j) ∧ (∃ a b, IsPair h to a b) ∧ h.IsTupleIter i ta q ∧ h.IsTupleIter j tb q) where
  mem := by simp
  obj := fun q h st b hb => by
    obtain ⟨h1, h2, ⟨a, b', h3⟩, ⟨o4, h4, c4, d4⟩, ⟨o5, h5, c5, d5⟩⟩ := st
    simp only [List.mem_cons, List.not_mem_nil, or_false] at hb
    rcases hb with rfl | rfl | rfl | rfl | rfl
    · exact ⟨_, h1, fun v e => by have e : Data.fields _ = Data.cell v := e; cases e⟩
    · exact ⟨_, h2, fun v e => by have e : Data.seq _ _ = Data.cell v := e; cases e⟩
    · exact ⟨_, h3, fun v e => by have e : Data.seq _ _ = Data.cell v := e; cases e⟩
    · exact ⟨_, h4, fun v e => by rw [d4] at e; cases e⟩
    · exact ⟨_, h5, fun v e => by rw [d5] at e; cases e⟩
  keep := fun q h h' st k => by
    obtain ⟨h1, h2, ⟨a, b', h3⟩, ⟨o4, h4, r4⟩, ⟨o5, h5, r5⟩⟩ := st
    exact ⟨k z (by simp) _ h1, k ti (by simp) _ h2, ⟨a, b', k to (by simp) _ h3⟩, ⟨o4, k i (by simp) _ h4, r4⟩, ⟨o5, k j (by simp) _ h5, r5⟩⟩
  item := by
    intro X hP hw hK hc q pins s σ H E I hf st hg
    subst hP hw hK
    obtain ⟨h1, h2, ⟨a, b', h3⟩, h4, h5⟩ := st
    obtain ⟨xs, ys, c, d, hqa, hqb, hxc, hyd⟩ := hg
    obtain ⟨ia, ra, ta', _⟩ := I.tuple hqa
    obtain ⟨ib, rb, tb', _⟩ := I.tuple hqb
    have la := ra.length
    have lb := rb.length
    have la2 := (List.getElem?_eq_some_iff.mp hxc).1
    have lb2 := (List.getElem?_eq_some_iff.mp hyd).1
    have hh : X.A.in1.handled = none := I.ok.hd hc
    have na := fun b (hb : b ∈ [z, ti, to, i, j]) => sq_ne I hqa (hf b hb)
    have nb := fun b (hb : b ∈ [z, ti, to, i, j]) => sq_ne I hqb (hf b hb)
    have Z2 : Zap z ti to i j [i, ta] [j, tb] := ⟨Z.a1, Z.a2, Z.a3, Z.a4, Z.a6, Z.a7, Z.a8, zmem Z.b1 (na z (by simp)), zmem Z.b2 (na to (by simp)), zmem Z.b3 (na j (by simp)), zmem Z.c1 (nb z (by simp)), zmem Z.c2 (nb to (by simp)), zmem Z.c3 (nb i (by simp))⟩
    refine zn_item (draws_tup hh i ta (na i (by simp)) ia.toArray) (draws_tup hh j tb (nb j (by simp)) ib.toArray) Z2 h1 h2 h3 ⟨h4, ta'⟩ ⟨h5, tb'⟩ (by simp; omega) (by simp; omega) fun h' tk v1 v2 p1 p2 g1 g2 g3 g4 g5 g6 kp => ?_
    obtain ⟨u1, hu1, r1⟩ := ra.get hxc
    obtain ⟨u2, hu2, r2⟩ := rb.get hyd
    have p1 : ia.toArray[q]? = some v1 := p1
    have p2 : ib.toArray[q]? = some v2 := p2
    obtain rfl : u1 = v1 := by simpa [hu1] using p1
    obtain rfl : u2 = v2 := by simpa [hu2] using p2
    have fr : H s.heap.objs.size = none := I.fresh
    have fz := hf z (by simp)
    have ft := hf ti (by simp)
    have fo := hf to (by simp)
    have fi := hf i (by simp)
    have fj := hf j (by simp)
    have kp' : ∀ b o, b ∉ [z, to, i, j] → s.heap.get? b = some o → h'.get? b = some o := fun b o hb e => kp b o (fun v => hb (by simp [v])) (fun v => hb (by simp [v])) (fun v => hb (by simp [v])) (fun v => hb (by simp [v])) e
    have ntr : ∀ b o, H b = some o → b ∉ [z, to, i, j] := fun b o e hb => by
      simp only [List.mem_cons, List.not_mem_nil, or_false] at hb
      rcases hb with v | v | v | v
      · exact ne_of_none e fz.1 v
      · exact ne_of_none e fo.1 v
      · exact ne_of_none e fi.1 v
      · exact ne_of_none e fj.1 v
    have I1 : Inv X pins σ (upd H s.heap.objs.size (.tup [c, d])) { s with heap := h', toks := tk } := by
      refine I.call' (s' := { s with heap := h', toks := tk }) (ch := [z, to, i, j]) rfl ⟨fun b o e n _ hx => kp' b o hx e, fun b o e n _ hx => ⟨o.slots, kp' b o hx e⟩,
        fun b o e n hx => by rw [upd_ne (Nat.ne_of_lt (Heap.lt_size e))]; exact n, fun b o e hx => ⟨o, kp' b o hx e⟩,
        fun b ys e => by rw [upd_ne (ne_of_none e fr)]; exact e, fun b ob ys e => by rw [upd_ne (ne_of_none e fr)]; exact e, fun b ps e => ⟨#[], by rw [upd_ne (ne_of_none e fr), e]; simp⟩⟩ (fun b o e => ?_) I.bare (fun b hb => ?_)
      · by_cases hb : b = s.heap.objs.size
        · subst hb
          rw [upd_same] at e
          cases e
          exact ⟨by show 2 ≤ sizeLine; decide, [u1, u2], .cons r1 (.cons r2 .nil), ⟨_, g5, rfl, _, rfl⟩⟩
        · rw [upd_ne hb] at e
          refine (I.hok b o e).stay (fun c' v hc' e' => ?_) (fun c' e' => by rw [upd_ne (ne_of_none e' fr)]; exact e') fun c' ys e' => by rw [upd_ne (ne_of_none e' fr)]; exact e'
          rcases hc' with v' | v'
          · subst v'
            exact kp' c' v (ntr c' o e) e'
          · exact kp' c' v (ntr c' _ v') e'
      · simp only [List.mem_cons, List.not_mem_nil, or_false] at hb
        rcases hb with v | v | v | v <;> subst v
        · exact ⟨fz.2.2.2.1, fz.2.1, fz.2.2.2.2.1, fz.2.2.2.2.2⟩
        · exact ⟨fo.2.2.2.1, fo.2.1, fo.2.2.2.2.1, fo.2.2.2.2.2⟩
        · exact ⟨fi.2.2.2.1, fi.2.1, fi.2.2.2.2.1, fi.2.2.2.2.2⟩
        · exact ⟨fj.2.2.2.1, fj.2.1, fj.2.2.2.2.1, fj.2.2.2.2.2⟩
    have lt : ∀ {b o}, s.heap.get? b = some o → b ≠ s.heap.objs.size := fun e => Nat.ne_of_lt (Heap.lt_size e)
    have he0 : ∀ b ∈ [z, ti, to, i, j], upd H s.heap.objs.size (.tup [c, d]) b = none := fun b hb => by
      have hb' : ∃ o, s.heap.get? b = some o := by
        obtain ⟨o4, e4, _⟩ := h4
        obtain ⟨o5, e5, _⟩ := h5
        simp only [List.mem_cons, List.not_mem_nil, or_false] at hb
        rcases hb with v | v | v | v | v <;> subst v
        · exact ⟨_, h1⟩
        · exact ⟨_, h2⟩
        · exact ⟨_, h3⟩
        · exact ⟨_, e4⟩
        · exact ⟨_, e5⟩
      obtain ⟨o, e⟩ := hb'
      rw [upd_ne (lt e)]
      exact (hf b hb).1
    have g2' : IsPair h' ti (.ref i) (.ref j) := kp ti _ Z.a1 tto ti1 ti2 h2
    refine ⟨_, rfl, wpAny_letOwnedTupleGo_zip (s := { s with heap := h', toks := tk }) g1 fun h2' y1 sb => ?_⟩
    have I2 : Inv X pins σ (upd H s.heap.objs.size (.tup [c, d])) { s with heap := h2', toks := tk } :=
      Inv.turned (s := { s with heap := h', toks := tk }) (h' := h2') (t' := tk) (it := z) I1 (fun b o hb e => (sb.2 b hb).trans e) (he0 z (by simp)) fz.2.1 fz.2.2.2.1 fz.2.2.2.2.1 fz.2.2.2.2.2
    have mvz : ∀ b o, b ≠ z → h'.get? b = some o → h2'.get? b = some o := fun b o hb e => (sb.2 b hb).trans e
    obtain ⟨⟨o4, e4, r4⟩, _⟩ := g3
    obtain ⟨⟨o5, e5, r5⟩, _⟩ := g4
    exact ⟨.ref s.heap.objs.size, _, I2, rfl, ⟨_, c, d, fr, rfl, fun ys' h => by rw [I.tuple_inj h hqa]; exact hxc, fun ys' h => by rw [I.tuple_inj h hqb]; exact hyd, rfl⟩, ⟨y1, mvz _ _ Z.a1 g2', ⟨_, _, mvz _ _ Z.a2 g2⟩, ⟨o4, mvz _ _ Z.a3 e4, r4⟩, ⟨o5, mvz _ _ Z.a4 e5, r5⟩⟩, he0⟩
  done := by
    intro X hP hw hK hc q pins s σ H E I hf st hg
    subst hP hw hK
    obtain ⟨h1, h2, ⟨a, b', h3⟩, h4, h5⟩ := st
    obtain ⟨xs, ys, hqa, hqb, hg⟩ := hg
    obtain ⟨ia, ra, ta', _⟩ := I.tuple hqa
    obtain ⟨ib, rb, tb', _⟩ := I.tuple hqb
    have la := ra.length
    have lb := rb.length
    have hh : X.A.in1.handled = none := I.ok.hd hc
    have na := fun b (hb : b ∈ [z, ti, to, i, j]) => sq_ne I hqa (hf b hb)
    have nb := fun b (hb : b ∈ [z, ti, to, i, j]) => sq_ne I hqb (hf b hb)
    have Z2 : Zap z ti to i j [i, ta] [j, tb] := ⟨Z.a1, Z.a2, Z.a3, Z.a4, Z.a6, Z.a7, Z.a8, zmem Z.b1 (na z (by simp)), zmem Z.b2 (na to (by simp)), zmem Z.b3 (na j (by simp)), zmem Z.c1 (nb z (by simp)), zmem Z.c2 (nb to (by simp)), zmem Z.c3 (nb i (by simp))⟩
    have fz := hf z (by simp)
    have fo := hf to (by simp)
    have fi := hf i (by simp)
    have fj := hf j (by simp)
    refine zn_end (draws_tup hh i ta (na i (by simp)) ia.toArray) (draws_tup hh j tb (nb j (by simp)) ib.toArray) Z2 h1 h2 h3 ⟨h4, ta'⟩ ⟨h5, tb'⟩ (by simp; omega) fun h' tk kp => ⟨rfl, ?_⟩
    have kp' : ∀ b o, b ∉ [z, to, i, j] → s.heap.get? b = some o → h'.get? b = some o := fun b o hb e => kp b o (fun v => hb (by simp [v])) (fun v => hb (by simp [v])) (fun v => hb (by simp [v])) (fun v => hb (by simp [v])) e
    have ntr : ∀ b o, H b = some o → b ∉ [z, to, i, j] := fun b o e hb => by
      simp only [List.mem_cons, List.not_mem_nil, or_false] at hb
      rcases hb with v | v | v | v
      · exact ne_of_none e fz.1 v
      · exact ne_of_none e fo.1 v
      · exact ne_of_none e fi.1 v
      · exact ne_of_none e fj.1 v
    refine I.call' (s' := { s with heap := h', toks := tk }) (ch := [z, to, i, j]) rfl ⟨fun b o e n _ hx => kp' b o hx e, fun b o e n _ hx => ⟨o.slots, kp' b o hx e⟩, fun b o e n hx => n, fun b o e hx => ⟨o, kp' b o hx e⟩,
        fun b ys e => e, fun b ob ys e => e, fun b ps e => ⟨#[], by rw [e]; simp⟩⟩ (fun b o e => ?_) I.bare (fun b hb => ?_)
    · refine (I.hok b o e).stay (fun c' v hc' e' => ?_) (fun c' e' => e') fun c' ys e' => e'
      rcases hc' with v' | v'
      · subst v'
        exact kp' c' v (ntr c' o e) e'
      · exact kp' c' v (ntr c' _ v') e'
    · simp only [List.mem_cons, List.not_mem_nil, or_false] at hb
      rcases hb with v | v | v | v <;> subst v
      · exact ⟨fz.2.2.2.1, fz.2.1, fz.2.2.2.2.1, fz.2.2.2.2.2⟩
      · exact ⟨fo.2.2.2.1, fo.2.1, fo.2.2.2.2.1, fo.2.2.2.2.2⟩
      · exact ⟨fi.2.2.2.1, fi.2.1, fi.2.2.2.2.1, fi.2.2.2.2.2⟩
      · exact ⟨fj.2.2.2.1, fj.2.1, fj.2.2.2.2.1, fj.2.2.2.2.2⟩
  self := fun _ _ _ _ _ st h => wpAny_pyIter_zip st.1 h
def iZipt (K : PySem.W.Frag) (ta : TA) : TI := fun σ H R => ta σ H fun vs H1 => ∃ a b, vs = [.ref a, .ref b] ∧ (∃ xs, SqT K H1 a xs) ∧ (∃ ys, SqT K H1 b ys) ∧ R (Itzt K a b) H1
theorem pi_zipt {X : Cx} {elts : List Expr} {k : Nat} {tpos : Pos} {a b : Expr} {ta : TA} {p pos : Pos} (hg : Gl X "zip") (hm : X.mg "zip" = none) (ha : PA X [a, b] ta) (hs : starEach [a, b] X.env = (false, eval a X.env) :: starEach [b] X.env := by rfl) (hpl : (backTo pos (starEach [b] X.env)).any (·.1) = false := by rfl) :
    PI X (.Tuple elts k tpos) (.Call (.Name "zip" p) [a, b] [] pos) (iZipt X.K ta) := by
  intro pins s σ H R I h
  refine Call_ (ld_blt I hg hm bt_zip (PyProof.Rows.callWith_type1 (thn (ha pos pins s σ H _ I h) fun us s1 ⟨vs, H1, I1, r1, q1⟩ => ?_) hs hpl))
  obtain ⟨ta, tb, e, ⟨xs, hx⟩, ⟨ys, hy⟩, q⟩ := q1
  subst e
  obtain ⟨u1, u2, rfl, ru, rv⟩ := vals2 r1
  cases ru
  cases rv
  obtain ⟨ia, ra, ta', _⟩ := I1.tuple hx
  obtain ⟨ib, rb, tb', _⟩ := I1.tuple hy
  refine zw_call (K1 := fun s => s.heap.IsTuple ta ia.toArray) (K2 := fun s => s.heap.IsTuple tb ib.toArray) (o1 := { cls := .type "tuple_iterator", data := .fields #[.ref ta, .int 0 0] }) (o2 := { cls := .type "tuple_iterator", data := .fields #[.ref tb, .int 0 0] }) (fun _ _ _ _ _ _ hk hq => wpAny_pyIter_tuple hk hq) (fun _ _ _ _ _ _ hk hq => wpAny_pyIter_tuple hk hq) ta' (tb'.push _) rfl rfl fun h' g1 g2 g3 g4 g5 kp => ?_
  have I2 : Inv X pins σ H1 { s1 with heap := h' } := I1.kept (t' := s1.toks) kp
  refine wpAny_pyIter_zip (s := { s1 with heap := h' }) g1 ?_
  refine ⟨s1.heap.objs.size + 4, [s1.heap.objs.size + 4, s1.heap.objs.size + 2, s1.heap.objs.size + 3, s1.heap.objs.size, s1.heap.objs.size + 1], _, _, H1, rfl, I2,
    turn_zipt ta tb _ _ _ _ _ (zap_new s1.heap.objs.size).1 (zap_new s1.heap.objs.size).2.1 (zap_new s1.heap.objs.size).2.2.1 (zap_new s1.heap.objs.size).2.2.2,
    ⟨g1, g2, ⟨_, _, g3⟩, ⟨_, g4, rfl, rfl⟩, ⟨_, g5, rfl, rfl⟩⟩, fun b hb => ?_, q⟩
  have hb2 : s1.heap.objs.size ≤ b := by
    simp only [List.mem_cons, List.not_mem_nil, or_false] at hb
    rcases hb with v | v | v | v | v <;> rw [v]
    · exact Nat.le_add_right _ _
    · exact Nat.le_add_right _ _
    · exact Nat.le_add_right _ _
    · exact Nat.le_refl _
    · exact Nat.le_add_right _ _
  exact I1.fpOk hb2 (I1.hok.fresh hb2)
theorem for_zipt {K : PySem.W.Frag} {ta tb : Addr} {xs ys : List V} {g : TG} {tbd : TS} {D : Ends} {σ : St} {H : Hp} (Pv : Nat → St → Hp → Prop) (h0 : Pv 0 σ H) (hl : ∀ i σ H, i ≤ min xs.length ys.length → Pv i σ H → SqT K H ta xs ∧ SqT K H tb ys)
    (hs : ∀ i x y p σ H, xs[i]? = some x → ys[i]? = some y → Pv i σ H → H p = none → g (.ref p) σ (upd H p (.tup [x, y])) fun σ2 H2 => tbd { D with nx := Pv (i + 1), ct := Pv (i + 1), bk := D.nx } σ2 H2) (hd : ∀ σ H, Pv (min xs.length ys.length) σ H → D.nx σ H) :
    ∃ W : Nat → Nat → St → Hp → Prop, (∃ m, W 0 m σ H) ∧ ∀ i m σ H, W i m σ H →
      ((Itzt K ta tb).stop i H ∧ D.nx σ H) ∨ ((Itzt K ta tb).go i H ∧ ∃ N : St → Hp → Prop, (∀ σ' H', N σ' H' → ∃ m', m' < m ∧ W (i + 1) m' σ' H') ∧ ∀ v H', (Itzt K ta tb).yld i H v H' → g v σ H' fun σ2 H2 => tbd { D with nx := N, ct := N, bk := D.nx } σ2 H2) := by
  refine ⟨fun i m σ H => m = min xs.length ys.length - i ∧ i ≤ min xs.length ys.length ∧ Pv i σ H, ⟨_, rfl, Nat.zero_le _, h0⟩, ?_⟩
  rintro i m σ H ⟨rfl, hi, p⟩
  obtain ⟨q1, q2⟩ := hl i σ H hi p
  by_cases hlt : i < min xs.length ys.length
  · have e1 := List.getElem?_eq_getElem (l := xs) (i := i) (by omega)
    have e2 := List.getElem?_eq_getElem (l := ys) (i := i) (by omega)
    refine .inr ⟨⟨xs, ys, _, _, q1, q2, e1, e2⟩, Pv (i + 1), fun σ' H' p' => ⟨min xs.length ys.length - (i + 1), by omega, rfl, hlt, p'⟩, fun v H' yy => ?_⟩
    obtain ⟨pp, x, y, hn, rfl, f1, f2, rfl⟩ := yy
    exact hs i x y pp σ H (f1 xs q1) (f2 ys q2) p hn
  · have e : i = min xs.length ys.length := by omega
    subst e
    exact .inl ⟨⟨xs, ys, q1, q2, rfl⟩, hd σ H p⟩
end L2

namespace Cw
open PySem

/-! ### texts by their codes -/
theorem str_ext {x y : Str} (h : x.cps.toList = y.cps.toList) : x = y := by
  cases x; cases y
  exact congrArg Str.mk (Array.toList_inj.mp h)
theorem cs_app (x y : Str) : (x ++ y).cps.toList = x.cps.toList ++ y.cps.toList := by
  show (x.cps ++ y.cps).toList = _
  simp
theorem cs_len (x : Str) : x.cps.toList.length = x.length := by simp [Str.length]

def joinC (c : Nat) : List (List Nat) → List Nat
  | [] => []
  | [x] => x
  | x :: y :: r => x ++ c :: joinC c (y :: r)

theorem join_cs (c : Nat) : ∀ l : List Str, (Str.join ⟨#[c]⟩ l).cps.toList = joinC c (l.map fun x => x.cps.toList)
  | [] => rfl
  | [x] => rfl
  | x :: y :: r => by
    have ih := join_cs c (y :: r)
    show ((x ++ ⟨#[c]⟩ ++ Str.join ⟨#[c]⟩ (y :: r) : Str)).cps.toList = _
    rw [cs_app, cs_app, ih]
    simp [joinC]

theorem cut_inj {c : Nat} : ∀ {x y a b : List Nat}, c ∉ x → c ∉ y → x ++ c :: a = y ++ c :: b → x = y ∧ a = b
  | [], [], a, b, _, _, h => by simpa using h
  | [], z :: y, a, b, _, hy, h => by
    simp at h
    exact absurd (by simp [h.1]) hy
  | z :: x, [], a, b, hx, _, h => by
    simp at h
    exact absurd (by simp [h.1]) hx
  | u :: x, v :: y, a, b, hx, hy, h => by
    simp only [List.cons_append, List.cons.injEq] at h
    obtain ⟨e1, e2⟩ := cut_inj (x := x) (y := y) (fun m => hx (List.mem_cons_of_mem _ m)) (fun m => hy (List.mem_cons_of_mem _ m)) h.2
    exact ⟨by rw [h.1, e1], e2⟩

theorem joinC_inj (c : Nat) : ∀ xs ys : List (List Nat), xs ≠ [] → ys ≠ [] → (∀ x ∈ xs, c ∉ x) → (∀ y ∈ ys, c ∉ y) → joinC c xs = joinC c ys → xs = ys
  | [], _, h, _, _, _, _ => absurd rfl h
  | _, [], _, h, _, _, _ => absurd rfl h
  | [x], [y], _, _, _, _, h => by
    have h : x = y := h
    rw [h]
  | [x], y :: z :: r, _, _, hx, _, h => by
    have h : x = y ++ c :: joinC c (z :: r) := h
    exact absurd (by rw [h]; simp) (hx x (by simp))
  | x :: z :: r, [y], _, _, _, hy, h => by
    have h : x ++ c :: joinC c (z :: r) = y := h
    exact absurd (by rw [← h]; simp) (hy y (by simp))
  | x :: x' :: r, y :: y' :: t, _, _, hx, hy, h => by
    have h : x ++ c :: joinC c (x' :: r) = y ++ c :: joinC c (y' :: t) := h
    obtain ⟨e1, e2⟩ := cut_inj (hx x (by simp)) (hy y (by simp)) h
    have e3 := joinC_inj c (x' :: r) (y' :: t) (by simp) (by simp) (fun z m => hx z (List.mem_cons_of_mem _ m)) (fun z m => hy z (List.mem_cons_of_mem _ m)) e2
    rw [e1, e3]

theorem split_ne (x y : Str) : Txt.split x y ≠ [] := by
  unfold Txt.split
  split
  · simp
  · split
    · simp
    · simp [Builtin.Str.partsBetween]

/-- lines without the sign, joined by it and split again -/
theorem split_join (c : Nat) {l : List Str} (h0 : l ≠ []) (hf : ∀ x ∈ l, c ∉ x.cps.toList) : Txt.split (Str.join ⟨#[c]⟩ l) ⟨#[c]⟩ = l := by
  have e := StrLaws.join_split (Str.join ⟨#[c]⟩ l) ⟨#[c]⟩
  have e1 := congrArg (fun z : Str => z.cps.toList) e
  simp only [join_cs] at e1
  have e2 := joinC_inj c _ _ (by simpa using split_ne _ _) (by simpa using h0) (fun x m => ?_) (fun x m => ?_) e1
  · exact (List.map_inj_right fun a b q => str_ext q).mp e2
  · obtain ⟨p, hp, rfl⟩ := List.mem_map.mp m
    exact StrLaws.split_free _ c p hp
  · obtain ⟨p, hp, rfl⟩ := List.mem_map.mp m
    exact hf p hp
end Cw

namespace Cw
open PySem

/-! ### the script's cells, the drawn sheet -/
def cellAt (ns : List Int) (k : Nat) : Int := ns.getD k 0
/-- a sign of a sheet: a shut cell, a free one, a letter -/
def OkC (c : Nat) : Prop := c = 35 ∨ c = 46 ∨ (97 ≤ c ∧ c ≤ 122)
/-- lines of a sheet -/
structure IsSheet (l : List Str) (w : Nat) : Prop where
  one : 1 ≤ l.length
  nine : l.length ≤ 9
  w1 : 1 ≤ w
  w9 : w ≤ 9
  len : ∀ x ∈ l, x.length = w
  ok : ∀ x ∈ l, ∀ c ∈ x.cps.toList, OkC c
theorem IsSheet.ne {l : List Str} {w : Nat} (S : IsSheet l w) : l ≠ [] := by
  intro e
  have := S.one
  rw [e] at this
  cases this
theorem IsSheet.noLf {l : List Str} {w : Nat} (S : IsSheet l w) : ∀ x ∈ l, 10 ∉ x.cps.toList := fun x m h => by
  have := S.ok x m 10 h
  unfold OkC at this
  omega
theorem IsSheet.split {l : List Str} {w : Nat} (S : IsSheet l w) : Txt.split (Str.join ⟨#[10]⟩ l) ⟨#[10]⟩ = l := split_join 10 S.ne S.noLf

/-- the signs that may stand on a sheet -/
def signs : Str := "#.abcdefghijklmnopqrstuvwxyz"
def letters : Str := "abcdefghijklmnopqrstuvwxyz"
theorem letters_cs : letters.cps.toList = (List.range 26).map (97 + ·) := by decide +kernel
end Cw

namespace Cw
open PySem
/-! ### cells, line by line -/
def cells (h w : Nat) : List (Nat × Nat) := (List.range h).flatMap fun i => (List.range w).map fun j => (i, j)
/-! ### the sign in a cell -/
def sg (l : List Str) (c : Nat × Nat) : Nat := ((l.getD c.1 ⟨#[]⟩).cps.toList).getD c.2 0
theorem getD_of {α : Type} {l : List α} {i : Nat} {x d : α} (h : l[i]? = some x) : l.getD i d = x := by rw [List.getD_eq_getElem?_getD, h]; rfl
theorem IsSheet.row {l : List Str} {w : Nat} (S : IsSheet l w) {i : Nat} (hi : i < l.length) : ∃ x, l[i]? = some x ∧ x ∈ l ∧ x.length = w ∧ x.cps.toList.length = w ∧ ∀ j, j < w → x.cps.toList[j]? = some (sg l (i, j)) := by
  refine ⟨l[i], List.getElem?_eq_getElem hi, List.getElem_mem hi, S.len _ (List.getElem_mem hi), by rw [cs_len]; exact S.len _ (List.getElem_mem hi), fun j hj => ?_⟩
  have hl : j < l[i].cps.toList.length := by rw [cs_len, S.len _ (List.getElem_mem hi)]; exact hj
  unfold sg
  rw [getD_of (List.getElem?_eq_getElem hi), List.getElem?_eq_getElem hl]
  simp only [getD_of (List.getElem?_eq_getElem hl)]
def isFreeC (l : List Str) (c : Nat × Nat) : Bool := decide (sg l c = 46)
def freeC (l : List Str) (w : Nat) : List (Nat × Nat) := (cells l.length w).filter (isFreeC l)
end Cw
namespace Cw
open PySem
/-! ### a sheet with another sign in a cell -/
end Cw

namespace Cw
open PySem
/-! ### floors -/
/-- grown line by line -/
structure Lines (m : List Str) (w : Nat) : Prop where
  len : ∀ x ∈ m, x.length = w
  ok : ∀ x ∈ m, ∀ c ∈ x.cps.toList, OkC c
theorem Lines.nil (w : Nat) : Lines [] w := ⟨(by simp), (by simp)⟩
theorem Lines.snoc {m : List Str} {w : Nat} (L : Lines m w) {x : Str} (h1 : x.length = w) (h2 : ∀ c ∈ x.cps.toList, OkC c) : Lines (m ++ [x]) w := by
  refine ⟨fun y hy => ?_, fun y hy => ?_⟩
  · rcases List.mem_append.mp hy with z | z
    · exact L.len y z
    · rw [List.mem_singleton.mp z]; exact h1
  · rcases List.mem_append.mp hy with z | z
    · exact L.ok y z
    · rw [List.mem_singleton.mp z]; exact h2
theorem Lines.sheet {m : List Str} {w : Nat} (L : Lines m w) (h1 : 1 ≤ m.length) (h9 : m.length ≤ 9) (w1 : 1 ≤ w) (w9 : w ≤ 9) : IsSheet m w := ⟨h1, h9, w1, w9, L.len, L.ok⟩
theorem IsSheet.lines {m : List Str} {w : Nat} (S : IsSheet m w) : Lines m w := ⟨S.len, S.ok⟩
end Cw

namespace Cw
open PySem L2
def top (i : Nat) : Stmt := PySem.Challenge.pw_crosswright_k72_a_working_shown.main.body.getD i (.Pass ⟨0, 0, 0, 0⟩)
/-- names that the text leaves to the builtins -/
structure Bl (mg : Str → Option Value) : Prop where
  len_ : mg "len" = none
  str_ : mg "str" = none
  isinstance_ : mg "isinstance" = none
  all_ : mg "all" = none
  tuple_ : mg "tuple" = none
  int_ : mg "int" = none
  range_ : mg "range" = none
  bool_ : mg "bool" = none
  zip_ : mg "zip" = none
  list_ : mg "list" = none
section
variable {P : Program} {w : World} {K : PySem.W.Frag} {mg : Str → Option Value} {base : Heap} {f : Addr} {fd : FuncData}
/-! ### the drawn cells -/
def spCell (K : PySem.W.Frag) : Sp := fun vs H Q _ => ∃ (a : Addr) (ns : List Int) (k : Nat), vs = [.ref a, .int k] ∧ SqL K H a (ns.map V.int) ∧ Q (.int (cellAt ns k)) H
theorem get_cell {ns : List Int} {k : Nat} (h : k < ns.length) : (ns.map V.int)[k]? = some (.int (cellAt ns k)) := by
  rw [List.getElem?_map, List.getElem?_eq_getElem h]
  simp [cellAt, h]
theorem sc_law_cell_at : FnScope ["_law_script", "_law_k"] ["_law_script", "_law_k"] (defScope (top 21)) := ⟨rfl, rfl, rfl, by decide +kernel, rfl, by decide +kernel, by decide +kernel⟩
theorem ok_cell (B : Bl mg) (F : Fun K "_law_cell_at" "_law_cell_at" (top 21) f fd) : FnOk P w K mg base CX0 1 f fd ["_law_script", "_law_k"] (spCell K) := by
  refine F.ok sc_law_cell_at (fun vs H Q E h => ?_) (fun cdv A outer s H vs Q E hr h => ?_)
  · obtain ⟨a, ns, k, rfl, _⟩ := h
    rfl
  · obtain ⟨a, ns, k, rfl, hS, q⟩ := h
    refine ⟨_, (pss_cons (ps_if (pt_cmpR op_lt (pv 1) (pe_callB call_len_seq (by rfl) B.len_ bt_len (pa_cons (pv 0) pa_nil)) (nomark _))
      (pss_one (ps_ret (pe_ix ix_list (pv 0) (pv 1) (fun _ _ => rfl))))
      pss_nil)
      (pss_one (ps_ret pe_int))), ?_⟩
    refine ⟨_, rfl, _, rfl, a, _, rfl, .inl hS, _, _, rfl, rfl, _, rfl, ite2 (fun h => ?_) (fun h => ?_)⟩
    · have h : (k : Int) < ((ns.map V.int).length : Int) := of_decide_eq_true h
      rw [List.length_map] at h
      exact ⟨_, rfl, _, rfl, a, _, _, _, rfl, rfl, hS, atI_nat (get_cell (by omega)), q⟩
    · have h : ¬ (k : Int) < ((ns.map V.int).length : Int) := fun z => h (decide_eq_true z)
      rw [List.length_map] at h
      have e : cellAt ns k = 0 := by
        unfold cellAt
        rw [List.getD_eq_getElem?_getD, List.getElem?_eq_none (by omega)]
        rfl
      rw [e] at q
      exact q
end
end Cw
namespace Cw
open PySem L2
/-! ### texts of letters -/
def lettersB (x : Str) : Bool := x.cps.toList.all fun c => decide (c ∈ letters.cps.toList)
def letB (x : Str) (a b : Int) : Bool := decide (a ≤ (x.length : Int)) && (decide ((x.length : Int) ≤ b) && lettersB x)
theorem pairedL_map {α β : Type} {f : α → β} : ∀ {l : List α} {ys : List β}, Paired (fun i y => y = f i) l ys → ys = l.map f
  | _, _, .nil => rfl
  | _, _, .cons h t => by rw [List.map_cons, ← pairedL_map t, h]
theorem mapL_getD {α β : Type} (g : α → β) (d : α) (l : List α) : (List.range l.length).map (fun i => g (l.getD i d)) = l.map g := by
  apply List.ext_getElem?
  intro i
  rw [List.getElem?_map, List.getElem?_map]
  by_cases h : i < l.length
  · rw [List.getElem?_range h, List.getElem?_eq_getElem h, Option.map_some, Option.map_some, List.getD_eq_getElem?_getD, List.getElem?_eq_getElem h, Option.getD_some]
  · rw [List.getElem?_eq_none (by simpa using h), List.getElem?_eq_none (by simpa using h)]
    rfl
section
variable {P : Program} {w : World} {K : PySem.W.Frag} {mg : Str → Option Value} {base : Heap} {f : Addr} {fd : FuncData}
def spLetters (K : PySem.W.Frag) : Sp := fun vs H Q _ => (∃ (x : Str) (a b : Int), vs = [.str x, .int a, .int b] ∧ x.length ≤ 1000 ∧ ∀ H', Same H H' → Q (.bl (letB x a b)) H') ∨
  ∃ (v : V) (t : Value) (a b : Int), vs = [v, .int a, .int b] ∧ TyOf K H v t ∧ PySem.W.kitOne K t (.type "str") = some false ∧ Q (.bl false) H
theorem sc_is_letters : FnScope ["thing", "least", "most"] ["thing", "least", "most"] (defScope (top 6)) := ⟨rfl, rfl, rfl, by decide +kernel, rfl, by decide +kernel, by decide +kernel⟩
theorem ok_isletters (B : Bl mg) (cLETTERS : Cn mg "LETTERS" (.str letters)) (F : Fun K "is_letters" "is_letters" (top 6) f fd) : FnOk P w K mg base CX0 1 f fd ["thing", "least", "most"] (spLetters K) := by
  refine F.ok sc_is_letters (fun vs H Q E h => ?_) (fun cdv A outer s H vs Q E hr h => ?_)
  · rcases h with ⟨x, a, b, rfl, _⟩ | ⟨v, t, a, b, rfl, _⟩ <;> rfl
  · refine ⟨_, (pss_cons (ps_if (pt_not (pt_val (pe_callB call_isi (by rfl) B.isinstance_ bt_isinstance (pa_cons (pv 0) (pa_cons (pe_bltn (v := .ty "str") (by rfl) B.str_ bt_str rfl) pa_nil)))))
      (pss_one (ps_ret pe_bl))
      pss_nil)
      (pss_one (ps_ret (pe_and (pe_chain op_le op_le (pv 1) (pe_callB call_len_str (by rfl) B.len_ bt_len (pa_cons (pv 0) pa_nil)) (pv 2)) (pe_one (pe_callB (call_all rfl) (by rfl) B.all_ bt_all (pa_cons (pe_comp (js := []) (ns := []) (pi_str (pv 0)) rfl rfl rfl rfl (fun _ _ _ _ => pif_nil) (fun _ _ _ _ => (pe_cmpR op_in_str (pv 0) (pe_cn cLETTERS (by rfl)) rfl))) pa_nil))))))), ?_⟩
    rcases h with ⟨x, a, b, rfl, hx, q⟩ | ⟨v, t, a, b, rfl, ty, hk, q⟩
    · refine ⟨_, rfl, _, _, _, true, ⟨rfl, .str _, kit_same⟩, _, rfl, iteF ?_⟩
      refine ⟨_, rfl, _, rfl, x, rfl, szA (by omega), _, _, rfl, rfl, _, rfl, ?_⟩
      by_cases h2 : a ≤ (x.length : Int)
      · rw [decide_eq_true h2]
        refine iteT ⟨_, rfl, _, _, rfl, rfl, _, rfl, ?_⟩
        by_cases h3 : (x.length : Int) ≤ b
        · rw [decide_eq_true h3]
          refine iteT ?_
          refine ⟨_, rfl, x, rfl, comp_map seq_str (by rw [List.length_map, Array.length_toList]; show x.length ≤ 10000; omega) (fun _ i y _ => y = .bl (decide (x.cps.toList.getD i 0 ∈ letters.cps.toList))) (fun _ _ => trivial) (fun _ _ _ _ _ _ _ _ h => h) ?_ ?_⟩
          · intro D i z H2 Z _ hz _ _ k1
            rw [List.getElem?_map] at hz
            cases e : x.cps.toList[i]? with
            | none => rw [e] at hz; cases hz
            | some c =>
              rw [e] at hz
              cases hz
              refine ⟨_, rfl, _, _, rfl, rfl, k1 _ _ (Same.refl' _) ?_⟩
              rw [StrLaws.found_one, List.getD_eq_getElem?_getD, e]
              all_goals rfl
          · intro D ys H2 hD hDs sm pr
            have e := pairedL_map pr
            rw [List.length_map, mapL_getD (fun c => V.bl (decide (c ∈ letters.cps.toList)))] at e
            refine ⟨D, x.cps.toList.map fun c => decide (c ∈ letters.cps.toList), rfl, SqL.of (by rw [hDs, e, List.map_map]; rfl), ?_⟩
            have e2 : ((x.cps.toList.map fun c => decide (c ∈ letters.cps.toList)).all id) = letB x a b := by
              unfold letB lettersB
              rw [List.all_map, decide_eq_true h2, decide_eq_true h3]
              rfl
            rw [e2]
            exact q H2 sm
        · rw [decide_eq_false h3]
          refine iteF ?_
          have e : letB x a b = false := by
            unfold letB
            rw [decide_eq_false h3, Bool.false_and, Bool.and_false]
          rw [← e]
          exact q H (Same.refl' _)
      · rw [decide_eq_false h2]
        refine iteF ⟨_, rfl, iteF ?_⟩
        have e : letB x a b = false := by
          unfold letB
          rw [decide_eq_false h2, Bool.false_and]
        rw [← e]
        exact q H (Same.refl' _)
    · exact ⟨_, rfl, _, _, _, false, ⟨rfl, ty, hk⟩, _, rfl, iteT q⟩
end
end Cw
namespace Cw
open PySem L2
inductive Wk where
  | word (x : Str) | back (a : Wk) | join (a b : Wk) | mix (a : Wk) (y : Str) | within (a : Wk) (i j : Int) | less (a : Wk) (i : Int)
def WAt (H : Hp) : Wk → V → Prop
  | .word x, v => ∃ a, v = .ref a ∧ H a = some (.tup [.str "word", .str x])
  | .back p, v => ∃ a u, v = .ref a ∧ H a = some (.tup [.str "back", u]) ∧ WAt H p u
  | .join p q, v => ∃ a u t, v = .ref a ∧ H a = some (.tup [.str "join", u, t]) ∧ WAt H p u ∧ WAt H q t
  | .mix p y, v => ∃ a u, v = .ref a ∧ H a = some (.tup [.str "mix", u, .str y]) ∧ WAt H p u
  | .within p i j, v => ∃ a u, v = .ref a ∧ H a = some (.tup [.str "within", u, .int i, .int j]) ∧ WAt H p u
  | .less p i, v => ∃ a u, v = .ref a ∧ H a = some (.tup [.str "less", u, .int i]) ∧ WAt H p u
def depW : Wk → Nat
  | .word _ => 0
  | .back a => depW a + 1
  | .join a b => max (depW a) (depW b) + 1
  | .mix a _ => depW a + 1
  | .within a _ _ => depW a + 1
  | .less a _ => depW a + 1
def SameX (t : Addr) (H H' : Hp) : Prop := ∀ b o, b ≠ t → H b = some o → H' b = some o
theorem SameX.trans {t : Addr} {H H1 H2 : Hp} (a : SameX t H H1) (b : SameX t H1 H2) : SameX t H H2 := fun c o n e => b c o n (a c o n e)
theorem SameX.of {t : Addr} {H H1 : Hp} (a : Same H H1) : SameX t H H1 := fun c o _ e => a c o e
theorem WAt.same {H H' : Hp} (s : Same H H') : ∀ {W : Wk} {v : V}, WAt H W v → WAt H' W v
  | .word _, _, h => by obtain ⟨a, e, S⟩ := h; exact ⟨a, e, s _ _ S⟩
  | .back _, _, h => by obtain ⟨a, u, e, S, r⟩ := h; exact ⟨a, u, e, s _ _ S, WAt.same s r⟩
  | .join _ _, _, h => by obtain ⟨a, u, z, e, S, r, q⟩ := h; exact ⟨a, u, z, e, s _ _ S, WAt.same s r, WAt.same s q⟩
  | .mix _ _, _, h => by obtain ⟨a, u, e, S, r⟩ := h; exact ⟨a, u, e, s _ _ S, WAt.same s r⟩
  | .within _ _ _, _, h => by obtain ⟨a, u, e, S, r⟩ := h; exact ⟨a, u, e, s _ _ S, WAt.same s r⟩
  | .less _ _, _, h => by obtain ⟨a, u, e, S, r⟩ := h; exact ⟨a, u, e, s _ _ S, WAt.same s r⟩
theorem app_len (y z : Str) : (y ++ z).length = y.length + z.length := by
  show (y.cps ++ z.cps).size = _
  rw [Array.size_append]
  rfl
def tagW : Wk → Str
  | .word _ => "word"
  | .back _ => "back"
  | .join _ _ => "join"
  | .mix _ _ => "mix"
  | .within _ _ _ => "within"
  | .less _ _ => "less"
def dW : Wk → D
  | .word x => .tup [.str "word", .str x]
  | .back a => .tup [.str "back", dW a]
  | .join a b => .tup [.str "join", dW a, dW b]
  | .mix a y => .tup [.str "mix", dW a, .str y]
  | .within a i j => .tup [.str "within", dW a, .int i, .int j]
  | .less a i => .tup [.str "less", dW a, .int i]
theorem WAt.at {K : PySem.W.Frag} {H : Hp} : ∀ {W : Wk} {v : V}, WAt H W v → At K H (dW W) v
  | .word _, _, h => by obtain ⟨a, e, S⟩ := h; exact ⟨a, _, e, SqT.of S, _, _, rfl, rfl, _, _, rfl, rfl, rfl⟩
  | .back _, _, h => by obtain ⟨a, u, e, S, r⟩ := h; exact ⟨a, _, e, SqT.of S, _, _, rfl, rfl, _, _, rfl, r.at, rfl⟩
  | .join _ _, _, h => by obtain ⟨a, u, z, e, S, r, q⟩ := h; exact ⟨a, _, e, SqT.of S, _, _, rfl, rfl, _, _, rfl, r.at, _, _, rfl, q.at, rfl⟩
  | .mix _ _, _, h => by obtain ⟨a, u, e, S, r⟩ := h; exact ⟨a, _, e, SqT.of S, _, _, rfl, rfl, _, _, rfl, r.at, _, _, rfl, rfl, rfl⟩
  | .within _ _ _, _, h => by obtain ⟨a, u, e, S, r⟩ := h; exact ⟨a, _, e, SqT.of S, _, _, rfl, rfl, _, _, rfl, r.at, _, _, rfl, rfl, _, _, rfl, rfl, rfl⟩
  | .less _ _, _, h => by obtain ⟨a, u, e, S, r⟩ := h; exact ⟨a, _, e, SqT.of S, _, _, rfl, rfl, _, _, rfl, r.at, _, _, rfl, rfl, rfl⟩
theorem dep_dW : ∀ W : Wk, dep (dW W) ≤ depW W + 1
  | .word _ => by simp [dW, dep, depL, depW]
  | .back a => by have := dep_dW a; simp only [dW, dep, depL, depW]; omega
  | .join a b => by have := dep_dW a; have := dep_dW b; simp only [dW, dep, depL, depW]; omega
  | .mix a _ => by have := dep_dW a; simp only [dW, dep, depL, depW]; omega
  | .within a _ _ => by have := dep_dW a; simp only [dW, dep, depL, depW]; omega
  | .less a _ => by have := dep_dW a; simp only [dW, dep, depL, depW]; omega
theorem dW_tup : ∀ W : Wk, ∃ ds, dW W = .tup (.str (tagW W) :: ds)
  | .word _ => ⟨_, rfl⟩
  | .back _ => ⟨_, rfl⟩
  | .join _ _ => ⟨_, rfl⟩
  | .mix _ _ => ⟨_, rfl⟩
  | .within _ _ _ => ⟨_, rfl⟩
  | .less _ _ => ⟨_, rfl⟩
theorem WAt.sameN {t : Addr} {H H' : Hp} (s : SameX t H H') (hn : ∀ xs, H t ≠ some (.tup xs)) : ∀ {W : Wk} {v : V}, WAt H W v → WAt H' W v := by
  have st : ∀ {a : Addr} {xs : List V}, H a = some (.tup xs) → H' a = some (.tup xs) := fun {a xs} h => s a _ (fun z => hn xs (by rw [← z]; exact h)) h
  intro W
  induction W with
  | word _ => intro v h; obtain ⟨a, e, S⟩ := h; exact ⟨a, e, st S⟩
  | back _ ih => intro v h; obtain ⟨a, u, e, S, r⟩ := h; exact ⟨a, u, e, st S, ih r⟩
  | join _ _ i1 i2 => intro v h; obtain ⟨a, u, z, e, S, r, q⟩ := h; exact ⟨a, u, z, e, st S, i1 r, i2 q⟩
  | mix _ _ ih => intro v h; obtain ⟨a, u, e, S, r⟩ := h; exact ⟨a, u, e, st S, ih r⟩
  | within _ _ _ ih => intro v h; obtain ⟨a, u, e, S, r⟩ := h; exact ⟨a, u, e, st S, ih r⟩
  | less _ _ ih => intro v h; obtain ⟨a, u, e, S, r⟩ := h; exact ⟨a, u, e, st S, ih r⟩
theorem str_eqL {x y : Str} (h : x.cps.toList = y.cps.toList) : x = y := by
  cases x; cases y
  exact congrArg Str.mk (Array.toList_inj.mp h)
theorem len_list (x : Str) : x.length = x.cps.toList.length := by
  show x.cps.size = _
  simp
theorem app_list (x y : Str) : (x ++ y).cps.toList = x.cps.toList ++ y.cps.toList := by
  show (x.cps ++ y.cps).toList = _
  simp
theorem sl_ss {x : Str} {i j : Nat} (h : i ≤ j) (h2 : j ≤ x.length) : (Txt.slice x (some (i : Int)) (some (j : Int))).cps.toList = (x.cps.toList.take j).drop i := by
  have e := beq_iff_eq.mp (PyProof.Rows.slice_closesL (x := x) (i := (i : Int)) (j := (j : Int)) (by omega) (by omega) (by omega))
  rw [e, Int.toNat_natCast, List.drop_take]
  show (x.cps.toList.drop i).take _ = _
  rw [show ((j : Int) - (i : Int)).toNat = j - i by omega]
end Cw
namespace Cw
open PySem L2
/-! ### a reader: a text, and how far it has been read -/
def figures : Str := "0123456789"
def rdF (x : Str) (i : Nat) : List (Str × V) := putF "at" (.int (i : Int)) (putF "text" (.str x) [])
theorem rdF_t (x : Str) (i : Nat) : (rdF x i).lookup ("text" : Str) = some (.str x) := by
  unfold rdF
  rw [lookup_putF, if_neg (by decide +kernel), lookup_putF, if_pos rfl]
theorem rdF_a (x : Str) (i : Nat) : (rdF x i).lookup ("at" : Str) = some (.int (i : Int)) := by
  unfold rdF
  rw [lookup_putF, if_pos rfl]
theorem rdF_no (x : Str) (i : Nat) {m : Str} (h1 : ¬ m = "at") (h2 : ¬ m = "text") : (rdF x i).lookup m = none := by
  unfold rdF
  rw [lookup_putF, if_neg h1, lookup_putF, if_neg h2]
  rfl
theorem rdF_eq (x : Str) (i : Nat) : rdF x i = ([("text", .str x), ("at", .int (i : Int))] : List (Str × V)) := by
  have h : ¬ (Str.ofString "text") = Str.ofString "at" := by decide +kernel
  show putF (Str.ofString "at") (.int (i : Int)) [(Str.ofString "text", .str x)] = _
  rw [putF, if_neg h, putF]
theorem rdF_put (x : Str) (i j : Nat) : putF "at" (.int (j : Int)) (rdF x i) = rdF x j := by
  have h : ¬ (Str.ofString "text") = Str.ofString "at" := by decide +kernel
  rw [rdF_eq, rdF_eq]
  show putF (Str.ofString "at") _ [(Str.ofString "text", .str x), (Str.ofString "at", _)] = _
  rw [putF, if_neg h, putF, if_pos rfl]
theorem rdF_len (x : Str) (i : Nat) : (rdF x i).length < 1000 := by
  rw [rdF_eq]
  exact (by decide : 2 < 1000)
/-- the sign at i; the text without signs at the end -/
def sgn (x : Str) (i : Nat) : Str := ⟨((x.cps.toList.drop i).take 1).toArray⟩
theorem sgn_slice {x : Str} {i : Nat} (h : i ≤ x.length) : Txt.slice x (some (i : Int)) (some ((i : Int) + 1)) = sgn x i := by
  apply str_eqL
  unfold sgn
  by_cases c : i < x.length
  · rw [show (i : Int) + 1 = ((i + 1 : Nat) : Int) by omega, sl_ss (by omega) (by omega), List.drop_take, show i + 1 - i = 1 by omega]
  · have e : i = x.length := by omega
    have e2 : Txt.slice x (some (i : Int)) (some ((i : Int) + 1)) = Txt.slice x (some (i : Int)) (some (i : Int)) := by
      subst e
      have h0 : ¬ ((x.length : Int) < 0) := by omega
      have h1 : ¬ ((x.length : Int) + 1 < 0) := by omega
      have h2 : (1 : Int) > 0 := by decide
      have h3 : min ((x.length : Int) + 1) (x.length : Int) = x.length := Int.min_eq_right (by omega)
      unfold Txt.slice
      simp only [Builtin.Str.strSliceIndices, h0, h1, h2, h3, if_false, if_true, Int.min_self]
    rw [e2, sl_ss (Nat.le_refl _) h]
    subst e
    rw [len_list]
    simp
theorem sgn_at {x : Str} {i c : Nat} (h : x.cps.toList[i]? = some c) : sgn x i = ⟨#[c]⟩ := by
  apply str_eqL
  unfold sgn
  obtain ⟨hl, e⟩ := List.getElem?_eq_some_iff.mp h
  rw [List.drop_eq_getElem_cons hl, e]
  rfl
theorem sgn_end {x : Str} {i : Nat} (h : x.length ≤ i) : sgn x i = Str.ofString "" := by
  apply str_eqL
  unfold sgn
  rw [List.drop_of_length_le (by rw [← len_list]; exact h)]
  rfl
theorem one_ne {c : Nat} : (⟨#[c]⟩ : Str) ≠ Str.ofString "" := fun e => by
  have := congrArg (fun z : Str => z.cps.size) e
  exact absurd (show 1 = 0 from this) (by decide)
theorem sl_mid {x : Str} {pre mid rest : List Nat} (h : x.cps.toList = pre ++ (mid ++ rest)) : Txt.slice x (some (pre.length : Int)) (some ((pre.length + mid.length : Nat) : Int)) = ⟨mid.toArray⟩ := by
  apply str_eqL
  rw [sl_ss (by omega) (by rw [len_list, h, List.length_append, List.length_append]; omega), h, List.drop_take, List.drop_left, show pre.length + mid.length - pre.length = mid.length by omega, List.take_left]
theorem get_mid {x : Str} {pre mid rest : List Nat} (h : x.cps.toList = pre ++ (mid ++ rest)) {k : Nat} (hk : k < mid.length) : x.cps.toList[pre.length + k]? = some mid[k] := by
  rw [h, List.getElem?_append_right (by omega), show pre.length + k - pre.length = k by omega, List.getElem?_append_left hk, List.getElem?_eq_getElem hk]
theorem get_rest {x : Str} {pre mid rest : List Nat} (h : x.cps.toList = pre ++ (mid ++ rest)) {c : Nat} (hc : rest.head? = some c) : x.cps.toList[pre.length + mid.length]? = some c := by
  rw [h, List.getElem?_append_right (by omega), show pre.length + mid.length - pre.length = mid.length by omega, List.getElem?_append_right (by omega), Nat.sub_self, ← List.head?_eq_getElem?]
  exact hc
/-! ### numbers -/
def numT (n : Int) : Str := Str.ofString (toString n)
def numB (k : Nat) : Bool := let l := (numT (k : Int)).cps.toList; decide (1 ≤ l.length) && (decide (l.length ≤ 3) && (l.all (fun c => decide (48 ≤ c) && decide (c ≤ 57)) && (decide (l = [48]) || decide (l.head? ≠ some 48))))
theorem numK : ((List.range 1000).all numB) = true := by decide +kernel
structure NumOk (x : Str) : Prop where
  l1 : 1 ≤ x.length
  l3 : x.length ≤ 3
  fg : ∀ c ∈ x.cps.toList, 48 ≤ c ∧ c ≤ 57
  hd : x.cps.toList = [48] ∨ x.cps.toList.head? ≠ some 48
theorem num_ok {n : Int} (h0 : 0 ≤ n) (h1 : n < 1000) : NumOk (numT n) := by
  obtain ⟨k, rfl⟩ := Int.eq_ofNat_of_zero_le h0
  have h := List.all_eq_true.mp numK k (List.mem_range.mpr (by omega))
  unfold numB at h
  simp only [Bool.and_eq_true, Bool.or_eq_true, decide_eq_true_eq, List.all_eq_true] at h
  obtain ⟨a, b, c, d⟩ := h
  exact ⟨by rw [len_list]; exact a, by rw [len_list]; exact b, c, d⟩
/-- a reader stands at i in x -/
def RdAt (C : Addr) (H : Hp) (p : Addr) (x : Str) (i : Nat) : Prop := ∃ dx, H p = some (.ins C dx (rdF x i))
section
variable {P : Program} {w : World} {K : PySem.W.Frag} {mg : Str → Option Value} {base : Heap} {f : Addr} {fd : FuncData}
def spNeed : Sp := fun vs H Q _ => vs = [.bl true] ∧ Q .non H
theorem sc_need : FnScope ["truth"] ["truth"] (defScope (top 18)) := ⟨rfl, rfl, rfl, by decide +kernel, rfl, by decide +kernel, by decide +kernel⟩
theorem ok_need (F : Fun K "need" "need" (top 18) f fd) : FnOk P w K mg base CX0 1 f fd ["truth"] spNeed := by
  refine F.ok sc_need (fun vs H Q E h => ?_) (fun cdv A outer s H vs Q E hr h => ?_)
  · obtain ⟨rfl, _⟩ := h
    rfl
  · obtain ⟨rfl, q⟩ := h
    refine ⟨_, (pss_one (ps_if (pt_not (pt_val (pv 0)))
      (pss_one ps_never)
      pss_nil)), ?_⟩
    exact ⟨_, rfl, _, rfl, iteF q⟩
def spRInit (C : Addr) : Sp := fun vs H Q _ => ∃ (p dx : Addr) (x : Str), vs = [.ref p, .str x] ∧ H p = some (.ins C dx []) ∧ ∀ H' : Hp, RdAt C H' p x 0 → SameX p H H' → Q .non H'
theorem sc_Reader__init : FnScope ["self", "text"] ["self", "text"] (defScope (inClass (top 13) 0)) := ⟨rfl, rfl, rfl, by decide +kernel, rfl, by decide +kernel, by decide +kernel⟩
theorem ok_rinit {C : Addr} (F : Fun K "__init__" "Reader.__init__" (inClass (top 13) 0) f fd) (T : Cls K C) (nt : NoAttr K C "text") (na : NoAttr K C "at") : FnOk P w K mg base CX0 1 f fd ["self", "text"] (spRInit C) := by
  refine F.ok sc_Reader__init (fun vs H Q E h => ?_) (fun cdv A outer s H vs Q E hr h => ?_)
  · obtain ⟨p, dx, x, rfl, _⟩ := h
    rfl
  · obtain ⟨p, dx, x, rfl, hp, q⟩ := h
    refine ⟨_, (pss_cons (ps_fld (pv 0) (pv 1) rfl)
      (pss_one (ps_fld (pv 0) pe_int rfl))), ?_⟩
    refine ⟨_, rfl, _, rfl, p, C, dx, [], rfl, hp, T, nt, (by show 0 < 1000; decide), ?_⟩
    refine ⟨_, rfl, p, C, dx, _, rfl, upd_same, T, na, (by show 1 < 1000; decide), ?_⟩
    exact q _ ⟨dx, upd_same⟩ fun b o hb e => by rw [upd_ne hb, upd_ne hb]; exact e
def spSign (C : Addr) : Sp := fun vs H Q _ => ∃ (p : Addr) (x : Str) (i : Nat), vs = [.ref p] ∧ RdAt C H p x i ∧ i ≤ x.length ∧ x.length ≤ 1000 ∧ Q (.str (sgn x i)) H
theorem sc_Reader__sign : FnScope ["self"] ["self"] (defScope (inClass (top 13) 1)) := ⟨rfl, rfl, rfl, by decide +kernel, rfl, by decide +kernel, by decide +kernel⟩
theorem ok_sign {C : Addr} (F : Fun K "sign" "Reader.sign" (inClass (top 13) 1) f fd) (T : Cls K C) (nt : NoAttr K C "text") (na : NoAttr K C "at") : FnOk P w K mg base CX0 1 f fd ["self"] (spSign C) := by
  refine F.ok sc_Reader__sign (fun vs H Q E h => ?_) (fun cdv A outer s H vs Q E hr h => ?_)
  · obtain ⟨p, x, i, rfl, _⟩ := h
    rfl
  · obtain ⟨p, x, i, rfl, ⟨dx, hp⟩, hi, hx, q⟩ := h
    refine ⟨_, (pss_one (ps_ret (pe_slice sl_str (pe_fld (pv 0) rfl) (po_some (pe_fld (pv 0) rfl)) (po_some (pe_op op_add (pe_fld (pv 0) rfl) pe_int))))), ?_⟩
    refine ⟨_, rfl, p, C, dx, _, _, rfl, hp, T, nt, rdF_t x i, _, rfl, p, C, dx, _, _, rfl, hp, T, na, rdF_a x i, _, rfl, _, rfl, p, C, dx, _, _, rfl, hp, T, na, rdF_a x i, _, _, rfl, rfl, _, rfl, x, rfl, szA (by omega), ?_⟩
    rw [sgn_slice hi]
    exact q
def spPass (C : Addr) : Sp := fun vs H Q _ => ∃ (p : Addr) (x : Str) (i c : Nat), vs = [.ref p, .str ⟨#[c]⟩] ∧ RdAt C H p x i ∧ x.cps.toList[i]? = some c ∧ x.length ≤ 1000 ∧ ∀ H', RdAt C H' p x (i + 1) → SameX p H H' → Q .non H'
theorem sc_Reader__pass_by : FnScope ["self", "sign"] ["self", "sign"] (defScope (inClass (top 13) 3)) := ⟨rfl, rfl, rfl, by decide +kernel, rfl, by decide +kernel, by decide +kernel⟩
theorem ok_pass {C : Addr} (F : Fun K "pass_by" "Reader.pass_by" (inClass (top 13) 3) f fd) (T : Cls K C) (na : NoAttr K C "at") (MReader_sign : Mt P w K mg base C "sign" 1 (spSign C) []) (Fneed : Fn P w K mg base "need" 1 spNeed) : FnOk P w K mg base CX0 2 f fd ["self", "sign"] (spPass C) := by
  refine F.ok sc_Reader__pass_by (fun vs H Q E h => ?_) (fun cdv A outer s H vs Q E hr h => ?_)
  · obtain ⟨p, x, i, c, rfl, _⟩ := h
    rfl
  · obtain ⟨p, x, i, c, rfl, ⟨dx, hp⟩, hc, hx, q⟩ := h
    have hil := (List.getElem?_eq_some_iff.mp hc).1
    rw [← len_list] at hil
    refine ⟨_, (pss_cons (ps_expr (pe_fn Fneed (hr.mono (by decide)) (by rfl) (pa_cons (pe_cmpR op_eq (pe_mt0 MReader_sign (hr.mono (by decide)) (pv 0)) (pv 1) (nomark _)) pa_nil)))
      (pss_one (ps_fld (pv 0) (pe_op op_add (pe_fld (pv 0) rfl) pe_int) rfl))), ?_⟩
    refine ⟨_, rfl, p, dx, _, rfl, hp, rdF_no x i (by decide +kernel) (by decide +kernel), p, x, i, rfl, ⟨dx, hp⟩, by omega, hx, _, rfl, rfl, ?_⟩
    rw [sgn_at hc, decide_eq_true rfl]
    refine ⟨rfl, ?_⟩
    refine ⟨_, rfl, p, C, dx, _, _, rfl, hp, T, na, rdF_a x i, _, _, rfl, rfl, _, rfl, p, C, dx, _, rfl, hp, T, na, rdF_len x i, ?_⟩
    refine q _ ⟨dx, ?_⟩ fun b o hb e => by rw [upd_ne hb]; exact e
    rw [upd_same, ← rdF_put x i (i + 1)]
    rfl
def spRun (C : Addr) : Sp := fun vs H Q _ => ∃ (p : Addr) (x s : Str) (pre mid rest : List Nat), vs = [.ref p, .str s] ∧ x.cps.toList = pre ++ (mid ++ rest) ∧ RdAt C H p x pre.length ∧ (∀ c ∈ mid, c ∈ s.cps.toList) ∧ (∀ c, rest.head? = some c → c ∉ s.cps.toList) ∧ x.length ≤ 1000 ∧ s.length ≤ 1000 ∧ ∀ H', RdAt C H' p x (pre.length + mid.length) → SameX p H H' → Q (.str ⟨mid.toArray⟩) H'
theorem sc_Reader__run : FnScope ["self", "signs", "start"] ["self", "signs"] (defScope (inClass (top 13) 2)) := ⟨rfl, rfl, rfl, by decide +kernel, rfl, by decide +kernel, by decide +kernel⟩
theorem ok_run {C : Addr} (F : Fun K "run" "Reader.run" (inClass (top 13) 2) f fd) (T : Cls K C) (nt : NoAttr K C "text") (na : NoAttr K C "at") (MReader_sign : Mt P w K mg base C "sign" 1 (spSign C) []) : FnOk P w K mg base CX0 2 f fd ["self", "signs"] (spRun C) := by
  refine F.ok sc_Reader__run (fun vs H Q E h => ?_) (fun cdv A outer s H vs Q E hr h => ?_)
  · obtain ⟨p, x, s, pre, mid, rest, rfl, _⟩ := h
    rfl
  · obtain ⟨p, x, s, pre, mid, rest, rfl, hx, ⟨dx, hp⟩, hm, hre, hx1, hs1, q⟩ := h
    refine ⟨_, (pss_cons (ps_set (i := 2) sc_Reader__run.nd rfl (Or.inl rfl) (pe_fld (pv 0) rfl))
      (pss_cons (ps_while PassesOwn.never (pw_and (pt_cmpR op_ne (pe_mt0 MReader_sign (hr.mono (by decide)) (pv 0)) pe_str (nomark _)) (pw_and1 (pt_cmpR op_in_str (pe_mt0 MReader_sign (hr.mono (by decide)) (pv 0)) (pv 1) rfl))).pt
      (pss_one (ps_fld (pv 0) (pe_op op_add (pe_fld (pv 0) rfl) pe_int) rfl)))
      (pss_one (ps_ret (pe_slice sl_str (pe_fld (pv 0) rfl) (po_some (pv 2)) (po_some (pe_fld (pv 0) rfl))))))), ?_⟩
    have hlen : x.length = pre.length + (mid.length + rest.length) := by rw [len_list, hx, List.length_append, List.length_append]
    refine ⟨_, rfl, p, C, dx, _, _, rfl, hp, T, na, rdF_a x pre.length, ?_⟩
    refine ⟨fun m σ H5 => ∃ k, m + k = mid.length ∧ σ = [some (.ref p), some (.str s), some (.int (pre.length : Int))] ∧ RdAt C H5 p x (pre.length + k) ∧ SameX p H H5, ⟨mid.length, 0, rfl, rfl, ⟨dx, hp⟩, fun _ _ _ e => e⟩, ?_⟩
    rintro m σ H5 ⟨k, hk, rfl, ⟨dx5, hp5⟩, s5⟩
    refine ⟨_, rfl, p, dx5, _, rfl, hp5, rdF_no x _ (by decide +kernel) (by decide +kernel), p, x, pre.length + k, rfl, ⟨dx5, hp5⟩, by omega, hx1, rfl, _, rfl, ?_⟩
    dsimp only
    by_cases hkm : k < mid.length
    · have hc := get_mid hx hkm
      rw [sgn_at hc, decide_eq_false (fun e => one_ne (by injection e))]
      refine iteT ⟨_, rfl, p, dx5, _, rfl, hp5, rdF_no x _ (by decide +kernel) (by decide +kernel), p, x, pre.length + k, rfl, ⟨dx5, hp5⟩, by omega, hx1, _, rfl, _, _, rfl, rfl, _, rfl, ?_⟩
      rw [sgn_at hc, StrLaws.found_one, decide_eq_true (hm _ (List.getElem_mem hkm))]
      · refine iteT ⟨fun σ H6 => ∃ k, m - 1 + k = mid.length ∧ σ = [some (.ref p), some (.str s), some (.int (pre.length : Int))] ∧ RdAt C H6 p x (pre.length + k) ∧ SameX p H H6, fun σ' H' h => ⟨m - 1, by omega, h⟩, ?_⟩
        refine ⟨_, rfl, p, C, dx5, _, _, rfl, hp5, T, na, rdF_a x _, _, _, rfl, rfl, _, rfl, p, C, dx5, _, rfl, hp5, T, na, rdF_len x _, ?_⟩
        refine ⟨k + 1, by omega, rfl, ⟨dx5, ?_⟩, fun b o hb e => by rw [upd_ne hb]; exact s5 b o hb e⟩
        rw [upd_same, ← rdF_put x (pre.length + k) (pre.length + (k + 1))]
        rfl
    · have hke : k = mid.length := by omega
      subst hke
      cases hr : rest.head? with
      | none =>
        have hre : rest = [] := List.head?_eq_none_iff.mp hr
        rw [sgn_end (by rw [hlen, hre]; exact Nat.le_refl _), decide_eq_true rfl]
        exact iteF (iteF ⟨_, rfl, p, C, dx5, _, _, rfl, hp5, T, nt, rdF_t x _, _, rfl, _, rfl, _, rfl, p, C, dx5, _, _, rfl, hp5, T, na, rdF_a x _, _, rfl, x, rfl, szA (by omega), by rw [sl_mid hx]; exact q H5 ⟨dx5, hp5⟩ s5⟩)
      | some c =>
        have hc := get_rest hx hr
        rw [sgn_at hc, decide_eq_false (fun e => one_ne (by injection e))]
        refine iteT ⟨_, rfl, p, dx5, _, rfl, hp5, rdF_no x _ (by decide +kernel) (by decide +kernel), p, x, pre.length + mid.length, rfl, ⟨dx5, hp5⟩, by omega, hx1, _, rfl, _, _, rfl, rfl, _, rfl, ?_⟩
        rw [sgn_at hc, StrLaws.found_one, decide_eq_false (hre c hr)]
        · exact iteF ⟨_, rfl, p, C, dx5, _, _, rfl, hp5, T, nt, rdF_t x _, _, rfl, _, rfl, _, rfl, p, C, dx5, _, _, rfl, hp5, T, na, rdF_a x _, _, rfl, x, rfl, szA (by omega), by rw [sl_mid hx]; exact q H5 ⟨dx5, hp5⟩ s5⟩
theorem fig_mem {c : Nat} (h : 48 ≤ c ∧ c ≤ 57) : c ∈ figures.cps.toList := by
  have h2 : ∀ k ∈ List.range 10, (48 + k) ∈ figures.cps.toList := by decide +kernel
  have := h2 (c - 48) (List.mem_range.mpr (by omega))
  rw [show 48 + (c - 48) = c by omega] at this
  exact this
def spNumber (K : PySem.W.Frag) : Sp := fun vs H Q _ => ∃ x : Str, vs = [.str x, .int 3] ∧ NumOk x ∧ ∀ H', Same H H' → Q (.bl true) H'
theorem sc_is_number : FnScope ["text", "most"] ["text", "most"] (defScope (top 7)) := ⟨rfl, rfl, rfl, by decide +kernel, rfl, by decide +kernel, by decide +kernel⟩
theorem ok_isnumber (B : Bl mg) (cFIGURES : Cn mg "FIGURES" (.str figures)) (F : Fun K "is_number" "is_number" (top 7) f fd) : FnOk P w K mg base CX0 1 f fd ["text", "most"] (spNumber K) := by
  refine F.ok sc_is_number (fun vs H Q E h => ?_) (fun cdv A outer s H vs Q E hr h => ?_)
  · obtain ⟨x, rfl, _⟩ := h
    rfl
  · obtain ⟨x, rfl, ⟨l1, l3, fg, hd⟩, q⟩ := h
    refine ⟨_, (pss_cons (ps_if (pt_not (pt_chain op_le op_le pe_int (pe_callB call_len_str (by rfl) B.len_ bt_len (pa_cons (pv 0) pa_nil)) (pv 1)))
      (pss_one (ps_ret pe_bl))
      pss_nil)
      (pss_cons (ps_if (pt_not (pt_val (pe_callB (call_all rfl) (by rfl) B.all_ bt_all (pa_cons (pe_comp (js := []) (ns := []) (pi_str (pv 0)) rfl rfl rfl rfl (fun _ _ _ _ => pif_nil) (fun _ _ _ _ => (pe_cmpR op_in_str (pv 0) (pe_cn cFIGURES (by rfl)) rfl))) pa_nil))))
      (pss_one (ps_ret pe_bl))
      pss_nil)
      (pss_one (ps_ret (pe_or (pe_cmpR op_eq (pv 0) pe_str (nomark _)) (pe_one (pe_cmpR op_ne (pe_ix ix_str (pv 0) pe_int (fun _ _ => rfl)) pe_str (nomark _)))))))), ?_⟩
    refine ⟨_, rfl, x, rfl, szA (by omega), _, _, rfl, rfl, _, rfl, ?_⟩
    rw [decide_eq_true (show (1 : Int) ≤ (x.length : Int) by omega)]
    refine iteT ⟨_, rfl, _, _, rfl, rfl, _, rfl, ?_⟩
    rw [decide_eq_true (show (x.length : Int) ≤ 3 by omega)]
    refine iteF ?_
    dsimp only [tNext]
    refine ⟨_, rfl, x, rfl, comp_map seq_str (by rw [List.length_map, Array.length_toList]; show x.length ≤ 10000; omega) (fun _ i y _ => y = .bl true) (fun _ _ => trivial) (fun _ _ _ _ _ _ _ _ h => h) ?_ ?_⟩
    · intro D i z H2 Z _ hz _ _ k1
      rw [List.getElem?_map] at hz
      cases e : x.cps.toList[i]? with
      | none => rw [e] at hz; cases hz
      | some c =>
        rw [e] at hz
        cases hz
        refine ⟨_, rfl, _, _, rfl, rfl, k1 _ _ (Same.refl' _) ?_⟩
        rw [StrLaws.found_one, decide_eq_true (fig_mem (fg c (List.mem_of_getElem? e)))]
    · intro D ys H2 hD hDs sm pr
      have e := pairedL_map (f := fun _ => V.bl true) pr
      refine ⟨D, (List.range (x.cps.toList.map fun c => V.str ⟨#[c]⟩).length).map (fun _ => true), rfl, SqL.of (by rw [hDs, e, List.map_map]; rfl), _, rfl, ?_⟩
      have ea : (((List.range (x.cps.toList.map fun c => V.str ⟨#[c]⟩).length).map (fun _ => true)).all id) = true := by rw [List.all_map]; exact List.all_eq_true.mpr fun _ _ => rfl
      rw [ea]
      refine iteF ?_
      refine ⟨_, rfl, rfl, _, rfl, ?_⟩
      by_cases h0 : x = Str.ofString "0"
      · rw [decide_eq_true (by rw [h0])]
        exact iteT (q H2 sm)
      · rw [decide_eq_false (fun z => h0 (by injection z))]
        have hne : x.cps.toList.head? ≠ some 48 := hd.resolve_left fun z => h0 (str_eqL (by rw [z]; decide +kernel))
        obtain ⟨c, hc⟩ : ∃ c, x.cps.toList[0]? = some c := ⟨_, List.getElem?_eq_getElem (by rw [← len_list]; omega)⟩
        refine iteF ⟨_, rfl, x, 0, c, rfl, rfl, szA (by omega), atI_nat (j := 0) hc, rfl, ?_⟩
        have hc0 : (⟨#[c]⟩ : Str) ≠ Str.ofString "0" := fun z => by
          have e48 : (Str.ofString "0").cps.toList = [48] := by decide +kernel
          have := congrArg (fun z : Str => z.cps.toList) z
          rw [show (Str.mk #[c]).cps.toList = [c] from rfl, e48] at this
          injection this with this
          rw [List.head?_eq_getElem?, hc, this] at hne
          exact hne rfl
        rw [decide_eq_false (fun z => hc0 (by injection z))]
        exact q H2 sm
def spChecked : Sp := fun vs H Q _ => ∃ x : Str, vs = [.str x] ∧ letB x 1 9 = true ∧ x.length ≤ 1000 ∧ ∀ H', Same H H' → Q (.str x) H'
theorem sc_checked_letters : FnScope ["text"] ["text"] (defScope (top 17)) := ⟨rfl, rfl, rfl, by decide +kernel, rfl, by decide +kernel, by decide +kernel⟩
theorem ok_checked (cLEAST_LETTERS : Cn mg "LEAST_LETTERS" (.int 1)) (cMOST_LETTERS : Cn mg "MOST_LETTERS" (.int 9)) (F : Fun K "checked_letters" "checked_letters" (top 17) f fd) (Fneed : Fn P w K mg base "need" 1 spNeed) (Fis_letters : Fn P w K mg base "is_letters" 1 (spLetters K)) : FnOk P w K mg base CX0 2 f fd ["text"] spChecked := by
  refine F.ok sc_checked_letters (fun vs H Q E h => ?_) (fun cdv A outer s H vs Q E hr h => ?_)
  · obtain ⟨x, rfl, _⟩ := h
    rfl
  · obtain ⟨x, rfl, hl, hx, q⟩ := h
    refine ⟨_, (pss_cons (ps_expr (pe_fn Fneed (hr.mono (by decide)) (by rfl) (pa_cons (pe_fn Fis_letters (hr.mono (by decide)) (by rfl) (pa_cons (pv 0) (pa_cons (pe_cn cLEAST_LETTERS (by rfl)) (pa_cons (pe_cn cMOST_LETTERS (by rfl)) pa_nil)))) pa_nil)))
      (pss_one (ps_ret (pv 0)))), ?_⟩
    refine ⟨_, rfl, .inl ⟨x, 1, 9, rfl, hx, fun H1 s1 => ?_⟩⟩
    rw [hl]
    exact ⟨rfl, _, rfl, q H1 s1⟩
end
end Cw
namespace Cw
open PySem L2
/-! ### the text of a working -/
inductive Pt where
  | w (W : Wk) | l (x : Str) | n (i : Int)
def tL : Wk → List Nat
  | .word x => x.cps.toList
  | .back a => (Str.ofString "back").cps.toList ++ ((40 :: (tL a ++ [])) ++ [41])
  | .join a b => (Str.ofString "join").cps.toList ++ ((40 :: (tL a ++ (44 :: (tL b ++ [])))) ++ [41])
  | .mix a y => (Str.ofString "mix").cps.toList ++ ((40 :: (tL a ++ (44 :: (y.cps.toList ++ [])))) ++ [41])
  | .within a i j => (Str.ofString "within").cps.toList ++ ((40 :: (tL a ++ (44 :: ((numT i).cps.toList ++ (44 :: ((numT j).cps.toList ++ [])))))) ++ [41])
  | .less a i => (Str.ofString "less").cps.toList ++ ((40 :: (tL a ++ (44 :: ((numT i).cps.toList ++ [])))) ++ [41])
def tP : Pt → List Nat
  | .w W => tL W
  | .l x => x.cps.toList
  | .n i => (numT i).cps.toList
def tPs : Nat → List Pt → List Nat
  | _, [] => []
  | c, p :: r => c :: (tP p ++ tPs 44 r)
def partsOf : Wk → List Pt
  | .word x => [.l x]
  | .back a => [.w a]
  | .join a b => [.w a, .w b]
  | .mix a y => [.w a, .l y]
  | .within a i j => [.w a, .n i, .n j]
  | .less a i => [.w a, .n i]
def isWord : Wk → Bool
  | .word _ => true
  | _ => false
theorem tL_parts : ∀ {W : Wk}, isWord W = false → tL W = (tagW W).cps.toList ++ (tPs 40 (partsOf W) ++ [41])
  | .word _, h => by cases h
  | .back _, _ => rfl
  | .join _ _, _ => rfl
  | .mix _ _, _ => rfl
  | .within _ _ _, _ => rfl
  | .less _ _, _ => rfl
def VW : Wk → Prop
  | .word x => letB x 1 9 = true
  | .back a => VW a
  | .join a b => VW a ∧ VW b
  | .mix a y => VW a ∧ letB y 1 9 = true
  | .within a i j => VW a ∧ (0 ≤ i ∧ i < 1000) ∧ (0 ≤ j ∧ j < 1000)
  | .less a i => VW a ∧ 0 ≤ i ∧ i < 1000
def VP : Pt → Prop
  | .w W => VW W
  | .l x => letB x 1 9 = true
  | .n i => 0 ≤ i ∧ i < 1000
def depP : Pt → Nat
  | .w W => depW W + 1
  | _ => 0
def kindP : Pt → Str
  | .w _ => "working"
  | .l _ => "letters"
  | .n _ => "number"
def PAt (H : Hp) : Pt → V → Prop
  | .w W, v => WAt H W v
  | .l x, v => v = .str x
  | .n i, v => v = .int i
theorem VW_parts {W : Wk} (h : VW W) : ∀ p ∈ partsOf W, VP p := by
  cases W with
  | word x => intro p m; rw [List.mem_singleton.mp m]; exact h
  | back a => intro p m; rw [List.mem_singleton.mp m]; exact h
  | join a b =>
    intro p m
    rcases List.mem_cons.mp m with rfl | m
    · exact h.1
    · rw [List.mem_singleton.mp m]; exact h.2
  | mix a y =>
    intro p m
    rcases List.mem_cons.mp m with rfl | m
    · exact h.1
    · rw [List.mem_singleton.mp m]; exact h.2
  | within a i j =>
    intro p m
    rcases List.mem_cons.mp m with rfl | m
    · exact h.1
    rcases List.mem_cons.mp m with rfl | m
    · exact h.2.1
    · rw [List.mem_singleton.mp m]; exact h.2.2
  | less a i =>
    intro p m
    rcases List.mem_cons.mp m with rfl | m
    · exact h.1
    · rw [List.mem_singleton.mp m]; exact h.2
theorem dep_parts (W : Wk) : ∀ p ∈ partsOf W, depP p ≤ depW W := by
  cases W <;> (intro p m; simp only [partsOf, List.mem_cons, List.not_mem_nil, or_false] at m)
  case word => subst m; exact Nat.zero_le _
  case back => subst m; exact Nat.le_refl _
  case join => rcases m with rfl | rfl <;> simp only [depP, depW] <;> omega
  case mix => rcases m with rfl | rfl <;> simp only [depP, depW] <;> omega
  case within => rcases m with rfl | rfl | rfl <;> simp only [depP, depW] <;> omega
  case less => rcases m with rfl | rfl <;> simp only [depP, depW] <;> omega
theorem PAt.same {H H' : Hp} (s : Same H H') : ∀ {p : Pt} {v : V}, PAt H p v → PAt H' p v
  | .w _, _, h => WAt.same s h
  | .l _, _, h => h
  | .n _, _, h => h
theorem PAt.sameN {t : Addr} {H H' : Hp} (s : SameX t H H') (hn : ∀ xs, H t ≠ some (.tup xs)) : ∀ {p : Pt} {v : V}, PAt H p v → PAt H' p v
  | .w _, _, h => WAt.sameN s hn h
  | .l _, _, h => h
  | .n _, _, h => h
theorem WAt_of {H : Hp} {a : Addr} : ∀ {W : Wk} {vs : List V}, H a = some (.tup (.str (tagW W) :: vs)) → Paired (PAt H) (partsOf W) vs → WAt H W (.ref a)
  | .word _, _, h, .cons e .nil => by cases (show _ = _ from e); exact ⟨a, rfl, h⟩
  | .back _, _, h, .cons e .nil => ⟨a, _, rfl, h, e⟩
  | .join _ _, _, h, .cons e (.cons g .nil) => ⟨a, _, _, rfl, h, e, g⟩
  | .mix _ _, _, h, .cons e (.cons g .nil) => by cases (show _ = _ from g); exact ⟨a, _, rfl, h, e⟩
  | .within _ _ _, _, h, .cons e (.cons g (.cons k .nil)) => by cases (show _ = _ from g); cases (show _ = _ from k); exact ⟨a, _, rfl, h, e⟩
  | .less _ _, _, h, .cons e (.cons g .nil) => by cases (show _ = _ from g); exact ⟨a, _, rfl, h, e⟩
theorem WAt_to {H : Hp} : ∀ {W : Wk} {v : V}, WAt H W v → ∃ a vs, v = .ref a ∧ H a = some (.tup (.str (tagW W) :: vs)) ∧ Paired (PAt H) (partsOf W) vs
  | .word _, _, ⟨a, e, h⟩ => ⟨a, _, e, h, .cons rfl .nil⟩
  | .back _, _, ⟨a, _, e, h, r⟩ => ⟨a, _, e, h, .cons r .nil⟩
  | .join _ _, _, ⟨a, _, _, e, h, r, q⟩ => ⟨a, _, e, h, .cons r (.cons q .nil)⟩
  | .mix _ _, _, ⟨a, _, e, h, r⟩ => ⟨a, _, e, h, .cons r (.cons rfl .nil)⟩
  | .within _ _ _, _, ⟨a, _, e, h, r⟩ => ⟨a, _, e, h, .cons r (.cons rfl (.cons rfl .nil))⟩
  | .less _ _, _, ⟨a, _, e, h, r⟩ => ⟨a, _, e, h, .cons r (.cons rfl .nil)⟩
theorem tag_low : ∀ (W : Wk), ∀ c ∈ (tagW W).cps.toList, c ∈ letters.cps.toList
  | .word _ => (by decide +kernel : ∀ c ∈ (Str.ofString "word").cps.toList, c ∈ letters.cps.toList)
  | .back _ => (by decide +kernel : ∀ c ∈ (Str.ofString "back").cps.toList, c ∈ letters.cps.toList)
  | .join _ _ => (by decide +kernel : ∀ c ∈ (Str.ofString "join").cps.toList, c ∈ letters.cps.toList)
  | .mix _ _ => (by decide +kernel : ∀ c ∈ (Str.ofString "mix").cps.toList, c ∈ letters.cps.toList)
  | .within _ _ _ => (by decide +kernel : ∀ c ∈ (Str.ofString "within").cps.toList, c ∈ letters.cps.toList)
  | .less _ _ => (by decide +kernel : ∀ c ∈ (Str.ofString "less").cps.toList, c ∈ letters.cps.toList)
theorem ifs_miss {t : TT} {a u : TS} {D : Ends} {σ : St} {H : Hp} (ht : ∀ R : Bool → Hp → Prop, R false H → t σ H R) (hb : u D σ H) : tSeq (tIfS t a tNext) u D σ H := ht _ (iteF hb)
theorem ifs_hit {t : TT} {a u : TS} {D : Ends} {σ : St} {H H1 : Hp} (ht : ∀ R : Bool → Hp → Prop, R true H1 → t σ H R) (ha : a { D with nx := u D } σ H1) : tSeq (tIfS t a tNext) u D σ H := ht _ (iteT ha)
theorem sFr {s t : Str} (h : s ≠ t) {R : Bool → Hp → Prop} {H : Hp} (b : R false H) : R (decide (V.str s = V.str t)) H := by
  rw [decide_eq_false (fun z => h (by injection z))]
  exact b
theorem sTr {s : Str} {R : Bool → Hp → Prop} {H : Hp} (b : R true H) : R (decide (V.str s = V.str s)) H := by
  rw [decide_eq_true rfl]
  exact b
theorem tPs_head {c : Nat} {ps : List Pt} (h : ps ≠ []) (l : List Nat) : (tPs c ps ++ l).head? = some c := by
  cases ps with
  | nil => exact absurd rfl h
  | cons p r => rfl
theorem parts_ne (W : Wk) : partsOf W ≠ [] := by cases W <;> exact List.cons_ne_nil _ _
theorem e40 : Str.ofString "(" = ⟨#[40]⟩ := by decide +kernel
theorem e41 : Str.ofString ")" = ⟨#[41]⟩ := by decide +kernel
theorem e44 : Str.ofString "," = ⟨#[44]⟩ := by decide +kernel
theorem one_inj {c d : Nat} (h : (⟨#[c]⟩ : Str) = ⟨#[d]⟩) : c = d := by simpa using h
theorem take_snoc {α : Type} {l : List α} {k : Nat} {a : α} (h : l[k]? = some a) : l.take (k + 1) = l.take k ++ [a] := by
  rw [List.take_add_one, h]
  rfl
theorem drop_cons {α : Type} {l : List α} {k : Nat} {a : α} (h : l[k]? = some a) : l.drop k = a :: l.drop (k + 1) := by
  obtain ⟨hl, e⟩ := List.getElem?_eq_some_iff.mp h
  rw [List.drop_eq_getElem_cons hl, e]
theorem paired_snoc {α β : Type} {R : α → β → Prop} {a : α} {b : β} : ∀ {l : List α} {m : List β}, Paired R l m → R a b → Paired R (l ++ [a]) (m ++ [b])
  | _, _, .nil, h => .cons h .nil
  | _, _, .cons h t, g => .cons h (paired_snoc t g)
theorem RdAt.mono {C r : Addr} {H H' : Hp} {x : Str} {i : Nat} (h : RdAt C H r x i) (s : Same H H') : RdAt C H' r x i := let ⟨dx, e⟩ := h; ⟨dx, s _ _ e⟩
theorem SameX.free_at {r t : Addr} {H H' : Hp} (s : SameX r H H') (ht : H' t = none) {o : HO} (hr : t ≠ r) : H t ≠ some o := fun e => by rw [s t o hr e] at ht; cases ht
theorem mk_list (y : Str) : (⟨y.cps.toList.toArray⟩ : Str) = y := str_eqL rfl
theorem let_low {x : Str} (h : letB x 1 9 = true) : (∀ c ∈ x.cps.toList, c ∈ letters.cps.toList) ∧ 1 ≤ x.length ∧ x.length ≤ 9 := by
  unfold letB at h
  simp only [Bool.and_eq_true, decide_eq_true_eq] at h
  refine ⟨fun c m => of_decide_eq_true (List.all_eq_true.mp h.2.2 c m), by omega, by omega⟩
/-- the dict of the parts -/
def PartsOk (K : PySem.W.Frag) (w : World) (mg : Str → Option Value) : Prop := ∃ kvs, GD K w mg "PARTS" kvs ∧ ∀ W, isWord W = false → ∃ a, valV kvs (Sum.inr (tagW W) : Key) = some (.ref a) ∧ ∀ H, SqT K H a ((partsOf W).map fun p => .str (kindP p))
theorem parts_mk {K : PySem.W.Frag} {w : World} {mg : Str → Option Value} {aP p0 p1 p2 p3 p4 : Addr} {t0 t1 t2 t3 t4 u00 u10 u11 u20 u21 u30 u31 u32 u40 u41 : Tok} {nP m0 m1 m2 m3 m4 : Nat} {o0 o1 o2 o3 o4 : Option Addr} {l0 l1 l2 l3 l4 : Array (Option Value)} (hm : mg "PARTS" = some (.ref aP)) (ha : (aP == sysModules) = false) (lk : K.lookup aP = some { cls := .type "dict", data := .dict #[⟨PyData.keyHash w.params "back", .str "back" t0, .ref p0⟩, ⟨PyData.keyHash w.params "join", .str "join" t1, .ref p1⟩, ⟨PyData.keyHash w.params "mix", .str "mix" t2, .ref p2⟩, ⟨PyData.keyHash w.params "within", .str "within" t3, .ref p3⟩, ⟨PyData.keyHash w.params "less", .str "less" t4, .ref p4⟩] nP })
    (q0 : K.lookup p0 = some ⟨.type "tuple", o0, .seq #[.str "working" u00] m0, l0⟩) (q1 : K.lookup p1 = some ⟨.type "tuple", o1, .seq #[.str "working" u10, .str "working" u11] m1, l1⟩) (q2 : K.lookup p2 = some ⟨.type "tuple", o2, .seq #[.str "working" u20, .str "letters" u21] m2, l2⟩) (q3 : K.lookup p3 = some ⟨.type "tuple", o3, .seq #[.str "working" u30, .str "number" u31, .str "number" u32] m3, l3⟩) (q4 : K.lookup p4 = some ⟨.type "tuple", o4, .seq #[.str "working" u40, .str "number" u41] m4, l4⟩) : PartsOk K w mg := by
  refine ⟨_, gd_of [("back", t0, p0), ("join", t1, p1), ("mix", t2, p2), ("within", t3, p3), ("less", t4, p4)] hm ha lk (show ([Sum.inr "back", Sum.inr "join", Sum.inr "mix", Sum.inr "within", Sum.inr "less"] : List Key).Nodup by decide +kernel), fun W hw => ?_⟩
  cases W with
  | word _ => cases hw
  | back _ => exact ⟨p0, rfl, fun H => .inr ⟨_, _, _, q0, rfl, rfl, (by show 1 ≤ sizeLine; decide), (.cons ⟨_, rfl⟩ .nil)⟩⟩
  | join _ _ => exact ⟨p1, rfl, fun H => .inr ⟨_, _, _, q1, rfl, rfl, (by show 2 ≤ sizeLine; decide), (.cons ⟨_, rfl⟩ (.cons ⟨_, rfl⟩ .nil))⟩⟩
  | mix _ _ => exact ⟨p2, rfl, fun H => .inr ⟨_, _, _, q2, rfl, rfl, (by show 2 ≤ sizeLine; decide), (.cons ⟨_, rfl⟩ (.cons ⟨_, rfl⟩ .nil))⟩⟩
  | within _ _ _ => exact ⟨p3, rfl, fun H => .inr ⟨_, _, _, q3, rfl, rfl, (by show 3 ≤ sizeLine; decide), (.cons ⟨_, rfl⟩ (.cons ⟨_, rfl⟩ (.cons ⟨_, rfl⟩ .nil)))⟩⟩
  | less _ _ => exact ⟨p4, rfl, fun H => .inr ⟨_, _, _, q4, rfl, rfl, (by show 2 ≤ sizeLine; decide), (.cons ⟨_, rfl⟩ (.cons ⟨_, rfl⟩ .nil))⟩⟩
def EndOk (rest : List Nat) : Prop := ∀ c, rest.head? = some c → c = 41 ∨ c = 44
section
variable {P : Program} {w : World} {K : PySem.W.Frag} {mg : Str → Option Value} {base : Heap} {f g : Addr} {fd gd : FuncData}
def spROne (C : Addr) (n : Nat) : Sp := fun vs H Q _ => ∃ (r : Addr) (x : Str) (pre rest : List Nat) (W : Wk), vs = [.ref r] ∧ x.cps.toList = pre ++ (tL W ++ rest) ∧ RdAt C H r x pre.length ∧ VW W ∧ depW W + 1 ≤ n ∧ x.length ≤ 1000 ∧ EndOk rest ∧
  ∀ v H', RdAt C H' r x (pre.length + (tL W).length) → SameX r H H' → WAt H' W v → Q v H'
def spRPart (C : Addr) (n : Nat) : Sp := fun vs H Q _ => ∃ (r : Addr) (x : Str) (pre rest : List Nat) (p : Pt), vs = [.ref r, .str (kindP p)] ∧ x.cps.toList = pre ++ (tP p ++ rest) ∧ RdAt C H r x pre.length ∧ VP p ∧ depP p ≤ n ∧ x.length ≤ 1000 ∧ EndOk rest ∧
  ∀ v H', RdAt C H' r x (pre.length + (tP p).length) → SameX r H H' → PAt H' p v → Q v H'
theorem sc_read_part : FnScope ["reader", "kind", "figures"] ["reader", "kind"] (defScope (top 16)) := ⟨rfl, rfl, rfl, by decide +kernel, rfl, by decide +kernel, by decide +kernel⟩
theorem ok_rpart {C : Addr} (n : Nat) (B : Bl mg) (cLETTERS : Cn mg "LETTERS" (.str letters)) (cFIGURES : Cn mg "FIGURES" (.str figures)) (cMOST_FIGURES : Cn mg "MOST_FIGURES" (.int 3)) (F : Fun K "read_part" "read_part" (top 16) f fd) (Fread_one : Fn P w K mg base "read_one" (2 * n + 2) (spROne C n)) (MReader_run : Mt P w K mg base C "run" 2 (spRun C) []) (Fneed : Fn P w K mg base "need" 1 spNeed) (Fchecked_letters : Fn P w K mg base "checked_letters" 2 spChecked) (Fis_number : Fn P w K mg base "is_number" 1 (spNumber K)) :
    FnOk P w K mg base CX0 (2 * n + 3) f fd ["reader", "kind"] (spRPart C n) := by
  refine F.ok sc_read_part (fun vs H Q E h => ?_) (fun cdv A outer s H vs Q E hr h => ?_)
  · obtain ⟨r, x, pre, rest, p, rfl, _⟩ := h
    rfl
  · obtain ⟨r, x, pre, rest, p, rfl, hx, hR, hv, hd, hx1, he, q⟩ := h
    refine ⟨_, (pss_cons (ps_if (pt_cmpR op_eq (pv 1) pe_str (nomark _))
      (pss_one (ps_ret (pe_fn Fread_one (hr.mono (by omega)) (by rfl) (pa_cons (pv 0) pa_nil))))
      pss_nil)
      (pss_cons (ps_if (pt_cmpR op_eq (pv 1) pe_str (nomark _))
      (pss_one (ps_ret (pe_fn Fchecked_letters (hr.mono (by omega)) (by rfl) (pa_cons (pe_mt MReader_run (hr.mono (by omega)) (pv 0) (pa_cons (pe_cn cLETTERS (by rfl)) pa_nil)) pa_nil))))
      pss_nil)
      (pss_cons (ps_set (i := 2) sc_read_part.nd rfl (Or.inl rfl) (pe_mt MReader_run (hr.mono (by omega)) (pv 0) (pa_cons (pe_cn cFIGURES (by rfl)) pa_nil)))
      (pss_cons (ps_expr (pe_fn Fneed (hr.mono (by omega)) (by rfl) (pa_cons (pe_fn Fis_number (hr.mono (by omega)) (by rfl) (pa_cons (pv 2) (pa_cons (pe_cn cMOST_FIGURES (by rfl)) pa_nil))) pa_nil)))
      (pss_one (ps_ret (pe_callTy call_intT (by rfl) B.int_ bt_int (pa_cons (pv 2) pa_nil)))))))), ?_⟩
    obtain ⟨dx, hR⟩ := hR
    have hnl : ∀ c, rest.head? = some c → c ∉ letters.cps.toList := fun c hc => by rcases he c hc with rfl | rfl <;> decide +kernel
    have hnf : ∀ c, rest.head? = some c → c ∉ figures.cps.toList := fun c hc => by rcases he c hc with rfl | rfl <;> decide +kernel
    cases p with
    | w W =>
      refine ifs_hit (fun R hR => ⟨_, rfl, rfl, _, rfl, sTr hR⟩) ?_
      exact ⟨_, rfl, r, x, pre, rest, W, rfl, hx, ⟨dx, hR⟩, hv, hd, hx1, he, q⟩
    | l y =>
      refine ifs_miss (fun R hR => ⟨_, rfl, rfl, _, rfl, sFr (show Str.ofString "letters" ≠ Str.ofString "working" by decide +kernel) hR⟩) ?_
      refine ifs_hit (fun R hR => ⟨_, rfl, rfl, _, rfl, sTr hR⟩) ?_
      obtain ⟨h1, h2, h3⟩ := let_low hv
      refine ⟨_, rfl, r, dx, _, rfl, hR, rdF_no x _ (by decide +kernel) (by decide +kernel), r, x, letters, pre, y.cps.toList, rest, rfl, hx, ⟨dx, hR⟩, h1, hnl, hx1, by decide, fun H1 R1 s1 => ?_⟩
      refine ⟨y, (by rw [mk_list]; rfl), hv, by omega, fun H2 s2 => q (.str y) H2 (R1.mono s2) (s1.trans (SameX.of s2)) rfl⟩
    | n i =>
      refine ifs_miss (fun R hR => ⟨_, rfl, rfl, _, rfl, sFr (show Str.ofString "number" ≠ Str.ofString "working" by decide +kernel) hR⟩) ?_
      refine ifs_miss (fun R hR => ⟨_, rfl, rfl, _, rfl, sFr (show Str.ofString "number" ≠ Str.ofString "letters" by decide +kernel) hR⟩) ?_
      have ho := num_ok hv.1 hv.2
      refine ⟨_, rfl, r, dx, _, rfl, hR, rdF_no x _ (by decide +kernel) (by decide +kernel), r, x, figures, pre, (numT i).cps.toList, rest, rfl, hx, ⟨dx, hR⟩, fun c m => fig_mem (ho.fg c m), hnf, hx1, by decide, fun H1 R1 s1 => ?_⟩
      rw [mk_list]
      refine ⟨_, rfl, numT i, rfl, ho, fun H2 s2 => ⟨rfl, ?_⟩⟩
      exact ⟨_, rfl, i, rfl, hv.1, Int.lt_trans hv.2 (by decide), q (.int i) H2 (R1.mono s2) (s1.trans (SameX.of s2)) rfl⟩
theorem sc_read_one : FnScope ["reader", "name", "parts", "ahead", "kind"] ["reader"] (defScope (top 15)) := ⟨rfl, rfl, rfl, by decide +kernel, rfl, by decide +kernel, by decide +kernel⟩
theorem ok_rone {C : Addr} (n : Nat) (B : Bl mg) (cLETTERS : Cn mg "LETTERS" (.str letters)) (hPARTS : PartsOk K w mg) (F : Fun K "read_one" "read_one" (top 15) f fd) (Fread_part : Fn P w K mg base "read_part" (2 * n + 3) (spRPart C n)) (MReader_run : Mt P w K mg base C "run" 2 (spRun C) []) (MReader_sign : Mt P w K mg base C "sign" 1 (spSign C) []) (MReader_pass_by : Mt P w K mg base C "pass_by" 2 (spPass C) []) (Fneed : Fn P w K mg base "need" 1 spNeed) (Fchecked_letters : Fn P w K mg base "checked_letters" 2 spChecked) :
    FnOk P w K mg base CX0 (2 * n + 4) f fd ["reader"] (spROne C (n + 1)) := by
  refine F.ok sc_read_one (fun vs H Q E h => ?_) (fun cdv A outer s H vs Q E hr h => ?_)
  · obtain ⟨r, x, pre, rest, W, rfl, _⟩ := h
    rfl
  · obtain ⟨r, x, pre, rest, W, rfl, hx, hR, hv, hd, hx1, he, q⟩ := h
    obtain ⟨kvs, cPARTS, hpk⟩ := hPARTS
    refine ⟨_, (pss_cons (ps_set (i := 1) sc_read_one.nd rfl (Or.inl rfl) (pe_mt MReader_run (hr.mono (by omega)) (pv 0) (pa_cons (pe_cn cLETTERS (by rfl)) pa_nil)))
      (pss_cons (ps_if (pt_cmpR op_ne (pe_mt0 MReader_sign (hr.mono (by omega)) (pv 0)) pe_str (nomark _))
      (pss_one (ps_ret (pe_tup (pa_cons pe_str (pa_cons (pe_fn Fchecked_letters (hr.mono (by omega)) (by rfl) (pa_cons (pv 1) pa_nil)) pa_nil)))))
      pss_nil)
      (pss_cons (ps_expr (pe_fn Fneed (hr.mono (by omega)) (by rfl) (pa_cons (pe_cmp (pc_gin cPARTS (by rfl) (pv 1))) pa_nil)))
      (pss_cons (ps_set (i := 2) sc_read_one.nd rfl (Or.inl rfl) (pe_lst (pa_cons (pv 1) pa_nil)))
      (pss_cons (ps_set (i := 3) sc_read_one.nd rfl (Or.inl rfl) pe_str)
      (pss_cons (ps_for PassesOwn.never rfl (pi_tup (pe_gget cPARTS (by rfl) (pv 1) (fun _ _ => rfl))) (pg_name (i := 4) sc_read_one.nd rfl (Or.inl rfl))
      (pss_cons (ps_expr (pe_mt MReader_pass_by (hr.mono (by omega)) (pv 0) (pa_cons (pv 3) pa_nil)))
        (pss_cons (ps_expr (pe_bm PySem.F.plainAttrs_list PySem.F.slot_list_append PySem.F.type_list_append mt_append (pv 2) (pa_cons (pe_fn Fread_part (hr.mono (by omega)) (by rfl) (pa_cons (pv 0) (pa_cons (pv 4) pa_nil))) pa_nil)))
        (pss_one (ps_set (i := 3) sc_read_one.nd rfl (Or.inl rfl) pe_str)))))
      (pss_cons (ps_expr (pe_mt MReader_pass_by (hr.mono (by omega)) (pv 0) (pa_cons pe_str pa_nil)))
      (pss_one (ps_ret (pe_callTy call_tuple_of (by rfl) B.tuple_ bt_tuple (pa_cons (pv 2) pa_nil))))))))))), ?_⟩
    obtain ⟨dx, hR⟩ := hR
    have hnl : ∀ c, rest.head? = some c → c ∉ letters.cps.toList := fun c hc => by rcases he c hc with rfl | rfl <;> decide +kernel
    by_cases hw : isWord W = true
    · obtain ⟨y, rfl⟩ : ∃ y, W = .word y := by
        cases W with
        | word y => exact ⟨y, rfl⟩
        | _ => cases hw
      obtain ⟨h1, h2, h3⟩ := let_low hv
      have hx : x.cps.toList = pre ++ (y.cps.toList ++ rest) := hx
      refine ⟨_, rfl, r, dx, _, rfl, hR, rdF_no x _ (by decide +kernel) (by decide +kernel), r, x, letters, pre, y.cps.toList, rest, rfl, hx, ⟨dx, hR⟩, h1, hnl, hx1, by decide, fun H1 R1 s1 => ?_⟩
      rw [mk_list]
      obtain ⟨dx1, hR1⟩ := id R1
      have hle : pre.length + y.cps.toList.length ≤ x.length := by rw [len_list x, hx, List.length_append, List.length_append]; omega
      have hsg : sgn x (pre.length + y.cps.toList.length) ≠ Str.ofString "(" := by
        cases hh : rest.head? with
        | none =>
          rw [sgn_end (by rw [len_list x, hx, List.length_append, List.length_append, List.head?_eq_none_iff.mp hh]; exact Nat.le_refl _)]
          decide +kernel
        | some c =>
          rw [sgn_at (get_rest hx hh), e40]
          intro z
          have := one_inj z
          rcases he c hh with rfl | rfl <;> omega
      refine ⟨_, rfl, r, dx1, _, rfl, hR1, rdF_no x _ (by decide +kernel) (by decide +kernel), r, x, _, rfl, R1, hle, hx1, rfl, _, rfl, ?_⟩
      rw [decide_eq_false (fun z => hsg (by injection z))]
      refine iteT ⟨_, rfl, y, rfl, hv, by omega, fun H2 s2 => ⟨(show 2 ≤ sizeLine by decide), fun t ht => ?_⟩⟩
      have s3 : Same H2 (upd H2 t (.tup [.str "word", .str y])) := Same.upd ht
      exact q (.ref t) _ ((R1.mono s2).mono s3) (s1.trans (SameX.of (s2.trans s3))) ⟨t, rfl, upd_same⟩
    · have hw : isWord W = false := by simpa using hw
      have htl := tL_parts hw
      have hx2 : x.cps.toList = pre ++ ((tagW W).cps.toList ++ (tPs 40 (partsOf W) ++ (41 :: rest))) := by rw [hx, htl]; simp
      have hlx : x.length = pre.length + ((tL W).length + rest.length) := by rw [len_list x, hx, List.length_append, List.length_append]
      have hlx2 : x.length = pre.length + ((tagW W).cps.toList.length + (tPs 40 (partsOf W) ++ (41 :: rest)).length) := by rw [len_list x, hx2, List.length_append, List.length_append]
      have hh40 := tPs_head (c := 40) (parts_ne W) (41 :: rest)
      obtain ⟨a, ha, hsq⟩ := hpk W hw
      refine ⟨_, rfl, r, dx, _, rfl, hR, rdF_no x _ (by decide +kernel) (by decide +kernel), r, x, letters, pre, (tagW W).cps.toList, _, rfl, hx2, ⟨dx, hR⟩, tag_low W, (fun c hc => by rw [hh40] at hc; cases hc; decide +kernel), hx1, by decide, fun H1 R1 s1 => ?_⟩
      rw [mk_list]
      obtain ⟨dx1, hR1⟩ := id R1
      refine ⟨_, rfl, r, dx1, _, rfl, hR1, rdF_no x _ (by decide +kernel) (by decide +kernel), r, x, _, rfl, R1, by omega, hx1, rfl, _, rfl, ?_⟩
      rw [sgn_at (get_rest hx2 hh40), e40, decide_eq_true rfl]
      refine iteF ?_
      dsimp only [tNext]
      refine ⟨_, rfl, Sum.inr (tagW W), rfl, ?_⟩
      rw [ha]
      refine ⟨rfl, ?_⟩
      refine ⟨_, rfl, (show 1 ≤ sizeLine by decide), fun t ht => ?_⟩
      have s2 : Same H1 (upd H1 t (.lst [.str (tagW W)])) := Same.upd ht
      have ntr : t ≠ r := fun z => by rw [z, hR1] at ht; cases ht
      refine ⟨_, rfl, Sum.inr (tagW W), .ref a, rfl, ha, a, rfl, ⟨_, hsq _⟩, ?_⟩
      have hps := VW_parts hv
      have hdp := dep_parts W
      have hlp : (partsOf W).length ≤ 3 := by cases W <;> simp [partsOf]
      refine for_tup (xs := (partsOf W).map fun p => V.str (kindP p)) (fun k σ H5 => ∃ v4 pre' vs c, σ = [some (.ref r), some (.str (tagW W)), some (.ref t), some (.str ⟨#[c]⟩), v4] ∧ x.cps.toList = pre' ++ (tPs c ((partsOf W).drop k) ++ (41 :: rest)) ∧ RdAt C H5 r x pre'.length ∧ SameX r H H5 ∧ H5 t = some (.lst (.str (tagW W) :: vs)) ∧ Paired (PAt H5) ((partsOf W).take k) vs)
        ⟨none, pre ++ (tagW W).cps.toList, [], 40, (by rw [← e40]; rfl), (by rw [hx2, List.append_assoc]; rfl), (by rw [List.length_append]; exact R1.mono s2), s1.trans (SameX.of s2), upd_same, .nil⟩ ?_ ?_ ?_
      · rintro k σ H5 _ _
        exact hsq _
      · rintro k z σ H5 hz ⟨v4, pre', vs, c, rfl, hx5, ⟨dx5, hR5⟩, s5, ht5, p5⟩
        rw [List.getElem?_map] at hz
        obtain ⟨p, hp, rfl⟩ := Option.map_eq_some_iff.mp hz
        have hpm := List.mem_of_getElem? hp
        have hkl := (List.getElem?_eq_some_iff.mp hp).1
        rw [drop_cons hp] at hx5
        have hx6 : x.cps.toList = (pre' ++ [c]) ++ (tP p ++ (tPs 44 ((partsOf W).drop (k + 1)) ++ (41 :: rest))) := by rw [hx5, tPs]; simp
        have hc5 : x.cps.toList[pre'.length]? = some c := by rw [hx5, List.getElem?_append_right (Nat.le_refl _), Nat.sub_self]; rfl
        refine ⟨_, rfl, r, dx5, _, rfl, hR5, rdF_no x _ (by decide +kernel) (by decide +kernel), _, rfl, r, x, pre'.length, c, rfl, ⟨dx5, hR5⟩, hc5, hx1, fun H6 R6 s6 => ?_⟩
        have ht6 := s6 t _ ntr ht5
        have hend : EndOk (tPs 44 ((partsOf W).drop (k + 1)) ++ (41 :: rest)) := fun d hd => by
          cases hdr : (partsOf W).drop (k + 1) with
          | nil => rw [hdr] at hd; exact .inl (Option.some.inj hd).symm
          | cons _ _ => rw [hdr] at hd; exact .inr (Option.some.inj hd).symm
        refine ⟨_, rfl, .inl ⟨rfl, _, SqL.of ht6⟩, _, rfl, _, rfl, r, x, pre' ++ [c], _, p, rfl, hx6, (by rw [List.length_append]; exact R6), hps p hpm, Nat.le_trans (hdp p hpm) (by omega), hx1, hend, fun v H7 R7 s7 pat => ?_⟩
        have ht7 := s7 t _ ntr ht6
        have lv := p5.length
        rw [List.length_take] at lv
        refine ⟨t, _, v, rfl, rfl, ht7, szB (by rw [List.length_cons]; omega), ?_⟩
        have n7 : ∀ xs, H7 t ≠ some (.tup xs) := fun xs e => by rw [ht7] at e; cases e
        have nr5 : ∀ xs, H5 r ≠ some (.tup xs) := fun xs e => by rw [hR5] at e; cases e
        have su : SameX t H7 (upd H7 t (.lst ((.str (tagW W) :: vs) ++ [v]))) := fun b o hb e => by rw [upd_ne hb]; exact e
        obtain ⟨dx7, hR7⟩ := R7
        refine ⟨_, (pre' ++ [c]) ++ tP p, vs ++ [v], 44, (by rw [← e44]; rfl), (by rw [hx6]; simp), ⟨dx7, by rw [upd_ne (Ne.symm ntr), List.length_append]; exact hR7⟩, fun b o hb e => ?_, upd_same, ?_⟩
        · have hbt : b ≠ t := fun z => by rw [z] at e; exact s1.free_at ht ntr e
          rw [upd_ne hbt]
          exact s7 b o hb (s6 b o hb (s5 b o hb e))
        · rw [take_snoc hp]
          refine paired_snoc (Paired.mapP p5 fun _ _ h => ?_) (PAt.sameN su n7 pat)
          exact PAt.sameN su n7 (PAt.sameN (s6.trans s7) nr5 h)
      · rintro σ H5 ⟨v4, pre', vs, c, rfl, hx5, ⟨dx5, hR5⟩, s5, ht5, p5⟩
        rw [List.length_map, List.drop_length] at hx5
        rw [List.length_map, List.take_length] at p5
        have hx6 : x.cps.toList = pre' ++ (41 :: rest) := hx5
        have hc5 : x.cps.toList[pre'.length]? = some 41 := by rw [hx6, List.getElem?_append_right (Nat.le_refl _), Nat.sub_self]; rfl
        have hl5 : x.length = pre'.length + (rest.length + 1) := by rw [len_list x, hx6, List.length_append, List.length_cons]
        refine ⟨_, rfl, r, dx5, _, rfl, hR5, rdF_no x _ (by decide +kernel) (by decide +kernel), r, x, pre'.length, 41, (by rw [← e41]; rfl), ⟨dx5, hR5⟩, hc5, hx1, fun H6 R6 s6 => ?_⟩
        have ht6 := s6 t _ ntr ht5
        refine ⟨_, rfl, t, _, rfl, .inl ⟨SqL.of ht6, fun l hl => ?_⟩⟩
        have s7 : Same H6 (upd H6 l (.tup (.str (tagW W) :: vs))) := Same.upd hl
        have nr5 : ∀ xs, H5 r ≠ some (.tup xs) := fun xs e => by rw [hR5] at e; cases e
        refine q (.ref l) _ ?_ (s5.trans (s6.trans (SameX.of s7))) (WAt_of upd_same (Paired.mapP p5 fun _ _ h => PAt.same s7 (PAt.sameN s6 nr5 h)))
        rw [show pre.length + (tL W).length = pre'.length + 1 by omega]
        exact R6.mono s7
theorem ok_roneAll {C : Addr} (B : Bl mg) (cLETTERS : Cn mg "LETTERS" (.str letters)) (hPARTS : PartsOk K w mg) (F : Fun K "read_one" "read_one" (top 15) f fd) (hm : mg "read_one" = some (.ref f)) (hk : PySem.W.keepIn K (.ref f) = true) (hb : Binds K fd ["reader"] []) (G : Fun K "read_part" "read_part" (top 16) g gd) (hm' : mg "read_part" = some (.ref g)) (hk' : PySem.W.keepIn K (.ref g) = true) (hb' : Binds K gd ["reader", "kind"] [])
    (MReader_run : Mt P w K mg base C "run" 2 (spRun C) []) (MReader_sign : Mt P w K mg base C "sign" 1 (spSign C) []) (MReader_pass_by : Mt P w K mg base C "pass_by" 2 (spPass C) []) (Fneed : Fn P w K mg base "need" 1 spNeed) (Fchecked_letters : Fn P w K mg base "checked_letters" 2 spChecked) (cFIGURES : Cn mg "FIGURES" (.str figures)) (cMOST_FIGURES : Cn mg "MOST_FIGURES" (.int 3)) (Fis_number : Fn P w K mg base "is_number" 1 (spNumber K)) :
    ∀ n : Nat, FnOk P w K mg base CX0 (2 * n + 2) f fd ["reader"] (spROne C n)
  | 0 => F.ok sc_read_one (fun vs H Q E h => by obtain ⟨r, x, pre, rest, W, rfl, _, _, _, hd, _⟩ := h; omega) (fun cdv A outer s H vs Q E hr h => by obtain ⟨r, x, pre, rest, W, rfl, _, _, _, hd, _⟩ := h; omega)
  | n + 1 => ok_rone n B cLETTERS hPARTS F ⟨g, gd, _, ok_rpart n B cLETTERS cFIGURES cMOST_FIGURES G ⟨f, fd, _, ok_roneAll B cLETTERS hPARTS F hm hk hb G hm' hk' hb' MReader_run MReader_sign MReader_pass_by Fneed Fchecked_letters cFIGURES cMOST_FIGURES Fis_number n, hm, hk, hb⟩ MReader_run Fneed Fchecked_letters Fis_number, hm', hk', hb'⟩ MReader_run MReader_sign MReader_pass_by Fneed Fchecked_letters
def spRead (K : PySem.W.Frag) : Sp := fun vs H Q _ => ∃ (x : Str) (W : Wk), vs = [.str x] ∧ x.cps.toList = tL W ∧ VW W ∧ depW W ≤ 10 ∧ x.length ≤ 1000 ∧ ∀ v H', Same H H' → WAt H' W v → Q v H'
theorem sc_read_working : FnScope ["text", "reader", "working"] ["text"] (defScope (top 14)) := ⟨rfl, rfl, rfl, by decide +kernel, rfl, by decide +kernel, by decide +kernel⟩
theorem ok_read {C : Addr} (B : Bl mg) (F : Fun K "read_working" "read_working" (top 14) f fd) (NReader : Nw P w K mg base "Reader" C 1 (spRInit C)) (MReader_sign : Mt P w K mg base C "sign" 1 (spSign C) []) (Fneed : Fn P w K mg base "need" 1 spNeed) (Fread_one : Fn P w K mg base "read_one" 24 (spROne C 11)) :
    FnOk P w K mg base CX0 25 f fd ["text"] (spRead K) := by
  refine F.ok sc_read_working (fun vs H Q E h => ?_) (fun cdv A outer s H vs Q E hr h => ?_)
  · obtain ⟨x, W, rfl, _⟩ := h
    rfl
  · obtain ⟨x, W, rfl, hx, hv, hd, hx1, q⟩ := h
    refine ⟨_, (pss_cons (ps_expr (pe_fn Fneed (hr.mono (by decide)) (by rfl) (pa_cons (pe_callB call_isi (by rfl) B.isinstance_ bt_isinstance (pa_cons (pv 0) (pa_cons (pe_bltn (v := .ty "str") (by rfl) B.str_ bt_str rfl) pa_nil))) pa_nil)))
      (pss_cons (ps_set (i := 1) sc_read_working.nd rfl (Or.inl rfl) (pe_nw NReader (hr.mono (by decide)) (by rfl) (pa_cons (pv 0) pa_nil)))
      (pss_cons (ps_set (i := 2) sc_read_working.nd rfl (Or.inl rfl) (pe_fn Fread_one (hr.mono (by decide)) (by rfl) (pa_cons (pv 1) pa_nil)))
      (pss_cons (ps_expr (pe_fn Fneed (hr.mono (by decide)) (by rfl) (pa_cons (pe_cmpR op_eq (pe_mt0 MReader_sign (hr.mono (by decide)) (pv 1)) pe_str (nomark _)) pa_nil)))
      (pss_one (ps_ret (pv 2))))))), ?_⟩
    refine ⟨_, rfl, _, _, _, true, ⟨rfl, .str _, kit_same⟩, rfl, ?_⟩
    refine ⟨_, rfl, fun r dx nr ndx nex => ⟨r, dx, x, rfl, upd_same, fun H1 R1 s1 => ⟨rfl, ?_⟩⟩⟩
    have hxl : x.length = (tL W).length := by rw [len_list, hx]
    have s01 : Same H H1 := fun b o e => s1 b o (ne_of_none e nr) (by rw [upd_ne (ne_of_none e nr), upd_ne (ne_of_none e ndx)]; exact e)
    refine ⟨_, rfl, r, x, [], [], W, rfl, by rw [hx]; simp, R1, hv, by omega, hx1, (fun c hc => by cases hc), fun v H2 R2 s2 wat => ?_⟩
    have s02 : Same H H2 := fun b o e => s2 b o (ne_of_none e nr) (s01 b o e)
    obtain ⟨dx2, hR2⟩ := id R2
    refine ⟨_, rfl, r, dx2, _, rfl, hR2, rdF_no x _ (by decide +kernel) (by decide +kernel), r, x, _, rfl, R2, by rw [List.length_nil]; omega, hx1, rfl, ?_⟩
    rw [sgn_end (by rw [List.length_nil]; omega), decide_eq_true rfl]
    exact ⟨rfl, _, rfl, q v H2 s02 wat⟩
end
end Cw
namespace Cw
open PySem L2
/-! ### the drawn working -/
theorem letterZ (z : Int) : atI letters.cps.toList (z % 26) = some (97 + (z % 26).toNat) ∧ 97 + (z % 26).toNat ∈ letters.cps.toList := by
  have h1 := Int.emod_nonneg z (show (26 : Int) ≠ 0 by decide)
  have h2 := Int.emod_lt_of_pos z (show (0 : Int) < 26 by decide)
  obtain ⟨k, hk⟩ := Int.eq_ofNat_of_zero_le h1
  rw [hk, Int.toNat_natCast]
  have e : letters.cps.toList[k]? = some (97 + k) := by
    rw [letters_cs, List.getElem?_map, List.getElem?_range (by omega)]
    rfl
  exact ⟨atI_nat e, List.mem_of_getElem? e⟩
theorem lettersB_app {x y : Str} (h1 : lettersB x = true) (h2 : lettersB y = true) : lettersB (x ++ y) = true := by
  unfold lettersB at *
  rw [cs_app, List.all_append, h1, h2]
  rfl
theorem lettersB_one {c : Nat} (h : c ∈ letters.cps.toList) : lettersB ⟨#[c]⟩ = true := by
  unfold lettersB
  show ([c] : List Nat).all _ = true
  rw [List.all_cons, List.all_nil, Bool.and_true]
  exact decide_eq_true h
theorem let_of {x : Str} (h : lettersB x = true) (h1 : 1 ≤ x.length) (h9 : x.length ≤ 9) : letB x 1 9 = true := by
  unfold letB
  rw [decide_eq_true (show (1 : Int) ≤ (x.length : Int) by omega), decide_eq_true (show (x.length : Int) ≤ 9 by omega), h]
  rfl
theorem nl_back : (Str.ofString "back").cps.toList.length = 4 := by decide +kernel
theorem nl_join : (Str.ofString "join").cps.toList.length = 4 := by decide +kernel
theorem nl_mix : (Str.ofString "mix").cps.toList.length = 3 := by decide +kernel
theorem nl_within : (Str.ofString "within").cps.toList.length = 6 := by decide +kernel
theorem nl_less : (Str.ofString "less").cps.toList.length = 4 := by decide +kernel
theorem tl_word {y : Str} (h : letB y 1 9 = true) : (tL (.word y)).length ≤ 9 := by
  show y.cps.toList.length ≤ 9
  rw [← len_list]
  exact (let_low h).2.2
theorem num_len {i : Int} (h : 0 ≤ i ∧ i < 1000) : (numT i).cps.toList.length ≤ 3 := by rw [← len_list]; exact (num_ok h.1 h.2).l3
theorem tl_back (W : Wk) : (tL (.back W)).length = (tL W).length + 6 := by
  simp only [tL, List.length_append, List.length_cons, List.length_nil, nl_back]
  omega
theorem tl_join (V W : Wk) : (tL (.join V W)).length = (tL V).length + (tL W).length + 7 := by
  simp only [tL, List.length_append, List.length_cons, List.length_nil, nl_join]
  omega
theorem tl_mix (W : Wk) {y : Str} (h : letB y 1 9 = true) : (tL (.mix W y)).length ≤ (tL W).length + 15 := by
  have := (let_low h).2.2
  rw [len_list] at this
  simp only [tL, List.length_append, List.length_cons, List.length_nil, nl_mix]
  omega
theorem tl_within (W : Wk) {i j : Int} (h : 0 ≤ i ∧ i < 1000) (g : 0 ≤ j ∧ j < 1000) : (tL (.within W i j)).length ≤ (tL W).length + 16 := by
  have := num_len h
  have := num_len g
  simp only [tL, List.length_append, List.length_cons, List.length_nil, nl_within]
  omega
theorem tl_less (W : Wk) {i : Int} (h : 0 ≤ i ∧ i < 1000) : (tL (.less W i)).length ≤ (tL W).length + 10 := by
  have := num_len h
  simp only [tL, List.length_append, List.length_cons, List.length_nil, nl_less]
  omega
theorem pick5 (z : Int) : ∃ nm : Str, atI [V.str "back", .str "join", .str "mix", .str "less", .str "within"] (z % 5) = some (.str nm) ∧ lettersB nm = true ∧ 1 ≤ nm.length ∧ nm.length ≤ 6 := by
  have h1 := Int.emod_nonneg z (show (5 : Int) ≠ 0 by decide)
  have h2 := Int.emod_lt_of_pos z (show (0 : Int) < 5 by decide)
  generalize z % 5 = y at h1 h2
  have : y = 0 ∨ y = 1 ∨ y = 2 ∨ y = 3 ∨ y = 4 := by omega
  rcases this with rfl | rfl | rfl | rfl | rfl
  · exact ⟨"back", rfl, by decide +kernel, by decide +kernel, by decide +kernel⟩
  · exact ⟨"join", rfl, by decide +kernel, by decide +kernel, by decide +kernel⟩
  · exact ⟨"mix", rfl, by decide +kernel, by decide +kernel, by decide +kernel⟩
  · exact ⟨"less", rfl, by decide +kernel, by decide +kernel, by decide +kernel⟩
  · exact ⟨"within", rfl, by decide +kernel, by decide +kernel, by decide +kernel⟩
theorem pick3 {x y u : Str} (z : Int) (hx : letB x 1 9 = true) (hy : letB y 1 9 = true) (hu : letB u 1 9 = true) : ∃ v : Str, atI [V.str x, .str y, .str u] (z % 3) = some (.str v) ∧ letB v 1 9 = true := by
  have h1 := Int.emod_nonneg z (show (3 : Int) ≠ 0 by decide)
  have h2 := Int.emod_lt_of_pos z (show (0 : Int) < 3 by decide)
  generalize z % 3 = y at h1 h2
  have : y = 0 ∨ y = 1 ∨ y = 2 := by omega
  rcases this with rfl | rfl | rfl
  · exact ⟨_, rfl, hx⟩
  · exact ⟨_, rfl, hy⟩
  · exact ⟨_, rfl, hu⟩
theorem mod1000 (z : Int) : 0 ≤ z % 1000 ∧ z % 1000 < 1000 := ⟨Int.emod_nonneg z (by decide), Int.emod_lt_of_pos z (by decide)⟩
theorem sIx2 (n : Nat) : HT.sIx (n + 2) 0 (some 2) = 2 := by
  unfold HT.sIx
  simp
  try omega
theorem cut2 (x y : V) (us : List V) : cutV (x :: y :: us) (some 2) none = us := by
  unfold cutV
  rw [show (x :: y :: us).length = us.length + 2 from rfl, sIx2, show HT.sIx (us.length + 2) (us.length + 2) none = us.length + 2 from rfl, show us.length + 2 - 2 = us.length by omega]
  exact List.take_length
theorem at0 {α : Type} (x : α) (r : List α) : atI (x :: r) 0 = some x := atI_nat (j := 0) rfl
theorem at1 {α : Type} (x y : α) (r : List α) : atI (x :: y :: r) 1 = some y := atI_nat (j := 1) rfl
theorem tPs_snoc : ∀ (l : List Pt) (p : Pt), tPs 44 (l ++ [p]) = tPs 44 l ++ (44 :: tP p)
  | [], p => by simp [tPs]
  | q :: r, p => by rw [List.cons_append, tPs, tPs, tPs_snoc r p]; simp
theorem tPs_le : ∀ (l : List Pt) (k : Nat), (tPs 44 (l.take k)).length ≤ (tPs 44 l).length
  | [], k => by simp [tPs]
  | q :: r, 0 => by simp [tPs]
  | q :: r, k + 1 => by
    have := tPs_le r k
    rw [List.take_succ_cons, tPs, tPs, List.length_cons, List.length_cons, List.length_append, List.length_append]
    omega
theorem tag_word {W : Wk} (h : isWord W = false) : tagW W ≠ Str.ofString "word" := by
  cases W with
  | word _ => cases h
  | back _ => exact (by decide +kernel : Str.ofString "back" ≠ Str.ofString "word")
  | join _ _ => exact (by decide +kernel : Str.ofString "join" ≠ Str.ofString "word")
  | mix _ _ => exact (by decide +kernel : Str.ofString "mix" ≠ Str.ofString "word")
  | within _ _ _ => exact (by decide +kernel : Str.ofString "within" ≠ Str.ofString "word")
  | less _ _ => exact (by decide +kernel : Str.ofString "less" ≠ Str.ofString "word")
def noW : Pt → Prop
  | .w _ => False
  | _ => True
/-- a working that is no word: its first part, and, if it is no join, the others are none -/
theorem parts_split {W : Wk} (h : isWord W = false) : ∃ b ps, partsOf W = .w b :: ps ∧ ((∃ c, W = .join b c) ∨ (tagW W ≠ Str.ofString "join" ∧ ∀ p ∈ ps, noW p)) := by
  cases W with
  | word _ => cases h
  | back b => exact ⟨b, [], rfl, .inr ⟨(by decide +kernel : Str.ofString "back" ≠ Str.ofString "join"), fun p m => absurd m List.not_mem_nil⟩⟩
  | join b c => exact ⟨b, _, rfl, .inl ⟨c, rfl⟩⟩
  | mix b y => exact ⟨b, [.l y], rfl, .inr ⟨(by decide +kernel : Str.ofString "mix" ≠ Str.ofString "join"), fun p m => by rw [List.mem_singleton.mp m]; trivial⟩⟩
  | within b i j =>
    refine ⟨b, [.n i, .n j], rfl, .inr ⟨(by decide +kernel : Str.ofString "within" ≠ Str.ofString "join"), fun p m => ?_⟩⟩
    rcases List.mem_cons.mp m with rfl | m
    · trivial
    · rw [List.mem_singleton.mp m]; trivial
  | less b i => exact ⟨b, [.n i], rfl, .inr ⟨(by decide +kernel : Str.ofString "less" ≠ Str.ofString "join"), fun p m => by rw [List.mem_singleton.mp m]; trivial⟩⟩
theorem int_ok {i : Int} (h1 : 0 ≤ i) (h2 : i < 1000) : i.natAbs.log2 < 1920 := by
  have h3 : i.natAbs < 2 ^ 1920 := Nat.lt_of_lt_of_le (show i.natAbs < 1024 by omega) (by decide +kernel)
  by_cases c : i.natAbs = 0
  · rw [c]; decide
  · exact (Nat.log2_lt c).mpr h3
theorem c40 : (Str.ofString "(").cps.toList = [40] := by rw [e40]
theorem c41 : (Str.ofString ")").cps.toList = [41] := by rw [e41]
theorem c44 : (Str.ofString ",").cps.toList = [44] := by rw [e44]
section
variable {P : Program} {w : World} {K : PySem.W.Frag} {mg : Str → Option Value} {base : Heap} {f : Addr} {fd : FuncData}
def spLWord : Sp := fun vs H Q _ => ∃ n : Int, vs = [.int n] ∧ ∀ x H', Same H H' → letB x 1 9 = true → Q (.str x) H'
theorem sc_law_word : FnScope ["_law_number", "_law_letters", "_law_name", "_law_letter", "_law_text_here", "_law_k"] ["_law_number"] (defScope (top 22)) := ⟨rfl, rfl, rfl, by decide +kernel, rfl, by decide +kernel, by decide +kernel⟩
theorem ok_lword (B : Bl mg) (F : Fun K "_law_word" "_law_word" (top 22) f fd) : FnOk P w K mg base CX0 1 f fd ["_law_number"] spLWord := by
  refine F.ok sc_law_word (fun vs H Q E h => ?_) (fun cdv A outer s H vs Q E hr h => ?_)
  · obtain ⟨n, rfl, _⟩ := h
    rfl
  · obtain ⟨n, rfl, q⟩ := h
    refine ⟨_, (pss_cons (ps_set (i := 1) sc_law_word.nd rfl (Or.inl rfl) pe_str)
      (pss_cons (ps_if (pt_cmpR op_eq (pe_op op_mod (pe_op op_fdiv (pv 0) pe_int) pe_int) pe_int (nomark _))
      (pss_cons (ps_set (i := 2) sc_law_word.nd rfl (Or.inl rfl) (pe_ix ix_list (pe_lst (pa_cons pe_str (pa_cons pe_str (pa_cons pe_str (pa_cons pe_str (pa_cons pe_str pa_nil)))))) (pe_op op_mod (pe_op op_fdiv (pv 0) pe_int) pe_int) (fun _ _ => rfl)))
        (pss_cons (ps_set (i := 3) sc_law_word.nd rfl (Or.inl rfl) (pe_ix ix_str (pv 1) (pe_op op_mod (pe_op op_fdiv (pv 0) pe_int) pe_int) (fun _ _ => rfl)))
        (pss_one (ps_ret (pe_ix ix_list (pe_lst (pa_cons (pv 2) (pa_cons (pe_op op_add_str (pv 2) (pv 3)) (pa_cons (pe_op op_add_str (pv 3) (pv 2)) pa_nil)))) (pe_op op_mod (pe_op op_fdiv (pv 0) pe_int) pe_int) (fun _ _ => rfl))))))
      pss_nil)
      (pss_cons (ps_set (i := 4) sc_law_word.nd rfl (Or.inl rfl) pe_str)
      (pss_cons (ps_for PassesOwn.never rfl (pi_range1 (by rfl) B.range_ (pa_cons (pe_op op_add pe_int (pe_op op_mod (pv 0) pe_int)) pa_nil)) (pg_name (i := 5) sc_law_word.nd rfl (Or.inl rfl))
      (pss_one (ps_set (i := 4) sc_law_word.nd rfl (Or.inl rfl) (pe_op op_add_str (pv 4) (pe_ix ix_str (pv 1) (pe_op op_mod (pe_op op_add (pe_op op_fdiv (pv 0) pe_int) (pe_op op_mul (pv 5) (pe_op op_fdiv (pv 0) pe_int))) pe_int) (fun _ _ => rfl))))))
      (pss_one (ps_ret (pv 4))))))), ?_⟩
    refine ⟨_, rfl, _, _, rfl, rfl, ⟨by decide, by decide⟩, _, _, rfl, rfl, (show (0 : Int) < 6 by decide), rfl, _, rfl, ite2 (fun _ => ?_) (fun _ => ?_)⟩
    · obtain ⟨nm, hat, hl, hn1, hn6⟩ := pick5 (n / 54)
      refine ⟨(show 5 ≤ sizeLine by decide), fun t1 h1 => ⟨_, rfl, _, _, rfl, rfl, ⟨by decide, by decide⟩, _, _, rfl, rfl, (show (0 : Int) < 5 by decide), t1, _, _, .str nm, rfl, rfl, SqL.of upd_same, hat, ?_⟩⟩
      have s1 : Same H (upd H t1 (.lst [.str "back", .str "join", .str "mix", .str "less", .str "within"])) := Same.upd h1
      refine ⟨_, rfl, _, rfl, _, _, rfl, rfl, ⟨by decide, by decide⟩, _, _, rfl, rfl, (show (0 : Int) < 26 by decide), letters, _, _, rfl, rfl, by decide, (letterZ _).1, ?_⟩
      have hc := lettersB_one (letterZ (n / 270)).2
      generalize 97 + (n / 270 % 26).toNat = c at hc
      have l1 : (nm ++ (⟨#[c]⟩ : Str)).length = nm.length + 1 := app_len _ _
      have l2 : ((⟨#[c]⟩ : Str) ++ nm).length = 1 + nm.length := app_len _ _
      obtain ⟨y, hy, hly⟩ := pick3 (n / 7020) (let_of hl hn1 (by omega)) (let_of (lettersB_app hl hc) (by omega) (by omega)) (let_of (lettersB_app hc hl) (by omega) (by omega))
      refine ⟨_, rfl, _, rfl, _, rfl, _, _, rfl, rfl, szA (show nm.length + 1 ≤ 10000 by omega), _, rfl, _, rfl, _, _, rfl, rfl, szA (show 1 + nm.length ≤ 10000 by omega), (show 3 ≤ sizeLine by decide), fun t2 h2 => ?_⟩
      refine ⟨_, rfl, _, _, rfl, rfl, ⟨by decide, by decide⟩, _, _, rfl, rfl, (show (0 : Int) < 3 by decide), t2, _, _, .str y, rfl, rfl, SqL.of upd_same, hy, ?_⟩
      exact q y _ (s1.trans (Same.upd h2)) hly
    · have z1 := Int.emod_nonneg n (show (9 : Int) ≠ 0 by decide)
      have z2 := Int.emod_lt_of_pos n (show (0 : Int) < 9 by decide)
      obtain ⟨j, hj⟩ := Int.eq_ofNat_of_zero_le z1
      have er : 1 + n % 9 = ((1 + j : Nat) : Int) := by omega
      refine ⟨_, rfl, _, _, rfl, rfl, (show (0 : Int) < 9 by decide), _, _, rfl, rfl, _, rfl, by omega, by omega, ?_⟩
      rw [er, Int.toNat_natCast]
      refine for_range0 (fun i σ H2 => ∃ x v2 v3 v5, σ = [some (.int n), some (.str letters), v2, v3, some (.str x), v5] ∧ H2 = H ∧ x.length = i ∧ lettersB x = true) ⟨Str.ofString "", none, none, none, rfl, rfl, rfl, rfl⟩ ?_ ?_
      · rintro i σ H2 hi ⟨x, v2, v3, v5, rfl, rfl, hx, hlx⟩
        refine ⟨_, rfl, _, rfl, _, rfl, _, _, rfl, rfl, ⟨by decide, by decide⟩, _, rfl, _, rfl, _, _, rfl, rfl, ⟨by decide, by decide⟩, _, _, rfl, rfl, .inl ⟨by omega, by omega⟩, _, _, rfl, rfl, _, _, rfl, rfl, (show (0 : Int) < 26 by decide), letters, _, _, rfl, rfl, by decide, (letterZ _).1, _, _, rfl, rfl, szA (by show x.length + 1 ≤ _; omega), ?_⟩
        exact ⟨_, _, _, _, rfl, rfl, by rw [app_len, hx]; rfl, lettersB_app hlx (lettersB_one (letterZ _).2)⟩
      · rintro σ H2 ⟨x, v2, v3, v5, rfl, rfl, hx, hlx⟩
        exact ⟨_, rfl, q x _ (Same.refl' _) (let_of hlx (by omega) (by omega))⟩
def spLWorking (K : PySem.W.Frag) : Sp := fun vs H Q _ => ∃ (a : Addr) (ns : List V) (n : Int), vs = [.ref a, .int n] ∧ H a = some (.lst ns) ∧ (∀ y ∈ ns, ∃ z, y = V.int z) ∧ ns.length ≤ 8 ∧ ∀ v W H', Same H H' → WAt H' W v → VW W → depW W ≤ 10 → (tL W).length ≤ 300 → Q v H'
theorem sc_law_working : FnScope ["_law_cells", "_law_first", "_law_working_here", "_law_cell", "_law_number", "_law_way", "_law_word_here"] ["_law_cells", "_law_first"] (defScope (top 23)) := ⟨rfl, rfl, rfl, by decide +kernel, rfl, by decide +kernel, by decide +kernel⟩
theorem ok_lworking (B : Bl mg) (F : Fun K "_law_working" "_law_working" (top 23) f fd) (F_law_word : Fn P w K mg base "_law_word" 1 spLWord) : FnOk P w K mg base CX0 2 f fd ["_law_cells", "_law_first"] (spLWorking K) := by
  refine F.ok sc_law_working (fun vs H Q E h => ?_) (fun cdv A outer s H vs Q E hr h => ?_)
  · obtain ⟨a, ns, n, rfl, _⟩ := h
    rfl
  · obtain ⟨a, ns, n, rfl, ha, hi, hl, q⟩ := h
    refine ⟨_, (pss_cons (ps_set (i := 2) sc_law_working.nd rfl (Or.inl rfl) (pe_tup (pa_cons pe_str (pa_cons (pe_fn F_law_word (hr.mono (by decide)) (by rfl) (pa_cons (pe_op op_mod (pe_op op_mul (pv 1) pe_int) pe_int) pa_nil)) pa_nil))))
      (pss_cons (ps_for PassesOwn.never rfl (pi_list (pv 0)) (pg_name (i := 3) sc_law_working.nd rfl (Or.inl rfl))
      (pss_cons (ps_set (i := 4) sc_law_working.nd rfl (Or.inl rfl) (pe_op op_mod (pe_op op_mul (pv 3) pe_int) pe_int))
        (pss_cons (ps_set (i := 5) sc_law_working.nd rfl (Or.inl rfl) (pe_op op_mod (pv 4) pe_int))
        (pss_cons (ps_set (i := 6) sc_law_working.nd rfl (Or.inl rfl) (pe_fn F_law_word (hr.mono (by decide)) (by rfl) (pa_cons (pe_op op_fdiv (pv 4) pe_int) pa_nil)))
        (pss_one (ps_if (pt_cmpR op_eq (pv 5) pe_int (nomark _))
        (pss_one (ps_set (i := 2) sc_law_working.nd rfl (Or.inl rfl) (pe_tup (pa_cons pe_str (pa_cons (pv 2) pa_nil)))))
        (pss_one (ps_if (pt_cmpR op_eq (pv 5) pe_int (nomark _))
          (pss_one (ps_set (i := 2) sc_law_working.nd rfl (Or.inl rfl) (pe_tup (pa_cons pe_str (pa_cons (pv 2) (pa_cons (pe_tup (pa_cons pe_str (pa_cons (pv 6) pa_nil))) pa_nil))))))
          (pss_one (ps_if (pt_cmpR op_eq (pv 5) pe_int (nomark _))
            (pss_one (ps_set (i := 2) sc_law_working.nd rfl (Or.inl rfl) (pe_tup (pa_cons pe_str (pa_cons (pe_tup (pa_cons pe_str (pa_cons (pv 6) pa_nil))) (pa_cons (pv 2) pa_nil))))))
            (pss_one (ps_if (pt_cmpR op_eq (pv 5) pe_int (nomark _))
              (pss_one (ps_set (i := 2) sc_law_working.nd rfl (Or.inl rfl) (pe_tup (pa_cons pe_str (pa_cons (pv 2) (pa_cons (pv 6) pa_nil))))))
              (pss_one (ps_if (pt_cmpR op_eq (pv 5) pe_int (nomark _))
                (pss_one (ps_set (i := 2) sc_law_working.nd rfl (Or.inl rfl) (pe_tup (pa_cons pe_str (pa_cons (pv 2) (pa_cons (pe_op op_mod (pe_op op_fdiv (pv 4) pe_int) pe_int) (pa_cons (pe_op op_mod (pe_op op_fdiv (pv 4) pe_int) pe_int) pa_nil)))))))
                (pss_one (ps_if (pt_cmpR op_eq (pv 5) pe_int (nomark _))
                  (pss_one (ps_set (i := 2) sc_law_working.nd rfl (Or.inl rfl) (pe_tup (pa_cons pe_str (pa_cons (pv 2) (pa_cons (pe_op op_mod (pe_op op_fdiv (pv 4) pe_int) (pe_ix ix_list (pe_lst (pa_cons pe_int (pa_cons pe_int pa_nil))) (pe_op op_mod (pe_op op_fdiv (pv 4) pe_int) pe_int) (fun _ _ => rfl))) pa_nil))))))
                  (pss_one (ps_set (i := 2) sc_law_working.nd rfl (Or.inl rfl) (pe_tup (pa_cons pe_str (pa_cons (pv 2) (pa_cons (pe_tup (pa_cons pe_str (pa_cons (pe_tup (pa_cons pe_str (pa_cons (pe_tup (pa_cons pe_str (pa_cons (pv 6) pa_nil))) (pa_cons (pe_op op_mod (pe_op op_fdiv (pv 4) pe_int) pe_int) pa_nil)))) pa_nil))) pa_nil))))))))))))))))))))))
      (pss_one (ps_ret (pv 2))))), ?_⟩
    refine ⟨_, rfl, _, _, rfl, rfl, .inr ⟨by decide, by decide⟩, _, _, rfl, rfl, (show (0 : Int) < 2147483647 by decide), _, rfl, fun x H1 s1 hx => ⟨(show 2 ≤ sizeLine by decide), fun t ht => ?_⟩⟩
    have s2 : Same H1 (upd H1 t (.tup [.str "word", .str x])) := Same.upd ht
    refine ⟨_, rfl, a, rfl, ⟨_, SqL.of ((s1.trans s2) _ _ ha)⟩, ?_⟩
    refine for_list (xs := ns) (fun i σ H5 => ∃ v W v3 v4 v5 v6, σ = [some (.ref a), some (.int n), some v, v3, v4, v5, v6] ∧ Same H H5 ∧ WAt H5 W v ∧ VW W ∧ depW W ≤ i + 2 ∧ (tL W).length ≤ 9 + 35 * i)
      ⟨.ref t, .word x, none, none, none, none, rfl, s1.trans s2, ⟨t, rfl, upd_same⟩, hx, Nat.zero_le _, tl_word hx⟩ ?_ ?_ ?_
    · rintro i σ H5 _ ⟨v, W, v3, v4, v5, v6, rfl, s5, _⟩
      exact SqL.of (s5 _ _ ha)
    · rintro i y σ H5 hy ⟨v, W, v3, v4, v5, v6, rfl, s5, wat, hV, hd, hlen⟩
      obtain ⟨c, rfl⟩ := hi y (List.mem_of_getElem? hy)
      refine ⟨_, rfl, _, _, rfl, rfl, .inr ⟨by decide, by decide⟩, _, _, rfl, rfl, (show (0 : Int) < 2147483629 by decide), ?_⟩
      dsimp only
      generalize c * 16807 % 2147483629 = z
      refine ⟨_, rfl, _, _, rfl, rfl, (show (0 : Int) < 7 by decide), ?_⟩
      refine ⟨_, rfl, _, _, rfl, rfl, ⟨by decide, by decide⟩, _, rfl, fun x H6 s6 hx => ?_⟩
      have s06 := s5.trans s6
      have w6 := wat.same s6
      have two : (2 ≤ sizeLine) := by decide
      have tre : (3 ≤ sizeLine) := by decide
      have fou : (4 ≤ sizeLine) := by decide
      refine ⟨_, rfl, rfl, _, rfl, ite2 (fun _ => ?_) (fun _ => ⟨_, rfl, rfl, _, rfl, ite2 (fun _ => ?_) (fun _ => ⟨_, rfl, rfl, _, rfl, ite2 (fun _ => ?_) (fun _ => ⟨_, rfl, rfl, _, rfl, ite2 (fun _ => ?_) (fun _ => ⟨_, rfl, rfl, _, rfl, ite2 (fun _ => ?_) (fun _ => ⟨_, rfl, rfl, _, rfl, ite2 (fun _ => ?_) (fun _ => ?_)⟩)⟩)⟩)⟩)⟩)⟩
      · refine ⟨_, rfl, two, fun p hp => ?_⟩
        have t1 : Same H6 (upd H6 p (.tup [.str "back", v])) := Same.upd hp
        exact ⟨.ref p, .back W, _, _, _, _, rfl, s06.trans t1, ⟨p, v, rfl, upd_same, w6.same t1⟩, hV, by simp only [depW]; omega, by rw [tl_back]; omega⟩
      · refine ⟨_, rfl, _, rfl, two, fun p1 hp1 => ⟨tre, fun p hp => ?_⟩⟩
        have t1 : Same H6 (upd H6 p1 (.tup [.str "word", .str x])) := Same.upd hp1
        have t2 : Same (upd H6 p1 (.tup [.str "word", .str x])) _ := Same.upd (o := .tup [.str "join", v, .ref p1]) hp
        have lw := tl_word hx
        exact ⟨.ref p, .join W (.word x), _, _, _, _, rfl, s06.trans (t1.trans t2), ⟨p, v, .ref p1, rfl, upd_same, (w6.same t1).same t2, p1, rfl, t2 _ _ upd_same⟩, ⟨hV, hx⟩, by simp only [depW]; omega, by rw [tl_join]; omega⟩
      · refine ⟨_, rfl, two, fun p1 hp1 => ⟨_, rfl, tre, fun p hp => ?_⟩⟩
        have t1 : Same H6 (upd H6 p1 (.tup [.str "word", .str x])) := Same.upd hp1
        have t2 : Same (upd H6 p1 (.tup [.str "word", .str x])) _ := Same.upd (o := .tup [.str "join", .ref p1, v]) hp
        have lw := tl_word hx
        exact ⟨.ref p, .join (.word x) W, _, _, _, _, rfl, s06.trans (t1.trans t2), ⟨p, .ref p1, v, rfl, upd_same, ⟨p1, rfl, t2 _ _ upd_same⟩, (w6.same t1).same t2⟩, ⟨hx, hV⟩, by simp only [depW]; omega, by rw [tl_join]; omega⟩
      · refine ⟨_, rfl, _, rfl, tre, fun p hp => ?_⟩
        have t1 : Same H6 (upd H6 p (.tup [.str "mix", v, .str x])) := Same.upd hp
        have lm := tl_mix W hx
        exact ⟨.ref p, .mix W x, _, _, _, _, rfl, s06.trans t1, ⟨p, v, rfl, upd_same, w6.same t1⟩, ⟨hV, hx⟩, by simp only [depW]; omega, by omega⟩
      · refine ⟨_, rfl, _, rfl, _, _, rfl, rfl, ⟨by decide, by decide⟩, _, _, rfl, rfl, (show (0 : Int) < 1000 by decide), _, rfl, _, _, rfl, rfl, ⟨by decide, by decide⟩, _, _, rfl, rfl, (show (0 : Int) < 1000 by decide), fou, fun p hp => ?_⟩
        have t1 : Same H6 (upd H6 p (.tup [.str "within", v, .int (z / 7 % 1000), .int (z / 7000 % 1000)])) := Same.upd hp
        have lm := tl_within W (mod1000 (z / 7)) (mod1000 (z / 7000))
        exact ⟨.ref p, .within W (z / 7 % 1000) (z / 7000 % 1000), _, _, _, _, rfl, s06.trans t1, ⟨p, v, rfl, upd_same, w6.same t1⟩, ⟨hV, mod1000 _, mod1000 _⟩, by simp only [depW]; omega, by omega⟩
      · obtain ⟨mo, hmo, hm1, hm2⟩ : ∃ mo : Int, atI [V.int 10, V.int 1000] (z / 7000 % 2) = some (.int mo) ∧ 0 < mo ∧ mo ≤ 1000 := by
          have h1 := Int.emod_nonneg (z / 7000) (show (2 : Int) ≠ 0 by decide)
          have h2 := Int.emod_lt_of_pos (z / 7000) (show (0 : Int) < 2 by decide)
          generalize z / 7000 % 2 = y at h1 h2
          have : y = 0 ∨ y = 1 := by omega
          rcases this with rfl | rfl
          · exact ⟨10, rfl, by decide, by decide⟩
          · exact ⟨1000, rfl, by decide, by decide⟩
        refine ⟨_, rfl, _, rfl, _, _, rfl, rfl, ⟨by decide, by decide⟩, (show 2 ≤ sizeLine by decide), fun p0 hp0 => ⟨_, rfl, _, _, rfl, rfl, ⟨by decide, by decide⟩, _, _, rfl, rfl, (show (0 : Int) < 2 by decide), p0, _, _, .int mo, rfl, rfl, SqL.of upd_same, hmo, _, _, rfl, rfl, hm1, tre, fun p hp => ?_⟩⟩
        have t0 : Same H6 (upd H6 p0 (.lst [.int 10, .int 1000])) := Same.upd hp0
        have t1 : Same (upd H6 p0 (.lst [.int 10, .int 1000])) _ := Same.upd (o := .tup [.str "less", v, .int (z / 7 % mo)]) hp
        have hb : 0 ≤ z / 7 % mo ∧ z / 7 % mo < 1000 := ⟨Int.emod_nonneg _ (by omega), Int.lt_of_lt_of_le (Int.emod_lt_of_pos _ hm1) hm2⟩
        have lm := tl_less W hb
        exact ⟨.ref p, .less W (z / 7 % mo), _, _, _, _, rfl, s06.trans (t0.trans t1), ⟨p, v, rfl, upd_same, (w6.same t0).same t1⟩, ⟨hV, hb⟩, by simp only [depW]; omega, by omega⟩
      · refine ⟨_, rfl, _, rfl, two, fun p1 hp1 => ⟨_, rfl, _, _, rfl, rfl, ⟨by decide, by decide⟩, _, _, rfl, rfl, (show (0 : Int) < 12 by decide), tre, fun p2 hp2 => ⟨two, fun p3 hp3 => ⟨tre, fun p hp => ?_⟩⟩⟩⟩
        have hb : 0 ≤ z / 7 % 12 ∧ z / 7 % 12 < 1000 := ⟨Int.emod_nonneg _ (by omega), Int.lt_of_lt_of_le (Int.emod_lt_of_pos _ (by decide)) (by decide)⟩
        have t1 : Same H6 (upd H6 p1 (.tup [.str "word", .str x])) := Same.upd hp1
        have t2 : Same (upd H6 p1 (.tup [.str "word", .str x])) _ := Same.upd (o := .tup [.str "less", .ref p1, .int (z / 7 % 12)]) hp2
        have t3 := Same.upd (o := .tup [.str "back", .ref p2]) hp3
        have t4 := Same.upd (o := .tup [.str "join", v, .ref p3]) hp
        have l1 := tl_word hx
        have l2 := tl_less (.word x) hb
        have l3 := tl_back (.less (.word x) (z / 7 % 12))
        exact ⟨.ref p, .join W (.back (.less (.word x) (z / 7 % 12))), _, _, _, _, rfl, s06.trans (t1.trans (t2.trans (t3.trans t4))), ⟨p, v, .ref p3, rfl, upd_same, w6.same (t1.trans (t2.trans (t3.trans t4))), p3, .ref p2, rfl, t4 _ _ upd_same, p2, .ref p1, rfl, (t3.trans t4) _ _ upd_same, p1, rfl, (t2.trans (t3.trans t4)) _ _ upd_same⟩, ⟨hV, hx, hb⟩, by simp only [depW]; omega, by rw [tl_join]; omega⟩
    · rintro σ H5 ⟨v, W, v3, v4, v5, v6, rfl, s5, wat, hV, hd, hlen⟩
      exact ⟨_, rfl, q v W H5 s5 wat hV (by omega) (by omega)⟩
def spLText (K : PySem.W.Frag) (n : Nat) : Sp := fun vs H Q _ => ∃ (v : V) (W : Wk), vs = [v] ∧ WAt H W v ∧ VW W ∧ depW W + 1 ≤ n ∧ (tL W).length ≤ 1000 ∧ ∀ H', Same H H' → Q (.str ⟨(tL W).toArray⟩) H'
theorem sc_law_text : FnScope ["_law_working_here", "_law_text_here", "_law_part"] ["_law_working_here"] (defScope (top 24)) := ⟨rfl, rfl, rfl, by decide +kernel, rfl, by decide +kernel, by decide +kernel⟩
theorem ok_ltext (n : Nat) (B : Bl mg) (F : Fun K "_law_text" "_law_text" (top 24) f fd) (F_law_text : Fn P w K mg base "_law_text" (n + 1) (spLText K n)) : FnOk P w K mg base CX0 (n + 2) f fd ["_law_working_here"] (spLText K (n + 1)) := by
  refine F.ok sc_law_text (fun vs H Q E h => ?_) (fun cdv A outer s H vs Q E hr h => ?_)
  · obtain ⟨v, W, rfl, _⟩ := h
    rfl
  · obtain ⟨v, W, rfl, hW, hV, hd, hl, q⟩ := h
    refine ⟨_, (pss_cons (ps_if (pt_cmpR op_eq (pe_ix ix_tup (pv 0) pe_int (fun _ _ => rfl)) pe_str (nomark _))
      (pss_one (ps_ret (pe_ix ix_tup (pv 0) pe_int (fun _ _ => rfl))))
      pss_nil)
      (pss_cons (ps_set (i := 1) sc_law_text.nd rfl (Or.inl rfl) (pe_op op_add_str (pe_op op_add_str (pe_ix ix_tup (pv 0) pe_int (fun _ _ => rfl)) pe_str) (pe_fn F_law_text (hr.mono (by omega)) (by rfl) (pa_cons (pe_ix ix_tup (pv 0) pe_int (fun _ _ => rfl)) pa_nil))))
      (pss_cons (ps_if (pt_cmpR op_eq (pe_ix ix_tup (pv 0) pe_int (fun _ _ => rfl)) pe_str (nomark _))
      (pss_one (ps_ret (pe_op op_add_str (pe_op op_add_str (pe_op op_add_str (pv 1) pe_str) (pe_fn F_law_text (hr.mono (by omega)) (by rfl) (pa_cons (pe_ix ix_tup (pv 0) pe_int (fun _ _ => rfl)) pa_nil))) pe_str)))
      pss_nil)
      (pss_cons (ps_for PassesOwn.never rfl (pi_tup (pe_slice sl_tup (pv 0) (po_some pe_int) po_none)) (pg_name (i := 2) sc_law_text.nd rfl (Or.inl rfl))
      (pss_one (ps_set (i := 1) sc_law_text.nd rfl (Or.inl rfl) (pe_op op_add_str (pe_op op_add_str (pv 1) pe_str) (pe_callTy call_strP (by rfl) B.str_ bt_str (pa_cons (pv 2) pa_nil))))))
      (pss_one (ps_ret (pe_op op_add_str (pv 1) pe_str))))))), ?_⟩
    by_cases hw : isWord W = true
    · obtain ⟨y, rfl⟩ : ∃ y, W = .word y := by
        cases W with
        | word y => exact ⟨y, rfl⟩
        | _ => cases hw
      obtain ⟨a, e, h1⟩ := hW
      cases e
      refine ifs_hit (fun R hR => ⟨_, rfl, a, _, 0, _, rfl, rfl, SqT.of h1, rfl, rfl, _, rfl, sTr hR⟩) ?_
      have := q H (Same.refl' _)
      rw [show (⟨(tL (.word y)).toArray⟩ : Str) = y from mk_list y] at this
      exact ⟨_, rfl, a, _, 1, _, rfl, rfl, SqT.of h1, rfl, this⟩
    · have hw : isWord W = false := by simpa using hw
      obtain ⟨b, ps, epq, hcase⟩ := parts_split hw
      have hVp := VW_parts hV
      have hdp := dep_parts W
      have htl := tL_parts hw
      obtain ⟨a, vs, rfl, h1, pr⟩ := WAt_to hW
      rw [epq] at pr hVp hdp htl
      obtain ⟨u, us, rfl, hb, pr2⟩ : ∃ u us, vs = u :: us ∧ WAt H b u ∧ Paired (PAt H) ps us := by
        cases pr with
        | cons h t => exact ⟨_, _, rfl, h, t⟩
      have hVb : VW b := hVp _ List.mem_cons_self
      have hdb : depW b + 1 ≤ depW W := hdp _ List.mem_cons_self
      rw [tPs] at htl
      have hlen : (tL W).length = (tagW W).cps.toList.length + ((tL b).length + (tPs 44 ps).length + 2) := by
        rw [htl]
        simp only [List.length_append, List.length_cons, List.length_nil, tP]
        try omega
      refine ifs_miss (fun R hR => ⟨_, rfl, a, _, 0, _, rfl, rfl, SqT.of h1, at0 _ _, rfl, _, rfl, sFr (tag_word hw) hR⟩) ?_
      have hgl : (tagW W).length = (tagW W).cps.toList.length := len_list _
      refine ⟨_, rfl, a, _, 0, _, rfl, rfl, SqT.of h1, at0 _ _, _, _, rfl, rfl, szA (show (tagW W).length + 1 ≤ 10000 by omega), _, rfl, a, _, 1, _, rfl, rfl, SqT.of h1, at1 _ _ _, u, b, rfl, hb, hVb, by omega, by omega, fun H1 s1 => ⟨_, _, rfl, rfl, ?_, ?_⟩⟩
      · refine szA ?_
        rw [app_len]
        show (tagW W).length + 1 + (tL b).toArray.size ≤ 10000
        simp
        omega
      have hT : ((tagW W ++ Str.ofString "(") ++ (⟨(tL b).toArray⟩ : Str)).cps.toList = (tagW W).cps.toList ++ (40 :: tL b) := by
        rw [app_list, app_list, c40]
        simp
      dsimp only [gName]
      generalize (tagW W ++ Str.ofString "(") ++ (⟨(tL b).toArray⟩ : Str) = T0 at hT ⊢
      have hT0 : T0.length = (tagW W).cps.toList.length + (1 + (tL b).length) := by
        rw [len_list, hT, List.length_append, List.length_cons]
        omega
      have h11 := s1 _ _ h1
      rcases hcase with ⟨c, rfl⟩ | ⟨hnj, hnw⟩
      · cases epq
        obtain ⟨u2, rfl, hc⟩ : ∃ u2, us = [u2] ∧ WAt H c u2 := by
          cases pr2 with
          | cons h t =>
            cases t
            exact ⟨_, rfl, h⟩
        have hVc : VW c := hVp _ (List.mem_cons_of_mem _ List.mem_cons_self)
        have hdc : depW c + 1 ≤ depW (.join b c) := hdp _ (List.mem_cons_of_mem _ List.mem_cons_self)
        have hlc : (tPs 44 [Pt.w c]).length = (tL c).length + 1 := by simp [tPs, tP]
        refine ifs_hit (fun R hR => ⟨_, rfl, a, _, 0, _, rfl, rfl, SqT.of h11, at0 _ _, rfl, _, rfl, sTr hR⟩) ?_
        refine ⟨_, rfl, _, _, rfl, rfl, szA (show T0.length + 1 ≤ 10000 by omega), _, rfl, a, _, 2, _, rfl, rfl, SqT.of h11, rfl, u2, c, rfl, hc.same s1, hVc, by omega, by omega, fun H2 s2 => ⟨_, _, rfl, rfl, ?_, _, _, rfl, rfl, ?_, ?_⟩⟩
        · refine szA ?_
          rw [app_len]
          show T0.length + 1 + (tL c).toArray.size ≤ 10000
          simp
          omega
        · refine szA ?_
          rw [app_len, app_len]
          show T0.length + 1 + (tL c).toArray.size + 1 ≤ 10000
          simp
          omega
        · have := q H2 (s1.trans s2)
          rw [show (⟨(tL (.join b c)).toArray⟩ : Str) = ((T0 ++ Str.ofString ",") ++ (⟨(tL c).toArray⟩ : Str)) ++ Str.ofString ")" from str_eqL (by rw [app_list, app_list, app_list, hT, c44, c41, htl]; simp [tPs, tP])] at this
          exact this
      · refine ifs_miss (fun R hR => ⟨_, rfl, a, _, 0, _, rfl, rfl, SqT.of h11, at0 _ _, rfl, _, rfl, sFr hnj hR⟩) ?_
        refine ⟨_, rfl, _, rfl, a, _, rfl, SqT.of h11, ?_, fun l hl => ?_⟩
        · intro z
          have z1 := z.1
          rw [show (V.str (tagW W) :: u :: us).length = us.length + 2 from rfl, sIx2] at z1
          cases z1
        rw [cut2]
        have s2 : Same H1 (upd H1 l (.tup us)) := Same.upd hl
        refine ⟨l, rfl, ⟨_, SqT.of upd_same⟩, ?_⟩
        have lus := pr2.length
        refine for_tup (xs := us) (fun k σ H5 => ∃ T v2, σ = [some (.ref a), some (.str T), v2] ∧ H5 = upd H1 l (.tup us) ∧ T.cps.toList = (tagW W).cps.toList ++ (40 :: tL b) ++ tPs 44 (ps.take k)) ⟨T0, none, rfl, rfl, by rw [hT]; simp [tPs]⟩ ?_ ?_ ?_
        · rintro k σ H5 _ ⟨T, v2, rfl, rfl, _⟩
          exact SqT.of upd_same
        · rintro k z σ H5 hz ⟨T, v2, rfl, rfl, hT5⟩
          obtain ⟨p, hp, pat⟩ := Paired.get pr2 hz
          have hpm := List.mem_of_getElem? hp
          have hnp := hnw p hpm
          have hVq := hVp p (List.mem_cons_of_mem _ hpm)
          have hle : (tPs 44 (ps.take (k + 1))).length ≤ (tPs 44 ps).length := tPs_le _ _
          rw [take_snoc hp, tPs_snoc, List.length_append, List.length_cons] at hle
          have hTl : T.length = (tagW W).cps.toList.length + (1 + (tL b).length) + (tPs 44 (ps.take k)).length := by
            rw [len_list, hT5, List.length_append, List.length_append, List.length_cons]
            omega
          have fin : ∀ y : Str, y.cps.toList = tP p → ∃ T' v2, [some (V.ref a), some (.str ((T ++ Str.ofString ",") ++ y)), some z] = [some (.ref a), some (.str T'), v2] ∧ upd H1 l (.tup us) = upd H1 l (.tup us) ∧ T'.cps.toList = (tagW W).cps.toList ++ (40 :: tL b) ++ tPs 44 (ps.take (k + 1)) := fun y hy =>
            ⟨_, _, rfl, rfl, by rw [app_list, app_list, c44, hT5, hy, take_snoc hp, tPs_snoc]; simp⟩
          have sz : ∀ y : Str, y.cps.toList = tP p → (T ++ Str.ofString ",").length + y.length ≤ 10000 := fun y hy => by
            rw [app_len, len_list y, hy]
            show T.length + 1 + _ ≤ _
            omega
          cases p with
          | w _ => exact hnp.elim
          | l y =>
            cases (show z = _ from pat)
            exact ⟨_, rfl, _, _, rfl, rfl, szA (show T.length + 1 ≤ 10000 by omega), _, rfl, .inl ⟨y, rfl, _, _, rfl, rfl, szA (sz y rfl), fin y rfl⟩⟩
          | n i =>
            cases (show z = _ from pat)
            exact ⟨_, rfl, _, _, rfl, rfl, szA (show T.length + 1 ≤ 10000 by omega), _, rfl, .inr ⟨i, rfl, int_ok hVq.1 hVq.2, _, _, rfl, rfl, szA (sz (numT i) rfl), fin (numT i) rfl⟩⟩
        · rintro σ H5 ⟨T, v2, rfl, rfl, hT5⟩
          rw [← lus, List.take_length] at hT5
          have hTl : T.length = (tagW W).cps.toList.length + (1 + (tL b).length) + (tPs 44 ps).length := by
            rw [len_list, hT5, List.length_append, List.length_append, List.length_cons]
            omega
          have := q _ (s1.trans s2)
          rw [show (⟨(tL W).toArray⟩ : Str) = T ++ Str.ofString ")" from str_eqL (by rw [app_list, hT5, c41, htl]; simp [tP])] at this
          exact ⟨_, rfl, _, _, rfl, rfl, szA (show T.length + 1 ≤ 10000 by omega), this⟩
theorem ok_ltextAll (B : Bl mg) (F : Fun K "_law_text" "_law_text" (top 24) f fd) (hm : mg "_law_text" = some (.ref f)) (hk : PySem.W.keepIn K (.ref f) = true) (hb : Binds K fd ["_law_working_here"] []) :
    ∀ n : Nat, FnOk P w K mg base CX0 (n + 1) f fd ["_law_working_here"] (spLText K n)
  | 0 => F.ok sc_law_text (fun vs H Q E h => by obtain ⟨v, W, rfl, _, _, hd, _⟩ := h; omega) (fun cdv A outer s H vs Q E hr h => by obtain ⟨v, W, rfl, _, _, hd, _⟩ := h; omega)
  | n + 1 => ok_ltext n B F ⟨f, fd, _, ok_ltextAll B F hm hk hb n, hm, hk, hb⟩
end
end Cw
namespace Cw
open PySem L2
theorem sIx1 (n : Nat) : HT.sIx (n + 1) 0 (some 1) = 1 := by
  unfold HT.sIx
  simp
theorem cut1 (x : V) (us : List V) : cutV (x :: us) (some 1) none = us := by
  unfold cutV
  rw [show (x :: us).length = us.length + 1 from rfl, sIx1, show HT.sIx (us.length + 1) (us.length + 1) none = us.length + 1 from rfl, show us.length + 1 - 1 = us.length by omega]
  exact List.take_length
def strP (p : Pt) : Str := ⟨(tP p).toArray⟩
theorem joinT : ∀ (r : List Pt) (p : Pt), (Str.join ⟨#[44]⟩ ((p :: r).map strP)).cps.toList = tP p ++ tPs 44 r
  | [], p => by
    show (strP p).cps.toList = _
    simp [strP, tPs]
  | q :: r, p => by
    have ih := joinT r q
    show ((strP p ++ ⟨#[44]⟩) ++ Str.join ⟨#[44]⟩ ((q :: r).map strP) : Str).cps.toList = _
    rw [app_list, app_list, ih, tPs]
    simp [strP]
theorem fm2_list (a x b y : Str) : (fm2 a x b y).cps.toList = a.cps.toList ++ (x.cps.toList ++ (b.cps.toList ++ y.cps.toList)) := by
  unfold fm2
  rw [app_list, app_list, app_list, app_list]
  show (([] ++ a.cps.toList) ++ x.cps.toList ++ b.cps.toList) ++ y.cps.toList = _
  simp
theorem tP_le : ∀ (l : List Pt) (p : Pt), p ∈ l → (tP p).length ≤ (tPs 44 l).length
  | [], _, h => absurd h List.not_mem_nil
  | q :: r, p, h => by
    rw [tPs, List.length_cons, List.length_append]
    rcases List.mem_cons.mp h with rfl | h
    · omega
    · have := tP_le r p h
      omega
theorem tPs_len (c d : Nat) : ∀ l : List Pt, (tPs c l).length = (tPs d l).length
  | [] => rfl
  | _ :: _ => rfl
theorem sum_parts : ∀ l : List Pt, ((l.map strP).map (·.length)).sum ≤ (tPs 44 l).length
  | [] => Nat.le_refl _
  | q :: r => by
    have := sum_parts r
    rw [List.map_cons, List.map_cons, List.sum_cons, tPs, List.length_cons, List.length_append]
    show (tP q).toArray.size + _ ≤ _
    simp only [List.size_toArray]
    omega
section
variable {P : Program} {w : World} {K : PySem.W.Frag} {mg : Str → Option Value} {base : Heap} {f : Addr} {fd : FuncData}
def spShow (K : PySem.W.Frag) (n : Nat) : Sp := fun vs H Q _ => ∃ (v : V) (W : Wk), vs = [v] ∧ WAt H W v ∧ VW W ∧ depW W + 1 ≤ n ∧ (tL W).length ≤ 900 ∧ ∀ H', Same H H' → Q (.str ⟨(tL W).toArray⟩) H'
theorem sc_show_working : FnScope ["working", "name", "parts", "kind", "part", "inside"] ["working"] (defScope (top 19)) := ⟨rfl, rfl, rfl, by decide +kernel, rfl, by decide +kernel, by decide +kernel⟩
theorem ok_show (n : Nat) (B : Bl mg) (hPARTS : PartsOk K w mg) (F : Fun K "show_working" "show_working" (top 19) f fd) (Fshow_working : Fn P w K mg base "show_working" (n + 1) (spShow K n)) : FnOk P w K mg base CX0 (n + 2) f fd ["working"] (spShow K (n + 1)) := by
  refine F.ok sc_show_working (fun vs H Q E h => ?_) (fun cdv A outer s H vs Q E hr h => ?_)
  · obtain ⟨v, W, rfl, _⟩ := h
    rfl
  · obtain ⟨v, W, rfl, hW, hV, hd, hl, q⟩ := h
    obtain ⟨kvs, cPARTS, hpk⟩ := hPARTS
    refine ⟨_, (pss_cons (ps_set (i := 1) sc_show_working.nd rfl (Or.inl rfl) (pe_ix ix_tup (pv 0) pe_int (fun _ _ => rfl)))
      (pss_cons (ps_if (pt_cmpR op_eq (pv 1) pe_str (nomark _))
      (pss_one (ps_ret (pe_ix ix_tup (pv 0) pe_int (fun _ _ => rfl))))
      pss_nil)
      (pss_cons (ps_set (i := 2) sc_show_working.nd rfl (Or.inl rfl) (pe_lst pa_nil))
      (pss_cons (ps_for PassesOwn.never rfl (pi_zipt (by rfl) B.zip_ (pa_cons (pe_gget cPARTS (by rfl) (pv 1) (fun _ _ => rfl)) (pa_cons (pe_slice sl_tup (pv 0) (po_some pe_int) po_none) pa_nil))) (pg_tup rfl (pgs_cons (pg_name (i := 3) sc_show_working.nd rfl (Or.inl rfl)) (pgs_cons (pg_name (i := 4) sc_show_working.nd rfl (Or.inl rfl)) pgs_nil)))
      (pss_one (ps_expr (pe_bm PySem.F.plainAttrs_list PySem.F.slot_list_append PySem.F.type_list_append mt_append (pv 2) (pa_cons (pe_ifExp (pt_cmpR op_eq (pv 3) pe_str (nomark _)) (pe_fn Fshow_working (hr.mono (by omega)) (by rfl) (pa_cons (pv 4) pa_nil)) (pe_callTy call_strP (by rfl) B.str_ bt_str (pa_cons (pv 4) pa_nil))) pa_nil)))))
      (pss_cons (ps_set (i := 5) sc_show_working.nd rfl (Or.inl rfl) (pe_bm PySem.F.plainAttrs_str PySem.F.slot_str_join PySem.F.type_str_join mt_join pe_str (pa_cons (pv 2) pa_nil)))
      (pss_one (ps_ret (pe_fmt2 (pv 1) (pv 5) pe_str pe_str)))))))), ?_⟩
    obtain ⟨a, vs, rfl, h1, pr⟩ := WAt_to hW
    refine ⟨_, rfl, a, _, 0, _, rfl, rfl, SqT.of h1, at0 _ _, ?_⟩
    dsimp only [gName]
    by_cases hw : isWord W = true
    · obtain ⟨y, rfl⟩ : ∃ y, W = .word y := by
        cases W with
        | word y => exact ⟨y, rfl⟩
        | _ => cases hw
      obtain ⟨rfl⟩ : vs = [.str y] := by
        cases pr with
        | cons h t =>
          cases t
          cases (show _ = _ from h)
          rfl
      refine ifs_hit (fun R hR => ⟨_, rfl, rfl, _, rfl, sTr hR⟩) ?_
      have := q H (Same.refl' _)
      rw [show (⟨(tL (.word y)).toArray⟩ : Str) = y from mk_list y] at this
      exact ⟨_, rfl, a, _, 1, _, rfl, rfl, SqT.of h1, rfl, this⟩
    · have hw : isWord W = false := by simpa using hw
      have hVp := VW_parts hV
      have hdp := dep_parts W
      have htl := tL_parts hw
      obtain ⟨pa, ha, hsq⟩ := hpk W hw
      have hlp : (partsOf W).length ≤ 3 := by cases W <;> simp [partsOf]
      have lvs := pr.length
      have hlen : (tL W).length = (tagW W).cps.toList.length + ((tPs 44 (partsOf W)).length + 1) := by
        rw [htl, List.length_append, List.length_append, tPs_len 40 44]
        rfl
      refine ifs_miss (fun R hR => ⟨_, rfl, rfl, _, rfl, sFr (tag_word hw) hR⟩) ?_
      refine ⟨Nat.zero_le _, fun t ht => ?_⟩
      have s1 : Same H (upd H t (.lst [])) := Same.upd ht
      refine ⟨_, rfl, Sum.inr (tagW W), .ref pa, rfl, ha, _, rfl, _, rfl, a, _, rfl, SqT.of (s1 _ _ h1), ?_, fun l hl => ?_⟩
      · intro z
        have z1 := z.1
        rw [show (V.str (tagW W) :: vs).length = vs.length + 1 from rfl, sIx1] at z1
        cases z1
      rw [cut1]
      have s2 : Same (upd H t (.lst [])) (upd (upd H t (.lst [])) l (.tup vs)) := Same.upd hl
      have ht2 : upd (upd H t (.lst [])) l (.tup vs) t = some (.lst []) := s2 _ _ upd_same
      have hl2 : upd (upd H t (.lst [])) l (.tup vs) l = some (.tup vs) := upd_same
      have s02 := s1.trans s2
      revert s02 ht2 hl2
      generalize upd (upd H t (.lst [])) l (.tup vs) = H0
      intro ht2 hl2 s02
      have ltn : l ≠ t := fun z => by rw [z, ht2] at hl2; cases hl2
      have nt0 : ∀ xs, H0 t ≠ some (.tup xs) := fun xs e => by rw [ht2] at e; cases e
      refine ⟨pa, l, rfl, ⟨_, hsq _⟩, ⟨_, SqT.of hl2⟩, ?_⟩
      refine for_zipt (xs := (partsOf W).map fun p => V.str (kindP p)) (ys := vs) (fun k σ H5 => ∃ v3 v4, σ = [some (.ref a), some (.str (tagW W)), some (.ref t), v3, v4, none] ∧ SameX t H0 H5 ∧ H5 t = some (.lst (((partsOf W).take k).map fun p => V.str (strP p)))) ⟨none, none, rfl, fun _ _ _ e => e, ht2⟩ ?_ ?_ ?_
      · rintro k σ H5 _ ⟨v3, v4, rfl, s5, _⟩
        exact ⟨hsq _, SqT.of (s5 l _ ltn hl2)⟩
      · rintro k x y p σ H5 hx hy ⟨v3, v4, rfl, s5, ht5⟩ hp
        rw [List.getElem?_map] at hx
        obtain ⟨pt, hpt, rfl⟩ := Option.map_eq_some_iff.mp hx
        have hpm := List.mem_of_getElem? hpt
        obtain ⟨pt', hpt', pat⟩ := Paired.get pr hy
        rw [hpt] at hpt'
        cases hpt'
        have s6 : Same H5 (upd H5 p (.tup [.str (kindP pt), y])) := Same.upd hp
        have hp6 : upd H5 p (.tup [.str (kindP pt), y]) p = some (.tup [.str (kindP pt), y]) := upd_same
        have ht6 := s6 _ _ ht5
        have pat6 : PAt (upd H5 p (.tup [.str (kindP pt), y])) pt y := PAt.same s6 (PAt.sameN s5 nt0 (PAt.same s02 pat))
        have s06 : SameX t H0 (upd H5 p (.tup [.str (kindP pt), y])) := s5.trans (SameX.of s6)
        revert hp6 ht6 pat6 s06
        clear s6
        generalize upd H5 p (.tup [.str (kindP pt), y]) = H6
        intro hp6 ht6 pat6 s06
        refine ⟨p, _, rfl, SqT.of hp6, rfl, _, _, rfl, _, _, rfl, rfl, ?_⟩
        have hsz : (((partsOf W).take k).map fun p => V.str (strP p)).length < sizeLine := szB (by rw [List.length_map, List.length_take]; omega)
        have fin : ∀ H7, Same H6 H7 → ∃ v3 v4, [some (V.ref a), some (.str (tagW W)), some (.ref t), some (.str (kindP pt)), some y, none] = [some (.ref a), some (.str (tagW W)), some (.ref t), v3, v4, none] ∧ SameX t H0 (upd H7 t (.lst ((((partsOf W).take k).map fun p => V.str (strP p)) ++ [.str (strP pt)]))) ∧ upd H7 t (.lst ((((partsOf W).take k).map fun p => V.str (strP p)) ++ [.str (strP pt)])) t = some (.lst (((partsOf W).take (k + 1)).map fun p => V.str (strP p))) := fun H7 s7 =>
          ⟨_, _, rfl, fun b o hb e => by rw [upd_ne hb]; exact s7 _ _ (s06 b o hb e), by rw [upd_same, take_snoc hpt, List.map_append]; rfl⟩
        refine ⟨_, rfl, .inl ⟨rfl, _, SqL.of ht6⟩, _, rfl, rfl, _, rfl, ?_⟩
        have hle := tP_le _ _ hpm
        have hVq := hVp pt hpm
        have hdq := hdp pt hpm
        cases pt with
        | w W' =>
          rw [decide_eq_true (show V.str (kindP (.w W')) = V.str (Str.ofString "working") from rfl)]
          refine iteT ⟨_, rfl, y, W', rfl, pat6, hVq, Nat.le_trans hdq (by omega), Nat.le_trans hle (by omega), fun H7 s7 => ⟨t, _, _, rfl, rfl, s7 _ _ ht6, hsz, fin H7 s7⟩⟩
        | l z =>
          rw [decide_eq_false (show V.str (kindP (.l z)) ≠ V.str (Str.ofString "working") from fun e => by injection e with e; exact absurd e (by decide +kernel : Str.ofString "letters" ≠ Str.ofString "working"))]
          cases (show y = _ from pat6)
          have e : strP (.l z) = z := mk_list z
          have fin := fin H6 (Same.refl' _)
          rw [e] at fin
          exact iteF ⟨_, rfl, .inl ⟨z, rfl, t, _, _, rfl, rfl, ht6, hsz, fin⟩⟩
        | n i =>
          rw [decide_eq_false (show V.str (kindP (.n i)) ≠ V.str (Str.ofString "working") from fun e => by injection e with e; exact absurd e (by decide +kernel : Str.ofString "number" ≠ Str.ofString "working"))]
          cases (show y = _ from pat6)
          have e : strP (.n i) = numT i := mk_list (numT i)
          have fin := fin H6 (Same.refl' _)
          rw [e] at fin
          exact iteF ⟨_, rfl, .inr ⟨i, rfl, int_ok hVq.1 hVq.2, t, _, _, rfl, rfl, ht6, hsz, fin⟩⟩
      · rintro σ H5 ⟨v3, v4, rfl, s5, ht5⟩
        rw [List.length_map, ← lvs, Nat.min_self, List.take_length] at ht5
        obtain ⟨p0, r0, ep⟩ : ∃ p r, partsOf W = p :: r := by
          cases e : partsOf W with
          | nil => exact absurd e (parts_ne W)
          | cons p r => exact ⟨p, r, rfl⟩
        have hj : (Str.join (Str.ofString ",") ((partsOf W).map strP)).cps.toList = tP p0 ++ tPs 44 r0 := by rw [ep, e44]; exact joinT r0 p0
        have hp44 : (tPs 44 (partsOf W)).length = (tP p0 ++ tPs 44 r0).length + 1 := by rw [ep, tPs, List.length_cons]
        have hjl : (Str.join (Str.ofString ",") ((partsOf W).map strP)).length = (tP p0 ++ tPs 44 r0).length := by rw [len_list, hj]
        have hsum := sum_parts (partsOf W)
        refine ⟨rfl, _, rfl, Str.ofString ",", t, (partsOf W).map strP, rfl, rfl, .inl (SqL.of (by rw [ht5, List.map_map]; rfl)), ?_, ?_⟩
        · rw [List.length_map]
          show _ + _ * 1 ≤ 16777216
          omega
        dsimp only [gName]
        have hs : Same H H5 := fun b o e => s5 b o (fun z => by rw [z, ht] at e; cases e) (s02 b o e)
        have := q H5 hs
        rw [show (⟨(tL W).toArray⟩ : Str) = fm2 (tagW W) (Str.ofString "(") (Str.join (Str.ofString ",") ((partsOf W).map strP)) (Str.ofString ")") from str_eqL (by rw [fm2_list, c40, c41, hj, htl, ep, tPs]; simp)] at this
        exact ⟨_, rfl, tagW W, rfl, by rw [len_list]; omega, by decide, _, rfl, _, rfl, by omega, by decide, this⟩
theorem ok_showAll (B : Bl mg) (hPARTS : PartsOk K w mg) (F : Fun K "show_working" "show_working" (top 19) f fd) (hm : mg "show_working" = some (.ref f)) (hk : PySem.W.keepIn K (.ref f) = true) (hb : Binds K fd ["working"] []) :
    ∀ n : Nat, FnOk P w K mg base CX0 (n + 1) f fd ["working"] (spShow K n)
  | 0 => F.ok sc_show_working (fun vs H Q E h => by obtain ⟨v, W, rfl, _, _, hd, _⟩ := h; omega) (fun cdv A outer s H vs Q E hr h => by obtain ⟨v, W, rfl, _, _, hd, _⟩ := h; omega)
  | n + 1 => ok_show n B hPARTS F ⟨f, fd, _, ok_showAll B hPARTS F hm hk hb n, hm, hk, hb⟩
end
end Cw
namespace Cw
open PySem L2
theorem cut_ints (ns : List Int) (lo hi : Option Int) : ∀ y ∈ cutV (ns.map V.int) lo hi, ∃ z, y = V.int z := fun y m => by
  unfold cutV at m
  obtain ⟨z, _, e⟩ := List.mem_map.mp (List.mem_of_mem_drop (List.mem_of_mem_take m))
  exact ⟨z, e.symm⟩
theorem cut_1_9 (xs : List V) : (cutV xs (some 1) (some 9)).length ≤ 8 := by
  unfold cutV
  rw [List.length_take]
  refine Nat.le_trans (Nat.min_le_left _ _) ?_
  have h1 : HT.sIx xs.length 0 (some 1) = min 1 xs.length := HT.sIx_nat _ _ 1
  have h9 : HT.sIx xs.length xs.length (some 9) = min 9 xs.length := HT.sIx_nat _ _ 9
  rw [h1, h9]
  omega
theorem cback : (Str.ofString "back(").cps.toList = (Str.ofString "back").cps.toList ++ [40] := by decide +kernel
section
variable {P : Program} {w : World} {K : PySem.W.Frag} {mg : Str → Option Value} {base : Heap} {f : Addr} {fd : FuncData}
def spLaw (K : PySem.W.Frag) : Sp := fun vs H Q _ => ∃ (a : Addr) (ns : List Int), vs = [.ref a] ∧ SqL K H a (ns.map V.int) ∧ ns.length ≤ 63 ∧ ∀ H', Q (.bl true) H'
theorem sc_law : FnScope ["_law_script", "_law_working_here", "_law_due", "_law_got"] ["_law_script"] (defScope (top 25)) := ⟨rfl, rfl, rfl, by decide +kernel, rfl, by decide +kernel, by decide +kernel⟩
theorem ok_law (B : Bl mg) (F : Fun K "law" "law" (top 25) f fd) (F_law_cell_at : Fn P w K mg base "_law_cell_at" 1 (spCell K)) (F_law_working : Fn P w K mg base "_law_working" 2 (spLWorking K)) (F_law_text : Fn P w K mg base "_law_text" 12 (spLText K 11)) (Fshow_working : Fn P w K mg base "show_working" 13 (spShow K 12)) (Fread_working : Fn P w K mg base "read_working" 25 (spRead K)) :
    FnOk P w K mg base CX0 26 f fd ["_law_script"] (spLaw K) := by
  refine F.ok sc_law (fun vs H Q E h => ?_) (fun cdv A outer s H vs Q E hr h => ?_)
  · obtain ⟨a, ns, rfl, _⟩ := h
    rfl
  · obtain ⟨a, ns, rfl, hS, hlen, q⟩ := h
    have hu := hr.units
    refine ⟨_, (pss_cons (ps_set (i := 1) sc_law.nd rfl (Or.inl rfl) (pe_fn F_law_working (hr.mono (by decide)) (by rfl) (pa_cons (pe_slice sl_list (pv 0) (po_some pe_int) (po_some pe_int)) (pa_cons (pe_fn F_law_cell_at (hr.mono (by decide)) (by rfl) (pa_cons (pv 0) (pa_cons pe_int pa_nil))) pa_nil))))
      (pss_cons (ps_set (i := 2) sc_law.nd rfl (Or.inl rfl) (pe_fn F_law_text (hr.mono (by decide)) (by rfl) (pa_cons (pv 1) pa_nil)))
      (pss_cons (ps_set (i := 3) sc_law.nd rfl (Or.inl rfl) (pe_fn Fshow_working (hr.mono (by decide)) (by rfl) (pa_cons (pv 1) pa_nil)))
      (pss_cons (ps_if (pw_or (pt_not (pt_val (pe_callB call_isi (by rfl) B.isinstance_ bt_isinstance (pa_cons (pv 3) (pa_cons (pe_bltn (v := .ty "str") (by rfl) B.str_ bt_str rfl) pa_nil))))) (pw_or (pt_cmpR op_ne (pv 3) (pv 2) (nomark _)) (pw_or1 (pt_cmpR (op_neD hu) (pe_fn Fread_working (hr.mono (by decide)) (by rfl) (pa_cons (pv 3) pa_nil)) (pv 1) (nomark _))))).pt
      (pss_one (ps_ret pe_bl))
      pss_nil)
      (pss_one (ps_ret (pe_cmpR op_eq (pe_fn Fshow_working (hr.mono (by decide)) (by rfl) (pa_cons (pe_tup (pa_cons pe_str (pa_cons (pv 1) pa_nil))) pa_nil)) (pe_op op_add_str (pe_op op_add_str pe_str (pv 2)) pe_str) (nomark _)))))))), ?_⟩
    refine ⟨_, rfl, _, rfl, _, rfl, a, _, rfl, hS, fun sl hsl => ?_⟩
    have sa : Same H (upd H sl (.lst (cutV (ns.map V.int) (some 1) (some 9)))) := Same.upd hsl
    refine ⟨_, rfl, a, ns, 0, rfl, sa.seq hS, sl, _, _, rfl, upd_same, cut_ints ns _ _, cut_1_9 _, fun v W H1 s1 wat hV hd hl => ?_⟩
    refine ⟨_, rfl, v, W, rfl, wat, hV, by omega, by omega, fun H2 s2 => ?_⟩
    have w2 := wat.same s2
    refine ⟨_, rfl, v, W, rfl, w2, hV, by omega, by omega, fun H3 s3 => ?_⟩
    have w3 := w2.same s3
    obtain ⟨ds, eds⟩ := dW_tup W
    have hdd := dep_dW W
    have hsz : (⟨(tL W).toArray⟩ : Str).length = (tL W).length := by show (tL W).toArray.size = _; simp
    have hsz2 : (Str.ofString "back(").length = 5 := by decide +kernel
    refine ⟨_, rfl, _, _, _, true, ⟨rfl, .str _, kit_same⟩, _, rfl, iteF ?_⟩
    refine ⟨_, rfl, _, rfl, rfl, _, rfl, ?_⟩
    rw [decide_eq_true rfl]
    refine iteF ⟨_, rfl, ⟨(tL W).toArray⟩, W, rfl, rfl, hV, by omega, by omega, fun u H4 s4 wu => ⟨_, rfl, dW W, dW W, wu.at, (w3.same s4).at, .inl ⟨_, _, eds, eds⟩, by omega, _, rfl, ?_⟩⟩
    rw [deq_refl]
    refine iteF ?_
    refine ⟨_, rfl, (show 2 ≤ sizeLine by decide), fun p hp => ?_⟩
    have s5 : Same H4 (upd H4 p (.tup [.str "back", v])) := Same.upd hp
    have hlb : (tL (.back W)).length = (tL W).length + 6 := tl_back W
    refine ⟨.ref p, .back W, rfl, ⟨p, v, rfl, upd_same, (w3.same s4).same s5⟩, hV, by simp only [depW]; omega, by omega, fun H5 s6 => ?_⟩
    refine ⟨_, rfl, _, _, rfl, rfl, szA (by omega), _, _, rfl, rfl, szA (by rw [app_len]; show _ + 1 ≤ _; omega), rfl, ?_⟩
    rw [decide_eq_true (congrArg V.str (str_eqL (by rw [app_list, app_list, cback, c41]; simp [tL])))]
    exact q _
end
end Cw
namespace Cw
open PySem L2
theorem all_mk {l : PySem.W.OpenLaw} {w : World} {K : PySem.W.Frag} {h : Heap} {mg : Str → Option Value} {fa : Addr} (X : K.In h) (G : h.Ns mainGlobals mg) (hfa : mg "law" = some (.ref fa))
    {CReader : Addr} (aCReader : PySem.W.nsIn K mainGlobals "Reader" = some (some (.ref CReader)))
    (pgReader : PySem.W.plainGet K CReader Str.empty = true) (hdReader : PySem.W.hasDictIn K CReader = true) (poReader : PySem.W.plainOver K CReader = true) (saReader : PySem.W.findIn K (.ref CReader) "__setattr__" = some (some (.builtin "object.__setattr__"))) (mkReader : PySem.W.makesIn K CReader = true) (kcReader : PySem.W.keepIn K (.ref CReader) = true)
    (nReader_text : PySem.W.findIn K (.ref CReader) "text" = some none)
    (nReader_at : PySem.W.findIn K (.ref CReader) "at" = some none)
    {f0 : Addr} {od0 an0 : Option Addr} {sl0 : Array (Option Value)} {oc0 kV0 dc0 pm0 cd0 ct0 : Value}
    (a0 : PySem.W.nsIn K mainGlobals "_law_cell_at" = some (some (.ref f0)))
    (l0 : K.lookup f0 = some ⟨oc0, od0, .func (PySem.W.fnOf "_law_cell_at" "_law_cell_at" (defArgs (top 21)) (defBody (top 21)) (defScope (top 21)) .none kV0 dc0 pm0 an0 cd0 ct0), sl0⟩)
    (c0 : PySem.W.codeIn K cd0 "_law_cell_at" = true)
    (k0 : PySem.W.keepIn K (.ref f0) = true)
    {f1 : Addr} {od1 an1 : Option Addr} {sl1 : Array (Option Value)} {oc1 kV1 dc1 pm1 cd1 ct1 : Value}
    (a1 : PySem.W.nsIn K mainGlobals "is_letters" = some (some (.ref f1)))
    (l1 : K.lookup f1 = some ⟨oc1, od1, .func (PySem.W.fnOf "is_letters" "is_letters" (defArgs (top 6)) (defBody (top 6)) (defScope (top 6)) .none kV1 dc1 pm1 an1 cd1 ct1), sl1⟩)
    (c1 : PySem.W.codeIn K cd1 "is_letters" = true)
    (k1 : PySem.W.keepIn K (.ref f1) = true)
    {f2 : Addr} {od2 an2 : Option Addr} {sl2 : Array (Option Value)} {oc2 kV2 dc2 pm2 cd2 ct2 : Value}
    (a2 : PySem.W.nsIn K mainGlobals "need" = some (some (.ref f2)))
    (l2 : K.lookup f2 = some ⟨oc2, od2, .func (PySem.W.fnOf "need" "need" (defArgs (top 18)) (defBody (top 18)) (defScope (top 18)) .none kV2 dc2 pm2 an2 cd2 ct2), sl2⟩)
    (c2 : PySem.W.codeIn K cd2 "need" = true)
    (k2 : PySem.W.keepIn K (.ref f2) = true)
    {f3 : Addr} {od3 an3 : Option Addr} {sl3 : Array (Option Value)} {oc3 kV3 dc3 pm3 cd3 ct3 : Value}
    (a3 : PySem.W.findIn K (.ref CReader) "__init__" = some (some (.ref f3))) (i3 : PySem.W.isFn K (.ref f3) = true)
    (l3 : K.lookup f3 = some ⟨oc3, od3, .func (PySem.W.fnOf "__init__" "Reader.__init__" (defArgs (inClass (top 13) 0)) (defBody (inClass (top 13) 0)) (defScope (inClass (top 13) 0)) .none kV3 dc3 pm3 an3 cd3 ct3), sl3⟩)
    (c3 : PySem.W.codeIn K cd3 "Reader.__init__" = true)
    (k3 : PySem.W.keepIn K (.ref f3) = true)
    {f4 : Addr} {od4 an4 : Option Addr} {sl4 : Array (Option Value)} {oc4 kV4 dc4 pm4 cd4 ct4 : Value}
    (a4 : PySem.W.findIn K (.ref CReader) "sign" = some (some (.ref f4))) (i4 : PySem.W.isFn K (.ref f4) = true)
    (l4 : K.lookup f4 = some ⟨oc4, od4, .func (PySem.W.fnOf "sign" "Reader.sign" (defArgs (inClass (top 13) 1)) (defBody (inClass (top 13) 1)) (defScope (inClass (top 13) 1)) .none kV4 dc4 pm4 an4 cd4 ct4), sl4⟩)
    (c4 : PySem.W.codeIn K cd4 "Reader.sign" = true)
    (k4 : PySem.W.keepIn K (.ref f4) = true)
    {f5 : Addr} {od5 an5 : Option Addr} {sl5 : Array (Option Value)} {oc5 kV5 dc5 pm5 cd5 ct5 : Value}
    (a5 : PySem.W.findIn K (.ref CReader) "run" = some (some (.ref f5))) (i5 : PySem.W.isFn K (.ref f5) = true)
    (l5 : K.lookup f5 = some ⟨oc5, od5, .func (PySem.W.fnOf "run" "Reader.run" (defArgs (inClass (top 13) 2)) (defBody (inClass (top 13) 2)) (defScope (inClass (top 13) 2)) .none kV5 dc5 pm5 an5 cd5 ct5), sl5⟩)
    (c5 : PySem.W.codeIn K cd5 "Reader.run" = true)
    (k5 : PySem.W.keepIn K (.ref f5) = true)
    {f6 : Addr} {od6 an6 : Option Addr} {sl6 : Array (Option Value)} {oc6 kV6 dc6 pm6 cd6 ct6 : Value}
    (a6 : PySem.W.findIn K (.ref CReader) "pass_by" = some (some (.ref f6))) (i6 : PySem.W.isFn K (.ref f6) = true)
    (l6 : K.lookup f6 = some ⟨oc6, od6, .func (PySem.W.fnOf "pass_by" "Reader.pass_by" (defArgs (inClass (top 13) 3)) (defBody (inClass (top 13) 3)) (defScope (inClass (top 13) 3)) .none kV6 dc6 pm6 an6 cd6 ct6), sl6⟩)
    (c6 : PySem.W.codeIn K cd6 "Reader.pass_by" = true)
    (k6 : PySem.W.keepIn K (.ref f6) = true)
    {f7 : Addr} {od7 an7 : Option Addr} {sl7 : Array (Option Value)} {oc7 kV7 dc7 pm7 cd7 ct7 : Value}
    (a7 : PySem.W.nsIn K mainGlobals "is_number" = some (some (.ref f7)))
    (l7 : K.lookup f7 = some ⟨oc7, od7, .func (PySem.W.fnOf "is_number" "is_number" (defArgs (top 7)) (defBody (top 7)) (defScope (top 7)) .none kV7 dc7 pm7 an7 cd7 ct7), sl7⟩)
    (c7 : PySem.W.codeIn K cd7 "is_number" = true)
    (k7 : PySem.W.keepIn K (.ref f7) = true)
    {f8 : Addr} {od8 an8 : Option Addr} {sl8 : Array (Option Value)} {oc8 kV8 dc8 pm8 cd8 ct8 : Value}
    (a8 : PySem.W.nsIn K mainGlobals "checked_letters" = some (some (.ref f8)))
    (l8 : K.lookup f8 = some ⟨oc8, od8, .func (PySem.W.fnOf "checked_letters" "checked_letters" (defArgs (top 17)) (defBody (top 17)) (defScope (top 17)) .none kV8 dc8 pm8 an8 cd8 ct8), sl8⟩)
    (c8 : PySem.W.codeIn K cd8 "checked_letters" = true)
    (k8 : PySem.W.keepIn K (.ref f8) = true)
    {f9 : Addr} {od9 an9 : Option Addr} {sl9 : Array (Option Value)} {oc9 kV9 dc9 pm9 cd9 ct9 : Value}
    (a9 : PySem.W.nsIn K mainGlobals "read_one" = some (some (.ref f9)))
    (l9 : K.lookup f9 = some ⟨oc9, od9, .func (PySem.W.fnOf "read_one" "read_one" (defArgs (top 15)) (defBody (top 15)) (defScope (top 15)) .none kV9 dc9 pm9 an9 cd9 ct9), sl9⟩)
    (c9 : PySem.W.codeIn K cd9 "read_one" = true)
    (k9 : PySem.W.keepIn K (.ref f9) = true)
    {f10 : Addr} {od10 an10 : Option Addr} {sl10 : Array (Option Value)} {oc10 kV10 dc10 pm10 cd10 ct10 : Value}
    (a10 : PySem.W.nsIn K mainGlobals "read_part" = some (some (.ref f10)))
    (l10 : K.lookup f10 = some ⟨oc10, od10, .func (PySem.W.fnOf "read_part" "read_part" (defArgs (top 16)) (defBody (top 16)) (defScope (top 16)) .none kV10 dc10 pm10 an10 cd10 ct10), sl10⟩)
    (c10 : PySem.W.codeIn K cd10 "read_part" = true)
    (k10 : PySem.W.keepIn K (.ref f10) = true)
    {f11 : Addr} {od11 an11 : Option Addr} {sl11 : Array (Option Value)} {oc11 kV11 dc11 pm11 cd11 ct11 : Value}
    (a11 : PySem.W.nsIn K mainGlobals "read_working" = some (some (.ref f11)))
    (l11 : K.lookup f11 = some ⟨oc11, od11, .func (PySem.W.fnOf "read_working" "read_working" (defArgs (top 14)) (defBody (top 14)) (defScope (top 14)) .none kV11 dc11 pm11 an11 cd11 ct11), sl11⟩)
    (c11 : PySem.W.codeIn K cd11 "read_working" = true)
    (k11 : PySem.W.keepIn K (.ref f11) = true)
    {f12 : Addr} {od12 an12 : Option Addr} {sl12 : Array (Option Value)} {oc12 kV12 dc12 pm12 cd12 ct12 : Value}
    (a12 : PySem.W.nsIn K mainGlobals "_law_word" = some (some (.ref f12)))
    (l12 : K.lookup f12 = some ⟨oc12, od12, .func (PySem.W.fnOf "_law_word" "_law_word" (defArgs (top 22)) (defBody (top 22)) (defScope (top 22)) .none kV12 dc12 pm12 an12 cd12 ct12), sl12⟩)
    (c12 : PySem.W.codeIn K cd12 "_law_word" = true)
    (k12 : PySem.W.keepIn K (.ref f12) = true)
    {f13 : Addr} {od13 an13 : Option Addr} {sl13 : Array (Option Value)} {oc13 kV13 dc13 pm13 cd13 ct13 : Value}
    (a13 : PySem.W.nsIn K mainGlobals "_law_working" = some (some (.ref f13)))
    (l13 : K.lookup f13 = some ⟨oc13, od13, .func (PySem.W.fnOf "_law_working" "_law_working" (defArgs (top 23)) (defBody (top 23)) (defScope (top 23)) .none kV13 dc13 pm13 an13 cd13 ct13), sl13⟩)
    (c13 : PySem.W.codeIn K cd13 "_law_working" = true)
    (k13 : PySem.W.keepIn K (.ref f13) = true)
    {f14 : Addr} {od14 an14 : Option Addr} {sl14 : Array (Option Value)} {oc14 kV14 dc14 pm14 cd14 ct14 : Value}
    (a14 : PySem.W.nsIn K mainGlobals "_law_text" = some (some (.ref f14)))
    (l14 : K.lookup f14 = some ⟨oc14, od14, .func (PySem.W.fnOf "_law_text" "_law_text" (defArgs (top 24)) (defBody (top 24)) (defScope (top 24)) .none kV14 dc14 pm14 an14 cd14 ct14), sl14⟩)
    (c14 : PySem.W.codeIn K cd14 "_law_text" = true)
    (k14 : PySem.W.keepIn K (.ref f14) = true)
    {f15 : Addr} {od15 an15 : Option Addr} {sl15 : Array (Option Value)} {oc15 kV15 dc15 pm15 cd15 ct15 : Value}
    (a15 : PySem.W.nsIn K mainGlobals "show_working" = some (some (.ref f15)))
    (l15 : K.lookup f15 = some ⟨oc15, od15, .func (PySem.W.fnOf "show_working" "show_working" (defArgs (top 19)) (defBody (top 19)) (defScope (top 19)) .none kV15 dc15 pm15 an15 cd15 ct15), sl15⟩)
    (c15 : PySem.W.codeIn K cd15 "show_working" = true)
    (k15 : PySem.W.keepIn K (.ref f15) = true)
    {f16 : Addr} {od16 an16 : Option Addr} {sl16 : Array (Option Value)} {oc16 kV16 dc16 pm16 cd16 ct16 : Value}
    (a16 : PySem.W.nsIn K mainGlobals "law" = some (some (.ref f16)))
    (l16 : K.lookup f16 = some ⟨oc16, od16, .func (PySem.W.fnOf "law" "law" (defArgs (top 25)) (defBody (top 25)) (defScope (top 25)) .none kV16 dc16 pm16 an16 cd16 ct16), sl16⟩)
    (c16 : PySem.W.codeIn K cd16 "law" = true)
    (k16 : PySem.W.keepIn K (.ref f16) = true)
    {tLETTERS : Tok} (sLETTERS : PySem.W.nsIn K mainGlobals "LETTERS" = some (some (.str "abcdefghijklmnopqrstuvwxyz" tLETTERS)))
    {tFIGURES : Tok} (sFIGURES : PySem.W.nsIn K mainGlobals "FIGURES" = some (some (.str "0123456789" tFIGURES)))
    {tLEAST_LETTERS : Tok} (sLEAST_LETTERS : PySem.W.nsIn K mainGlobals "LEAST_LETTERS" = some (some (.int 1 tLEAST_LETTERS)))
    {tMOST_LETTERS : Tok} (sMOST_LETTERS : PySem.W.nsIn K mainGlobals "MOST_LETTERS" = some (some (.int 9 tMOST_LETTERS)))
    {tMOST_FIGURES : Tok} (sMOST_FIGURES : PySem.W.nsIn K mainGlobals "MOST_FIGURES" = some (some (.int 3 tMOST_FIGURES)))
    {Pt_aP Pt_p0 Pt_p1 Pt_p2 Pt_p3 Pt_p4 : Addr} {Pt_t0 Pt_t1 Pt_t2 Pt_t3 Pt_t4 Pt_u00 Pt_u10 Pt_u11 Pt_u20 Pt_u21 Pt_u30 Pt_u31 Pt_u32 Pt_u40 Pt_u41 : Tok} {Pt_nP Pt_m0 Pt_m1 Pt_m2 Pt_m3 Pt_m4 : Nat} {Pt_o0 Pt_o1 Pt_o2 Pt_o3 Pt_o4 : Option Addr} {Pt_l0 Pt_l1 Pt_l2 Pt_l3 Pt_l4 : Array (Option Value)} (sPARTS : PySem.W.nsIn K mainGlobals "PARTS" = some (some (.ref Pt_aP))) (rf_PARTS : (Pt_aP == sysModules) = false) {Pt_oP : Obj} (lPARTS : K.lookup Pt_aP = some Pt_oP) (rf_DICT : Pt_oP = { cls := .type "dict", data := .dict #[⟨PyData.keyHash w.params "back", .str "back" Pt_t0, .ref Pt_p0⟩, ⟨PyData.keyHash w.params "join", .str "join" Pt_t1, .ref Pt_p1⟩, ⟨PyData.keyHash w.params "mix", .str "mix" Pt_t2, .ref Pt_p2⟩, ⟨PyData.keyHash w.params "within", .str "within" Pt_t3, .ref Pt_p3⟩, ⟨PyData.keyHash w.params "less", .str "less" Pt_t4, .ref Pt_p4⟩] Pt_nP }) (q0PARTS : K.lookup Pt_p0 = some ⟨.type "tuple", Pt_o0, .seq #[.str "working" Pt_u00] Pt_m0, Pt_l0⟩) (q1PARTS : K.lookup Pt_p1 = some ⟨.type "tuple", Pt_o1, .seq #[.str "working" Pt_u10, .str "working" Pt_u11] Pt_m1, Pt_l1⟩) (q2PARTS : K.lookup Pt_p2 = some ⟨.type "tuple", Pt_o2, .seq #[.str "working" Pt_u20, .str "letters" Pt_u21] Pt_m2, Pt_l2⟩) (q3PARTS : K.lookup Pt_p3 = some ⟨.type "tuple", Pt_o3, .seq #[.str "working" Pt_u30, .str "number" Pt_u31, .str "number" Pt_u32] Pt_m3, Pt_l3⟩) (q4PARTS : K.lookup Pt_p4 = some ⟨.type "tuple", Pt_o4, .seq #[.str "working" Pt_u40, .str "number" Pt_u41] Pt_m4, Pt_l4⟩)
    (zlen : PySem.W.nsIn K mainGlobals "len" = some none)
    (zstr : PySem.W.nsIn K mainGlobals "str" = some none)
    (zisinstance : PySem.W.nsIn K mainGlobals "isinstance" = some none)
    (zall : PySem.W.nsIn K mainGlobals "all" = some none)
    (ztuple : PySem.W.nsIn K mainGlobals "tuple" = some none)
    (zint : PySem.W.nsIn K mainGlobals "int" = some none)
    (zrange : PySem.W.nsIn K mainGlobals "range" = some none)
    (zbool : PySem.W.nsIn K mainGlobals "bool" = some none)
    (zzip : PySem.W.nsIn K mainGlobals "zip" = some none)
    (zlist : PySem.W.nsIn K mainGlobals "list" = some none)
    : ∃ fd : FuncData, (∀ (s : Shared) (v : Value), BindsTo s fd ⟨[v], []⟩ [("_law_script", v)]) ∧ ∀ base : Heap, K.In base → base.Ns mainGlobals mg → FnOk l.prog w K mg base CX0 26 fa fd ["_law_script"] (spLaw K) := by
  have e := hfa.symm.trans (PySem.W.mg_of X G a16)
  cases e
  have B : Bl mg := ⟨PySem.W.mg_none_of X G zlen, PySem.W.mg_none_of X G zstr, PySem.W.mg_none_of X G zisinstance, PySem.W.mg_none_of X G zall, PySem.W.mg_none_of X G ztuple, PySem.W.mg_none_of X G zint, PySem.W.mg_none_of X G zrange, PySem.W.mg_none_of X G zbool, PySem.W.mg_none_of X G zzip, PySem.W.mg_none_of X G zlist⟩
  have cLETTERS : Cn mg "LETTERS" (.str letters) := ⟨_, PySem.W.mg_of X G sLETTERS, _, rfl⟩
  have cFIGURES : Cn mg "FIGURES" (.str figures) := ⟨_, PySem.W.mg_of X G sFIGURES, _, rfl⟩
  have cLEAST_LETTERS : Cn mg "LEAST_LETTERS" (.int 1) := ⟨_, PySem.W.mg_of X G sLEAST_LETTERS, _, rfl⟩
  have cMOST_LETTERS : Cn mg "MOST_LETTERS" (.int 9) := ⟨_, PySem.W.mg_of X G sMOST_LETTERS, _, rfl⟩
  have cMOST_FIGURES : Cn mg "MOST_FIGURES" (.int 3) := ⟨_, PySem.W.mg_of X G sMOST_FIGURES, _, rfl⟩
  have cPARTS : PartsOk K w mg := parts_mk (PySem.W.mg_of X G sPARTS) rf_PARTS (lPARTS.trans (congrArg some rf_DICT)) q0PARTS q1PARTS q2PARTS q3PARTS q4PARTS
  have TReader : Cls K CReader := ⟨pgReader, hdReader, poReader, saReader⟩
  have F0 := fun_mk (st := (top 21)) l0 c0 k0
  have b0 := F0.binds (ps := ["_law_script", "_law_k"]) fun _ _ _ _ _ _ us hl => match us, hl with | [_, _], _ => rfl
  have F1 := fun_mk (st := (top 6)) l1 c1 k1
  have b1 := F1.binds (ps := ["thing", "least", "most"]) fun _ _ _ _ _ _ us hl => match us, hl with | [_, _, _], _ => rfl
  have F2 := fun_mk (st := (top 18)) l2 c2 k2
  have b2 := F2.binds (ps := ["truth"]) fun _ _ _ _ _ _ us hl => match us, hl with | [_], _ => rfl
  have F3 := fun_mk (st := (inClass (top 13) 0)) l3 c3 k3
  have b3 := F3.binds (ps := ["self", "text"]) fun _ _ _ _ _ _ us hl => match us, hl with | [_, _], _ => rfl
  have F4 := fun_mk (st := (inClass (top 13) 1)) l4 c4 k4
  have b4 := F4.binds (ps := ["self"]) fun _ _ _ _ _ _ us hl => match us, hl with | [_], _ => rfl
  have F5 := fun_mk (st := (inClass (top 13) 2)) l5 c5 k5
  have b5 := F5.binds (ps := ["self", "signs"]) fun _ _ _ _ _ _ us hl => match us, hl with | [_, _], _ => rfl
  have F6 := fun_mk (st := (inClass (top 13) 3)) l6 c6 k6
  have b6 := F6.binds (ps := ["self", "sign"]) fun _ _ _ _ _ _ us hl => match us, hl with | [_, _], _ => rfl
  have F7 := fun_mk (st := (top 7)) l7 c7 k7
  have b7 := F7.binds (ps := ["text", "most"]) fun _ _ _ _ _ _ us hl => match us, hl with | [_, _], _ => rfl
  have F8 := fun_mk (st := (top 17)) l8 c8 k8
  have b8 := F8.binds (ps := ["text"]) fun _ _ _ _ _ _ us hl => match us, hl with | [_], _ => rfl
  have F9 := fun_mk (st := (top 15)) l9 c9 k9
  have b9 := F9.binds (ps := ["reader"]) fun _ _ _ _ _ _ us hl => match us, hl with | [_], _ => rfl
  have F10 := fun_mk (st := (top 16)) l10 c10 k10
  have b10 := F10.binds (ps := ["reader", "kind"]) fun _ _ _ _ _ _ us hl => match us, hl with | [_, _], _ => rfl
  have F11 := fun_mk (st := (top 14)) l11 c11 k11
  have b11 := F11.binds (ps := ["text"]) fun _ _ _ _ _ _ us hl => match us, hl with | [_], _ => rfl
  have F12 := fun_mk (st := (top 22)) l12 c12 k12
  have b12 := F12.binds (ps := ["_law_number"]) fun _ _ _ _ _ _ us hl => match us, hl with | [_], _ => rfl
  have F13 := fun_mk (st := (top 23)) l13 c13 k13
  have b13 := F13.binds (ps := ["_law_cells", "_law_first"]) fun _ _ _ _ _ _ us hl => match us, hl with | [_, _], _ => rfl
  have F14 := fun_mk (st := (top 24)) l14 c14 k14
  have b14 := F14.binds (ps := ["_law_working_here"]) fun _ _ _ _ _ _ us hl => match us, hl with | [_], _ => rfl
  have F15 := fun_mk (st := (top 19)) l15 c15 k15
  have b15 := F15.binds (ps := ["working"]) fun _ _ _ _ _ _ us hl => match us, hl with | [_], _ => rfl
  have F16 := fun_mk (st := (top 25)) l16 c16 k16
  have b16 := F16.binds (ps := ["_law_script"]) fun _ _ _ _ _ _ us hl => match us, hl with | [_], _ => rfl
  refine ⟨PySem.W.fnOf "law" "law" (defArgs (top 25)) (defBody (top 25)) (defScope (top 25)) .none kV16 dc16 pm16 an16 cd16 ct16, fun s v => .of_eq rfl, fun base _ _ => ?_⟩
  have N_law_cell_at : Fn l.prog w K mg base "_law_cell_at" 1 (spCell K) := ⟨_, _, _, ok_cell B F0, PySem.W.mg_of X G a0, k0, b0⟩
  have Nis_letters : Fn l.prog w K mg base "is_letters" 1 (spLetters K) := ⟨_, _, _, ok_isletters B cLETTERS F1, PySem.W.mg_of X G a1, k1, b1⟩
  have Nneed : Fn l.prog w K mg base "need" 1 spNeed := ⟨_, _, _, ok_need F2, PySem.W.mg_of X G a2, k2, b2⟩
  have NReader : Nw l.prog w K mg base "Reader" CReader 1 (spRInit CReader) := ⟨_, _, _, ⟨mkReader, a3, i3, kcReader⟩, ok_rinit F3 TReader nReader_text nReader_at, b3, PySem.W.mg_of X G aCReader⟩
  have MReader_sign : Mt l.prog w K mg base CReader "sign" 1 (spSign CReader) [] := ⟨TReader, _, _, _, _, ⟨a4, i4, k4⟩, ok_sign F4 TReader nReader_text nReader_at, b4, .nil⟩
  have MReader_run : Mt l.prog w K mg base CReader "run" 2 (spRun CReader) [] := ⟨TReader, _, _, _, _, ⟨a5, i5, k5⟩, ok_run F5 TReader nReader_text nReader_at MReader_sign, b5, .nil⟩
  have MReader_pass_by : Mt l.prog w K mg base CReader "pass_by" 2 (spPass CReader) [] := ⟨TReader, _, _, _, _, ⟨a6, i6, k6⟩, ok_pass F6 TReader nReader_at MReader_sign Nneed, b6, .nil⟩
  have Nis_number : Fn l.prog w K mg base "is_number" 1 (spNumber K) := ⟨_, _, _, ok_isnumber B cFIGURES F7, PySem.W.mg_of X G a7, k7, b7⟩
  have Nchecked_letters : Fn l.prog w K mg base "checked_letters" 2 spChecked := ⟨_, _, _, ok_checked cLEAST_LETTERS cMOST_LETTERS F8 Nneed Nis_letters, PySem.W.mg_of X G a8, k8, b8⟩
  have Nread_one : Fn l.prog w K mg base "read_one" 24 (spROne CReader 11) := ⟨_, _, _, ok_roneAll B cLETTERS cPARTS F9 (PySem.W.mg_of X G a9) k9 b9 F10 (PySem.W.mg_of X G a10) k10 b10 MReader_run MReader_sign MReader_pass_by Nneed Nchecked_letters cFIGURES cMOST_FIGURES Nis_number 11, PySem.W.mg_of X G a9, k9, b9⟩
  have Nread_part : Fn l.prog w K mg base "read_part" 25 (spRPart CReader 11) := ⟨_, _, _, ok_rpart 11 B cLETTERS cFIGURES cMOST_FIGURES F10 Nread_one MReader_run Nneed Nchecked_letters Nis_number, PySem.W.mg_of X G a10, k10, b10⟩
  have Nread_working : Fn l.prog w K mg base "read_working" 25 (spRead K) := ⟨_, _, _, ok_read B F11 NReader MReader_sign Nneed Nread_one, PySem.W.mg_of X G a11, k11, b11⟩
  have N_law_word : Fn l.prog w K mg base "_law_word" 1 spLWord := ⟨_, _, _, ok_lword B F12, PySem.W.mg_of X G a12, k12, b12⟩
  have N_law_working : Fn l.prog w K mg base "_law_working" 2 (spLWorking K) := ⟨_, _, _, ok_lworking B F13 N_law_word, PySem.W.mg_of X G a13, k13, b13⟩
  have N_law_text : Fn l.prog w K mg base "_law_text" 12 (spLText K 11) := ⟨_, _, _, ok_ltextAll B F14 (PySem.W.mg_of X G a14) k14 b14 11, PySem.W.mg_of X G a14, k14, b14⟩
  have Nshow_working : Fn l.prog w K mg base "show_working" 13 (spShow K 12) := ⟨_, _, _, ok_showAll B cPARTS F15 (PySem.W.mg_of X G a15) k15 b15 12, PySem.W.mg_of X G a15, k15, b15⟩
  exact ok_law B F16 N_law_cell_at N_law_working N_law_text Nshow_working Nread_working
theorem walk {l : PySem.W.OpenLaw} {q : Program} {loose : List Str} {XP : (Str → Option Value) → Heap → Prop} {YP : World → Heap → Prop} {d : DefRec} {K : Params → PySem.W.Frag} (hn : l.most = some 63) (hdf : d.params.defaults = [])
    (hY : ∀ (w : World) (h : Heap), YP w h → (K w.params).In h)
    (F : ∀ (w : World) (mg : Str → Option Value) (fa : Addr) (h : Heap), (K w.params).In h → h.Ns mainGlobals mg → mg d.name = some (.ref fa) →
      ∃ fd : FuncData, (∀ (s : Shared) (u : Value), BindsTo s fd ⟨[u], []⟩ [("_law_script", u)]) ∧ ∀ base : Heap, (K w.params).In base → base.Ns mainGlobals mg → FnOk l.prog w (K w.params) mg base CX0 26 fa fd ["_law_script"] (spLaw (K w.params))) :
    PySem.W.WalkO q loose XP YP l.row.toRowW d [] (fun f vs => PySem.call f vs) :=
  L2.walk_of (n := 63) (k := 26) (x := "_law_script") (CX := fun _ => CX0) (sp := fun w => spLaw (K w.params)) hn (by decide) hdf ⟨rfl, by decide, by decide, rfl⟩ hY F (fun _ _ a ns hl _ hS => ⟨a, ns, rfl, hS, hl, fun _ => rfl⟩) fun _ _ _ _ _ z => z
end Cw
open PySem PySem.W PyProof.Rows
set_option maxRecDepth 100000 in
set_option maxHeartbeats 0 in
theorem PySem.Challenge.cw_crosswright_k72_a_working_shown_holds : PySem.Challenge.rw_crosswright_k72_a_working_shown.Holds := by
  w_on; o_law; k_head; (case hw => w_witness2)
  k_fill
  refine Cw.walk (l := PySem.Challenge.rw_crosswright_k72_a_working_shown) rfl rfl (fun w h Y => PySem.W.kIn_of Y) ?F
  case F =>
    intro w mg fa h KX G hmg
    refine' Cw.all_mk KX G hmg ?aCReader ?pgReader ?hdReader ?poReader ?saReader ?mkReader ?kcReader ?nReader_text ?nReader_at ?a0 ?l0 ?c0 ?k0 ?a1 ?l1 ?c1 ?k1 ?a2 ?l2 ?c2 ?k2 ?a3 ?i3 ?l3 ?c3 ?k3 ?a4 ?i4 ?l4 ?c4 ?k4 ?a5 ?i5 ?l5 ?c5 ?k5 ?a6 ?i6 ?l6 ?c6 ?k6 ?a7 ?l7 ?c7 ?k7 ?a8 ?l8 ?c8 ?k8 ?a9 ?l9 ?c9 ?k9 ?a10 ?l10 ?c10 ?k10 ?a11 ?l11 ?c11 ?k11 ?a12 ?l12 ?c12 ?k12 ?a13 ?l13 ?c13 ?k13 ?a14 ?l14 ?c14 ?k14 ?a15 ?l15 ?c15 ?k15 ?a16 ?l16 ?c16 ?k16 ?sLETTERS ?sFIGURES ?sLEAST_LETTERS ?sMOST_LETTERS ?sMOST_FIGURES ?sPARTS ?rf_PARTS ?lPARTS ?rf_DICT ?q0PARTS ?q1PARTS ?q2PARTS ?q3PARTS ?q4PARTS ?zlen ?zstr ?zisinstance ?zall ?ztuple ?zint ?zrange ?zbool ?zzip ?zlist
    (case aCReader => k_is)
    (case pgReader => k_is)
    (case hdReader => k_is)
    (case poReader => k_is)
    (case saReader => k_is)
    (case mkReader => k_is)
    (case kcReader => k_is)
    (case nReader_text => k_is)
    (case nReader_at => k_is)
    (case a0 => k_is)
    (case l0 => k_is)
    (case c0 => k_is)
    (case k0 => k_is)
    (case a1 => k_is)
    (case l1 => k_is)
    (case c1 => k_is)
    (case k1 => k_is)
    (case a2 => k_is)
    (case l2 => k_is)
    (case c2 => k_is)
    (case k2 => k_is)
    (case a3 => k_is)
    (case i3 => k_is)
    (case l3 => k_is)
    (case c3 => k_is)
    (case k3 => k_is)
    (case a4 => k_is)
    (case i4 => k_is)
    (case l4 => k_is)
    (case c4 => k_is)
    (case k4 => k_is)
    (case a5 => k_is)
    (case i5 => k_is)
    (case l5 => k_is)
    (case c5 => k_is)
    (case k5 => k_is)
    (case a6 => k_is)
    (case i6 => k_is)
    (case l6 => k_is)
    (case c6 => k_is)
    (case k6 => k_is)
    (case a7 => k_is)
    (case l7 => k_is)
    (case c7 => k_is)
    (case k7 => k_is)
    (case a8 => k_is)
    (case l8 => k_is)
    (case c8 => k_is)
    (case k8 => k_is)
    (case a9 => k_is)
    (case l9 => k_is)
    (case c9 => k_is)
    (case k9 => k_is)
    (case a10 => k_is)
    (case l10 => k_is)
    (case c10 => k_is)
    (case k10 => k_is)
    (case a11 => k_is)
    (case l11 => k_is)
    (case c11 => k_is)
    (case k11 => k_is)
    (case a12 => k_is)
    (case l12 => k_is)
    (case c12 => k_is)
    (case k12 => k_is)
    (case a13 => k_is)
    (case l13 => k_is)
    (case c13 => k_is)
    (case k13 => k_is)
    (case a14 => k_is)
    (case l14 => k_is)
    (case c14 => k_is)
    (case k14 => k_is)
    (case a15 => k_is)
    (case l15 => k_is)
    (case c15 => k_is)
    (case k15 => k_is)
    (case a16 => k_is)
    (case l16 => k_is)
    (case c16 => k_is)
    (case k16 => k_is)
    (case sLETTERS => k_is)
    (case sFIGURES => k_is)
    (case sLEAST_LETTERS => k_is)
    (case sMOST_LETTERS => k_is)
    (case sMOST_FIGURES => k_is)
    (case sPARTS => k_is)
    (case rf_PARTS => rfl)
    (case lPARTS => k_is)
    (case rf_DICT => rfl)
    (case q0PARTS => k_is)
    (case q1PARTS => k_is)
    (case q2PARTS => k_is)
    (case q3PARTS => k_is)
    (case q4PARTS => k_is)
    (case zlen => k_is)
    (case zstr => k_is)
    (case zisinstance => k_is)
    (case zall => k_is)
    (case ztuple => k_is)
    (case zint => k_is)
    (case zrange => k_is)
    (case zbool => k_is)
    (case zzip => k_is)
    (case zlist => k_is)
#print axioms PySem.Challenge.cw_crosswright_k72_a_working_shown_holds

